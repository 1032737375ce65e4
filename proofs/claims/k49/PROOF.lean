import PyProof.Rows.All
import Wide.All
import OpenK.KSplit
import OpenK.KNot
import OpenK.KApp
import KE.KIsAll
import KE.RegKIsAll
import KE.LcSums
import KE.KItem
import KE.KSortTup
import KE.KSortAsk
import KE.KDictOf
import KE.KItemsList
import Wide.FinOn
import Lean
import PyProof.EqAt
import PyProof.EqKinds
import PyProof.TupleCall
import PySem.Challenge.RW_loanroll_k49_statements_looked_at
set_option Elab.async false
set_option linter.all false
set_option maxRecDepth 100000
set_option maxHeartbeats 20000000
noncomputable section
set_option genSizeOf false
open List renaming getElem?_eq_getElem→yaa,length_map→yab,mem_append→yac,getElem?_eq_some_iff→yad,getD_eq_getElem?_getD→yae,mem_map→yaf,length_append→yag,mem_append_right→yah,mem_of_getElem?→yai,getElem?_map→yaj,mem_cons→yak,size_toArray→yal,mem_cons_of_mem→yam,mem_cons_self→yan,mem_filter→yao,find?_cons_of_neg→yap,filter_cons_of_neg→yaq,map_append→yar,getElem?_eq_none→yas,filter_cons_of_pos→yat,length_singleton→yau,take_of_length_le→yav,find?_cons_of_pos→yaw,range→yax,mem_iff_getElem→yay,length_filter_le→yaz,replicate→yba,filter_append→ybb,take_add_one→ybc,length_take→ybd,pairwise_iff_getElem→ybe,mem_map_of_mem→ybf,length_cons→ybg,pairwise_cons→ybh,mem_iff_getElem?→ybi,getElem?_append_right→ybj,map_cons→ybk,pairwise_append→ybl,mem_singleton→ybm,toArray→ybn,nodup_cons→ybo,pairwise_singleton→ybp,pairwise_map→ybq,mem_append_left→ybr,map_map→ybs,getElem?_append_left→ybt,replicate_succ→ybu,length_drop→ybv,not_mem_nil→ybw,length_erase_of_mem→ybx,lookup→yby,ext_getElem?→ybz,filterMap_cons→yca,getElem?_range→ycb,length_pos_of_mem→ycc,any_cons→ycd,flatten_cons→yce,foldl_cons→ycf,length_range→ycg,mem_of_find?_eq_some→ych,mem_erase_of_ne→yci,map_congr_left→ycj,getElem_mem→yck,take_length→ycl,any_eq_true→ycm,find?_eq_none→ycn,append_nil→yco,append_assoc→ycp,nodup_append→ycq,getElem_map→ycr,map_eq_nil_iff→ycs,map_id→yct
open Nat renaming le_refl→ycu,ne_of_lt→ycv,lt_of_le_of_lt→ycw,lt_of_lt_of_le→ycx,zero_le→ycy,le_trans→ycz,lt_irrefl→yda,lt_succ_self→ydb,lt_trichotomy→ydc,lt_succ_of_lt→ydd,le_succ→yde,lt_trans→ydf,le_of_lt→ydg,ne_of_gt→ydh,sub_self→ydi
open PySem.Heap renaming get?_push_of_some→ydj,lt_size→ydk,get?_push_size→ydl,get?_update_ne→ydm,size_push→ydn,get?_update_self→ydo,get?_none_of_le→ydp
open Int renaming emod_lt_of_pos→ydq,emod_nonneg→ydr,le_refl→yds,lt_trichotomy→ydt,eq_ofNat_of_zero_le→ydu
open Array renaming getElem?_eq_getElem→ydv,length_toList→ydw,getD_eq_getD_getElem?→ydx,getElem?_toList→ydy,getD→ydz
namespace L2
open PySem PySem.Spec PyProof.Rows
noncomputable abbrev Key:=Sum Int Str
noncomputable def zuH:Key->Value->Bool
 | .inl k,v=>Value.isInt k v
 | .inr x,v=>Value.isStrOf x v
noncomputable def zxn (w:World):Key->Int
 | .inl k=>hashInt k
 | .inr x=>hashStr w x
theorem zaZ:∀ {k:Key} {v:Value},zuH k v=true->(∃ i t,k=Sum.inl i/\v=Value.int i t)\/(∃ x t,k=Sum.inr x/\v=Value.str x t)
 | .inl i,v,h=>by
  obtain ⟨t,e⟩:=Value.isInt_shape (k:=i) (v:=v) h
  exact .inl ⟨i,t,rfl,e⟩
 | .inr x,v,h=>by
  obtain ⟨t,e⟩:=Value.isStrOf_shape (x:=x) (v:=v) h
  exact .inr ⟨x,t,rfl,e⟩
theorem zvG (a b:Int):decide ((Sum.inl a:Key)=Sum.inl b)=(a == b):=by
 by_cases e:a=b
 ·subst e;simp
 ·have h:¬ (Sum.inl a:Key)=Sum.inl b:=fun q=>e (Sum.inl.inj q)
  rw[decide_eq_false h]
  exact (beq_eq_false_iff_ne.mpr e).symm
theorem zvB (a b:Str):decide ((Sum.inr a:Key)=Sum.inr b)=decide (a=b):=by
 by_cases e:a=b
 ·subst e;simp
 ·have h:¬ (Sum.inr a:Key)=Sum.inr b:=fun q=>e (Sum.inr.inj q)
  rw[decide_eq_false h,decide_eq_false e]
theorem zwd (a:Int) (b:Str):decide ((Sum.inl a:Key)=Sum.inr b)=false:=decide_eq_false (fun q=>nomatch q)
theorem zwm (a:Str) (b:Int):decide ((Sum.inr a:Key)=Sum.inl b)=false:=decide_eq_false (fun q=>nomatch q)
noncomputable def zvd (prog:Program) (w:World):PySem.KeyKind prog w Key where
 is:=zuH
 hash:=zxn w
 inj:=fun v a b ha hb=>by
  rcases zaZ ha with ⟨i,t,rfl,rfl⟩ | ⟨x,t,rfl,rfl⟩
  ·rcases zaZ hb with ⟨j,u,rfl,e⟩ | ⟨y,u,rfl,e⟩
   ·injection e with e1 _;rw[e1]
   ·exact nomatch e
  ·rcases zaZ hb with ⟨j,u,rfl,e⟩ | ⟨y,u,rfl,e⟩
   ·exact nomatch e
   ·injection e with e1 _;rw[e1]
 byValue:=fun k v h=>by
  rcases zaZ h with ⟨i,t,rfl,rfl⟩ | ⟨x,t,rfl,rfl⟩ <;> rfl
 pyHash:=fun hv h=>by
  rcases zaZ hv with ⟨i,t,rfl,rfl⟩ | ⟨x,t,rfl,rfl⟩
  ·exact wpAny_pyHash_int h
  ·exact wpAny_pyHash_str h
 eqBool:=fun hu hv h=>by
  rcases zaZ hu with ⟨i,t,rfl,rfl⟩ | ⟨x,t,rfl,rfl⟩
  ·rcases zaZ hv with ⟨j,u,rfl,rfl⟩ | ⟨y,u,rfl,rfl⟩
   ·rw[zvG] at h;exact wpAny_eqBool_int h
   ·rw[zwd] at h;exact SeqAt.EqAt.int_str i t y u _ _ _ _ h
  ·rcases zaZ hv with ⟨j,u,rfl,rfl⟩ | ⟨y,u,rfl,rfl⟩
   ·rw[zwm] at h;exact SeqAt.EqAt.str_int x t j u _ _ _ _ h
   ·rw[zvB] at h;exact wpAny_eqBool_str h
 «strs»:=fun k x t v h=>by
  rcases zaZ h with ⟨i,u,rfl,e⟩ | ⟨y,u,rfl,e⟩
  ·exact nomatch e
  ·injection e with e1 _
   subst e1
   cases v <;> rfl
end L2
namespace L2
open PySem PySem.Spec PyProof.Rows
inductive V where
 | non | bl (b:Bool) | int (i:Int) | str (x:Str) | byt (b:Array UInt8) | flt (b:UInt64) | ref (a:Addr) | ty (n:String)
 deriving DecidableEq
noncomputable def RelV:V->Value->Prop
 | .non,u=>u=Value.none
 | .bl b,u=>u=Value.bool b
 | .int i,u=>∃ t,u=Value.int i t
 | .str x,u=>∃ t,u=Value.str x t
 | .byt b,u=>∃ t,u=Value.bytes b t
 | .flt b,u=>∃ t,u=Value.float b t
 | .ref a,u=>u=Value.ref a
 | .ty n,u=>u=Value.type n
noncomputable abbrev Vals:List V->List Value->Prop:=Paired RelV
theorem Vals.length {xs:List V} {us:List Value} (r:Vals xs us):xs.length=us.length:=Paired.length r
theorem Vals.get:∀ {xs:List V} {us:List Value} {i:Nat} {x:V},Vals xs us->xs[i]?=some x->∃ u,us[i]?=some u/\RelV x u
 | _,_,_,_,.nil,e=>by simp at e
 | _,_,0,_,.cons r _,e=>by simp at e;subst e;exact ⟨_,rfl,r⟩
 | _,_,i+1,x,.cons _ t,e=>by
  obtain ⟨u,h1,h2⟩:=Vals.get (i:=i) (x:=x) t (by simpa using e)
  exact ⟨u,by simpa using h1,h2⟩
theorem Vals.set {x:V} {u:Value} (r:RelV x u):∀ {xs:List V} {us:List Value} (i:Nat),Vals xs us->Vals (xs.set i x) (us.set i u)
 | _,_,_,.nil=>.nil
 | _,_,0,.cons _ t=>.cons r t
 | _,_,i+1,.cons q t=>.cons q (Vals.set r i t)
theorem Vals.append:∀ {xs ys:List V} {us ws:List Value},Vals xs us->Vals ys ws->Vals (xs++ys) (us++ws)
 | _,_,_,_,.nil,s=>s
 | _,_,_,_,.cons r t,s=>.cons r (Vals.append t s)
theorem Vals.take:∀ {xs:List V} {us:List Value} (n:Nat),Vals xs us->Vals (xs.take n) (us.take n)
 | _,_,0,_=>.nil
 | _,_,_+1,.nil=>.nil
 | _,_,n+1,.cons r t=>.cons r (Vals.take n t)
theorem Vals.drop:∀ {xs:List V} {us:List Value} (n:Nat),Vals xs us->Vals (xs.drop n) (us.drop n)
 | _,_,0,r=>r
 | _,_,_+1,.nil=>.nil
 | _,_,n+1,.cons _ t=>Vals.drop n t
noncomputable def zit:Option V->Option Value->Prop
 | some v,some u=>RelV v u
 | none,none=>True
 | _,_=>False
noncomputable def KV {κ:Type}:List (κ × V)->List (κ × Value)->Prop:=Paired fun (p:κ × V) (q:κ × Value)=>p.1=q.1/\RelV p.2 q.2
inductive HO where
 /-- a list -/
 | lst (xs:List V)
 /-- a tuple (never changes) -/
 | tup (xs:List V)
 /-- a dict whose keys are ints and texts;one whose keys are tuples of ints and texts (the empty one is both) -/
 | dK (kvs:List (Key × V))
 /-- a set of ints: its members,its size -/
 | set (S:Int->Bool) (n:Nat)
 /-- an instance of the class at C,its dict at dx,its attributes -/
 | ins (C dx:Addr) (fs:List (Str × V))
 /-- the dict of the instance at x -/
 | own (x:Addr)
 /-- the dict of an exception -/
 | xd (fs:List (Str × V))
 /-- a bound method,f of x -/
 | met (f x:Addr)
 /-- a range object lo,lo+1,.. below hi -/
 | rng (lo hi:Int)
 /-- a thing that is known to the object (the script;a dict while a loop walks it): read,never written while it is so -/
 | frz (o:Obj) (u:HO)
 /-- a code object's table -/
 | tbl (ps:Array Value)
 /-- any other thing,by what is true of its one object (a def of one's own: zse a S n:=HO.ext fun h=>..) -/
 | ext (φ:Heap->Prop)
noncomputable abbrev Hp:=Addr->Option HO
noncomputable def upd (H:Hp) (a:Addr) (o:HO):Hp:=fun b=>if b=a then some o else H b
theorem zg {H:Hp} {a:Addr} {o:HO}:upd H a o a=some o:=by unfold upd;rw[if_pos rfl]
theorem zp {H:Hp} {a b:Addr} {o:HO} (h:b≠a):upd H a o b=H b:=by unfold upd;rw[if_neg h]
theorem zag {H:Hp} {a:Addr} {o u:HO}:upd (upd H a o) a u=upd H a u:=by
 funext b;unfold upd;split <;> rfl
theorem zan {H:Hp} {a b:Addr} {o u:HO} (h:H a=some o) (h':H b=some u) (d:o≠u):a≠b:=by
 intro e;subst e;rw[h] at h';exact d (Option.some.inj h')
theorem zZ {H:Hp} {a b:Addr} {o:HO} (h:H a=some o) (h':H b=none):a≠b:=by
 intro e;subst e;rw[h] at h';cases h'
section
variable (P:Program) (w:World)
noncomputable def zam (H:Hp) (h:Heap) (a:Addr):HO->Prop
 | .lst xs=>xs.length<=sizeLine/\∃ (its:List Value) (n:Nat),Vals xs its/\h.get? a=some { cls:=.type "list", data:=.seq its.toArray n }
 | .tup xs=>xs.length<=sizeLine/\∃ its:List Value,Vals xs its/\IsTup h a its.toArray
 | .dK kvs=>kvs.length<=sizeLine/\(a == sysModules)=false/\∃ vs,KV kvs vs/\h.DictOf (zvd P w) a vs
 | .set S n=>h.SetOf (intKind P w) a S n
 | .ins C dx fs=>H dx=some (.own a)/\fs.length<=1000/\dx≠a/\h.get? a=some (PySem.W.instObj C dx) /\
   ∃ mA,h.Ns1 dx mA/\(∀ f,zit (fs.lookup f) (mA f))/\PySem.Within mA (fs.map (·.1))
 | .own _=>∃ o,h.get? a=some o
 | .xd fs=>∃ mA,h.Ns1 a mA/\∀ f,zit (fs.lookup f) (mA f)
 | .rng lo hi=>∃ t u v,h.get? a=some { cls:=.type "range", data:=.fields #[.int lo t,.int hi u,.int 1 v] }
 | .frz o u=>h.get? a=some o/\zam H h a u
 | .tbl ps=>h.get? a=some { cls:=.none,data:=.fields ps }
 | .met f x=>h.get? a=some (PySem.W.methodObj (.ref f) (.ref x))
 | .ext φ=>φ h/\(∃ o,h.get? a=some o)/\∀ h1 h2:Heap,φ h1->(∀ o,h1.get? a=some o->h2.get? a=some o)->φ h2
def HOk (H:Hp) (h:Heap):Prop:=∀ a o,H a=some o->zam P w H h a o
end
section
variable {P:Program} {w:World} {H H':Hp} {h h':Heap} {a:Addr} {o:HO}
theorem zam.lt (x:zam P w H h a o):a<h.objs.size:=by
 cases o with
 | lst xs=>obtain ⟨_,_,_,_,e⟩:=x;exact ydk e
 | tup xs=>obtain ⟨_,_,_,p⟩:=x;exact p.lt
 | dK kvs=>obtain ⟨_,_,_,_,o,_,_,e,_⟩:=x;exact ydk e
 | set S n=>obtain ⟨o,_,_,_,e,_⟩:=x;exact ydk e
 | ins C dx fs=>obtain ⟨_,_,_,e,_⟩:=x;exact ydk e
 | own y=>obtain ⟨_,e⟩:=x;exact ydk e
 | xd fs=>obtain ⟨_,⟨_,_,_,e,_⟩,_⟩:=x;exact ydk e
 | rng lo hi=>obtain ⟨_,_,_,e⟩:=x;exact ydk e
 | frz ob u=>obtain ⟨e,_⟩:=x;exact ydk e
 | tbl ps=>exact ydk (show h.get? a=some _ from x)
 | met f y=>exact ydk (show h.get? a=some _ from x)
 | ext φ=>obtain ⟨_,⟨_,e⟩,_⟩:=x;exact ydk e
theorem zam.stay (x:zam P w H h a o) (k:∀ b u,(b=a\/H b=some (.own a))->h.get? b=some u->h'.get? b=some u)
  (ho:∀ b,H b=some (.own a)->H' b=some (.own a)) (ht:∀ b xs,H b=some (.tup xs)->H' b=some (.tup xs)):zam P w H' h' a o:=by
 induction o with
 | lst xs=>obtain ⟨z,its,n,r,e⟩:=x;exact ⟨z,its,n,r,k _ _ (.inl rfl) e⟩
 | tup xs=>obtain ⟨z,its,r,ob,e,c⟩:=x;exact ⟨z,its,r,ob,k _ _ (.inl rfl) e,c⟩
 | dK kvs=>obtain ⟨z,y,vs,r,ob,es,ep,e,c⟩:=x;exact ⟨z,y,vs,r,ob,es,ep,k _ _ (.inl rfl) e,c⟩
 | set S n=>obtain ⟨ob,es,ep,t,e,c⟩:=x;exact ⟨ob,es,ep,t,k _ _ (.inl rfl) e,c⟩
 | ins C dx fs =>
  obtain ⟨d,z,ne,e,mA,⟨od,es,ep,e2,c⟩,r⟩:=x
  exact ⟨ho _ d,z,ne,k _ _ (.inl rfl) e,mA,⟨od,es,ep,k _ _ (.inr d) e2,c⟩,r⟩
 | own y=>obtain ⟨ob,e⟩:=x;exact ⟨ob,k _ _ (.inl rfl) e⟩
 | xd fs=>obtain ⟨mA,⟨od,es,ep,e,c⟩,r⟩:=x;exact ⟨mA,⟨od,es,ep,k _ _ (.inl rfl) e,c⟩,r⟩
 | rng lo hi=>obtain ⟨t,u,v,e⟩:=x;exact ⟨t,u,v,k _ _ (.inl rfl) e⟩
 | frz ob u ih=>obtain ⟨e,q⟩:=x;exact ⟨k _ _ (.inl rfl) e,ih q⟩
 | tbl ps =>
  have e:h.get? a=some { cls:=.none,data:=.fields ps }:=x
  show h'.get? a=some { cls:=.none,data:=.fields ps }
  exact k a _ (.inl rfl) e
 | met f y =>
  have e:h.get? a=some (PySem.W.methodObj (.ref f) (.ref y)):=x
  show h'.get? a=some (PySem.W.methodObj (.ref f) (.ref y))
  exact k a _ (.inl rfl) e
 | ext φ=>obtain ⟨p,⟨o,e⟩,st⟩:=x;exact ⟨st _ _ p fun o q=>k _ _ (.inl rfl) q,⟨o,k _ _ (.inl rfl) e⟩,st⟩
theorem HOk.lt (x:HOk P w H h) (e:H a=some o):a<h.objs.size:=(x a o e).lt
theorem HOk.fresh (x:HOk P w H h) (e:h.objs.size<=a):H a=none:=by
 cases q:H a with
 | none=>rfl
 | some u=>exact absurd (ycx (x.lt q) e) (yda _)
theorem HOk.kept (x:HOk P w H h) (k:∀ b u,h.get? b=some u->h'.get? b=some u):HOk P w H h':=fun a o e =>
 (x a o e).stay (fun b u _ q=>k b u q) (fun _ q=>q) fun _ _ q=>q
theorem HOk.laid (x:HOk P w H h) (k:∀ b u,h.get? b=some u->h'.get? b=some u) (hp:h.objs.size<=a) (new:zam P w (upd H a o) h' a o):HOk P w (upd H a o) h':=fun b u e=>by
 have hn:=x.fresh hp
 by_cases hb:b=a
 ·subst hb;rw[zg] at e;cases e;exact new
 ·rw[zp hb] at e
  exact (x b u e).stay (fun c v _ q=>k c v q) (fun c q=>by rw[zp (zZ q hn)];exact q) fun c xs q=>by rw[zp (zZ q hn)];exact q
end
def Rd (H:Hp) (a:Addr) (u:HO):Prop:=H a=some u\/∃ o,H a=some (.frz o u)
theorem Rd.ok {P:Program} {w:World} {H:Hp} {h:Heap} {a:Addr} {u:HO} (r:Rd H a u) (x:HOk P w H h):zam P w H h a u:=by
 rcases r with r | ⟨o,r⟩
 ·exact x a u r
 ·obtain ⟨_,q⟩:=x a _ r
  exact q
noncomputable def Mut:Option HO->Prop
 | some (.lst _)=>True
 | some (.dK _)=>True
 | some (.set _ _)=>True
 | some (.ins _ _ _)=>True
 | some (.ext _)=>True
 | _=>False
section
variable {P:Program} {w:World} {H:Hp} {h h':Heap} {x e:Addr} {o':HO}
theorem HOk.write (ok:HOk P w H h) (mu:Mut (H x)) (he:e=x\/H e=some (.own x)) (k:∀ b u,b≠e->h.get? b=some u->h'.get? b=some u) (heo:∃ u,h'.get? e=some u)
  (new:zam P w (upd H x o') h' x o'):HOk P w (upd H x o') h':=fun b u q=>by
 have nown:∀ c y,H c=some (.own y)->c≠x:=fun c y r z=>by subst z;rw[r] at mu;exact mu
 have ntup:∀ c xs,H c=some (.tup xs)->c≠x:=fun c xs r z=>by subst z;rw[r] at mu;exact mu
 by_cases hb:b=x
 ·subst hb;rw[zg] at q;cases q;exact new
 ·rw[zp hb] at q
  by_cases hbe:b=e
  ·have q':H b=some (.own x):=by
    rcases he with z | z
    ·exact absurd (hbe.trans z) hb
    ·rw[hbe];exact z
   rw[q] at q';cases q'
   obtain ⟨v,hv⟩:=heo
   exact ⟨v,by rw[hbe];exact hv⟩
  ·refine (ok b u q).stay (fun c v hc r=>k c v ?_ r) (fun c r=>by rw[zp (nown c b r)];exact r) fun c xs r=>by rw[zp (ntup c xs r)];exact r
   rcases hc with rfl | hc
   ·exact hbe
   ·rintro rfl
    rcases he with z | z
    ·exact nown c b hc z
    ·rw[hc] at z;cases z;exact hb rfl
end
set_option genInjectivity false
structure Un (fs ex:List Addr) (H H':Hp) (h h':Heap):Prop where
 keep:∀ b o,h.get? b=some o->H b=none->b ∉ fs->b ∉ ex->h'.get? b=some o
 slot:∀ b o,h.get? b=some o->H b=none->b∈fs->b ∉ ex->∃ sl,h'.get? b=some { o with slots:=sl }
 free:∀ b o,h.get? b=some o->H b=none->b ∉ ex->H' b=none
 there:∀ b o,h.get? b=some o->b ∉ ex->∃ o',h'.get? b=some o'
 tups:∀ b xs,H b=some (.tup xs)->H' b=some (.tup xs)
 frzs:∀ b o u,H b=some (.frz o u)->H' b=some (.frz o u)
 tbls:∀ b ps,H b=some (.tbl ps)->∃ more,H' b=some (.tbl (ps++more))
section
variable {fs fs' ex ex':List Addr} {H H1 H2:Hp} {h h1 h2 h':Heap} {a x e:Addr} {o:HO}
theorem Un.any (u:Un fs ex H H1 h h1) {b:Addr} {ob:Obj} (q:h.get? b=some ob) (n:H b=none) (hx:b ∉ ex):∃ sl,h1.get? b=some { ob with slots:=sl }:=by
 by_cases hb:b∈fs
 ·exact u.slot b ob q n hb hx
 ·exact ⟨ob.slots,u.keep b ob q n hb hx⟩
theorem Un.kept (k:∀ b u,h.get? b=some u->h'.get? b=some u):Un fs ex H H h h' :=
 ⟨fun b ob q _ _ _=>k b ob q,fun b ob q _ _ _=>⟨ob.slots,k b ob q⟩,fun _ _ _ n _=>n,fun b ob q _=>⟨ob,k b ob q⟩,fun _ _ q=>q,fun _ _ _ q=>q,fun _ ps q=>⟨#[],by rw[q];simp⟩⟩
theorem Un.refl:Un fs ex H H h h:=Un.kept fun _ _ q=>q
theorem Un.laid (k:∀ b u,h.get? b=some u->h'.get? b=some u) (hp:h.objs.size<=a) (hn:H a=none):Un fs ex H (upd H a o) h h' where
 keep:=fun b u q _ _ _=>k b u q
 slot:=fun b u q _ _ _=>⟨u.slots,k b u q⟩
 free:=fun b u q n _=>by rw[zp (ycv (ycx (ydk q) hp))];exact n
 there:=fun b u q _=>⟨u,k b u q⟩
 tups:=fun b xs q=>by rw[zp (zZ q hn)];exact q
 frzs:=fun b u xs q=>by rw[zp (zZ q hn)];exact q
 tbls:=fun b ps q=>⟨#[],by rw[zp (zZ q hn),q];simp⟩
theorem Un.write (mu:Mut (H x)) (he:e=x\/H e=some (.own x)) (k:∀ b u,b≠e->h.get? b=some u->h'.get? b=some u) (heo:∃ u,h'.get? e=some u):Un fs ex H (upd H x o) h h':=by
 have hx:∀ b,H b=none->b≠x:=fun b n z=>by subst z;rw[n] at mu;exact mu
 have hb:∀ b,H b=none->b≠e:=fun b n z=>by
  subst z
  rcases he with r | r
  ·exact hx b n r
  ·rw[n] at r;cases r
 have hm:∀ b u,H b=some u->¬ Mut (some u)->b≠x:=fun b u q nm z=>by subst z;rw[q] at mu;exact nm mu
 refine ⟨fun b u q n _ _=>k b u (hb b n) q,fun b u q n _ _=>⟨u.slots,k b u (hb b n) q⟩,fun b u q n _=>by rw[zp (hx b n)];exact n,fun b u q _=>?_,
  fun b xs q=>by rw[zp (hm b _ q fun z=>z)];exact q,fun b u xs q=>by rw[zp (hm b _ q fun z=>z)];exact q,fun b ps q=>⟨#[],by rw[zp (hm b _ q fun z=>z),q];simp⟩⟩
 by_cases hbe:b=e
 ·subst hbe;exact heo
 ·exact ⟨u,k b u hbe q⟩
end
noncomputable def trk (h:Heap) (H:Hp):List Addr:=(yax h.objs.size).filter fun a=>(H a).isSome
noncomputable def zi5 (h:Heap) (H:Hp):Heap:=PySem.W.hideAll h (trk h H)
theorem zsC (h:Heap) (H:Hp):(zi5 h H).objs.size=h.objs.size:=PySem.W.hideAll_size _ _
theorem zt6 {h:Heap} {H:Hp} {b:Addr} {o:Obj} (e:h.get? b=some o) (n:H b=none):(zi5 h H).get? b=some o :=
 PySem.W.hideAll_get _ e fun hm=>by
  have q:(H b).isSome=true:=(yao.mp hm).2
  rw[n] at q;simp at q
theorem zvy {h:Heap} {H:Hp} {b:Addr} {o:Obj} (e:(zi5 h H).get? b=some o):h.get? b=some o/\H b=none:=by
 have e':h.get? b=some o:=PySem.W.of_hideAll (trk h H) e
 refine ⟨e',?_⟩
 cases q:H b with
 | none=>rfl
 | some x =>
  have hm:b∈trk h H:=yao.mpr ⟨List.mem_range.mpr (ydk e'),by simp[q]⟩
  have z:(zi5 h H).get? b=none:=PySem.W.hideAll_none (trk h H) hm
  rw[z] at e;cases e
noncomputable def zuP (g h:Heap) (L:Addr):List (Addr × Obj):=(yax h.objs.size).filterMap fun a=>if a=L\/(g.get? a).isSome=true then none else (h.get? a).map fun o=>(a,o)
noncomputable def rest (g h:Heap) (L d:Addr):List (Addr × Obj):=(zuP g h L).filter fun p=>decide (p.1≠d)
end L2
namespace L2
open PySem PySem.Spec PyProof.Rows
structure Mod (K:W.Frag) (mg:Str->Option Value) (base:Heap):Prop where
 kin:K.In base
 glob:base.Ns mainGlobals mg
 blt:∃ mb,base.Ns builtinsNs mb/\∀ x:Str,x ≠ "__name__" -> mb x=bootBuiltins x
 nolimit:base.NoLimit
structure Cx where
 prog:Program
 w:World
 K:W.Frag
 mg:Str->Option Value
 base:Heap
 A:Around
 N:List Str
 s₀:Shared
 H₀:Hp
 env:Env
 outer:List Env
 stack:List Env
 ex:List Addr
 fn:Str->Bool
 calm:Bool
 pn:List (Addr × Obj)
 xe:Value->Shared->Prop
noncomputable def frs (l:List Env):List Addr:=l.filterMap (·.frame)
noncomputable abbrev Cx.fs (X:Cx):List Addr:=frs X.outer
def Vis (sc:Scope) (x:Str):Prop:=sc.names.lookup x=some .local\/sc.names.lookup x=some .cell\/sc.names.lookup x=some .free
def Loc (sc:Scope) (x:Str):Prop:=sc.names.lookup x=some .local\/sc.names.lookup x=some .cell
def Look (env:Env) (h:Heap) (m:Str->Option Value) (x:Str) (u:Value):Prop :=
 (env.kindOf x=some .local/\m x=some u)\/((env.kindOf x=some .cell\/env.kindOf x=some .free)/\∃ c,env.cells.lookup x=some c/\h.IsCell c (some u))
structure Cx.Ok (X:Cx):Prop where
 mod:Mod X.K X.mg X.base
 kind:X.env.scope.kind=.function
 glob:X.env.globals=mainGlobals
 blt:X.env.builtins=builtinsNs
 above:X.s₀.heap.objs.size<=X.env.locals
 inj:∀ x y c,X.env.cells.lookup x=some c->X.env.cells.lookup y=some c->x=y
 has:∀ x,(X.env.kindOf x=some .cell\/X.env.kindOf x=some .free)->∃ c,X.env.cells.lookup x=some c
 cab:∀ x c,X.fn x=true->X.env.cells.lookup x=some c->X.s₀.heap.objs.size<=c
 hd:X.calm=true->X.A.handled=none
 frames:X.A.frames=some X.stack
 stk:X.stack=X.outer\/(X.stack=X.env::X.outer/\X.env.frame=some X.env.locals)
 exf:∀ b∈X.ex,b≠X.env.locals/\∀ x c,X.env.cells.lookup x=some c->c≠b
 bs:∀ b o,X.base.get? b=some o->X.s₀.heap.get? b=some o/\X.H₀ b=none
 bsz:X.base.objs.size<=X.s₀.heap.objs.size
 noex:∀ b o,X.base.get? b=some o->b ∉ X.ex
 exfs:∀ b∈X.ex,b ∉ X.fs
 funs:X.s₀.heap.FunFrames X.base X.outer
 frf:∀ b∈X.fs,X.H₀ b=none
structure Inv (X:Cx) (pins:List (Addr × Obj)) (σ:List (Option V)) (H:Hp) (s:Shared):Prop where
 ok:X.Ok
 os:s.os=X.s₀.os
 bare:AllBare s.gens
 base:Un X.fs X.ex X.H₀ H X.s₀.heap s.heap
 loc:∃ m,s.heap.Ns X.env.locals m/\∀ (i:Nat) (x:Str) (v:V),X.N[i]?=some x->σ[i]?=some (some v)->Vis X.env.scope x->∃ u,RelV v u/\Look X.env s.heap m x u
 cell:∀ x c,X.env.cells.lookup x=some c->∃ v,s.heap.IsCell c v
 free:H X.env.locals=none
 freeC:∀ x c,X.env.cells.lookup x=some c->H c=none
 pin:∀ p∈X.pn++pins,s.heap.get? p.1=some p.2/\H p.1=none/\p.1≠X.env.locals/\p.1 ∉ X.fs/\∀ v,p.2.data≠.cell v
 hok:HOk X.prog X.w H s.heap
 len:σ.length=X.N.length
section
variable {X:Cx} {pins:List (Addr × Obj)} {σ:List (Option V)} {H H':Hp} {s:Shared} {h':Heap}
theorem Cx.Ok.nofr (ok:X.Ok) {b:Addr} {o:Obj} (e:X.base.get? b=some o):b ∉ X.fs:=fun hb=>by
 have:=(ok.funs.mem hb).1
 rw[e] at this;cases this
theorem Inv.bs (I:Inv X pins σ H s):∀ b o,X.base.get? b=some o->s.heap.get? b=some o/\H b=none:=fun b o e =>
 ⟨I.base.keep b o (I.ok.bs b o e).1 (I.ok.bs b o e).2 (I.ok.nofr e) (I.ok.noex b o e),I.base.free b o (I.ok.bs b o e).1 (I.ok.bs b o e).2 (I.ok.noex b o e)⟩
theorem Inv.bk (I:Inv X pins σ H s):∀ b o,X.base.get? b=some o->s.heap.get? b=some o:=fun b o e=>(I.bs b o e).1
theorem Inv.mod (I:Inv X pins σ H s):Mod X.K X.mg X.base:=I.ok.mod
theorem Inv.kIn (I:Inv X pins σ H s):X.K.In s.heap:=I.ok.mod.kin.keeps I.bk
theorem Inv.lt (I:Inv X pins σ H s):X.env.locals<s.heap.objs.size:=let ⟨_,hn,_⟩:=I.loc;hn.lt
theorem Inv.sz (I:Inv X pins σ H s):X.s₀.heap.objs.size<=s.heap.objs.size:=ycz I.ok.above (ydg I.lt)
theorem Inv.nofs (I:Inv X pins σ H s) {a:Addr} (h:s.heap.objs.size<=a):a ∉ X.fs:=fun hb=>by
 obtain ⟨_,o,ho,_⟩:=I.ok.funs.mem hb
 exact absurd (ycx (ydk ho) (ycz I.sz h)) (yda _)
theorem Inv.cne (I:Inv X pins σ H s):∀ x c,X.env.cells.lookup x=some c->c≠X.env.locals:=fun x c e z=>by
 obtain ⟨v,o,ho,hd⟩:=I.cell x c e
 obtain ⟨m,⟨o',es,ep,ho',hd',_⟩,_⟩:=I.loc
 rw[z,ho'] at ho;cases ho;rw[hd'] at hd;cases hd
theorem Inv.funs (I:Inv X pins σ H s):s.heap.FunFrames X.base X.outer:=by
 have all:∀ (l:List Env),(∀ b∈frs l,b∈X.fs)->X.s₀.heap.FunFrames X.base l->s.heap.FunFrames X.base l:=by
  intro l
  induction l with
  | nil=>intro _ _;trivial
  | cons env r ih =>
   intro hs hl
   obtain ⟨hk,⟨L,o,hf,hn,ho,hd⟩,hr⟩:=hl
   have hL:L∈X.fs:=hs L (by unfold frs;rw[yca,hf];exact yan)
   obtain ⟨sl,e⟩:=I.base.slot L o ho (I.ok.frf L hL) hL fun z=>I.ok.exfs L z hL
   exact ⟨hk,⟨L,_,hf,hn,e,hd⟩,ih (fun b hb=>hs b (by unfold frs;rw[yca,hf];exact yam _ hb)) hr⟩
 exact all X.outer (fun _ hb=>hb) I.ok.funs
theorem Inv.stack (I:Inv X pins σ H s):s.heap.FunFrames X.base X.stack:=by
 rcases I.ok.stk with e | ⟨e,hf⟩
 ·rw[e];exact I.funs
 ·rw[e]
  obtain ⟨m,hn,_⟩:=I.loc
  refine .cons (by rw[I.ok.kind];decide) hf hn ?_ I.funs
  exact ydp (ycz I.ok.bsz I.ok.above)
theorem Inv.zee (I:Inv X pins σ H s):∀ b∈frs X.stack,b∈X.env.locals::X.fs:=fun b hb=>by
 rcases I.ok.stk with e | ⟨e,hf⟩
 ·rw[e] at hb;exact yam _ hb
 ·rw[e] at hb
  unfold frs at hb
  rw[yca,hf] at hb
  exact hb
theorem Inv.znd (I:Inv X pins σ H s):∀ b∈frs X.stack,H b=none:=fun b hb=>by
 rcases yak.mp (I.zee b hb) with e | hb
 ·rw[e];exact I.free
 ·obtain ⟨_,o,ho,_⟩:=I.ok.funs.mem hb
  exact I.base.free b o ho (I.ok.frf b hb) fun z=>I.ok.exfs b z hb
theorem Inv.step {g':Array GenState} {t':Nat} {d':Drawn} {ch:List Addr} (I:Inv X pins σ H s)
  (hch:∀ b∈ch,(b∈X.ex\/X.s₀.heap.objs.size<=b)/\b≠X.env.locals/\(∀ x c,X.env.cells.lookup x=some c->c≠b)/\∀ p∈X.pn++pins,p.1≠b)
  (keep:∀ b o,b≠X.env.locals->b ∉ X.fs->b ∉ ch->s.heap.get? b=some o->H b=none->h'.get? b=some o)
  (slot:∀ b o,b≠X.env.locals->b∈X.fs->b ∉ ch->s.heap.get? b=some o->H b=none->∃ sl,h'.get? b=some { o with slots:=sl }) (free:∀ b o,b ∉ ch->s.heap.get? b=some o->H b=none->H' b=none)
  (there:∀ b o,b ∉ ch->s.heap.get? b=some o->∃ o',h'.get? b=some o')
  (tups:∀ b xs,H b=some (.tup xs)->H' b=some (.tup xs)) (frzs:∀ b o u,H b=some (.frz o u)->H' b=some (.frz o u)) (tbls:∀ b ps,H b=some (.tbl ps)->∃ more,H' b=some (.tbl (ps++more)))
  (ns:∀ m,s.heap.Ns X.env.locals m->h'.Ns X.env.locals m) (hok:HOk X.prog X.w H' h') (hg:AllBare g') :
  Inv X pins σ H' { s with heap:=h',gens:=g',drawn:=d',toks:=t' }:=by
 have neL:∀ b o,X.s₀.heap.get? b=some o->b≠X.env.locals:=fun b o e=>ycv (ycx (ydk e) I.ok.above)
 have neC:∀ b o,X.s₀.heap.get? b=some o->b ∉ X.ex->b ∉ ch:=fun b o e hx hb=>by
  rcases (hch b hb).1 with z | z
  ·exact hx z
  ·exact absurd (ycx (ydk e) z) (yda _)
 have cellK:∀ x c,X.env.cells.lookup x=some c->∀ v,s.heap.IsCell c v->h'.IsCell c v:=fun x c e v ⟨o,ho,hd⟩=>by
  have nch:c ∉ ch:=fun z=>(hch c z).2.2.1 x c e rfl
  by_cases hc:c∈X.fs
  ·obtain ⟨sl,q⟩:=slot c o (I.cne x c e) hc nch ho (I.freeC x c e)
   exact ⟨_,q,hd⟩
  ·exact ⟨o,keep c o (I.cne x c e) hc nch ho (I.freeC x c e),hd⟩
 refine ⟨I.ok,I.os,hg,⟨fun b o e n hb hx=>?_,fun b o e n hb hx=>?_,fun b o e n hx=>?_,fun b o e hx=>?_,fun b xs e=>tups b xs (I.base.tups b xs e),fun b o xs e=>frzs b o xs (I.base.frzs b o xs e),fun b ps e=>?_⟩,?_,fun x c e=>?_,?_,fun x c e=>?_,fun p hp=>?_,hok,I.len⟩
 ·exact keep b o (neL b o e) hb (neC b o e hx) (I.base.keep b o e n hb hx) (I.base.free b o e n hx)
 ·obtain ⟨sl,e1⟩:=I.base.slot b o e n hb hx
  obtain ⟨sl',e2⟩:=slot b _ (neL b o e) hb (neC b o e hx) e1 (I.base.free b o e n hx)
  exact ⟨sl',e2⟩
 ·obtain ⟨o',e1⟩:=I.base.there b o e hx
  exact free b o' (neC b o e hx) e1 (I.base.free b o e n hx)
 ·obtain ⟨o',e1⟩:=I.base.there b o e hx
  exact there b o' (neC b o e hx) e1
 ·obtain ⟨m1,e1⟩:=I.base.tbls b ps e
  obtain ⟨m2,e2⟩:=tbls b _ e1
  exact ⟨m1++m2,by rw[e2,Array.append_assoc]⟩
 ·obtain ⟨m,hn,hl⟩:=I.loc
  refine ⟨m,ns m hn,fun i x v e1 e2 e3=>?_⟩
  obtain ⟨u,r,l⟩:=hl i x v e1 e2 e3
  refine ⟨u,r,?_⟩
  rcases l with l | ⟨k,c,e,z⟩
  ·exact .inl l
  ·exact .inr ⟨k,c,e,cellK x c e _ z⟩
 ·obtain ⟨v,z⟩:=I.cell x c e
  exact ⟨v,cellK x c e v z⟩
 ·obtain ⟨m,⟨o,_,_,ho,_⟩,_⟩:=I.loc
  exact free _ o (fun z=>(hch _ z).2.1 rfl) ho I.free
 ·obtain ⟨v,o,ho,hd⟩:=I.cell x c e
  exact free c o (fun z=>(hch c z).2.2.1 x c e rfl) ho (I.freeC x c e)
 ·obtain ⟨e,n,ne,nf,d⟩:=I.pin p hp
  have nch:p.1 ∉ ch:=fun z=>(hch p.1 z).2.2.2 p hp rfl
  exact ⟨keep p.1 p.2 ne nf nch e n,free p.1 p.2 nch e n,ne,nf,d⟩
theorem Inv.un {t':Nat} (I:Inv X pins σ H s) (u:Un X.fs [] H H' s.heap h') (hok:HOk X.prog X.w H' h'):Inv X pins σ H' { s with heap:=h',toks:=t' }:=by
 obtain ⟨m,⟨o,es,ep,ho,r⟩,_⟩:=id I.loc
 obtain ⟨sl,hL⟩:=u.any ho I.free (by simp)
 exact I.step (g':=s.gens) (d':=s.drawn) (ch:=[]) (fun _ z=>nomatch z) (fun b o _ hb _ e n=>u.keep b o e n hb (by simp)) (fun b o _ hb _ e n=>u.slot b o e n hb (by simp)) (fun b o _ e n=>u.free b o e n (by simp)) (fun b o _ e=>u.there b o e (by simp)) u.tups u.frzs u.tbls (fun m' hm=>by
  obtain ⟨o',es',ep',ho',r'⟩:=hm
  rw[ho] at ho';cases ho'
  exact ⟨_,es',ep',hL,r'⟩) hok I.bare
theorem Inv.call {g':Array GenState} {t':Nat} {d':Drawn} {ch:List Addr} (I:Inv X pins σ H s) (u:Un (frs X.stack) ch H H' s.heap h') (hok:HOk X.prog X.w H' h') (hg:AllBare g')
  (hch:∀ b∈ch,(b∈X.ex\/X.s₀.heap.objs.size<=b)/\b≠X.env.locals/\(∀ x c,X.env.cells.lookup x=some c->c≠b)/\∀ p∈X.pn++pins,p.1≠b) :
  Inv X pins σ H' { s with heap:=h',gens:=g',drawn:=d',toks:=t' }:=by
 obtain ⟨m,⟨o,es,ep,ho,r⟩,_⟩:=id I.loc
 obtain ⟨sl,hL⟩:=u.any ho I.free fun z=>(hch _ z).2.1 rfl
 exact I.step (ch:=ch) hch (fun b o hL hb hc e n=>u.keep b o e n (fun z=>(yak.mp (I.zee b z)).elim hL hb) hc) (fun b o _ _ hc e n=>u.any e n hc) (fun b o hc e n=>u.free b o e n hc) (fun b o hc e=>u.there b o e hc) u.tups u.frzs u.tbls (fun m' hm=>by
  obtain ⟨o',es',ep',ho',r'⟩:=hm
  rw[ho] at ho';cases ho'
  exact ⟨_,es',ep',hL,r'⟩) hok hg
theorem Inv.turned {t':Nat} {it:Addr} (I:Inv X pins σ H s) (k:∀ b o,b≠it->s.heap.get? b=some o->h'.get? b=some o) (hn:H it=none) (hL:it≠X.env.locals)
  (h1:it∈X.ex\/X.s₀.heap.objs.size<=it) (h2:∀ x c,X.env.cells.lookup x=some c->c≠it) (h3:∀ p∈X.pn++pins,p.1≠it):Inv X pins σ H { s with heap:=h',toks:=t' }:=by
 have nit:∀ b u,H b=some u->b≠it:=fun b u e z=>by rw[z,hn] at e;cases e
 refine I.step (g':=s.gens) (d':=s.drawn) (ch:=[it]) (fun b hb=>?_) (fun b o _ _ hc e _=>k b o (fun z=>hc (by simp[z])) e) (fun b o _ _ hc e _=>⟨o.slots,k b o (fun z=>hc (by simp[z])) e⟩) (fun _ _ _ _ n=>n)
  (fun b o hc e=>⟨o,k b o (fun z=>hc (by simp[z])) e⟩) (fun _ _ e=>e) (fun _ _ _ e=>e) (fun b ps e=>⟨#[],by rw[e];simp⟩) (fun m hm=>?_) (fun b u e=>?_) I.bare
 ·have e:b=it:=by simpa using hb
  subst e
  exact ⟨h1,hL,h2,h3⟩
 ·obtain ⟨o,es,ep,ho,r⟩:=hm
  exact ⟨o,es,ep,k _ o (Ne.symm hL) ho,r⟩
 ·refine (I.hok b u e).stay (fun c v hc q=>k c v ?_ q) (fun _ q=>q) fun _ _ q=>q
  rcases hc with z | z
  ·rw[z];exact nit b u e
  ·exact nit c _ z
theorem Inv.tok (I:Inv X pins σ H s) (t:Nat):Inv X pins σ H { s with toks:=t }:=I.un (h':=s.heap) (t':=t) Un.refl I.hok
theorem Inv.kept {t':Nat} (I:Inv X pins σ H s) (k:∀ b u,s.heap.get? b=some u->h'.get? b=some u):Inv X pins σ H { s with heap:=h',toks:=t' }:=I.un (Un.kept k) (I.hok.kept k)
theorem Inv.laid {a:Addr} {o:HO} {t':Nat} (I:Inv X pins σ H s) (k:∀ b u,s.heap.get? b=some u->h'.get? b=some u) (hp:s.heap.objs.size<=a) (new:zam X.prog X.w (upd H a o) h' a o) :
  Inv X pins σ (upd H a o) { s with heap:=h',toks:=t' }:=I.un (Un.laid k hp (I.hok.fresh hp)) (I.hok.laid k hp new)
theorem Inv.write {x e:Addr} {o:HO} {t':Nat} (I:Inv X pins σ H s) (mu:Mut (H x)) (he:e=x\/H e=some (.own x)) (k:∀ b u,b≠e->s.heap.get? b=some u->h'.get? b=some u) (heo:∃ u,h'.get? e=some u)
  (new:zam X.prog X.w (upd H x o) h' x o):Inv X pins σ (upd H x o) { s with heap:=h',toks:=t' }:=I.un (Un.write mu he k heo) (I.hok.write mu he k heo new)
theorem Inv.zm4 {pins':List (Addr × Obj)} (I:Inv X pins σ H s) (h:∀ p∈pins',s.heap.get? p.1=some p.2/\H p.1=none/\p.1≠X.env.locals/\p.1 ∉ X.fs/\∀ v,p.2.data≠.cell v):Inv X pins' σ H s :=
 ⟨I.ok,I.os,I.bare,I.base,I.loc,I.cell,I.free,I.freeC,fun p hp=>(yac.mp hp).elim (fun z=>I.pin p (ybr _ z)) (h p),I.hok,I.len⟩
theorem zpA {N:List Str} (hN:N.Nodup) {i j:Nat} {x:Str} (a:N[i]?=some x) (b:N[j]?=some x):i=j:=by
 obtain ⟨h1,e1⟩:=yad.mp a
 obtain ⟨h2,e2⟩:=yad.mp b
 exact (List.getElem_inj hN).mp (e1.trans e2.symm)
theorem zsZ {M:Model} {A:Around} {E:Value->Shared->Prop} {i:Nat} {x:Str} {v:V} {u:Value} {Q:Unit->Shared->Prop} (I:Inv X pins σ H s) (hN:X.N.Nodup) (hi:X.N[i]?=some x) (hx:Loc X.env.scope x) (r:RelV v u)
  (h:∀ s',Inv X pins (σ.set i (some v)) H s'->(∃ a,Heap.SameBut a s.heap s'.heap/\(a=X.env.locals\/X.env.cells.lookup x=some a))->Q () s') (hf:X.fn x=true\/X.env.scope.names.lookup x=some .local:=by first | exact .inl rfl | exact .inr rfl | assumption):wpAny M A (storeName X.env x u) Q E s:=by
 obtain ⟨m,hn,hl⟩:=id I.loc
 have hcls:(X.env.scope.kind == .class || (X.env.scope.kind == .module && X.env.locals != X.env.globals))=false:=by rw[I.ok.kind];rfl
 have hiσ:i<σ.length:=by rw[I.len];exact (yad.mp hi).1
 have cne:=I.cne
 have tracked:∀ {a:Addr} {h':Heap},(∃ o,s.heap.get? a=some o/\H a=none)->Heap.SameBut a s.heap h'->HOk X.prog X.w H h':=fun {a h'} ha hs b ob e=>by
  obtain ⟨_,_,hfree⟩:=ha
  refine (I.hok b ob e).stay (fun c w' hc q=>(hs.2 c ?_).trans q) (fun _ q=>q) fun _ _ q=>q
  rintro rfl
  rcases hc with rfl | hc
  ·rw[hfree] at e;cases e
  ·rw[hfree] at hc;cases hc
 rcases hx with hk | hk
 ·refine wpAny_storeName_local hk hn (fun h' hn' hs=>?_) hcls
  obtain ⟨oL,_,_,hoL,_⟩:=id hn
  refine h _ ⟨I.ok,I.os,I.bare,⟨fun b o e n hb hx=>?_,fun b o e n hb hx=>?_,I.base.free,fun b o e hx=>?_,I.base.tups,I.base.frzs,I.base.tbls⟩,⟨_,hn',fun j y v' e1 e2 e3=>?_⟩,fun y c e=>?_,I.free,I.freeC,fun p hp=>?_,tracked ⟨oL,hoL,I.free⟩ hs,by simpa using I.len⟩ ⟨_,hs,.inl rfl⟩
  ·exact (hs.2 b (ycv (ycx (ydk e) I.ok.above))).trans (I.base.keep b o e n hb hx)
  ·obtain ⟨sl,e1⟩:=I.base.slot b o e n hb hx
   exact ⟨sl,(hs.2 b (ycv (ycx (ydk e) I.ok.above))).trans e1⟩
  ·obtain ⟨o',e1⟩:=I.base.there b o e hx
   exact ⟨o',(hs.2 b (ycv (ycx (ydk e) I.ok.above))).trans e1⟩
  ·by_cases hj:j=i
   ·subst hj
    rw[hi] at e1;cases e1
    rw[List.getElem?_set_self hiσ] at e2
    cases e2
    exact ⟨u,r,.inl ⟨hk,by simp⟩⟩
   ·rw[List.getElem?_set_ne (Ne.symm hj)] at e2
    obtain ⟨u',r',q⟩:=hl j y v' e1 e2 e3
    refine ⟨u',r',?_⟩
    rcases q with ⟨k,e⟩ | ⟨k,c,e,z⟩
    ·refine .inl ⟨k,?_⟩
     have:y≠x:=fun e=>hj (zpA hN e1 (e ▸ hi))
     simp[this,e]
    ·exact .inr ⟨k,c,e,z.sameBut hs (cne y c e)⟩
  ·obtain ⟨w',z⟩:=I.cell y c e
   exact ⟨w',z.sameBut hs (cne y c e)⟩
  ·obtain ⟨e,n,ne,nf,d⟩:=I.pin p hp
   exact ⟨(hs.2 p.1 ne).trans e,n,ne,nf,d⟩
 ·have hfn:X.fn x=true:=by
   rcases hf with z | z
   ·exact z
   ·rw[z] at hk;cases hk
  obtain ⟨c,hc⟩:=I.ok.has x (.inl hk)
  obtain ⟨w',z⟩:=I.cell x c hc
  refine wpAny_storeName_cell I.ok.kind hk hc z (fun h' hc' hs=>?_)
  obtain ⟨oc,hoc,hocd⟩:=id z
  refine h { s with heap:=h' } ⟨I.ok,I.os,I.bare,⟨fun b o e n hb hx=>?_,fun b o e n hb hx=>?_,I.base.free,fun b o e hx=>?_,I.base.tups,I.base.frzs,I.base.tbls⟩,⟨m,hn.sameBut hs (Ne.symm (cne x c hc)),fun j y v' e1 e2 e3=>?_⟩,fun y c' e=>?_,I.free,I.freeC,fun p hp=>?_,tracked ⟨oc,hoc,I.freeC x c hc⟩ hs,by simpa using I.len⟩ ⟨c,hs,.inr hc⟩
  ·exact (hs.2 b (ycv (ycx (ydk e) (I.ok.cab x c hfn hc)))).trans (I.base.keep b o e n hb hx)
  ·obtain ⟨sl,e1⟩:=I.base.slot b o e n hb hx
   exact ⟨sl,(hs.2 b (ycv (ycx (ydk e) (I.ok.cab x c hfn hc)))).trans e1⟩
  ·obtain ⟨o',e1⟩:=I.base.there b o e hx
   exact ⟨o',(hs.2 b (ycv (ycx (ydk e) (I.ok.cab x c hfn hc)))).trans e1⟩
  ·by_cases hj:j=i
   ·subst hj
    rw[hi] at e1;cases e1
    rw[List.getElem?_set_self hiσ] at e2
    cases e2
    exact ⟨u,r,.inr ⟨.inl hk,c,hc,hc'⟩⟩
   ·rw[List.getElem?_set_ne (Ne.symm hj)] at e2
    obtain ⟨u',r',q⟩:=hl j y v' e1 e2 e3
    refine ⟨u',r',?_⟩
    rcases q with q | ⟨k,c',e,z'⟩
    ·exact .inl q
    ·refine .inr ⟨k,c',e,z'.sameBut hs ?_⟩
     rintro rfl
     exact hj (zpA hN e1 (I.ok.inj _ _ _ e hc ▸ hi))
  ·by_cases hcc:c'=c
   ·subst hcc;exact ⟨_,hc'⟩
   ·obtain ⟨w2,z2⟩:=I.cell y c' e
    exact ⟨w2,z2.sameBut hs hcc⟩
  ·obtain ⟨e,n,ne,nf,d⟩:=I.pin p hp
   refine ⟨(hs.2 p.1 ?_).trans e,n,ne,nf,d⟩
   intro q
   rw[q,hoc] at e
   have q':oc=p.2:=Option.some.inj e
   exact d w' (by rw[<-q'];exact hocd)
theorem zp5 {M:Model} {A:Around} {E:Value->Shared->Prop} {i:Nat} {x:Str} {v:V} {u:Value} {Q:Unit->Shared->Prop} (I:Inv X pins σ H s) (hN:X.N.Nodup) (hi:X.N[i]?=some x) (hx:Loc X.env.scope x) (r:RelV v u)
  (h:∀ s',Inv X pins (σ.set i (some v)) H s'->Q () s') (hf:X.fn x=true\/X.env.scope.names.lookup x=some .local:=by first | exact .inl rfl | exact .inr rfl | assumption):wpAny M A (storeName X.env x u) Q E s :=
 zsZ I hN hi hx r (fun s' I' _=>h s' I') hf
theorem Inv.call' {s':Shared} {ch:List Addr} (I:Inv X pins σ H s) (ho:s'.os=s.os) (u:Un (frs X.stack) ch H H' s.heap s'.heap) (hok:HOk X.prog X.w H' s'.heap) (hg:AllBare s'.gens)
  (hch:∀ b∈ch,(b∈X.ex\/X.s₀.heap.objs.size<=b)/\b≠X.env.locals/\(∀ x c,X.env.cells.lookup x=some c->c≠b)/\∀ p∈X.pn++pins,p.1≠b):Inv X pins σ H' s':=by
 obtain ⟨h',g',d',t',o'⟩:=s'
 have e:o'=s.os:=ho
 subst e
 exact I.call (g':=g') (t':=t') (d':=d') u hok hg hch
end
noncomputable abbrev XK:=Value->Option Addr->Hp->Prop
noncomputable abbrev St:=List (Option V)
noncomputable abbrev VK:=V->Hp->Prop
noncomputable abbrev TE:=St->Hp->VK->Prop
noncomputable abbrev TT:=St->Hp->(Bool->Hp->Prop)->Prop
noncomputable abbrev TA:=St->Hp->(List V->Hp->Prop)->Prop
structure Ends where
 nx:St->Hp->Prop
 rt:VK
 bk:St->Hp->Prop:=fun _ _=>False
 ct:St->Hp->Prop:=fun _ _=>False
noncomputable abbrev TS:=Ends->St->Hp->Prop
def EP (X:Cx) (pins:List (Addr × Obj)) (σ:St) (Q:VK) (u:Value) (s':Shared):Prop:=∃ v H',Inv X pins σ H' s'/\RelV v u/\Q v H'
def TP (X:Cx) (pins:List (Addr × Obj)) (σ:St) (Q:Bool->Hp->Prop) (b:Bool) (s':Shared):Prop:=∃ H',Inv X pins σ H' s'/\Q b H'
def AP (X:Cx) (pins:List (Addr × Obj)) (σ:St) (Q:List V->Hp->Prop) (us:List Value) (s':Shared):Prop:=∃ vs H',Inv X pins σ H' s'/\Vals vs us/\Q vs H'
def SP (X:Cx) (pins:List (Addr × Obj)) (D:Ends) (f:Flow) (s':Shared):Prop :=
 match f with
 | .next=>∃ σ' H',Inv X pins σ' H' s'/\D.nx σ' H'
 | .brk=>∃ σ' H',Inv X pins σ' H' s'/\D.bk σ' H'
 | .cont=>∃ σ' H',Inv X pins σ' H' s'/\D.ct σ' H'
 | .ret u=>∃ v σ' H',Inv X pins σ' H' s'/\RelV v u/\D.rt v H'
def PE (X:Cx) (e:Expr) (t:TE):Prop :=
 ∀ (pins:List (Addr × Obj)) (s:Shared) (σ:St) (H:Hp) (Q:VK),Inv X pins σ H s->t σ H Q->wpAny (model X.prog X.w) X.A (eval e X.env) (EP X pins σ Q) X.xe s
def PT (X:Cx) (e:Expr) (t:TT):Prop :=
 ∀ (pins:List (Addr × Obj)) (s:Shared) (σ:St) (H:Hp) (Q:Bool->Hp->Prop),Inv X pins σ H s->t σ H Q->wpAny (model X.prog X.w) X.A (isTrue e X.env (eval e X.env)) (TP X pins σ Q) X.xe s
def PW (X:Cx) (e:Expr) (t:TT):Prop :=
 ∀ (whole:Sem Value) (pins:List (Addr × Obj)) (s:Shared) (σ:St) (H:Hp) (Q:Bool->Hp->Prop),Inv X pins σ H s->t σ H Q->wpAny (model X.prog X.w) X.A (isTrue e X.env whole) (TP X pins σ Q) X.xe s
theorem PW.pt {X:Cx} {e:Expr} {t:TT} (h:PW X e t):PT X e t:=h _
def PA (X:Cx) (es:List Expr) (t:TA):Prop :=
 ∀ (pos:Pos) (pins:List (Addr × Obj)) (s:Shared) (σ:St) (H:Hp) (Q:List V->Hp->Prop),Inv X pins σ H s->t σ H Q->wpAny (model X.prog X.w) X.A (spliced (backTo pos (starEach es X.env))) (AP X pins σ Q) X.xe s
def PS (X:Cx) (st:Stmt) (t:TS):Prop :=
 ∀ (pins:List (Addr × Obj)) (s:Shared) (σ:St) (H:Hp) (D:Ends),Inv X pins σ H s->t D σ H->wpAny (model X.prog X.w) X.A (exec st X.env) (SP X pins D) X.xe s
def PSs (X:Cx) (st:List Stmt) (t:TS):Prop :=
 ∀ (pins:List (Addr × Obj)) (s:Shared) (σ:St) (H:Hp) (D:Ends),Inv X pins σ H s->t D σ H->wpAny (model X.prog X.w) X.A (execs st X.env) (SP X pins D) X.xe s
theorem thn {α:Type} {t:Sem α} {Q Q':α->Shared->Prop} {M:Model} {A:Around} {E:Value->Shared->Prop} {s:Shared} (h:wpAny M A t Q E s) (hQ:∀ a s,Q a s->Q' a s):wpAny M A t Q' E s:=wpAny_mono h hQ fun _ _ x=>x
end L2
namespace L2
open PySem PySem.Spec PyProof.Rows
section
variable {X:Cx}
def zvP (i:Nat):TE:=fun σ H Q=>∃ v,σ[i]?=some (some v)/\Q v H
def tC (v:V):TE:=fun _ H Q=>Q v H
theorem zv0 {i:Nat} {x:Str} {pos:Pos} (hN:X.N[i]?=some x) (hv:Vis X.env.scope x) (hd:(x == ("__debug__" : Str))=false:=by decide) (hcd:(x == ("__classdict__" : Str))=false:=by decide):PE X (.Name x pos) (zvP i):=by
 intro pins s σ H Q I h
 obtain ⟨v,e,h⟩:=h
 obtain ⟨m,hn,hl⟩:=I.loc
 obtain ⟨u,r,l⟩:=hl i x v hN e hv
 have fin:EP X pins σ Q u s:=⟨v,H,I,r,h⟩
 rcases l with ⟨hk,hm⟩ | ⟨hk,c,hc,hcell⟩
 ·exact wpAny_Name (wpAny_loadName_local I.ok.kind hk hn hm fin) hd
 ·rcases hk with hk | hk
  ·exact wpAny_Name (wpAny_loadName_cell I.ok.kind hk hc hcell fin) hd
  ·exact wpAny_Name (wpAny_loadName_free I.ok.kind hk hc hcell fin hcd) hd
theorem zb {i j pos}:PE X (.Constant (.int i) j pos) (tC (.int i)):=fun _ _ _ H _ I h=>wpAny_Constant_int ⟨.int i,H,I.tok _,⟨_,rfl⟩,h⟩
theorem zgh {b j pos}:PE X (.Constant (.bool b) j pos) (tC (.bl b)):=fun _ _ _ H _ I h=>Constant_bool ⟨.bl b,H,I,rfl,h⟩
theorem zz {x j pos}:PE X (.Constant (.str x) j pos) (tC (.str x)):=fun _ _ _ H _ I h=>Calls.Constant_str ⟨.str x,H,I.tok _,⟨_,rfl⟩,h⟩
def Gl (X:Cx) (x:Str):Prop:=X.env.kindOf x=some .globalImplicit
theorem zkQ {E:Value->Shared->Prop} {pins:List (Addr × Obj)} {s:Shared} {σ:St} {H:Hp} {x:Str} {u:Value} {pos:Pos} {Q:Value->Shared->Prop} (I:Inv X pins σ H s) (hg:Gl X x) (hm:X.mg x=some u) (h:Q u s)
  (hd:(x == ("__debug__" : Str))=false:=by decide):wpAny (model X.prog X.w) X.A (eval (.Name x pos) X.env) Q E s :=
 Calls.Name_function_global I.ok.kind hg (Calls.loadGlobal_global (by rw[I.ok.glob];exact I.mod.glob.keeps I.bk) hm h) hd
theorem zjX {E:Value->Shared->Prop} {pins:List (Addr × Obj)} {s:Shared} {σ:St} {H:Hp} {x:Str} {u:Value} {pos:Pos} {Q:Value->Shared->Prop} (I:Inv X pins σ H s) (hg:Gl X x) (hm:X.mg x=none) (hv:bootBuiltins x=some u) (h:Q u s)
  (hn:x ≠ "__name__" := by decide) (hd:(x == ("__debug__" : Str))=false:=by decide):wpAny (model X.prog X.w) X.A (eval (.Name x pos) X.env) Q E s:=by
 obtain ⟨mb,h1,h2⟩:=I.mod.blt
 exact Calls.Name_function_global I.ok.kind hg (Calls.loadGlobal_builtin (by rw[I.ok.glob];exact I.mod.glob.keeps I.bk) hm (by rw[I.ok.blt];exact h1.keeps I.bk) ((h2 x hn).trans hv) h) hd
theorem zgj {x:Str} {v:V} {u:Value} {pos:Pos} (hg:Gl X x) (hm:X.mg x=some u) (r:RelV v u) (hd:(x == ("__debug__" : Str))=false:=by decide):PE X (.Name x pos) (tC v) :=
 fun _ _ _ H _ I h=>zkQ I hg hm ⟨v,H,I,r,h⟩ hd
theorem zm1 {x:Str} {v:V} {u:Value} {pos:Pos} (hg:Gl X x) (hm:X.mg x=none) (hv:bootBuiltins x=some u) (r:RelV v u) (hn:x ≠ "__name__" := by decide) (hd:(x == ("__debug__" : Str))=false:=by decide):PE X (.Name x pos) (tC v) :=
 fun _ _ _ H _ I h=>zjX I hg hm hv ⟨v,H,I,r,h⟩ hn hd
variable {a b:Expr} {ta tb:TE} {pos:Pos}
def PC (X:Cx) (op:CmpOp) (a b:Expr) (t:TE):Prop :=
 ∀ (pins:List (Addr × Obj)) (s:Shared) (σ:St) (H:Hp) (Q:VK),Inv X pins σ H s->t σ H Q ->
  wpAny (model X.prog X.w) X.A (eval a X.env) (fun v s₁=>wpAny (model X.prog X.w) X.A (eval b X.env) (fun u s₂=>wpAny (model X.prog X.w) X.A (compareOp op v u) (EP X pins σ Q) X.xe s₂) X.xe s₁) X.xe s
def tB (t:TE):TT:=fun σ H Q=>t σ H fun x H1=>∃ c,x=.bl c/\Q c H1
theorem zcd {e:Expr} {t:TE} (h:PE X e t) (he:∀ whole,isTrue e X.env whole=(do let v <-whole;standAt e.pos;holding [v] (truthy v)):=by intro _;rfl):PT X e (tB t):=by
 intro pins s σ H Q I hw
 refine isTrue_plain (thn (h pins s σ H _ I hw) fun v s1 ⟨x,H1,I1,r1,q1⟩=>?_) (he _)
 obtain ⟨d,rfl,q⟩:=q1
 cases r1
 exact wpAny_truthy_bool ⟨H1,I1,q⟩
variable {tA tB':TT} {rest:List Expr}
def zxj (t u:TT):TT:=fun σ H Q=>t σ H fun c H1=>if c=true then u σ H1 Q else Q false H1
def tOr (t u:TT):TT:=fun σ H Q=>t σ H fun c H1=>if c=true then Q true H1 else u σ H1 Q
def zw4 (t:TT):TT:=fun σ H Q=>t σ H fun c H1=>Q (!c) H1
theorem znz (ha:PT X a tA):PW X (.BoolOp .And [a] pos) tA:=by
 intro wh pins s σ H Q I h
 refine isTrue_and (thn (ha pins s σ H Q I h) fun c s1 e=>?_)
 cases c with
 | true=>exact isTrue_and_nil e
 | false=>exact e
theorem ztg (ha:PT X a tA):PW X (.BoolOp .Or [a] pos) tA:=by
 intro wh pins s σ H Q I h
 refine isTrue_or (thn (ha pins s σ H Q I h) fun c s1 e=>?_)
 cases c with
 | false=>exact isTrue_or_nil e
 | true=>exact e
theorem zmu (ha:PT X a tA) (hb:PW X (.BoolOp .And (b::rest) pos) tB'):PW X (.BoolOp .And (a::b::rest) pos) (zxj tA tB'):=by
 intro wh pins s σ H Q I h
 refine isTrue_and (thn (ha pins s σ H _ I h) fun c s1 ⟨H1,I1,q1⟩=>?_)
 cases c with
 | true=>exact hb wh pins s1 σ H1 Q I1 q1
 | false=>exact ⟨H1,I1,q1⟩
theorem zuF (ha:PT X a tA) (hb:PW X (.BoolOp .Or (b::rest) pos) tB'):PW X (.BoolOp .Or (a::b::rest) pos) (tOr tA tB'):=by
 intro wh pins s σ H Q I h
 refine isTrue_or (thn (ha pins s σ H _ I h) fun c s1 ⟨H1,I1,q1⟩=>?_)
 cases c with
 | true=>exact ⟨H1,I1,q1⟩
 | false=>exact hb wh pins s1 σ H1 Q I1 q1
theorem zfp (ha:PT X a tA):PT X (.UnaryOp .Not a pos) (zw4 tA):=by
 intro pins s σ H Q I h
 exact isTrue_not (ha pins s σ H (fun c H1=>Q (!c) H1) I h)
def zwJ (ta tb:TE):TE:=fun σ H Q=>ta σ H fun x H1=>∃ c,x=.bl c/\if c=true then tb σ H1 Q else Q (.bl false) H1
def zxu (ta tb:TE):TE:=fun σ H Q=>ta σ H fun x H1=>∃ c,x=.bl c/\if c=true then Q (.bl true) H1 else tb σ H1 Q
def zwV (ta:TE):TE:=fun σ H Q=>ta σ H fun x H1=>∃ c,x=.bl c/\Q (.bl (!c)) H1
theorem zgS {op} {t:TE} (h:PE X a t):PE X (.BoolOp op [a] pos) t:=fun pins s σ H Q I hw=>BoolOp_one (h pins s σ H Q I hw)
theorem zix (ha:PE X a ta) (hb:PE X (.BoolOp .And (b::rest) pos) tb):PE X (.BoolOp .And (a::b::rest) pos) (zwJ ta tb):=by
 intro pins s σ H Q I h
 refine BoolOp_and (thn (ha pins s σ H _ I h) fun v s1 ⟨x,H1,I1,r1,q1⟩=>?_)
 obtain ⟨c,rfl,q1⟩:=q1
 cases r1
 refine wpAny_truthy_bool ?_
 cases c with
 | true=>exact hb pins s1 σ H1 Q I1 q1
 | false=>exact ⟨.bl false,H1,I1,rfl,q1⟩
theorem zuD (ha:PE X a ta) (hb:PE X (.BoolOp .Or (b::rest) pos) tb):PE X (.BoolOp .Or (a::b::rest) pos) (zxu ta tb):=by
 intro pins s σ H Q I h
 refine BoolOp_or (thn (ha pins s σ H _ I h) fun v s1 ⟨x,H1,I1,r1,q1⟩=>?_)
 obtain ⟨c,rfl,q1⟩:=q1
 cases r1
 refine wpAny_truthy_bool ?_
 cases c with
 | false=>exact hb pins s1 σ H1 Q I1 q1
 | true=>exact ⟨.bl true,H1,I1,rfl,q1⟩
theorem zwe (ha:PE X a ta):PE X (.UnaryOp .Not a pos) (zwV ta):=by
 intro pins s σ H Q I h
 refine UnaryOp_ (thn (ha pins s σ H _ I h) fun v s1 ⟨x,H1,I1,r1,q1⟩=>?_)
 obtain ⟨c,rfl,q1⟩:=q1
 cases r1
 exact not_of (wpAny_truthy_bool ⟨.bl (!c),H1,I1,rfl,q1⟩)
def tIf (t:TT) (ta tb:TE):TE:=fun σ H Q=>t σ H fun c H1=>if c=true then ta σ H1 Q else tb σ H1 Q
theorem zpk {c:Expr} (hc:PT X c tA) (ha:PE X a ta) (hb:PE X b tb):PE X (.IfExp c a b pos) (tIf tA ta tb):=by
 intro pins s σ H Q I h
 refine wpAny_IfExp (thn (hc pins s σ H _ I h) fun d s1 ⟨H1,I1,q1⟩=>?_)
 cases d with
 | true=>exact ha pins s1 σ H1 Q I1 q1
 | false=>exact hb pins s1 σ H1 Q I1 q1
end
end L2
namespace L2
open PySem PySem.Spec PyProof.Rows
def SqL (K:W.Frag) (H:Hp) (a:Addr) (xs:List V):Prop :=
 Rd H a (.lst xs) \/
  ∃ (o:Obj) (its:Array Value) (n:Nat),K.lookup a=some o/\o.cls=.type "list" /\ o.dict=none/\o.data=.seq its n/\its.size<=sizeLine/\Vals xs its.toList
def SqT (K:W.Frag) (H:Hp) (a:Addr) (xs:List V):Prop :=
 Rd H a (.tup xs) \/
  ∃ (o:Obj) (its:Array Value) (n:Nat),K.lookup a=some o/\o.cls=.type "tuple" /\ o.data=.seq its n/\its.size<=sizeLine/\Vals xs its.toList
noncomputable def zxp:Value->Option V
 | .none=>some .non
 | .bool b=>some (.bl b)
 | .int i _=>some (.int i)
 | .str x _=>some (.str x)
 | .bytes b _=>some (.byt b)
 | .float b _=>some (.flt b)
 | .ref a=>some (.ref a)
 | .type n=>some (.ty n)
 | _=>none
theorem RelV.abs {x:V} {u:Value} (r:RelV x u):zxp u=some x:=by
 cases x with
 | non=>cases r;rfl
 | bl _=>cases r;rfl
 | int _=>obtain ⟨t,rfl⟩:=r;rfl
 | str _=>obtain ⟨t,rfl⟩:=r;rfl
 | byt _=>obtain ⟨t,rfl⟩:=r;rfl
 | flt _=>obtain ⟨t,rfl⟩:=r;rfl
 | ref _=>cases r;rfl
 | ty _=>cases r;rfl
theorem RelV.inj {x y:V} {u:Value} (r:RelV x u) (q:RelV y u):x=y:=Option.some.inj (r.abs.symm.trans q.abs)
theorem Vals.inj:∀ {xs ys:List V} {us:List Value},Vals xs us->Vals ys us->xs=ys
 | _,_,_,.nil,.nil=>rfl
 | _,_,_,.cons r t,.cons r' t'=>by rw[r.inj r',Vals.inj t t']
section
variable {X:Cx} {pins:List (Addr × Obj)} {σ:St} {H:Hp} {s:Shared} {a:Addr} {xs ys:List V}
theorem SqL.of {K:W.Frag} (h:H a=some (.lst xs)):SqL K H a xs:=.inl (.inl h)
theorem SqT.of {K:W.Frag} (h:H a=some (.tup xs)):SqT K H a xs:=.inl (.inl h)
theorem Inv.list (I:Inv X pins σ H s) (h:SqL X.K H a xs):∃ its:List Value,Vals xs its/\PlainL s.heap a its.toArray/\xs.length<=sizeLine:=by
 rcases h with h | ⟨o,its,n,hk,hc,hd,hs,hz,r⟩
 ·obtain ⟨z,its,n,r,e⟩:=h.ok I.hok
  exact ⟨its,r,⟨_,n,e,rfl,rfl,rfl⟩,z⟩
 ·refine ⟨its.toList,r,⟨o,n,I.kIn a o hk,hc,hd,by simpa using hs⟩,?_⟩
  have e:=r.length
  simp only[ydw] at e
  omega
theorem Inv.tuple (I:Inv X pins σ H s) (h:SqT X.K H a xs):∃ its:List Value,Vals xs its/\IsTup s.heap a its.toArray/\xs.length<=sizeLine:=by
 rcases h with h | ⟨o,its,n,hk,hc,hs,hz,r⟩
 ·obtain ⟨z,its,r,p⟩:=h.ok I.hok
  exact ⟨its,r,p,z⟩
 ·refine ⟨its.toList,r,⟨o,I.kIn a o hk,hc,n,by simpa using hs⟩,?_⟩
  have e:=r.length
  simp only[ydw] at e
  omega
theorem Inv.zuh (I:Inv X pins σ H s) (h:SqL X.K H a xs) (h':SqL X.K H a ys):xs=ys:=by
 obtain ⟨its,r,⟨o,n,e,_,_,d⟩,_⟩:=I.list h
 obtain ⟨its',r',⟨o',n',e',_,_,d'⟩,_⟩:=I.list h'
 rw[e] at e';cases e'
 rw[d] at d'
 injection d' with d1 _
 have:its=its':=by simpa using congrArg Array.toList d1
 subst this
 exact r.inj r'
end
noncomputable abbrev Cx.wish (X:Cx) (E:Value->Shared->Prop):Cx:={ X with xe:=E }
noncomputable abbrev Cx.nox (X:Cx):Cx:=X.wish fun _ _=>False
theorem Cx.Ok.wish {X:Cx} (ok:X.Ok) (E:Value->Shared->Prop):(X.wish E).Ok :=
 ⟨ok.mod,ok.kind,ok.glob,ok.blt,ok.above,ok.inj,ok.has,ok.cab,ok.hd,ok.frames,ok.stk,ok.exf,ok.bs,ok.bsz,ok.noex,ok.exfs,ok.funs,ok.frf⟩
theorem Cx.Ok.unwish {X:Cx} {E:Value->Shared->Prop} (ok:(X.wish E).Ok):X.Ok :=
 ⟨ok.mod,ok.kind,ok.glob,ok.blt,ok.above,ok.inj,ok.has,ok.cab,ok.hd,ok.frames,ok.stk,ok.exf,ok.bs,ok.bsz,ok.noex,ok.exfs,ok.funs,ok.frf⟩
section
variable {X:Cx} {pins:List (Addr × Obj)} {σ:St} {H:Hp} {s:Shared} {E:Value->Shared->Prop}
theorem Inv.wish (I:Inv X pins σ H s) (E:Value->Shared->Prop):Inv (X.wish E) pins σ H s:=⟨I.ok.wish E,I.os,I.bare,I.base,I.loc,I.cell,I.free,I.freeC,I.pin,I.hok,I.len⟩
theorem Inv.unwish (I:Inv (X.wish E) pins σ H s):Inv X pins σ H s:=⟨I.ok.unwish,I.os,I.bare,I.base,I.loc,I.cell,I.free,I.freeC,I.pin,I.hok,I.len⟩
theorem SP.unwish {D:Ends} {f:Flow} {s':Shared} (h:SP (X.wish E) pins D f s'):SP X pins D f s':=by
 cases f with
 | next=>obtain ⟨σ',H',I,q⟩:=h;exact ⟨σ',H',I.unwish,q⟩
 | brk=>obtain ⟨σ',H',I,q⟩:=h;exact ⟨σ',H',I.unwish,q⟩
 | cont=>obtain ⟨σ',H',I,q⟩:=h;exact ⟨σ',H',I.unwish,q⟩
 | ret u=>obtain ⟨v,σ',H',I,r,q⟩:=h;exact ⟨v,σ',H',I.unwish,r,q⟩
theorem PSs.nox {st:List Stmt} {t:TS} (h:PSs X.nox st t):PSs X st t:=fun pins s σ H D I hw =>
 wpAny_mono (h pins s σ H D (I.wish _) hw) (fun _ _ q=>q.unwish) fun _ _ z=>False.elim z
end
section
variable {X:Cx} {st:Stmt} {rest:List Stmt} {t u:TS} {e:Expr} {te:TE} {pos:Pos}
def zwv:TS:=fun D σ H=>D.nx σ H
def zaf (t u:TS):TS:=fun D σ H=>t { D with nx:=u D } σ H
theorem zO:PSs X [] zwv:=fun _ _ σ H _ I h=>wpAny_execs_nil ⟨σ,H,I,h⟩
theorem ztN (h1:PS X st t) (h2:PSs X rest u):PSs X (st::rest) (zaf t u):=by
 intro pins s σ H D I h
 refine wpAny_execs_cons (thn (h1 pins s σ H { D with nx:=u D } I h) fun f s1 q=>?_)
 cases f with
 | next =>
  obtain ⟨σ',H',I',q⟩:=q
  exact h2 pins s1 σ' H' D I' q
 | ret v=>exact q
 | brk=>exact q
 | cont=>exact q
theorem zf (h1:PS X st t):PSs X [st] t:=by
 intro pins s σ H D I h
 refine wpAny_execs_cons (thn (h1 pins s σ H D I h) fun f s1 q=>?_)
 cases f with
 | next=>exact wpAny_execs_nil q
 | ret v=>exact q
 | brk=>exact q
 | cont=>exact q
theorem Inv.quiet {pins:List (Addr × Obj)} {σ:St} {H:Hp} {s:Shared} (I:Inv X pins σ H s):interactive X.env=false:=by simp[interactive,I.ok.kind]
def zwL (te:TE):TS:=fun D σ H=>te σ H fun _ H1=>D.nx σ H1
theorem zY (he:PE X e te) (hs:swapsWith e none pos.line X.env=pure false:=by rfl):PS X (.Expr e pos) (zwL te):=by
 intro pins s σ H D I h
 exact wpAny_Expr_any (thn (he pins s σ H _ I h) fun v s1 ⟨x,H1,I1,r1,q1⟩=>⟨σ,H1,I1,q1⟩) I.quiet hs
def zxy (te:TE):TS:=fun D σ H=>te σ H D.rt
theorem zl (he:PE X e te):PS X (.Return (some e) pos) (zxy te):=by
 intro pins s σ H D I h
 exact wpAny_Return_some (thn (he pins s σ H _ I h) fun v s1 ⟨x,H1,I1,r1,q1⟩=>⟨x,σ,H1,I1,r1,q1⟩)
def zxm (c:TT) (t u:TS):TS:=fun D σ H=>c σ H fun b H1=>if b=true then t D σ H1 else u D σ H1
theorem zV {c:Expr} {a b:List Stmt} {tc:TT} (hc:PT X c tc) (ha:PSs X a t) (hb:PSs X b u):PS X (.If c a b pos) (zxm tc t u):=by
 intro pins s σ H D I h
 refine wpAny_If (thn (hc pins s σ H _ I h) fun d s1 ⟨H1,I1,q1⟩=>?_)
 cases d with
 | true=>exact ha pins s1 σ H1 D I1 q1
 | false=>exact hb pins s1 σ H1 D I1 q1
def zv4:TS:=fun _ _ _=>False
theorem zjT {sts:List Stmt}:PSs X sts zv4:=fun _ _ _ _ _ _ h=>h.elim
end
noncomputable abbrev TG:=V->St->Hp->(St->Hp->Prop)->Prop
noncomputable abbrev TGs:=List V->St->Hp->(St->Hp->Prop)->Prop
def PG (X:Cx) (target:Expr) (t:TG):Prop :=
 ∀ (pins:List (Addr × Obj)) (s:Shared) (σ:St) (H:Hp) (v:V) (u:Value) (Q:St->Hp->Prop),Inv X pins σ H s->RelV v u->t v σ H Q ->
  wpAny (model X.prog X.w) X.A (assign target X.env u) (fun _ s'=>∃ σ' H',Inv X pins σ' H' s'/\Q σ' H') X.xe s
def PGs (X:Cx) (ts:List Expr) (t:TGs):Prop :=
 ∀ (pins:List (Addr × Obj)) (s:Shared) (σ:St) (H:Hp) (vs:List V) (us:List Value) (Q:St->Hp->Prop),Inv X pins σ H s->Vals vs us->t vs σ H Q ->
  wpAny (model X.prog X.w) X.A (assignInOrder ((assignEach ts X.env).map (·.2)) us) (fun _ s'=>∃ σ' H',Inv X pins σ' H' s'/\Q σ' H') X.xe s
noncomputable abbrev TSet:=V->V->V->Hp->(Hp->Prop)->Prop
def PSet (X:Cx) (t:TSet):Prop :=
 ∀ (pins:List (Addr × Obj)) (s:Shared) (σ:St) (H:Hp) (o i v:V) (ov iv u:Value) (Q:Hp->Prop),Inv X pins σ H s->RelV o ov->RelV i iv->RelV v u->t o i v H Q ->
  wpAny (model X.prog X.w) X.A (setItem ov iv u) (fun _ s'=>∃ H',Inv X pins σ H' s'/\Q H') X.xe s
section
variable {X:Cx} {pos:Pos}
def zcz (i:Nat):TG:=fun v σ H Q=>Q (σ.set i (some v)) H
theorem zG {i:Nat} {x:Str} (hN:X.N.Nodup) (hi:X.N[i]?=some x) (hx:Loc X.env.scope x) (hf:X.fn x=true\/X.env.scope.names.lookup x=some .local:=by first | exact .inl rfl | exact .inr rfl | assumption):PG X (.Name x pos) (zcz i):=by
 intro pins s σ H v u Q I r h
 exact wpAny_assign_Name (zp5 I hN hi hx r (fun s' I'=>⟨_,H,I',h⟩) hf)
noncomputable def zvH:TGs:=fun vs σ H Q=>vs=[]/\Q σ H
noncomputable def zoG (t:TG) (u:TGs):TGs:=fun vs σ H Q=>∃ v r,vs=v::r/\t v σ H fun σ' H'=>u r σ' H' Q
theorem zcJ:PGs X [] zvH:=by
 intro pins s σ H vs us Q I r h
 obtain ⟨e,h⟩:=h
 subst e
 cases r
 exact assignInOrder_nil ⟨σ,H,I,h⟩
theorem zS {e:Expr} {es:List Expr} {t:TG} {u:TGs} (h1:PG X e t) (h2:PGs X es u)
  (hs:(assignEach (e::es) X.env).map (·.2)=assign e X.env::(assignEach es X.env).map (·.2):=by rfl):PGs X (e::es) (zoG t u):=by
 intro pins s σ H vs us Q I r h
 obtain ⟨v,vr,e1,h⟩:=h
 subst e1
 cases r with
 | cons r rr =>
  rw[hs]
  refine assignInOrder_cons (thn (h1 pins s σ H _ _ _ I r h) fun _ s1 ⟨σ1,H1,I1,q1⟩=>?_)
  exact h2 pins s1 σ1 H1 _ _ Q I1 rr q1
def zvJ (K:W.Frag) (n:Nat) (t:TGs):TG:=fun v σ H Q=>∃ a xs,v=.ref a/\SqT K H a xs/\xs.length=n/\t xs σ H Q
theorem zdU {es:List Expr} {k:Nat} {t:TGs} {n:Nat} (hc:X.calm=true) (h:PGs X es t)
  (hn:(assignEach es X.env).length=n:=by rfl) (hst:(assignEach es X.env).findIdx? (·.1)=none:=by rfl):PG X (.Tuple es k pos) (zvJ X.K n t):=by
 intro pins s σ H v u Q I r hw
 obtain ⟨a,xs,e1,hq,hl,hw⟩:=hw
 subst e1
 cases r
 obtain ⟨its,rv,ht,hz⟩:=I.tuple hq
 refine assign_Tuple_tuple (I.ok.hd hc) ht (by simp[hn,<-hl,rv.length]) hst fun h' hx=>?_
 have I1:Inv X pins σ H { s with heap:=h' }:=I.kept (t':=s.toks) fun b o e=>hx b o (ycv (ydk e)) e
 exact h pins _ σ H xs _ Q I1 (by simpa using rv) hw
def zw5 (to ti:TE) (t:TSet):TG:=fun v σ H Q=>to σ H fun o H1=>ti σ H1 fun i H2=>t o i v H2 fun H3=>Q σ H3
theorem zkv {o i:Expr} {to ti:TE} {t:TSet} (ho:PE X o to) (hi:PE X i ti) (hs:PSet X t)
  (ha:∀ v,assign (.Subscript o i pos) X.env v=(do
   let ov <-holding [v] (eval o X.env)
   let iv <-holding [v,ov] (eval i X.env)
   standAt pos
   holding [v,ov,iv] (setItem ov iv v)
   release [v,ov,iv] []):=by intro _;rfl):PG X (.Subscript o i pos) (zw5 to ti t):=by
 intro pins s σ H v u Q I r h
 rw[ha]
 refine wpAny_bind (wpAny_holding (thn (ho pins s σ H _ I h) fun ov s1 ⟨x,H1,I1,r1,q1⟩=>?_))
 refine wpAny_bind (wpAny_holding (thn (hi pins s1 σ H1 _ I1 q1) fun iv s2 ⟨y,H2,I2,r2,q2⟩=>?_))
 refine wpAny_bind (wpAny_standAt (wpAny_bind (wpAny_holding (thn (hs pins s2 σ H2 x y v ov iv u _ I2 r1 r2 r q2) fun _ s3 ⟨H3,I3,q3⟩=>?_))))
 exact wpAny_release ⟨σ,H3,I3,q3⟩
def zo7 (te:TE) (g:TG):TS:=fun D σ H=>te σ H fun x H1=>g x σ H1 D.nx
theorem zcZ {tg e:Expr} {te:TE} {g:TG} (he:PE X e te) (hg:PG X tg g) (hs:swapsWithSole [tg] e pos.line X.env=pure false:=by rfl) (hw:swappedStores [tg] e X.env=pure none:=by rfl)
  (h1:(assignEach [tg] X.env).map (·.2)=[assign tg X.env]:=by rfl):PS X (.Assign [tg] e pos) (zo7 te g):=by
 intro pins s σ H D I h
 refine wpAny_Assign_stores (thn (he pins s σ H _ I h) fun v s1 ⟨x,H1,I1,r1,q1⟩=>?_) hs hw
 rw[h1]
 exact thn (hg pins s1 σ H1 x v _ I1 r1 q1) fun _ s2 q=>q
theorem zj {i:Nat} {x:Str} {e:Expr} {te:TE} {pos':Pos} (hN:X.N.Nodup) (hi:X.N[i]?=some x) (hx:Loc X.env.scope x) (he:PE X e te) (hs:swapsWith e (some (.Name x pos')) pos.line X.env=pure false:=by rfl) (hf:X.fn x=true\/X.env.scope.names.lookup x=some .local:=by first | exact .inl rfl | exact .inr rfl | assumption) :
  PS X (.Assign [.Name x pos'] e pos) (zo7 te (zcz i)):=by
 intro pins s σ H D I h
 refine wpAny_Assign_Name (thn (he pins s σ H _ I h) fun v s1 ⟨y,H1,I1,r1,q1⟩=>?_) hs
 exact zp5 I1 hN hi hx r1 (fun s2 I2=>⟨_,H1,I2,q1⟩) hf
end
section
variable {X:Cx} {pos:Pos}
def zvY (c:TT) (tb:TS):TS:=fun D σ H=>∃ W:Nat->St->Hp->Prop,(∃ m,W m σ H)/\∀ m σ H,W m σ H ->
 c σ H fun b H1=>if b=true then ∃ N:St->Hp->Prop,(∀ σ' H',N σ' H'->∃ m',m'<m/\W m' σ' H')/\tb { D with nx:=N,ct:=N,bk:=D.nx } σ H1 else D.nx σ H1
theorem zdt {c:Expr} {body:List Stmt} {tc:TT} {tb:TS} (hp:PassesOwn (model X.prog X.w) X.A X.env X.xe) (hc:PT X c tc) (hb:PSs X body tb):PS X (.While c body [] pos) (zvY tc tb):=by
 intro pins s σ H D I h
 obtain ⟨W,⟨m0,w0⟩,turn⟩:=h
 refine wpAny_While (codeAny_whileLoop (fun n s'=>∃ σ' H',Inv X pins σ' H' s'/\W n σ' H') ?_ m0 ⟨σ,H,I,w0⟩)
 rintro n s1 ⟨σ1,H1,I1,w1⟩
 refine wpAny_passesOwn hp (thn (hc pins s1 σ1 H1 _ I1 (turn n σ1 H1 w1)) fun b s2 ⟨H2,I2,q2⟩=>?_)
 cases b with
 | true =>
  obtain ⟨N,hN,q2⟩:=q2
  rw[if_pos rfl]
  refine wpAny_passesOwn hp (thn (hb pins s2 σ1 H2 _ I2 q2) fun f s3 q3=>?_)
  cases f with
  | next =>
   obtain ⟨σ3,H3,I3,n3⟩:=q3
   obtain ⟨m',hm,w3⟩:=hN σ3 H3 n3
   exact ⟨m',hm,σ3,H3,I3,w3⟩
  | cont =>
   obtain ⟨σ3,H3,I3,n3⟩:=q3
   obtain ⟨m',hm,w3⟩:=hN σ3 H3 n3
   exact ⟨m',hm,σ3,H3,I3,w3⟩
  | brk=>exact q3
  | ret v=>exact q3
 | false =>
  rw[if_neg Bool.false_ne_true]
  exact wpAny_execs_nil ⟨σ1,H2,I2,q2⟩
end
structure It where
 go:Nat->Hp->Prop
 yld:Nat->Hp->V->Hp->Prop
 stop:Nat->Hp->Prop
def za8 (X:Cx) (pins:List (Addr × Obj)) (H:Hp) (b:Addr):Prop :=
 H b=none/\b≠X.env.locals/\b ∉ X.fs/\(b∈X.ex\/X.s₀.heap.objs.size<=b)/\(∀ x c,X.env.cells.lookup x=some c->c≠b)/\∀ p∈X.pn++pins,p.1≠b
theorem Inv.zpF {X:Cx} {pins:List (Addr × Obj)} {σ:St} {H H':Hp} {s:Shared} {b:Addr} (I:Inv X pins σ H s) (hb:s.heap.objs.size<=b) (hn:H' b=none):za8 X pins H' b:=by
 refine ⟨hn,ydh (ycx I.lt hb),I.nofs hb,.inr (ycz I.sz hb),fun x c e z=>?_,fun p hp z=>?_⟩
 ·obtain ⟨v,q⟩:=I.cell x c e
  exact absurd (ycx q.lt (by rw[z];exact hb)) (yda _)
 ·exact absurd (ycx (ydk (I.pin p hp).1) (by rw[z];exact hb)) (yda _)
structure Turn (P:Program) (w:World) (K:W.Frag) (tg:Expr) (J:It) (fp:List Addr) (it:Addr) (tn:Nat->Heap->Prop):Prop where
 mem:it∈fp
 obj:∀ i h,tn i h->∀ b∈fp,∃ o,h.get? b=some o/\∀ v,o.data≠.cell v
 keep:∀ i h h',tn i h->(∀ b∈fp,∀ o,h.get? b=some o->h'.get? b=some o)->tn i h'
 item:∀ (X:Cx),X.prog=P->X.w=w->X.K=K->X.calm=true->∀ (i:Nat) (pins:List (Addr × Obj)) (s:Shared) (σ:St) (H:Hp) (E:Value->Shared->Prop),Inv X pins σ H s->(∀ b∈fp,za8 X pins H b)->tn i s.heap->J.go i H ->
  wpAny (model P w) X.A (pyNext (.ref it)) (fun r s1=>∃ u,r=some u /\
   wpAny (model P w) X.A (letOwnedTupleGo tg (.ref it) u) (fun _ s2=>∃ x H',Inv X pins σ H' s2/\RelV x u/\J.yld i H x H'/\tn (i+1) s2.heap/\∀ b∈fp,H' b=none) E s1) E s
 done:∀ (X:Cx),X.prog=P->X.w=w->X.K=K->X.calm=true->∀ (i:Nat) (pins:List (Addr × Obj)) (s:Shared) (σ:St) (H:Hp) (E:Value->Shared->Prop),Inv X pins σ H s->(∀ b∈fp,za8 X pins H b)->tn i s.heap->J.stop i H ->
  wpAny (model P w) X.A (pyNext (.ref it)) (fun r s1=>r=none/\Inv X pins σ H s1) E s
 self:∀ (A:Around) (i:Nat) (s:Shared) (Q:Value->Shared->Prop) (E:Value->Shared->Prop),tn i s.heap->Q (.ref it) s->wpAny (model P w) A (pyIter (.ref it)) Q E s
noncomputable abbrev TI:=St->Hp->(It->Hp->Prop)->Prop
def PIE (X:Cx) (pins:List (Addr × Obj)) (σ:St) (tg:Expr) (R:It->Hp->Prop) (itv:Value) (s2:Shared):Prop :=
 ∃ (it:Addr) (fp:List Addr) (tn:Nat->Heap->Prop) (J:It) (H':Hp),itv=.ref it/\Inv X pins σ H' s2/\Turn X.prog X.w X.K tg J fp it tn/\tn 0 s2.heap/\(∀ b∈fp,za8 X pins H' b)/\R J H'
def PI (X:Cx) (tg iter:Expr) (wi:TI):Prop :=
 ∀ (pins:List (Addr × Obj)) (s:Shared) (σ:St) (H:Hp) (R:It->Hp->Prop),Inv X pins σ H s->wi σ H R ->
  wpAny (model X.prog X.w) X.A (eval iter X.env) (fun v s1=>wpAny (model X.prog X.w) X.A (pyIter v) (PIE X pins σ tg R) X.xe s1) X.xe s
theorem zuu {M:Model} {A:Around} {E:Value->Shared->Prop} {s:Shared} {tg:Expr} {it:Addr} {u:Value} {o:Obj} {n:String} {vs:Array Value} {Q:Unit->Shared->Prop} (ho:s.heap.get? it=some o) (hc:o.cls=.type n) (hd:o.data=.fields vs)
  (hn:["enumerate", "zip", "dict_itemiterator", "dict_reverseitemiterator", "odict_iterator", "itertools.zip_longest", "itertools.pairwise"].contains n=false) (hQ:Q () s):wpAny M A (letOwnedTupleGo tg (.ref it) u) Q E s:=by
 unfold letOwnedTupleGo
 cases tg <;> first
  | exact wpAny_pure hQ
  | (cases u <;> first
    | exact wpAny_pure hQ
    | (refine wpAny_bind (wpAny_load ho ?_)
       rw[hc,hd]
       show wpAny M A (if (["enumerate", "zip", "dict_itemiterator", "dict_reverseitemiterator", "odict_iterator", "itertools.zip_longest", "itertools.pairwise"].contains n && vs[0]? == some (rawInt _))=true then _ else _) Q E s
       rw[if_neg (by intro h;rw[hn,Bool.false_and] at h;cases h)]
       exact wpAny_pure hQ))
noncomputable def Itl (K:W.Frag) (a:Addr):It :=
 ⟨fun i H=>∃ xs x,SqL K H a xs/\xs[i]?=some x,fun i H x H'=>H'=H/\∀ xs,SqL K H a xs->xs[i]?=some x,fun i H=>∃ xs,SqL K H a xs/\xs.length<=i⟩
noncomputable def Itr (lo:Int) (n:Nat):It:=⟨fun i _=>i<n,fun i H x H'=>H'=H/\x=.int (lo+i),fun i _=>n<=i⟩
theorem ztn {P:Program} {w:World} {K:W.Frag} {tg:Expr} (a it:Addr):Turn P w K tg (Itl K a) [it] it (fun i h=>h.IsListIter it a i) where
 mem:=by simp
 obj:=fun i h st b hb=>by
  have e:b=it:=by simpa using hb
  subst e
  obtain ⟨o,e,c,d⟩:=st
  exact ⟨o,e,fun v z=>by rw[d] at z;cases z⟩
 keep:=fun i h h' st k=>st.at fun o e=>k it (by simp) o e
 item:=by
  intro X hP hw hK hc i pins s σ H E I hf st hg
  subst hP hw hK
  obtain ⟨xs,x,hq,hx⟩:=hg
  obtain ⟨its,rv,p,hz⟩:=I.list hq
  obtain ⟨u,hu,ru⟩:=rv.get hx
  obtain ⟨f0,f1,f2,f3,f4,f5⟩:=hf it (by simp)
  refine wpAny_pyNext_list_item st p.isList (x:=u) (by simpa using hu) fun h' st' sb=>?_
  have I1:Inv X pins σ H { s with heap:=h' }:=I.turned (t':=s.toks) (fun b o hb e=>(sb.2 b hb).trans e) f0 f1 f3 f4 f5
  obtain ⟨o,e,c,d⟩:=id st'
  exact ⟨u,rfl,zuu (s:={ s with heap:=h' }) e c d (by decide) ⟨x,H,I1,ru,⟨rfl,fun ys hy=>by rw[I.zuh hy hq];exact hx⟩,st',fun b hb=>(hf b hb).1⟩⟩
 done:=by
  intro X hP hw hK hc i pins s σ H E I hf st hg
  subst hP hw hK
  obtain ⟨xs,hq,hx⟩:=hg
  obtain ⟨its,rv,p,hz⟩:=I.list hq
  obtain ⟨f0,f1,f2,f3,f4,f5⟩:=hf it (by simp)
  have hl:=rv.length
  exact wpAny_pyNext_list_end (I.ok.hd hc) st p.isList (by simp;omega) fun h' eb=>⟨rfl,I.turned (t':=s.toks) (fun b o hb e=>eb b o hb e) f0 f1 f3 f4 f5⟩
 self:=fun _ _ _ _ _ st h=>wpAny_pyIter_listiter st h
theorem zr8 {P:Program} {w:World} {K:W.Frag} {tg:Expr} (it:Addr) (lo:Int) (n:Nat):Turn P w K tg (Itr lo n) [it] it (fun i h=>IsRangeIter h it (lo+(i:Nat)*1) ((n:Int)-(i:Nat)) 1) where
 mem:=by simp
 obj:=fun i h st b hb=>by
  have e:b=it:=by simpa using hb
  subst e
  exact ⟨_,st,fun v z=>by
   have z':Data.fields _=Data.cell v:=z
   cases z'⟩
 keep:=fun i h h' st k=>k it (by simp) _ st
 item:=by
  intro X hP hw hK hc i pins s σ H E I hf st hg
  subst hP hw hK
  obtain ⟨f0,f1,f2,f3,f4,f5⟩:=hf it (by simp)
  have W:=Walks.range (prog:=X.prog) (w:=X.w) (I.ok.hd hc) it lo 1 n
  refine W.item i s _ _ hg st fun v h' tk hv st' kk=>?_
  obtain ⟨t,rfl⟩:=hv
  have I1:Inv X pins σ H { s with heap:=h',toks:=tk }:=I.turned (fun b o hb e=>kk b o (by simpa using hb) e) f0 f1 f3 f4 f5
  refine ⟨_,rfl,zuu (s:={ s with heap:=h',toks:=tk }) (n:="range_iterator") st' rfl rfl (by decide) ⟨.int (lo+i),H,I1,⟨t,?_⟩,⟨rfl,rfl⟩,st',fun b hb=>(hf b hb).1⟩⟩
  rw[Int.mul_one]
 done:=by
  intro X hP hw hK hc i pins s σ H E I hf st hg
  subst hP hw hK
  obtain ⟨f0,f1,f2,f3,f4,f5⟩:=hf it (by simp)
  exact wpAny_pyNext_range_end (I.ok.hd hc) st (by have:n<=i:=hg;omega) fun h' eb=>⟨rfl,I.turned (t':=s.toks) (fun b o hb e=>eb b o hb e) f0 f1 f3 f4 f5⟩
 self:=fun _ _ _ _ _ st h=>wpAny_pyIter_rangeiter st h
end L2
namespace L2
open PySem PySem.Spec PyProof.Rows
section
variable {X:Cx} {tg:Expr}
def zwE (K:W.Frag) (tl:TE):TI:=fun σ H R=>tl σ H fun x H1=>∃ a,x=.ref a/\(∃ xs,SqL K H1 a xs)/\R (Itl K a) H1
theorem zT {l:Expr} {tl:TE} (hl:PE X l tl):PI X tg l (zwE X.K tl):=by
 intro pins s σ H R I h
 refine thn (hl pins s σ H _ I h) fun v s1 ⟨x,H1,I1,r1,q1⟩=>?_
 obtain ⟨a,e,⟨xs,hq⟩,q⟩:=q1
 subst e
 cases r1
 obtain ⟨its,rv,p,hz⟩:=I1.list hq
 refine wpAny_pyIter_list p.isList ?_
 refine ⟨s1.heap.objs.size,[s1.heap.objs.size],_,_,H1,rfl,I1.kept (t':=s1.toks) fun b o e=>ydj _ e,ztn a _,⟨_,ydl _ rfl,rfl,rfl⟩,fun b hb=>?_,q⟩
 have e:b=s1.heap.objs.size:=by simpa using hb
 subst e
 exact I1.zpF (ycu _) (I1.hok.fresh (ycu _))
theorem zpK {pins:List (Addr × Obj)} {σ:St} {H:Hp} {s:Shared} {R:It->Hp->Prop} {E:Value->Shared->Prop} {lo hi:Int} {t u v:Tok} {tk:Nat} (I:Inv X pins σ H s) (h1:-(2 ^ 62)<=lo) (h2:lo<2 ^ 62) (h3:-(2 ^ 62)<=hi) (h4:hi<2 ^ 62)
  (q:R (Itr lo (hi-lo).toNat) H):wpAny (model X.prog X.w) X.A (pyIter (.ref s.heap.objs.size)) (PIE X pins σ tg R) E { s with heap:=s.heap.push { cls:=.type "range", data:=.fields #[.int lo t,.int hi u,.int 1 v] },toks:=tk }:=by
 refine wpAny_pyIter_range (IsRange.new ..) (small_one h1 h2 h3 h4) ?_
 have I1:Inv X pins σ H { s with heap:=s.heap.push { cls:=.type "range", data:=.fields #[.int lo t,.int hi u,.int 1 v] },toks:=tk }:=I.kept fun b o e=>ydj _ e
 refine ⟨(s.heap.push { cls:=.type "range", data:=.fields #[.int lo t,.int hi u,.int 1 v] }).objs.size,[(s.heap.push { cls:=.type "range", data:=.fields #[.int lo t,.int hi u,.int 1 v] }).objs.size],_,_,H,rfl,
  I1.kept (t':=tk) fun b o e=>ydj _ e,zr8 _ lo (hi-lo).toNat,?_,fun b hb=>?_,q⟩
 ·have e1:lo+((0:Nat):Int)*1=lo:=by simp
  have e2:(((hi-lo).toNat:Nat):Int)-((0:Nat):Int)=Builtin.Range.rangeSize lo hi 1:=by rw[rangeSize_one];split <;> omega
  show IsRangeIter _ _ (lo+((0:Nat):Int)*1) ((((hi-lo).toNat:Nat):Int)-((0:Nat):Int)) 1
  rw[e1,e2]
  exact ydl _ rfl
 ·have e:b=(s.heap.push { cls:=.type "range", data:=.fields #[.int lo t,.int hi u,.int 1 v] }).objs.size:=by simpa using hb
  subst e
  exact I1.zpF (ycu _) (I1.hok.fresh (ycu _))
def zww (ta:TA):TI:=fun σ H R=>ta σ H fun vs H1=>∃ j:Int,vs=[.int j] /\ -(2 ^ 62)<=j/\j<2 ^ 62/\R (Itr 0 j.toNat) H1
def zwY (ta:TA):TI:=fun σ H R=>ta σ H fun vs H1=>∃ i j:Int,vs=[.int i,.int j]/\(-(2 ^ 62)<=i/\i<2 ^ 62 /\ -(2 ^ 62)<=j/\j<2 ^ 62)/\R (Itr i (j-i).toNat) H1
theorem zfn {a:Expr} {ta:TA} {p pos:Pos} (hg:Gl X "range") (hm:X.mg "range" = none) (ha:PA X [a] ta) (hs:starEach [a] X.env=[(false,eval a X.env)]:=by rfl):PI X tg (.Call (.Name "range" p) [a] [] pos) (zww ta):=by
 intro pins s σ H R I h
 refine Call_ (zjX I hg hm boot_range (PyProof.Rows.callWith_type1 (thn (ha pos pins s σ H _ I h) fun us s1 ⟨vs,H1,I1,r1,q1⟩=>?_) hs rfl))
 obtain ⟨j,e,q1,q2,q⟩:=q1
 subst e
 cases r1 with
 | cons r rr =>
  cases rr
  obtain ⟨t,rfl⟩:=r
  exact call_range_1 (zpK I1 (by omega) (by omega) q1 q2 (by simpa using q))
theorem zsx {a b:Expr} {ta:TA} {p pos:Pos} (hg:Gl X "range") (hm:X.mg "range" = none) (ha:PA X [a,b] ta) (hs:starEach [a,b] X.env=[(false,eval a X.env),(false,eval b X.env)]:=by rfl) (hs2:starEach [b] X.env=[(false,eval b X.env)]:=by rfl) :
  PI X tg (.Call (.Name "range" p) [a,b] [] pos) (zwY ta):=by
 intro pins s σ H R I h
 refine Call_ (zjX I hg hm boot_range (PyProof.Rows.callWith_type1 (thn (ha pos pins s σ H _ I h) fun us s1 ⟨vs,H1,I1,r1,q1⟩=>?_) (by rw[hs,hs2]) (by rw[hs2];rfl)))
 obtain ⟨i,j,e,⟨q1,q2,q3,q4⟩,q⟩:=q1
 subst e
 cases r1 with
 | cons r rr =>
  cases rr with
  | cons r' rr =>
   cases rr
   obtain ⟨t,rfl⟩:=r
   obtain ⟨t',rfl⟩:=r'
   exact call_range_2 (zpK I1 q1 q2 q3 q4 q)
def zxe (wi:TI) (g:TG) (tb:TS):TS:=fun D σ H=>wi σ H fun J H1=>∃ W:Nat->Nat->St->Hp->Prop,(∃ m,W 0 m σ H1)/\∀ i m σ H,W i m σ H ->
 (J.stop i H/\D.nx σ H)\/(J.go i H/\∃ N:St->Hp->Prop,(∀ σ' H',N σ' H'->∃ m',m'<m/\W (i+1) m' σ' H')/\∀ x H',J.yld i H x H'->g x σ H' fun σ2 H2=>tb { D with nx:=N,ct:=N,bk:=D.nx } σ2 H2)
noncomputable def ziH (fp:List Addr) (h:Heap):List (Addr × Obj):=fp.filterMap fun b=>(h.get? b).map fun o=>(b,o)
theorem zbB {fp:List Addr} {h:Heap} {b:Addr} {o:Obj} (hb:b∈fp) (e:h.get? b=some o):(b,o)∈ziH fp h:=List.mem_filterMap.mpr ⟨b,hb,by rw[e];rfl⟩
theorem zsP {fp:List Addr} {h:Heap} {p:Addr × Obj} (hp:p∈ziH fp h):p.1∈fp/\h.get? p.1=some p.2:=by
 obtain ⟨b,hb,e⟩:=List.mem_filterMap.mp hp
 cases q:h.get? b with
 | none=>rw[q] at e;cases e
 | some o =>
  rw[q] at e
  have e':(b,o)=p:=Option.some.inj e
  subst e'
  exact ⟨hb,q⟩
theorem Inv.pinned {pins:List (Addr × Obj)} {σ:St} {H:Hp} {s:Shared} {fp:List Addr} (I:Inv X pins σ H s) (hf:∀ b∈fp,za8 X pins H b) (ho:∀ b∈fp,∃ o,s.heap.get? b=some o/\∀ v,o.data≠.cell v):Inv X (pins++ziH fp s.heap) σ H s :=
 I.zm4 fun p hp=>(yac.mp hp).elim (fun z=>I.pin p (yah _ z)) fun z=>by
  obtain ⟨hb,e⟩:=zsP z
  obtain ⟨f0,f1,f2,_⟩:=hf p.1 hb
  obtain ⟨o,e',d⟩:=ho p.1 hb
  rw[e] at e';cases e'
  exact ⟨e,f0,f1,f2,d⟩
theorem Inv.unpinned {pins pl:List (Addr × Obj)} {σ:St} {H:Hp} {s:Shared} (I:Inv X (pins++pl) σ H s):Inv X pins σ H s:=I.zm4 fun p hp=>I.pin p (yah _ (ybr _ hp))
theorem za7 {iter:Expr} {body:List Stmt} {wi:TI} {g:TG} {tb:TS} {pos:Pos} (hp:PassesOwn (model X.prog X.w) X.A X.env X.xe) (hc:X.calm=true) (hi:PI X tg iter wi) (hg:PG X tg g) (hb:PSs X body tb)
  (hs:∀ x,foldedSetIterable iter X.env x=pure x:=by intro _;rfl):PS X (.For tg iter body [] pos) (zxe wi g tb):=by
 intro pins s σ H D I h
 refine wpAny_For (thn (hi pins s σ H _ I h) fun v s1 h1=>thn h1 fun itv s2 h2=>?_) hs
 obtain ⟨it,fp,tn,J,H2,e,I2,T,st2,f2,W,⟨m0,w0⟩,turn⟩:=h2
 subst e
 have stat:∀ {H':Hp},(∀ b∈fp,H' b=none)->∀ b∈fp,za8 X pins H' b:=fun hn b hb=>⟨hn b hb,(f2 b hb).2⟩
 refine codeAny_forLoop_any (fun n s'=>∃ i σ' H',Inv X pins σ' H' s'/\tn i s'.heap/\(∀ b∈fp,H' b=none)/\W i n σ' H') ?_ m0 ⟨0,σ,H2,I2,st2,fun b hb=>(f2 b hb).1,w0⟩
 rintro n s3 ⟨i,σ3,H3,I3,st3,fr3,w3⟩
 rcases turn i n σ3 H3 w3 with ⟨stop,qn⟩ | ⟨go,N,hN,step⟩
 ·refine wpAny_passesOwn hp (thn (T.done X rfl rfl rfl hc i pins s3 σ3 H3 X.xe I3 (stat fr3) st3 stop) fun r s4 ⟨hr,I4⟩=>?_)
  subst hr
  exact wpAny_execs_nil ⟨σ3,H3,I4,qn⟩
 ·refine wpAny_passesOwn hp (thn (T.item X rfl rfl rfl hc i pins s3 σ3 H3 X.xe I3 (stat fr3) st3 go) fun r s4 ⟨u,hr,h4⟩=>?_)
  subst hr
  refine wpAny_passesOwn hp (thn h4 fun _ s5 ⟨x,H5,I5,r5,y5,st5,fr5⟩=>?_)
  have I5':=I5.pinned (stat fr5) (T.obj _ _ st5)
  refine wpAny_passesOwn hp (thn (hg _ s5 σ3 H5 x u _ I5' r5 (step x H5 y5)) fun _ s6 ⟨σ6,H6,I6,q6⟩=>?_)
  refine wpAny_passesOwn hp (thn (hb _ s6 σ6 H6 _ I6 q6) fun f s7 q7=>?_)
  have again:∀ {σ7:St} {H7:Hp},Inv X (pins++ziH fp s5.heap) σ7 H7 s7->N σ7 H7->∃ m,m<n/\∃ i σ' H',Inv X pins σ' H' s7/\tn i s7.heap/\(∀ b∈fp,H' b=none)/\W i m σ' H':=fun {σ7 H7} I7 n7=>by
   obtain ⟨m',hm,w7⟩:=hN σ7 H7 n7
   refine ⟨m',hm,i+1,σ7,H7,I7.unpinned,T.keep _ _ _ st5 fun b hb o e=>(I7.pin (b,o) (yah _ (yah _ (zbB hb e)))).1,fun b hb=>?_,w7⟩
   obtain ⟨o,e,d⟩:=T.obj _ _ st5 b hb
   exact (I7.pin (b,o) (yah _ (yah _ (zbB hb e)))).2.1
  cases f with
  | next=>obtain ⟨σ7,H7,I7,n7⟩:=q7;exact again I7 n7
  | cont=>obtain ⟨σ7,H7,I7,n7⟩:=q7;exact again I7 n7
  | brk=>obtain ⟨σ7,H7,I7,q7⟩:=q7;exact ⟨σ7,H7,I7.unpinned,q7⟩
  | ret v=>obtain ⟨x7,σ7,H7,I7,r7,q7⟩:=q7;exact ⟨x7,σ7,H7,I7.unpinned,r7,q7⟩
end
theorem za5 {K:W.Frag} {a:Addr} {xs:List V} {g:TG} {tb:TS} {D:Ends} {σ:St} {H:Hp} (Pv:Nat->St->Hp->Prop) (h0:Pv 0 σ H) (hl:∀ i σ H,i<=xs.length->Pv i σ H->SqL K H a xs)
  (hs:∀ i x σ H,xs[i]?=some x->Pv i σ H->g x σ H fun σ2 H2=>tb { D with nx:=Pv (i+1),ct:=Pv (i+1),bk:=D.nx } σ2 H2) (hd:∀ σ H,Pv xs.length σ H->D.nx σ H) :
  ∃ W:Nat->Nat->St->Hp->Prop,(∃ m,W 0 m σ H)/\∀ i m σ H,W i m σ H ->
   ((Itl K a).stop i H/\D.nx σ H)\/((Itl K a).go i H/\∃ N:St->Hp->Prop,(∀ σ' H',N σ' H'->∃ m',m'<m/\W (i+1) m' σ' H')/\∀ x H',(Itl K a).yld i H x H'->g x σ H' fun σ2 H2=>tb { D with nx:=N,ct:=N,bk:=D.nx } σ2 H2):=by
 refine ⟨fun i m σ H=>m=xs.length-i/\i<=xs.length/\Pv i σ H,⟨xs.length,by simp,ycy _,h0⟩,?_⟩
 rintro i m σ H ⟨rfl,hi,p⟩
 have q:=hl i σ H hi p
 by_cases hlt:i<xs.length
 ·refine .inr ⟨⟨xs,xs[i],q,by simp[hlt]⟩,Pv (i+1),fun σ' H' p'=>⟨xs.length-(i+1),by omega,rfl,hlt,p'⟩,fun x H' y=>?_⟩
  obtain ⟨e,y⟩:=y
  subst e
  exact hs i x σ _ (y xs q) p
 ·have e:i=xs.length:=by omega
  subst e
  exact .inl ⟨⟨xs,q,ycu _⟩,hd σ H p⟩
theorem zhn {lo:Int} {n:Nat} {g:TG} {tb:TS} {D:Ends} {σ:St} {H:Hp} (Pv:Nat->St->Hp->Prop) (h0:Pv 0 σ H)
  (hs:∀ i σ H,i<n->Pv i σ H->g (.int (lo+i)) σ H fun σ2 H2=>tb { D with nx:=Pv (i+1),ct:=Pv (i+1),bk:=D.nx } σ2 H2) (hd:∀ σ H,Pv n σ H->D.nx σ H) :
  ∃ W:Nat->Nat->St->Hp->Prop,(∃ m,W 0 m σ H)/\∀ i m σ H,W i m σ H ->
   ((Itr lo n).stop i H/\D.nx σ H)\/((Itr lo n).go i H/\∃ N:St->Hp->Prop,(∀ σ' H',N σ' H'->∃ m',m'<m/\W (i+1) m' σ' H')/\∀ x H',(Itr lo n).yld i H x H'->g x σ H' fun σ2 H2=>tb { D with nx:=N,ct:=N,bk:=D.nx } σ2 H2):=by
 refine ⟨fun i m σ H=>m=n-i/\i<=n/\Pv i σ H,⟨n,by simp,ycy _,h0⟩,?_⟩
 rintro i m σ H ⟨rfl,hi,p⟩
 by_cases hlt:i<n
 ·refine .inr ⟨hlt,Pv (i+1),fun σ' H' p'=>⟨n-(i+1),by omega,rfl,hlt,p'⟩,fun x H' y=>?_⟩
  obtain ⟨e,y⟩:=y
  subst e y
  exact hs i σ _ hlt p
 ·have e:i=n:=by omega
  subst e
  exact .inl ⟨ycu _,hd σ H p⟩
end L2
namespace L2
open PySem PySem.Spec PyProof.Rows
noncomputable abbrev R2:=V->V->Hp->VK->Prop
def OpR (X:Cx) (f:Value->Value->Sem Value) (r:R2):Prop :=
 ∀ (pins:List (Addr × Obj)) (s:Shared) (σ:St) (H:Hp) (x y:V) (v u:Value) (Q:VK),Inv X pins σ H s->RelV x v->RelV y u->r x y H Q ->
  wpAny (model X.prog X.w) X.A (f v u) (EP X pins σ Q) X.xe s
def UnR (X:Cx) (f:Value->Sem Value) (r:V->Hp->VK->Prop):Prop :=
 ∀ (pins:List (Addr × Obj)) (s:Shared) (σ:St) (H:Hp) (x:V) (v:Value) (Q:VK),Inv X pins σ H s->RelV x v->r x H Q ->
  wpAny (model X.prog X.w) X.A (f v) (EP X pins σ Q) X.xe s
def zbD (X:Cx) (f:Value) (r:List V->Hp->VK->Prop):Prop :=
 ∀ (pins:List (Addr × Obj)) (s:Shared) (σ:St) (H:Hp) (xs:List V) (us:List Value) (Q:VK),Inv X pins σ H s->Vals xs us->r xs H Q ->
  wpAny (model X.prog X.w) X.A (call f us) (EP X pins σ Q) X.xe s
def tOp (r:R2) (ta tb:TE):TE:=fun σ H Q=>ta σ H fun x H1=>tb σ H1 fun y H2=>r x y H2 Q
def tUn (r:V->Hp->VK->Prop) (ta:TE):TE:=fun σ H Q=>ta σ H fun x H1=>r x H1 Q
def rI (C:Int->Int->Prop) (g:Int->Int->V):R2:=fun x y H Q=>∃ i j,x=.int i/\y=.int j/\C i j/\Q (g i j) H
def rI0 (g:Int->Int->V):R2:=fun x y H Q=>∃ i j,x=.int i/\y=.int j/\Q (g i j) H
noncomputable def rU (g:Int->V):V->Hp->VK->Prop:=fun x H Q=>∃ i,x=.int i/\Q (g i) H
section
variable {X:Cx} {a b c:Expr} {ta tb tc:TE} {pos:Pos}
theorem ztO (ha:PE X a ta) (hb:PE X b tb) {pins:List (Addr × Obj)} {s:Shared} {σ:St} {H:Hp} {R:V->V->Hp->Prop} (I:Inv X pins σ H s)
  (h:ta σ H fun x H1=>tb σ H1 fun y H2=>R x y H2) {Q:Value->Shared->Prop} {f:Value->Value->Sem Value}
  (hf:∀ v u s2 x y H2,Inv X pins σ H2 s2->RelV x v->RelV y u->R x y H2->wpAny (model X.prog X.w) X.A (f v u) Q X.xe s2) :
  wpAny (model X.prog X.w) X.A (eval a X.env) (fun v s₁=>wpAny (model X.prog X.w) X.A (eval b X.env) (fun u s₂=>wpAny (model X.prog X.w) X.A (f v u) Q X.xe s₂) X.xe s₁) X.xe s:=by
 refine thn (ha pins s σ H _ I h) fun v s1 ⟨x,H1,I1,r1,q1⟩=>?_
 refine thn (hb pins s1 σ H1 _ I1 q1) fun u s2 ⟨y,H2,I2,r2,q2⟩=>?_
 exact hf v u s2 x y H2 I2 r1 r2 q2
theorem zh {op:Operator} {r:R2} (ho:OpR X (binaryOp op) r) (ha:PE X a ta) (hb:PE X b tb):PE X (.BinOp a op b pos) (tOp r ta tb):=by
 intro pins s σ H Q I h
 exact wpAny_BinOp (ztO ha hb I h fun v u s2 x y H2 I2 rx ry q=>ho pins s2 σ H2 x y v u Q I2 rx ry q)
theorem zhf {op:UnaryOp} {r:V->Hp->VK->Prop} (ho:UnR X (unaryOp op) r) (ha:PE X a ta):PE X (.UnaryOp op a pos) (tUn r ta):=by
 intro pins s σ H Q I h
 exact UnaryOp_ (thn (ha pins s σ H _ I h) fun v s1 ⟨x,H1,I1,r1,q1⟩=>ho pins s1 σ H1 x v Q I1 r1 q1)
theorem opI {f:Value->Value->Sem Value} {C:Int->Int->Prop} {g:Int->Int->Int}
  (rule:∀ (i j:Int) (t u:Tok) (s:Shared) (Q:Value->Shared->Prop) (E:Value->Shared->Prop),C i j->Q (.int (g i j) s.toks) { s with toks:=s.toks+1 }->wpAny (model X.prog X.w) X.A (f (.int i t) (.int j u)) Q E s) :
  OpR X f (rI C fun i j=>.int (g i j)):=by
 intro pins s σ H x y v u Q I rx ry h
 obtain ⟨i,j,rfl,rfl,hc,q⟩:=h
 obtain ⟨t,rfl⟩:=rx
 obtain ⟨t',rfl⟩:=ry
 exact rule i j t t' s _ _ hc ⟨.int (g i j),H,I.tok _,⟨_,rfl⟩,q⟩
theorem zv3 {f:Value->Value->Sem Value} {g:Int->Int->Int}
  (rule:∀ (i j:Int) (t u:Tok) (s:Shared) (Q:Value->Shared->Prop) (E:Value->Shared->Prop),Q (.int (g i j) s.toks) { s with toks:=s.toks+1 }->wpAny (model X.prog X.w) X.A (f (.int i t) (.int j u)) Q E s) :
  OpR X f (rI0 fun i j=>.int (g i j)):=by
 intro pins s σ H x y v u Q I rx ry h
 obtain ⟨i,j,rfl,rfl,q⟩:=h
 obtain ⟨t,rfl⟩:=rx
 obtain ⟨t',rfl⟩:=ry
 exact rule i j t t' s _ _ ⟨.int (g i j),H,I.tok _,⟨_,rfl⟩,q⟩
theorem zrU {f:Value->Value->Sem Value} {g:Int->Int->Bool}
  (rule:∀ (i j:Int) (t u:Tok) (s:Shared) (Q:Value->Shared->Prop) (E:Value->Shared->Prop),Q (.bool (g i j)) s->wpAny (model X.prog X.w) X.A (f (.int i t) (.int j u)) Q E s) :
  OpR X f (rI0 fun i j=>.bl (g i j)):=by
 intro pins s σ H x y v u Q I rx ry h
 obtain ⟨i,j,rfl,rfl,q⟩:=h
 obtain ⟨t,rfl⟩:=rx
 obtain ⟨t',rfl⟩:=ry
 exact rule i j t t' s _ _ ⟨.bl (g i j),H,I,rfl,q⟩
def CDiv (i j:Int):Prop:=0<j/\j<1073741824
def CPow (i j:Int):Prop:=0<=j/\j<=1000000/\i.natAbs<2 ^ 64
def CMul (i j:Int):Prop:=(-(2 ^ 64)<i/\i<2 ^ 64)\/(-(2 ^ 64)<j/\j<2 ^ 64)
theorem CMul.ok {i j:Int} (h:CMul i j):IntMulOk i j:=by
 rcases h with ⟨h1,h2⟩ | ⟨h1,h2⟩
 ·exact .of_left (intBits_le_64 h1 h2)
 ·exact .of_right (intBits_le_64 h1 h2)
theorem zy:OpR X (binaryOp .Add) (rI0 fun i j=>.int (i+j)):=zv3 fun _ _ _ _ _ _ _ q=>add_int q
theorem zW:OpR X (binaryOp .Sub) (rI0 fun i j=>.int (i-j)):=zv3 fun _ _ _ _ _ _ _ q=>sub_int q
theorem zat:OpR X (binaryOp .Mult) (rI CMul fun i j=>.int (i*j)):=opI fun _ _ _ _ _ _ _ hc q=>mul_int q hc.ok
theorem za2:OpR X (binaryOp .FloorDiv) (rI CDiv fun i j=>.int (i / j)):=opI fun i j _ _ _ _ _ hc q=>by
 have h1:(0:Int)<j:=hc.1
 have h2:j<1073741824:=hc.2
 exact floordiv_int (by omega) (by rw[Int.fdiv_eq_ediv_of_nonneg i (by omega)];exact q) (.inl (PyProof.noPylong_small (by omega)))
theorem zI:OpR X (binaryOp .Mod) (rI (fun _ j=>0<j) fun i j=>.int (i % j)):=opI fun i j _ _ _ _ _ hc q=>by
 have h1:(0:Int)<j:=hc
 exact mod_int' (by omega) (by rw[Int.fmod_eq_emod_of_nonneg i (by omega)];exact q)
theorem zwc:OpR X (binaryOp .Pow) (rI CPow fun i j=>.int (i ^ j.toNat)):=opI fun _ _ _ _ _ _ _ hc q=>pow_int_small hc.1 hc.2.1 hc.2.2 q
theorem unI {f:Value->Sem Value} {g:Int->Int}
  (rule:∀ (i:Int) (t:Tok) (s:Shared) (Q:Value->Shared->Prop) (E:Value->Shared->Prop),Q (.int (g i) s.toks) { s with toks:=s.toks+1 }->wpAny (model X.prog X.w) X.A (f (.int i t)) Q E s) :
  UnR X f (rU fun i=>.int (g i)):=by
 intro pins s σ H x v Q I rx h
 obtain ⟨i,rfl,q⟩:=h
 obtain ⟨t,rfl⟩:=rx
 exact rule i t s _ _ ⟨.int (g i),H,I.tok _,⟨_,rfl⟩,q⟩
theorem zfo:UnR X (unaryOp .USub) (rU fun i=>.int (-i)):=unI fun _ _ _ _ _ q=>neg_int q
end
noncomputable def scal:V->V->Bool
 | .non,.non=>true | .non,.int _=>true | .int _,.non=>true | .non,.bl _=>true | .bl _,.non=>true | .non,.str _=>true | .str _,.non=>true
 | .int _,.int _=>true | .bl _,.bl _=>true | .str _,.str _=>true | .byt _,.byt _=>true
 | .int _,.str _=>true | .str _,.int _=>true | .bl _,.str _=>true | .str _,.bl _=>true
 | _,_=>false
def rEq:R2:=fun x y H Q=>scal x y=true/\Q (.bl (decide (x=y))) H
def rNe:R2:=fun x y H Q=>scal x y=true/\Q (.bl (!decide (x=y))) H
theorem zrx {i j:Int}:decide (V.int i=V.int j)=(i == j):=by
 rw[Bool.eq_iff_iff]
 simp
theorem zsO {i j:Bool}:decide (V.bl i=V.bl j)=(i == j):=by
 rw[Bool.eq_iff_iff]
 simp
theorem zro {i j:Str}:decide (V.str i=V.str j)=(i == j):=by
 rw[Bool.eq_iff_iff]
 simp
theorem zrw {i j:Array UInt8}:decide (V.byt i=V.byt j)=(i.toList == j.toList):=by
 rw[Bool.eq_iff_iff]
 cases i
 cases j
 simp
section
variable {X:Cx} {a b c:Expr} {ta tb tc:TE} {pos:Pos}
theorem zai {pins:List (Addr × Obj)} {σ:St} {H:Hp} {s:Shared} {Q:VK} {k k':Bool} (I:Inv X pins σ H s) (q:Q (.bl k) H) (e:k=k'):EP X pins σ Q (.bool k') s:=by
 subst e
 exact ⟨.bl k,H,I,rfl,q⟩
theorem zaa:OpR X (compareOp .Eq) rEq:=by
 intro pins s σ H x y v u Q I rx ry h
 obtain ⟨hs,q⟩:=h
 cases x with
 | non =>
  cases rx
  cases y with
  | non=>cases ry;exact PySem.EqNone.eq_none_none (zai I q (by simp))
  | bl j=>cases ry;exact PySem.EqNone.eq_none_bool (zai I q (by simp))
  | int j=>obtain ⟨t',rfl⟩:=ry;exact PySem.EqNone.eq_none_int (zai I q (by simp))
  | str j=>obtain ⟨t',rfl⟩:=ry;exact PySem.EqNone.eq_none_str (zai I q (by simp))
  | _=>exact absurd (show false=true from hs) Bool.false_ne_true
 | bl i =>
  cases rx
  cases y with
  | non=>cases ry;exact PySem.EqNone.eq_bool_none (zai I q (by simp))
  | bl j=>cases ry;exact eq_bool (zai I q zsO)
  | str j=>obtain ⟨t',rfl⟩:=ry;exact PySem.EqMixed.eq_bool_str (zai I q (by simp))
  | _=>exact absurd (show false=true from hs) Bool.false_ne_true
 | int i =>
  obtain ⟨t,rfl⟩:=rx
  cases y with
  | non=>cases ry;exact PySem.EqNone.eq_int_none (zai I q (by simp))
  | int j=>obtain ⟨t',rfl⟩:=ry;exact eq_int (zai I q zrx)
  | str j=>obtain ⟨t',rfl⟩:=ry;exact PySem.EqMixed.eq_int_str (zai I q (by simp))
  | _=>exact absurd (show false=true from hs) Bool.false_ne_true
 | str i =>
  obtain ⟨t,rfl⟩:=rx
  cases y with
  | non=>cases ry;exact PySem.EqNone.eq_str_none (zai I q (by simp))
  | bl j=>cases ry;exact PySem.EqMixed.eq_str_bool (zai I q (by simp))
  | int j=>obtain ⟨t',rfl⟩:=ry;exact PySem.EqMixed.eq_str_int (zai I q (by simp))
  | str j=>obtain ⟨t',rfl⟩:=ry;exact eq_str (zai I q zro)
  | _=>exact absurd (show false=true from hs) Bool.false_ne_true
 | byt i =>
  obtain ⟨t,rfl⟩:=rx
  cases y with
  | byt j=>obtain ⟨t',rfl⟩:=ry;exact PySem.W.eq_bytes (zai I q zrw)
  | _=>exact absurd (show false=true from hs) Bool.false_ne_true
 | _=>cases y <;> exact absurd (show false=true from hs) Bool.false_ne_true
theorem zwT:OpR X (compareOp .NotEq) rNe:=by
 intro pins s σ H x y v u Q I rx ry h
 obtain ⟨hs,q⟩:=h
 cases x with
 | non =>
  cases rx
  cases y with
  | non=>cases ry;exact PySem.EqNone.ne_none_none (zai I q (by simp))
  | bl j=>cases ry;exact PySem.EqNone.ne_none_bool (zai I q (by simp))
  | int j=>obtain ⟨t',rfl⟩:=ry;exact PySem.EqNone.ne_none_int (zai I q (by simp))
  | str j=>obtain ⟨t',rfl⟩:=ry;exact PySem.EqNone.ne_none_str (zai I q (by simp))
  | _=>exact absurd (show false=true from hs) Bool.false_ne_true
 | bl i =>
  cases rx
  cases y with
  | non=>cases ry;exact PySem.EqNone.ne_bool_none (zai I q (by simp))
  | bl j=>cases ry;exact ne_bool (zai I q (congrArg not zsO))
  | str j=>obtain ⟨t',rfl⟩:=ry;exact PySem.EqMixed.ne_bool_str (zai I q (by simp))
  | _=>exact absurd (show false=true from hs) Bool.false_ne_true
 | int i =>
  obtain ⟨t,rfl⟩:=rx
  cases y with
  | non=>cases ry;exact PySem.EqNone.ne_int_none (zai I q (by simp))
  | int j=>obtain ⟨t',rfl⟩:=ry;exact ne_int (zai I q (congrArg not zrx))
  | str j=>obtain ⟨t',rfl⟩:=ry;exact PySem.EqMixed.ne_int_str (zai I q (by simp))
  | _=>exact absurd (show false=true from hs) Bool.false_ne_true
 | str i =>
  obtain ⟨t,rfl⟩:=rx
  cases y with
  | non=>cases ry;exact PySem.EqNone.ne_str_none (zai I q (by simp))
  | bl j=>cases ry;exact PySem.EqMixed.ne_str_bool (zai I q (by simp))
  | int j=>obtain ⟨t',rfl⟩:=ry;exact PySem.EqMixed.ne_str_int (zai I q (by simp))
  | str j=>obtain ⟨t',rfl⟩:=ry;exact ne_str (zai I q (congrArg not zro))
  | _=>exact absurd (show false=true from hs) Bool.false_ne_true
 | byt i =>
  obtain ⟨t,rfl⟩:=rx
  cases y with
  | byt j=>obtain ⟨t',rfl⟩:=ry;exact PySem.W.ne_bytes (zai I q (congrArg not zrw))
  | _=>exact absurd (show false=true from hs) Bool.false_ne_true
 | _=>cases y <;> exact absurd (show false=true from hs) Bool.false_ne_true
theorem zgd:OpR X (compareOp .Lt) (rI0 fun i j=>.bl (decide (i<j))):=zrU fun _ _ _ _ _ _ _ q=>lt_int q
theorem zkY:OpR X (compareOp .LtE) (rI0 fun i j=>.bl (decide (i<=j))):=zrU fun _ _ _ _ _ _ _ q=>le_int q
theorem zi6:OpR X (compareOp .Gt) (rI0 fun i j=>.bl (decide (j<i))):=zrU fun _ _ _ _ _ _ _ q=>gt_int q
theorem zr9:OpR X (compareOp .GtE) (rI0 fun i j=>.bl (decide (j<=i))):=zrU fun _ _ _ _ _ _ _ q=>ge_int q
theorem nomark (b:Expr) {op:CmpOp} (h:op≠.In:=by decide) (h2:op≠.NotIn:=by decide):behindInMarks op b=false:=by
 have e1:(op == CmpOp.In)=false:=by cases op <;> first | rfl | exact absurd rfl h
 have e2:(op == CmpOp.NotIn)=false:=by cases op <;> first | rfl | exact absurd rfl h2
 cases b <;> simp[behindInMarks,e1,e2]
theorem zaK {op:CmpOp} {r:R2} (ho:OpR X (compareOp op) r) (ha:PE X a ta) (hb:PE X b tb) (hm:behindInMarks op b=false):PE X (.Compare a [op] [b] pos) (tOp r ta tb):=by
 intro pins s σ H Q I h
 exact wpAny_Compare1 (ztO ha hb I h fun v u s2 x y H2 I2 rx ry q=>ho pins s2 σ H2 x y v u Q I2 rx ry q) hm
def zwz (t:TE):TT:=fun σ H Q=>t σ H fun x H'=>∃ k,x=.bl k/\Q k H'
theorem zw {op:CmpOp} {r:R2} (ho:OpR X (compareOp op) r) (ha:PE X a ta) (hb:PE X b tb) (hm:behindInMarks op b=false):PT X (.Compare a [op] [b] pos) (zwz (tOp r ta tb)):=by
 intro pins s σ H Q I h
 refine wpAny_isTrue_Compare1 (thn (ha pins s σ H _ I h) fun v s1 ⟨x,H1,I1,r1,q1⟩=>thn (hb pins s1 σ H1 _ I1 q1) fun u s2 ⟨y,H2,I2,r2,q2⟩ =>
  thn (ho pins s2 σ H2 x y v u _ I2 r1 r2 q2) fun c s3 ⟨z,H3,I3,r3,k,e,q3⟩=>?_) hm
 subst e
 cases r3
 exact wpAny_truthy_bool ⟨H3,I3,q3⟩
def zvE (r r':R2) (ta tb tc:TE):TE:=fun σ H Q=>ta σ H fun x H1=>tb σ H1 fun y H2=>r x y H2 fun z H3=>∃ k,z=.bl k /\
 (if k=true then tc σ H3 fun w' H4=>r' y w' H4 Q else Q (.bl false) H3)
theorem ztS {op op':CmpOp} {r r':R2} (ho:OpR X (compareOp op) r) (ho':OpR X (compareOp op') r') (ha:PE X a ta) (hb:PE X b tb) (hc:PE X c tc)
  (hm:lastMarks [op,op'] [b,c]=false:=by with_unfolding_all rfl):PE X (.Compare a [op,op'] [b,c] pos) (zvE r r' ta tb tc):=by
 intro pins s σ H Q I h
 refine Compare_chain (thn (ha pins s σ H _ I h) fun v s1 ⟨x,H1,I1,r1,q1⟩=>chain_link (thn (hb pins s1 σ H1 _ I1 q1) fun u s2 ⟨y,H2,I2,r2,q2⟩ =>
  thn (ho pins s2 σ H2 x y v u _ I2 r1 r2 q2) fun d s3 ⟨z,H3,I3,r3,k,e,q3⟩=>?_)) hm
 subst e
 cases r3
 refine wpAny_truthy_bool ?_
 cases k with
 | false=>exact ite_ff ⟨.bl false,H3,I3,rfl,q3⟩
 | true=>exact ite_tt (chain_last (thn (hc pins s3 σ H3 _ I3 q3) fun w' s4 ⟨z',H4,I4,r4,q4⟩=>ho' pins s4 σ H4 y z' u w' Q I4 r2 r4 q4))
theorem zmh:(sizeLine:Nat)<2 ^ 63:=by rw[sizeLine_eq];decide
theorem vals1 {x:V} {us:List Value} (r:Vals [x] us):∃ u,us=[u]/\RelV x u:=by
 cases r with
 | cons r1 r2=>cases r2;exact ⟨_,rfl,r1⟩
theorem vals2 {x y:V} {us:List Value} (r:Vals [x,y] us):∃ u w',us=[u,w']/\RelV x u/\RelV y w':=by
 cases r with
 | cons r1 r2 =>
  cases r2 with
  | cons r3 r4=>cases r4;exact ⟨_,_,rfl,r1,r3⟩
theorem zbc (hc:X.calm=true):zbD X (.builtin "max") (fun xs H Q=>∃ i j,xs=[.int i,.int j]/\Q (.int (if j > i then j else i)) H):=by
 intro pins s σ H xs us Q I r h
 obtain ⟨i,j,rfl,q⟩:=h
 obtain ⟨u,w',rfl,⟨t,rfl⟩,⟨t',rfl⟩⟩:=vals2 r
 refine max_two_ints (I.ok.hd hc) fun h' tk k=>⟨_,H,I.kept k,?_,q⟩
 by_cases hj:j > i
 ·rw[if_pos hj,if_pos hj];exact ⟨_,rfl⟩
 ·rw[if_neg hj,if_neg hj];exact ⟨_,rfl⟩
theorem za1 (hc:X.calm=true):zbD X (.builtin "min") (fun xs H Q=>∃ i j,xs=[.int i,.int j]/\Q (.int (if j<i then j else i)) H):=by
 intro pins s σ H xs us Q I r h
 obtain ⟨i,j,rfl,q⟩:=h
 obtain ⟨u,w',rfl,⟨t,rfl⟩,⟨t',rfl⟩⟩:=vals2 r
 refine min_two_ints (I.ok.hd hc) fun h' tk k=>⟨_,H,I.kept k,?_,q⟩
 by_cases hj:j<i
 ·rw[if_pos hj,if_pos hj];exact ⟨_,rfl⟩
 ·rw[if_neg hj,if_neg hj];exact ⟨_,rfl⟩
theorem zfm:zbD X (.type "int") (fun xs H Q=>(∃ i,xs=[.int i]/\Q (.int i) H)\/∃ k,xs=[.bl k]/\Q (.int (if k then 1 else 0)) H):=by
 intro pins s σ H xs us Q I r h
 rcases h with ⟨i,rfl,q⟩ | ⟨k,rfl,q⟩
 ·obtain ⟨u,rfl,t,rfl⟩:=vals1 r
  exact call_int_int ⟨.int i,H,I,⟨_,rfl⟩,q⟩
 ·obtain ⟨u,rfl,r1⟩:=vals1 r
  cases r1
  exact call_int_bool ⟨.int (if k then 1 else 0),H,I.tok _,⟨_,rfl⟩,q⟩
end
end L2
namespace L2
open PySem PySem.Spec PyProof.Rows
structure zlU (h:Heap) (x dx C:Addr) (mA:Str->Option Value):Prop where
 obj:h.get? x=some (PySem.W.instObj C dx)
 ns:h.Ns1 dx mA
 ne:dx≠x
theorem zsW {h:Heap} {dx:Addr} {mA:Str->Option Value} (n:h.Ns1 dx mA):∃ od,h.get? dx=some od/\∀ name,PySem.W.lookIn name od=some (mA name):=by
 obtain ⟨o,es,ep,ho,hd,hk,_,hm⟩:=n
 refine ⟨o,ho,fun name=>?_⟩
 have e:=hm name
 unfold nsFind findBy at e
 rw[<-Array.find?_toList] at e
 unfold PySem.W.lookIn
 rw[hd]
 dsimp only
 split
 ·rename_i y q
  rw[q] at e
  exact congrArg some e
 ·rename_i q
  rw[q] at e
  have a:es.toList.any (·.refKey)=false:=by
   rw[List.any_eq_false]
   intro y hy
   obtain ⟨z,t,hkey⟩:=hk y (Array.mem_toList_iff.mp hy)
   simp[DictEntry.refKey,hkey]
  have a':¬ es.toList.any (·.refKey)=true:=by rw[a];exact Bool.false_ne_true
  rw[if_neg a']
  exact congrArg some e
theorem zlU.look {h:Heap} {x dx C:Addr} {mA:Str->Option Value} (I:zlU h x dx C mA):∃ od,PySem.W.InstAt h x (PySem.W.instObj C dx) C (some od)/\∀ name,PySem.W.lookIn name od=some (mA name) :=
 let ⟨od,ho,hl⟩:=zsW I.ns
 ⟨od,⟨I.obj,rfl,rfl,ho⟩,hl⟩
section
variable {prog:Program} {w:World} {A:Around} {E:Value->Shared->Prop} {s:Shared} {K:W.Frag} {x dx C f:Addr} {mA:Str->Option Value} {name:Str} {v:Value}
theorem get_map {expr:Bool} {Q:Value->Shared->Prop} (X:K.In s.heap) (I:zlU s.heap x dx C mA) (hg:PySem.W.plainGet K C name=true) (hh:PySem.W.hasDictIn K C=true)
  (ha:PySem.W.findIn K (.ref C) name=some none) (hv:mA name=some v) (hv':PySem.W.handedIn v=true) (h:Q v { s with toks:=s.toks+1 }) :
  wpAny (model prog w) A (getAttr (.ref x) name expr) Q E s:=by
 obtain ⟨od,J,hl⟩:=I.look
 exact PySem.W.get_value X J (PySem.W.plainGet_of hg).1 (PySem.W.findObj_own hh ha rfl (by rw[hl,hv])) hv' h
theorem ztX {pl:Sem Bool} {Q:Value × List Value->Shared->Prop} (X:K.In s.heap) (I:zlU s.heap x dx C mA) (hg:PySem.W.plainGet K C name=true)
  (hf:PySem.W.findIn K (.ref C) name=some (some (.ref f))) (ht:PySem.W.isFn K (.ref f)=true) (hv:mA name=none) (h:Q (.ref f,[.ref x]) s) :
  wpAny (model prog w) A (getMethod (.ref x) name pl) Q E s:=by
 obtain ⟨od,J,hl⟩:=I.look
 exact PySem.W.method_fn X J (PySem.W.plainGet_of hg).1 (PySem.W.plainGet_of hg).2 hf (beq_iff_eq.mp ht) (by show (PySem.W.lookIn name od).map (·.isSome)=some false;rw[hl,hv];rfl) h
theorem zuZ {ns:List Str} {Q:Unit->Shared->Prop} (X:K.In s.heap) (I:zlU s.heap x dx C mA)
  (hs:PySem.W.findIn K (.ref C) "__setattr__" = some (some (.builtin "object.__setattr__"))) (hp:PySem.W.plainOver K C=true) (ht:PySem.W.takerIn K C name=some none) (hh:PySem.W.hasDictIn K C=true)
  (hw:PySem.Within mA ns) (hsz:ns.length<=sizeLine)
  (h:∀ h',zlU h' x dx C (fun y=>if y=name then some v else mA y)->Heap.SameBut dx s.heap h'->Q () { s with heap:=h',toks:=s.toks+2 }) :
  wpAny (model prog w) A (setAttr (.ref x) name v) Q E s:=by
 obtain ⟨od,J,hl⟩:=I.look
 refine PySem.W.set_plain X J hs (PySem.W.osa_open (s:={ s with toks:=s.toks+1 }) (r:=none) X J hp ht fun b=>?_)
 obtain ⟨cd,hc,hd'⟩:=PySem.W.any_some hh
 have hx:s.heap.get? x=some ⟨.ref C,some dx,.plain,#[]⟩:=I.obj
 refine wpAny_bind (wpAny_pure (wpAny_bind (wpAny_bind (wpAny_loadPart hx (wpAny_bind (PySem.W.Looks.here (s:={ s with toks:=s.toks+1 }) (PySem.W.looks_clsIn X hc) ?_))))))
 rw[hd']
 refine wpAny_pure (a:=some dx) (wpAny_bind (wpAny_pure (wpAny_bind ?_)))
 refine wpAny_nsSet1 (s:={ s with toks:=s.toks+1 }) I.ns fun h' hn2 hs2=>?_
 obtain ⟨oD,esD,epD,hoD,hdD,hcD⟩:=hn2.count (PySem.Within.cons name v hw)
 refine wpAny_bind (wpAny_lookBehind hoD (by rw[hdD];exact pastItsLine_dict (ycz hcD (by rw[ybg];omega))) ?_)
 exact wpAny_pure (h _ ⟨(hs2.2 _ (Ne.symm I.ne)).trans I.obj,hn2,I.ne⟩ hs2)
theorem ztD {R:Result->Shared->Prop} {vs:List Value} {kw:List (Str × Value)} (X:K.In s.heap) (hm:PySem.W.makesIn K C=true)
  (hi:PySem.W.findIn K (.ref C) "__init__" = some (some (.ref f))) (hf:PySem.W.typeIn K (.ref f)=some (.type "function"))
  (h:codeAny (model prog w) (A.under (.builtin "type.__call__" ⟨.ref C::vs,kw⟩)) (.call (.ref f) ⟨.ref (s.heap.objs.size+1)::vs,kw⟩) (PySem.W.InitBack (s.heap.objs.size+1) R)
   { s with heap:=(s.heap.push PySem.W.emptyDict).push (PySem.W.instObj C s.heap.objs.size) }) :
  codeAny (model prog w) A (.call (.ref C) ⟨vs,kw⟩) R s:=by
 obtain ⟨hh,g,d,t,os⟩:=s
 exact PySem.W.make_core (PySem.W.makes_of X hm) (PySem.W.looks_findIn X hi) (fun self=>PySem.W.bind_fn X self hf) (.inl rfl) h
theorem zsD {R:Result->Shared->Prop} (X:K.In s.heap) (hm:PySem.W.makesIn K C=true)
  (hi:PySem.W.findIn K (.ref C) "__init__" = some (some (.builtin "object.__init__")))
  (hb:∀ self,PySem.W.Looks (model prog w) s.heap (bindSpecial (.builtin "object.__init__") self) (.builtin "object.__init__", [self]))
  (h:codeAny (model prog w) (A.under (.builtin "type.__call__" ⟨[.ref C],[]⟩)) (.call (.builtin "object.__init__") ⟨[.ref (s.heap.objs.size+1)],[]⟩) (PySem.W.InitBack (s.heap.objs.size+1) R)
   { s with heap:=(s.heap.push PySem.W.emptyDict).push (PySem.W.instObj C s.heap.objs.size) }) :
  codeAny (model prog w) A (.call (.ref C) ⟨[],[]⟩) R s:=by
 obtain ⟨hh,g,d,t,os⟩:=s
 exact PySem.W.make_core (PySem.W.makes_of X hm) (PySem.W.looks_findIn X hi) hb (.inr ⟨rfl,rfl⟩) h
end
noncomputable def zaI (f:Str) (v:V):List (Str × V)->List (Str × V)
 | []=>[(f,v)]
 | (g,x)::r=>if g=f then (g,v)::r else (g,x)::zaI f v r
theorem zlq (f g:Str) (v:V):∀ fs:List (Str × V),(zaI f v fs).lookup g=if g=f then some v else fs.lookup g
 | []=>by
  show yby g [(f,v)]=_
  by_cases h:g=f
  ·have hb:(g == f)=true:=beq_iff_eq.mpr h
   simp only[yby,hb,if_pos h]
  ·have hb:(g == f)=false:=beq_eq_false_iff_ne.mpr h
   simp only[yby,hb,if_neg h]
 | (k,x)::r=>by
  have ih:=zlq f g v r
  rw[show zaI f v ((k,x)::r)=(if k=f then (k,v)::r else (k,x)::zaI f v r) from rfl]
  by_cases hk:k=f
  ·rw[if_pos hk]
   by_cases h:g=k
   ·have hb:(g == k)=true:=beq_iff_eq.mpr h
    simp only[yby,hb,if_pos (h.trans hk)]
   ·have hb:(g == k)=false:=beq_eq_false_iff_ne.mpr h
    simp only[yby,hb,if_neg (fun e:g=f=>h (e.trans hk.symm))]
  ·rw[if_neg hk]
   by_cases h:g=k
   ·have hb:(g == k)=true:=beq_iff_eq.mpr h
    simp only[yby,hb,if_neg (fun e:g=f=>hk (h.symm.trans e))]
   ·have hb:(g == k)=false:=beq_eq_false_iff_ne.mpr h
    simp only[yby,hb]
    exact ih
theorem zjV (f:Str) (v:V):∀ fs:List (Str × V),f∈(zaI f v fs).map (·.1)/\∀ g,g∈fs.map (·.1)->g∈(zaI f v fs).map (·.1)
 | []=>⟨by simp[zaI],fun g h=>by simp at h⟩
 | (k,x)::r=>by
  obtain ⟨i1,i2⟩:=zjV f v r
  rw[show zaI f v ((k,x)::r)=(if k=f then (k,v)::r else (k,x)::zaI f v r) from rfl]
  by_cases hk:k=f
  ·rw[if_pos hk]
   subst hk
   exact ⟨by simp,fun g h=>by simpa using h⟩
  ·rw[if_neg hk]
   refine ⟨?_,fun g h=>?_⟩
   ·rw[ybk]
    exact yam _ i1
   ·rw[ybk] at h ⊢
    rcases yak.mp h with e | e
    ·exact yak.mpr (.inl e)
    ·exact yam _ (i2 g e)
theorem zlw (f:Str) (v:V):∀ fs:List (Str × V),(zaI f v fs).length<=fs.length+1
 | []=>by simp[zaI]
 | (k,x)::r=>by
  have ih:=zlw f v r
  rw[show zaI f v ((k,x)::r)=(if k=f then (k,v)::r else (k,x)::zaI f v r) from rfl]
  by_cases hk:k=f
  ·rw[if_pos hk,ybg,ybg];omega
  ·rw[if_neg hk,ybg,ybg];omega
theorem zit.some_of {v:V} {o:Option Value} (r:zit (some v) o):∃ u,o=some u/\RelV v u:=by
 cases o with
 | none=>exact (show False from r).elim
 | some u=>exact ⟨u,rfl,r⟩
theorem zit.none_of {o:Option Value} (r:zit none o):o=none:=by
 cases o with
 | none=>rfl
 | some u=>exact (show False from r).elim
theorem zs7 {v:V} {u:Value} (r:RelV v u):PySem.W.handedIn u=true:=by
 cases v with
 | non=>cases (show u=Value.none from r);rfl
 | bl b=>cases (show u=Value.bool b from r);rfl
 | int i=>obtain ⟨t,e⟩:=(show ∃ t,u=Value.int i t from r);cases e;rfl
 | str x=>obtain ⟨t,e⟩:=(show ∃ t,u=Value.str x t from r);cases e;rfl
 | byt b=>obtain ⟨t,e⟩:=(show ∃ t,u=Value.bytes b t from r);cases e;rfl
 | flt b=>obtain ⟨t,e⟩:=(show ∃ t,u=Value.float b t from r);cases e;rfl
 | ref a=>cases (show u=Value.ref a from r);rfl
 | ty n=>cases (show u=Value.type n from r);rfl
section
variable {P:Program} {w:World} {H H':Hp} {h h':Heap} {a C dx:Addr} {fs fs':List (Str × V)}
theorem zk4 (hok:HOk P w H h) (e:H a=some (.ins C dx fs)):∃ mA,zlU h a dx C mA/\(∀ f,zit (fs.lookup f) (mA f))/\PySem.Within mA (fs.map (·.1))/\fs.length<=1000/\H dx=some (.own a):=by
 obtain ⟨d,z,ne,ob,mA,n,r,q⟩:=(show zam P w H h a (.ins C dx fs) from hok a _ e)
 exact ⟨mA,⟨ob,n,ne⟩,r,q,z,d⟩
end
structure Cls (K:W.Frag) (C:Addr):Prop where
 pg:PySem.W.plainGet K C Str.empty=true
 hd:PySem.W.hasDictIn K C=true
 po:PySem.W.plainOver K C=true
 sa:PySem.W.findIn K (.ref C) "__setattr__" = some (some (.builtin "object.__setattr__"))
theorem Cls.get {K:W.Frag} {C:Addr} (c:Cls K C) (f:Str):PySem.W.plainGet K C f=true:=c.pg
def zab (K:W.Frag) (C:Addr) (f:Str):Prop:=PySem.W.findIn K (.ref C) f=some none
theorem zab.taker {K:W.Frag} {C:Addr} {f:Str} (n:zab K C f):PySem.W.takerIn K C f=some none:=by
 unfold PySem.W.takerIn
 rw[show PySem.W.findIn K (.ref C) f=some none from n]
 rfl
structure Meth (K:W.Frag) (C:Addr) (m:Str) (f:Addr):Prop where
 at_:PySem.W.findIn K (.ref C) m=some (some (.ref f))
 fn:PySem.W.isFn K (.ref f)=true
 kp:PySem.W.keepIn K (.ref f)=true
section
variable {X:Cx} {pins:List (Addr × Obj)} {σ:St} {H:Hp} {s:Shared} {a C dx:Addr} {fs:List (Str × V)} {f:Str} {v:V} {A:Around} {E:Value->Shared->Prop}
theorem zmb {b:Bool} {Q:Value->Shared->Prop} (I:Inv X pins σ H s) (e:H a=some (.ins C dx fs)) (c:Cls X.K C) (n:zab X.K C f) (l:fs.lookup f=some v)
  (h:∀ u s',Inv X pins σ H s'->RelV v u->Q u s'):wpAny (model X.prog X.w) A (getAttr (.ref a) f b) Q E s:=by
 obtain ⟨mA,O,r,_,_,_⟩:=zk4 I.hok e
 obtain ⟨u,hu,ru⟩:=zit.some_of (v:=v) (o:=mA f) (by rw[<-l];exact r f)
 exact get_map I.kIn O (c.get f) c.hd n hu (zs7 ru) (h u _ (I.tok _) ru)
theorem zdE {m:Str} {g:Addr} {pl:Sem Bool} {Q:Value × List Value->Shared->Prop} (I:Inv X pins σ H s) (e:H a=some (.ins C dx fs)) (c:Cls X.K C) (k:Meth X.K C m g) (l:fs.lookup m=none)
  (h:Q (.ref g,[.ref a]) s):wpAny (model X.prog X.w) A (getMethod (.ref a) m pl) Q E s:=by
 obtain ⟨mA,O,r,_,_,_⟩:=zk4 I.hok e
 have hn:mA m=none:=zit.none_of (by rw[<-l];exact r m)
 exact ztX I.kIn O (c.get m) k.at_ k.fn hn h
theorem zmD {y:V} {u:Value} {Q:Unit->Shared->Prop} (I:Inv X pins σ H s) (e:H a=some (.ins C dx fs)) (c:Cls X.K C) (n:zab X.K C f) (hl:fs.length<1000) (ry:RelV y u)
  (h:∀ s',Inv X pins σ (upd H a (.ins C dx (zaI f y fs))) s'->Q () s'):wpAny (model X.prog X.w) A (setAttr (.ref a) f u) Q E s:=by
 obtain ⟨mA,O,r,wi,_,ho⟩:=zk4 I.hok e
 have hz:(fs.map (·.1)).length<=sizeLine:=by rw[yab,sizeLine_eq];omega
 refine zuZ I.kIn O c.sa c.po n.taker c.hd wi hz fun h' O' sb=>h _ ?_
 have hd:∃ o,h'.get? dx=some o:=let ⟨o,_,_,e',_⟩:=O'.ns;⟨o,e'⟩
 refine I.write (x:=a) (e:=dx) (by rw[e];exact True.intro) (.inr ho) (fun b q hb z=>(sb.2 b hb).trans z) hd ?_
 refine ⟨by rw[zp O.ne];exact ho,?_,O.ne,O'.obj,_,O'.ns,fun g=>?_,fun g hg=>?_⟩
 ·have:=zlw f y fs;omega
 ·show zit ((zaI f y fs).lookup g) (if g=f then some u else mA g)
  rw[zlq]
  by_cases q:g=f
  ·rw[if_pos q,if_pos q];exact ry
  ·rw[if_neg q,if_neg q];exact r g
 ·by_cases q:g=f
  ·rw[q];exact (zjV f y fs).1
  ·refine (zjV f y fs).2 g (wi g fun z=>hg ?_)
   show (if g=f then some u else mA g)=none
   rw[if_neg q];exact z
theorem Inv.made (I:Inv X pins σ H s):Inv X pins σ (upd (upd H s.heap.objs.size (.own (s.heap.objs.size+1))) (s.heap.objs.size+1) (.ins C s.heap.objs.size []))
  { s with heap:=(s.heap.push PySem.W.emptyDict).push (PySem.W.instObj C s.heap.objs.size) }:=by
 have e1:(s.heap.push PySem.W.emptyDict).get? s.heap.objs.size=some PySem.W.emptyDict:=ydl s.heap rfl
 have e2:((s.heap.push PySem.W.emptyDict).push (PySem.W.instObj C s.heap.objs.size)).get? (s.heap.objs.size+1)=some (PySem.W.instObj C s.heap.objs.size):=by
  have:=ydl (s.heap.push PySem.W.emptyDict) (o:=PySem.W.instObj C s.heap.objs.size) rfl
  rwa [ydn] at this
 have e3:(s.heap.push PySem.W.emptyDict).Ns s.heap.objs.size (fun _=>none):=⟨PySem.W.emptyDict,#[],_,e1,rfl,(fun e he=>absurd he (by simp)),fun _=>rfl⟩
 have I1:=I.laid (a:=s.heap.objs.size) (o:=.own (s.heap.objs.size+1)) (h':=s.heap.push PySem.W.emptyDict) (t':=s.toks) (fun b u q=>ydj _ q) (ycu _) ⟨_,e1⟩
 refine I1.laid (a:=s.heap.objs.size+1) (o:=.ins C s.heap.objs.size []) (t':=s.toks) (fun b u q=>ydj _ q) (Nat.le_of_eq (ydn _ _)) ?_
 have ne:s.heap.objs.size≠s.heap.objs.size+1:=ycv (ydb _)
 refine ⟨by rw[zp ne,zg],ycy _,ne,e2,fun _=>none,(Heap.Ns1.of_empty e3).at fun o q=>ydj _ q,fun _=>True.intro,fun y hy=>absurd rfl hy⟩
theorem zrA {prog:Program} {w:World} {env:Env} {e:Expr} {f:Str} {pos:Pos} {s:Shared} {Q:Value->Shared->Prop} (hb:attributeBase e f env (eval e env)=eval e env)
  (h:wpAny (model prog w) A (eval e env) (fun o s₁=>wpAny (model prog w) A (getAttr o f true) Q E s₁) E s):wpAny (model prog w) A (eval (.Attribute e f pos) env) Q E s :=
 Attribute_any_ h (by rw[arm_eval_Attribute,hb])
end
def zwq (K:W.Frag) (ta:TE) (f:Str):TE:=fun σ H Q=>ta σ H fun x H1=>∃ a C dx fs v,x=.ref a/\H1 a=some (.ins C dx fs)/\Cls K C/\zab K C f/\fs.lookup f=some v/\Q v H1
def zw7 (K:W.Frag) (ta tv:TE) (f:Str):TS:=fun D σ H=>tv σ H fun y H1=>ta σ H1 fun x H2=>∃ a C dx fs,x=.ref a/\H2 a=some (.ins C dx fs)/\Cls K C/\zab K C f/\fs.length<1000 /\
 D.nx σ (upd H2 a (.ins C dx (zaI f y fs)))
section
variable {X:Cx} {o e value:Expr} {f:Str} {pos pos' tpos:Pos} {ta tv:TE}
theorem zvW (he:PE X e ta) (hb:attributeBase e f X.env (eval e X.env)=eval e X.env):PE X (.Attribute e f pos) (zwq X.K ta f):=by
 intro pins s σ H Q I h
 refine zrA hb (thn (he pins s σ H _ I h) fun u s1 ⟨x,H1,I1,rx,a,C,dx,fs,v,ex,ea,c,n,l,q⟩=>?_)
 subst ex
 obtain rfl:u=Value.ref a:=rx
 exact zmb I1 ea c n l fun u' s2 I2 ru=>⟨v,H1,I2,ru,q⟩
theorem zkp (ha:PE X o ta) (hv:PE X value tv) (hs:swapsWith value (some (.Attribute o f pos')) pos.line X.env=pure false):PS X (.Assign [.Attribute o f pos'] value pos) (zw7 X.K ta tv f):=by
 intro pins s σ H D I h
 refine plainObj_wpAny_Assign_Attribute (thn (hv pins s σ H _ I h) fun u s1 ⟨y,H1,I1,ry,q⟩=>thn (ha pins s1 σ H1 _ I1 q) fun ov s2 ⟨x,H2,I2,rx,a,C,dx,fs,ex,ea,c,n,l,q2⟩=>?_) hs
 subst ex
 obtain rfl:ov=Value.ref a:=rx
 exact zmD I2 ea c n l ry fun s3 I3=>⟨σ,_,I3,q2⟩
end
section
variable {X:Cx} {pins:List (Addr × Obj)} {σ:St} {H:Hp} {s:Shared} {A:Around} {E:Value->Shared->Prop} {Q:Value->Shared->Prop} {c:Value} {b:Bool}
inductive zdo (K:W.Frag) (H:Hp):V->Value->Prop where
 | non:zdo K H .non (.type "NoneType")
 | bl (x:Bool):zdo K H (.bl x) (.type "bool")
 | int (i:Int):zdo K H (.int i) (.type "int")
 | str (x:Str):zdo K H (.str x) (.type "str")
 | flt (x:UInt64):zdo K H (.flt x) (.type "float")
 | lst {a:Addr} {xs:List V} (e:H a=some (.lst xs)):zdo K H (.ref a) (.type "list")
 | frz {a:Addr} {o:Obj} {xs:List V} (e:H a=some (.frz o (.lst xs))):zdo K H (.ref a) (.type "list")
 | tup {a:Addr} {xs:List V} (e:H a=some (.tup xs)):zdo K H (.ref a) (.type "tuple")
 | dK {a:Addr} {kvs:List (Key × V)} (e:H a=some (.dK kvs)):zdo K H (.ref a) (.type "dict")
 | ins {a C dx:Addr} {fs:List (Str × V)} (e:H a=some (.ins C dx fs)) (cl:Cls K C) (ha:PySem.W.findIn K (.ref C) "__class__" = some (some (.builtin "object.__class__")))
   (hn:PySem.W.specialIn K (.builtin "object.__class__") "__get__" = some (some (.builtin "getset_descriptor.__get__"))) (htk:PySem.W.takesIn K (.builtin "object.__class__")=some true)
   (hm:PySem.W.mroIn K C (.type "object")=some true):zdo K H (.ref a) (.ref C)
theorem znP {x:V} {u t:Value} (I:Inv X pins σ H s) (rx:RelV x u) (ty:zdo X.K H x t) (e:PySem.W.kitOne X.K t c=some b) (h:∀ tk,Q (.bool b) { s with toks:=tk }) :
  wpAny (model X.prog X.w) A (call (.builtin "isinstance") [u,c]) Q E s:=by
 cases ty with
 | non=>cases (show u=Value.none from rx);exact PySem.W.kia_one PySem.W.kitx_none I.kIn True.intro e (fun z=>nomatch z) h
 | bl y=>cases (show u=Value.bool y from rx);exact PySem.W.kia_one PySem.W.kitx_bool I.kIn True.intro e (fun z=>nomatch z) h
 | int i=>obtain ⟨t,q⟩:=(show ∃ t,u=Value.int i t from rx);cases q;exact PySem.W.kia_one PySem.W.kitx_int I.kIn True.intro e (fun z=>nomatch z) h
 | str y=>obtain ⟨t,q⟩:=(show ∃ t,u=Value.str y t from rx);cases q;exact PySem.W.kia_one PySem.W.kitx_str I.kIn True.intro e (fun z=>nomatch z) h
 | flt y=>obtain ⟨t,q⟩:=(show ∃ t,u=Value.float y t from rx);cases q;exact PySem.W.kia_one PySem.W.kitx_float I.kIn True.intro e (fun z=>nomatch z) h
 | @lst a xs ea =>
  cases (show u=Value.ref a from rx)
  obtain ⟨_,_,n,_,h1⟩:=(show zam X.prog X.w H s.heap a (.lst xs) from I.hok a _ ea)
  exact PySem.W.kia_one PySem.W.kitx_list I.kIn ⟨_,h1,rfl⟩ e (fun z=>nomatch z) h
 | @frz a ob xs ea =>
  cases (show u=Value.ref a from rx)
  obtain ⟨_,_,_,n,_,h1⟩:=(show zam X.prog X.w H s.heap a (.frz ob (.lst xs)) from I.hok a _ ea)
  exact PySem.W.kia_one PySem.W.kitx_list I.kIn ⟨_,h1,rfl⟩ e (fun z=>nomatch z) h
 | @tup a xs ea =>
  cases (show u=Value.ref a from rx)
  obtain ⟨_,_,_,p⟩:=(show zam X.prog X.w H s.heap a (.tup xs) from I.hok a _ ea)
  obtain ⟨o,h1,h2,_⟩:=p
  exact PySem.W.kia_one PySem.W.kitx_tuple I.kIn ⟨o,h1,h2⟩ e (fun z=>nomatch z) h
 | @dK a kvs ea =>
  cases (show u=Value.ref a from rx)
  obtain ⟨_,_,vs,_,p⟩:=(show zam X.prog X.w H s.heap a (.dK kvs) from I.hok a _ ea)
  obtain ⟨o,es,ep,h1,h2,_⟩:=p
  exact PySem.W.kia_one PySem.W.kitx_dict I.kIn ⟨o,h1,h2.1⟩ e (fun z=>nomatch z) h
 | @ins a C dx fs ea cl ha hn htk hm =>
  cases (show u=Value.ref a from rx)
  obtain ⟨mA,O,_⟩:=zk4 I.hok ea
  obtain ⟨od,J,_⟩:=O.look
  exact PySem.W.kia_one (PySem.W.kitx_own (cl.get _) cl.hd ha hn htk hm) I.kIn J e (fun z=>nomatch z) h
end
end L2
namespace L2
open PySem PySem.Spec PyProof.Rows
structure Room (k:Nat) (A:Around):Prop where
 hd:A.handled=none
 dp:A.depth+3*k+5<recursionLimit
 un:A.units+16*k+200<cLine
theorem Room.mono {j k:Nat} {A:Around} (r:Room k A) (h:j<=k):Room j A:=⟨r.hd,by have:=r.dp;omega,by have:=r.un;omega⟩
theorem Room.deeper {k:Nat} {A:Around} (r:Room (k+1) A) (env:Env):Room k (A.deeper env) :=
 ⟨r.hd,by have:=r.dp;show A.depth+1+3*k+5<_;omega,by have:=r.un;show A.units+3+16*k+200<_;omega⟩
theorem zsh {A:Around} {C:Addr} {us:List Value} {kw:List (Str × Value)}:(A.under (.builtin "type.__call__" ⟨.ref C::us,kw⟩)).depth=A.depth+1:=by
 first | rfl | simp[Around.under,Code.weight,Code.isCreation,Code.isGuard,Code.isCaller,Code.frames,Code.isFrame,guardIds]
theorem zsu {A:Around} {C:Addr} {us:List Value} {kw:List (Str × Value)}:(A.under (.builtin "type.__call__" ⟨.ref C::us,kw⟩)).units=A.units+1:=by
 first | rfl | simp[Around.under,Code.cUnits,Code.frames,Code.isFrame]
theorem Room.make {k:Nat} {A:Around} (r:Room (k+1) A) (C:Addr) (us:List Value) (kw:List (Str × Value)):Room k (A.under (.builtin "type.__call__" ⟨.ref C::us,kw⟩)) :=
 ⟨r.hd,by have:=r.dp;rw[zsh];omega,by have:=r.un;rw[zsu];omega⟩
theorem Room.depth {k:Nat} {A:Around} (r:Room k A):A.depth<recursionLimit:=by have:=r.dp;omega
theorem Room.units {k:Nat} {A:Around} (r:Room k A):A.units+64<cLine:=by have:=r.un;omega
def znn:TA:=fun _ H Q=>Q [] H
def zwy (ta:TE) (tr:TA):TA:=fun σ H Q=>ta σ H fun x H1=>tr σ H1 fun xs H2=>Q (x::xs) H2
section
variable {X:Cx} {e:Expr} {es:List Expr} {te:TE} {t:TA} {pos:Pos}
theorem zd:PA X [] znn:=fun _ _ _ _ H Q I h=>Calls.spliced_nil ⟨[],H,I,.nil,h⟩
theorem za (ha:PE X e te) (hr:PA X es t) (hs:starEach (e::es) X.env=(false,eval e X.env)::starEach es X.env:=by rfl):PA X (e::es) (zwy te t):=by
 intro pos pins s σ H Q I h
 rw[hs]
 show wpAny _ _ (spliced ((false,eval e X.env)::backTo pos (starEach es X.env))) _ _ s
 refine Calls.spliced_cons (thn (ha pins s σ H _ I h) fun u s1 ⟨x,H1,I1,r1,q1⟩=>?_)
 exact thn (hr pos pins s1 σ H1 _ I1 q1) fun us s2 ⟨xs,H2,I2,r2,q2⟩=>⟨x::xs,H2,I2,.cons r1 r2,q2⟩
def zxq (t:TA):TE:=fun σ H Q=>t σ H fun xs H1=>xs.length<=sizeLine/\∀ p,H1 p=none->Q (.ref p) (upd H1 p (.tup xs))
def zxc (t:TA):TE:=fun σ H Q=>t σ H fun xs H1=>xs.length<=sizeLine/\∀ p,H1 p=none->Q (.ref p) (upd H1 p (.lst xs))
theorem zaj {x1} (h:PA X es t):PE X (.Tuple es x1 pos) (zxq t):=by
 intro pins s σ H Q I hq
 refine wpAny_Tuple_spliced (thn (h pos pins s σ H _ I hq) fun us s1 ⟨xs,H1,I1,r,z,q⟩=>⟨by rw[<-r.length];exact z,?_⟩)
 have hf:H1 s1.heap.objs.size=none:=I1.hok.fresh (ycu _)
 refine ⟨.ref s1.heap.objs.size,upd H1 s1.heap.objs.size (.tup xs),I1.laid (t':=s1.toks) (fun b u e=>ydj _ e) (ycu _) ?_,rfl,q _ hf⟩
 exact ⟨z,us,r,⟨_,ydl _ rfl,rfl,_,rfl⟩⟩
theorem zU (h:PA X es t):PE X (.List es pos) (zxc t):=by
 intro pins s σ H Q I hq
 refine wpAny_List_spliced (thn (h pos pins s σ H _ I hq) fun us s1 ⟨xs,H1,I1,r,z,q⟩=>⟨by rw[<-r.length];exact z,?_⟩)
 have hf:H1 s1.heap.objs.size=none:=I1.hok.fresh (ycu _)
 refine ⟨.ref s1.heap.objs.size,upd H1 s1.heap.objs.size (.lst xs),I1.laid (t':=s1.toks) (fun b u e=>ydj _ e) (ycu _) ?_,rfl,q _ hf⟩
 exact ⟨z,us,0,r,ydl _ rfl⟩
end
noncomputable abbrev Sp:=List V->Hp->VK->XK->Prop
noncomputable abbrev CXT:=List Env->Hp->Shared->XK->Value->Shared->Prop
structure zl5 (P:Program) (w:World) (K:W.Frag) (mg:Str->Option Value) (base:Heap) (A:Around) (outer:List Env) (s:Shared) (H:Hp):Prop where
 frames:A.frames=some outer
 mod:Mod K mg base
 bs:∀ b o,base.get? b=some o->s.heap.get? b=some o/\H b=none
 bsz:base.objs.size<=s.heap.objs.size
 funs:s.heap.FunFrames base outer
 frf:∀ b∈frs outer,H b=none
 hok:HOk P w H s.heap
 bare:AllBare s.gens
def CE (outer:List Env) (P:Program) (w:World) (H:Hp) (s:Shared) (Q:VK) (u:Value) (s':Shared):Prop :=
 ∃ v H',s'.os=s.os/\AllBare s'.gens/\Un (frs outer) [] H H' s.heap s'.heap/\HOk P w H' s'.heap/\RelV v u/\Q v H'
def CR (CX:CXT) (outer:List Env) (P:Program) (w:World) (H:Hp) (s:Shared) (Q:VK) (E:XK) (r:Result) (s':Shared):Prop :=
 match r with
 | .ok (.ret u)=>CE outer P w H s Q u s'
 | .ok _=>False
 | .error e=>CX outer H s E e s'
structure zcm (P:Program) (w:World) (K:W.Frag) (mg:Str->Option Value) (base:Heap) (CX:CXT) (k:Nat) (f:Addr) (fd:FuncData) (ps:List Str) (sp:Sp):Prop where
 len:∀ vs H Q E,sp vs H Q E->vs.length=ps.length
 run:∀ (A:Around) (outer:List Env) (s:Shared) (H:Hp) (args:Args) (us:List Value) (vs:List V) (Q:VK) (E:XK),Room k A->zl5 P w K mg base A outer s H->BindsTo s fd args (ps.zip us)->Vals vs us->sp vs H Q E ->
  codeAny (model P w) A (.call (.ref f) args) (CR CX outer P w H s Q E) s
theorem zl5.make {P:Program} {w:World} {K:W.Frag} {mg:Str->Option Value} {base:Heap} {A:Around} {outer:List Env} {s:Shared} {H:Hp} (e:zl5 P w K mg base A outer s H) (C:Addr) (us:List Value) (kw:List (Str × Value)) :
  zl5 P w K mg base (A.under (.builtin "type.__call__" ⟨.ref C::us,kw⟩)) outer s H:=⟨by first | exact e.frames | (simpa [Around.under,Code.envs,Code.isFrame,pushEnvs] using e.frames),e.mod,e.bs,e.bsz,e.funs,e.frf,e.hok,e.bare⟩
section
variable {X:Cx} {pins:List (Addr × Obj)} {σ:St} {H:Hp} {s s':Shared}
theorem Inv.zv5 (I:Inv X pins σ H s):zl5 X.prog X.w X.K X.mg X.base X.A X.stack s H :=
 ⟨I.ok.frames,I.ok.mod,I.bs,ycz I.ok.bsz I.sz,I.stack,I.znd,I.hok,I.bare⟩
theorem Inv.after {Q:VK} {u:Value} (I:Inv X pins σ H s) (h:CE X.stack X.prog X.w H s Q u s'):EP X pins σ Q u s':=by
 obtain ⟨v,H',os,bare,un,hok,r,q⟩:=h
 obtain ⟨hh,g,d,t,os'⟩:=s'
 obtain rfl:os'=s.os:=os
 exact ⟨v,H',I.call (h':=hh) (g':=g) (d':=d) (t':=t) (ch:=[]) un hok bare (fun b z=>absurd z (by simp)),r,q⟩
end
def zsf (sp:Sp) (dvs:List V) (E:XK) (t:TA):TE:=fun σ H Q=>t σ H fun vs H1=>sp (vs++dvs) H1 Q E
def zoI (C:Addr) (m:Str) (sp:Sp) (dvs:List V) (E:XK) (ta:TE) (t:TA):TE:=fun σ H Q=>ta σ H fun x H1=>∃ a dx fs,x=.ref a/\H1 a=some (.ins C dx fs)/\fs.lookup m=none /\
 t σ H1 fun vs H2=>sp (x::(vs++dvs)) H2 Q E
def zus (C:Addr) (sp:Sp) (dvs:List V) (E:XK) (t:TA):TE:=fun σ H Q=>t σ H fun vs H1=>∀ x dx,H1 x=none->H1 dx=none->dx≠x ->
 sp (.ref x::(vs++dvs)) (upd (upd H1 dx (.own x)) x (.ins C dx [])) (fun v H2=>v=.non/\Q (.ref x) H2) E
def Binds (K:W.Frag) (fd:FuncData) (ps:List Str) (ds:List Value):Prop :=
 ∀ (s:Shared) (us:List Value),K.In s.heap->(us++ds).length=ps.length->BindsTo s fd ⟨us,[]⟩ (ps.zip (us++ds))
theorem Binds.all {K:W.Frag} {fd:FuncData} {ps:List Str} (h:∀ us:List Value,us.length=ps.length->bindArgs fd ⟨us,[]⟩=pure (ps.zip us)):Binds K fd ps []:=fun s us _ hl=>by
 rw[yco] at hl ⊢
 exact .of_eq (h us hl)
def Passes (CX:CXT) (X:Cx) (E:XK):Prop:=∀ (pins:List (Addr × Obj)) (σ:St) (H:Hp) (s:Shared) (e:Value) (s':Shared),Inv X pins σ H s->CX X.stack H s E e s'->X.xe e s'
section
variable {X:Cx} {CX:CXT} {k:Nat} {f C:Addr} {fd:FuncData} {ps:List Str} {sp:Sp} {dvs:List V} {ds:List Value} {E:XK} {x m:Str} {p pos apos:Pos} {e o:Expr} {es:List Expr} {ta:TE} {t:TA}
theorem zgt {pins:List (Addr × Obj)} {σ:St} {H:Hp} {s:Shared} {Q:VK} {us:List Value} {vs:List V} (F:zcm X.prog X.w X.K X.mg X.base CX k f fd ps sp) (hr:Room k X.A) (hb:Binds X.K fd ps ds) (hd:Vals dvs ds) (hx:Passes CX X E)
  (I:Inv X pins σ H s) (r:Vals vs us) (h:sp (vs++dvs) H Q E):wpAny (model X.prog X.w) X.A (call (.ref f) us) (EP X pins σ Q) X.xe s:=by
 have r2:Vals (vs++dvs) (us++ds):=r.append hd
 have hl:(us++ds).length=ps.length:=by rw[<-r2.length];exact F.len _ _ _ _ h
 refine wpAny_call (codeAny_mono (F.run X.A X.stack s H ⟨us,[]⟩ (us++ds) (vs++dvs) Q E hr I.zv5 (hb s us I.kIn hl) r2 h) fun r s' hq=>?_)
 cases r with
 | error e=>exact hx pins σ H s e s' I hq
 | ok fl =>
  cases fl with
  | ret u=>exact I.after hq
  | next=>exact False.elim hq
  | brk=>exact False.elim hq
  | cont=>exact False.elim hq
theorem zu8 (F:zcm X.prog X.w X.K X.mg X.base CX k f fd ps sp) (hr:Room k X.A) (hg:Gl X x) (hm:X.mg x=some (.ref f)) (hk:PySem.W.keepIn X.K (.ref f)=true) (hb:Binds X.K fd ps ds) (hd:Vals dvs ds) (hx:Passes CX X E)
  (ha:PA X (e::es) t) (hdb:(x == ("__debug__" : Str))=false:=by decide) (he:starEach (e::es) X.env=(false,eval e X.env)::starEach es X.env:=by rfl) (hpl:(backTo pos (starEach es X.env)).any (·.1)=false:=by rfl) :
  PE X (.Call (.Name x p) (e::es) [] pos) (zsf sp dvs E t):=by
 intro pins s σ H Q I h
 refine wpAny_Call_Name_kw (zkQ I hg hm ?_ hdb)
 refine PySem.W.callWith_K (h₀:=X.base) I.ok.mod.kin hk (thn (ha pos pins s σ H _ I h) fun us s1 ⟨vs,H1,I1,r,q⟩=>⟨I1.kIn,?_⟩) he hpl
 exact zgt F hr hb hd hx I1 r q
theorem zuJ {pl:Sem Bool} (he:PE X o ta) (c:Cls X.K C) (hm:Meth X.K C m f) (F:zcm X.prog X.w X.K X.mg X.base CX k f fd ps sp) (hr:Room k X.A) (hb:Binds X.K fd ps ds) (hd:Vals dvs ds) (hx:Passes CX X E) (ha:PA X (e::es) t)
  (hst:starEach (e::es) X.env=(false,eval e X.env)::starEach es X.env:=by rfl) (hpl:(backTo pos (starEach es X.env)).any (·.1)=false:=by rfl)
  (ht:eval (.Call (.Attribute o m apos) (e::es) [] pos) X.env=(do
   let ov <-eval o X.env
   standAt apos.atName
   let (f,first) <-holding [ov] (getMethod ov m pl)
   callWith pos f first (backTo pos (starEach (e::es) X.env)) (backToKw pos (keywordEach [] X.env))):=by rfl) :
  PE X (.Call (.Attribute o m apos) (e::es) [] pos) (zoI C m sp dvs E ta t):=by
 intro pins s σ H Q I h
 refine PySem.W.methodCall_KW (pl:=pl) (thn (he pins s σ H _ I h) fun u s1 ⟨x,H1,I1,rx,a,dx,fs,ex,ea,l,q⟩=>?_) ht
 subst ex
 obtain rfl:u=Value.ref a:=rx
 refine zdE I1 ea c hm l ?_
 refine PySem.W.callWith_K (first:=[.ref a]) (h₀:=X.base) I.ok.mod.kin hm.kp (thn (ha pos pins s1 σ H1 _ I1 q) fun us s2 ⟨vs,H2,I2,r,q2⟩=>⟨I2.kIn,?_⟩) hst hpl
 exact zgt (us:=.ref a::us) (vs:=.ref a::vs) F hr hb hd hx I2 (.cons rfl r) q2
theorem zuq {pl:Sem Bool} (he:PE X o ta) (c:Cls X.K C) (hm:Meth X.K C m f) (F:zcm X.prog X.w X.K X.mg X.base CX k f fd ps sp) (hr:Room k X.A) (hb:Binds X.K fd ps ds) (hd:Vals dvs ds) (hx:Passes CX X E)
  (ht:eval (.Call (.Attribute o m apos) [] [] pos) X.env=(do
   let ov <-eval o X.env
   standAt apos.atName
   let (f,first) <-holding [ov] (getMethod ov m pl)
   callWith pos f first (backTo pos (starEach [] X.env)) (backToKw pos (keywordEach [] X.env))):=by rfl) :
  PE X (.Call (.Attribute o m apos) [] [] pos) (zoI C m sp dvs E ta znn):=by
 intro pins s σ H Q I h
 refine PySem.W.methodCall_KW (pl:=pl) (thn (he pins s σ H _ I h) fun u s1 ⟨x,H1,I1,rx,a,dx,fs,ex,ea,l,q⟩=>?_) ht
 subst ex
 obtain rfl:u=Value.ref a:=rx
 refine zdE I1 ea c hm l ?_
 exact PySem.W.callWith_K0 (first:=[.ref a]) I1.kIn hm.kp (zgt (us:=[.ref a]) (vs:=[.ref a]) F hr hb hd hx I1 (.cons rfl .nil) q)
structure Mk (K:W.Frag) (C f:Addr):Prop where
 makes:PySem.W.makesIn K C=true
 init:PySem.W.findIn K (.ref C) "__init__" = some (some (.ref f))
 fn:PySem.W.isFn K (.ref f)=true
 kp:PySem.W.keepIn K (.ref C)=true
theorem zt3 {pins:List (Addr × Obj)} {σ:St} {H:Hp} {s:Shared} {Q:VK} {us:List Value} {vs:List V} (M:Mk X.K C f) (F:zcm X.prog X.w X.K X.mg X.base CX k f fd ps sp) (hr:Room (k+1) X.A) (hb:Binds X.K fd ps ds) (hd:Vals dvs ds)
  (hx:Passes CX X E) (I:Inv X pins σ H s) (r:Vals vs us)
  (h:∀ x dx,H x=none->H dx=none->dx≠x->sp (.ref x::(vs++dvs)) (upd (upd H dx (.own x)) x (.ins C dx [])) (fun v H2=>v=.non/\Q (.ref x) H2) E) :
  wpAny (model X.prog X.w) X.A (call (.ref C) us) (EP X pins σ Q) X.xe s:=by
 have hq:=h (s.heap.objs.size+1) s.heap.objs.size (I.hok.fresh (yde _)) (I.hok.fresh (ycu _)) (ycv (ydb _))
 have I2:=Inv.made (C:=C) I
 have r2:Vals (V.ref (s.heap.objs.size+1)::(vs++dvs)) (Value.ref (s.heap.objs.size+1)::(us++ds)):=.cons rfl (r.append hd)
 have hl:(Value.ref (s.heap.objs.size+1)::us++ds).length=ps.length:=by
  have e:=r2.length
  rw[F.len _ _ _ _ hq] at e
  exact e.symm
 refine wpAny_call (ztD (f:=f) I.kIn M.makes M.init (beq_iff_eq.mp M.fn) (codeAny_mono (F.run _ X.stack _ _ ⟨Value.ref (s.heap.objs.size+1)::us,[]⟩ (Value.ref (s.heap.objs.size+1)::(us++ds)) _ _ E (hr.make C us [])
  (I2.zv5.make C us []) (hb _ (Value.ref (s.heap.objs.size+1)::us) I2.kIn hl) r2 hq) fun r s' hq'=>?_))
 cases r with
 | error e=>exact hx pins σ _ _ e s' I2 hq'
 | ok fl =>
  cases fl with
  | ret u =>
   obtain ⟨v,H',I3,rv,ev,q3⟩:=I2.after hq'
   subst ev
   exact ⟨rv,⟨V.ref (s.heap.objs.size+1),H',I3,rfl,q3⟩⟩
  | next=>exact False.elim hq'
  | brk=>exact False.elim hq'
  | cont=>exact False.elim hq'
theorem zu0 (M:Mk X.K C f) (F:zcm X.prog X.w X.K X.mg X.base CX k f fd ps sp) (hr:Room (k+1) X.A) (hg:Gl X x) (hm:X.mg x=some (.ref C)) (hb:Binds X.K fd ps ds) (hd:Vals dvs ds) (hx:Passes CX X E)
  (ha:PA X (e::es) t) (hdb:(x == ("__debug__" : Str))=false:=by decide) (he:starEach (e::es) X.env=(false,eval e X.env)::starEach es X.env:=by rfl) (hpl:(backTo pos (starEach es X.env)).any (·.1)=false:=by rfl) :
  PE X (.Call (.Name x p) (e::es) [] pos) (zus C sp dvs E t):=by
 intro pins s σ H Q I h
 refine wpAny_Call_Name_kw (zkQ I hg hm ?_ hdb)
 refine PySem.W.callWith_K (h₀:=X.base) I.ok.mod.kin M.kp (thn (ha pos pins s σ H _ I h) fun us s1 ⟨vs,H1,I1,r,q⟩=>⟨I1.kIn,?_⟩) he hpl
 exact zt3 M F hr hb hd hx I1 r q
end
section
variable {X:Cx} {CX:CXT} {k:Nat} {f C:Addr} {fd:FuncData} {ps ks:List Str} {sp:Sp} {E:XK} {x m:Str} {p pos apos kpos:Pos} {e o:Expr} {es:List Expr} {kws:List Keyword} {te ta:TE} {t tk:TA} {nm:Option Str}
variable {g:List Value->List Value->List Value} {gV:List V->List V->List V}
end
structure zk (N P:List Str) (sc:Scope):Prop where
 kind:sc.kind=.function
 co:sc.isCoroutine=false
 gen:sc.isGenerator=false
 nd:N.Nodup
 pre:N.take P.length=P
 par:∀ x∈P,sc.names.lookup x=some .local\/sc.names.lookup x=some .cell
 nofree:∀ y∈sc.names,y.2≠.free
theorem znH {kindOf:Str->Option NameKind} {x:Str}:∀ {binds:List (Str × Value)} {m:Str->Option Value},(∀ v,(x,v) ∉ binds)->bindL kindOf binds m x=m x
 | [],_,_=>rfl
 | (n,v)::r,m,h=>by
  unfold bindL
  rw[znH fun w hw=>h w (yam _ hw)]
  split
  ·have:x≠n:=by rintro rfl;exact h v yan
   simp[this]
  ·rfl
theorem znK {kindOf:Str->Option NameKind} {x:Str}:∀ {binds:List (Str × Value)} {m:Str->Option Value},(∀ v,(x,v) ∉ binds)->bindC kindOf binds m x=m x
 | [],_,_=>rfl
 | (n,v)::r,m,h=>by
  unfold bindC
  rw[znK fun w hw=>h w (yam _ hw)]
  split
  ·rfl
  ·have:x≠n:=by rintro rfl;exact h v yan
   simp[this]
theorem znG {kindOf:Str->Option NameKind} {x:Str} {v:Value}:∀ {P:List Str} {vs:List Value} {i:Nat} {m:Str->Option Value},P.Nodup->P[i]?=some x->vs[i]?=some v->kindOf x=some .local ->
  bindL kindOf (P.zip vs) m x=some v
 | [],_,_,_,_,h,_,_=>by simp at h
 | _::_,[],_,_,_,_,h,_=>by simp at h
 | p::P,w::vs,0,m,nd,h1,h2,hk=>by
  simp at h1 h2;subst h1;subst h2
  show bindL kindOf ((p,w)::P.zip vs) m p=_
  unfold bindL
  rw[znH fun v hv=>(ybo.mp nd).1 (List.of_mem_zip hv).1,if_pos hk]
  simp
 | p::P,w::vs,i+1,m,nd,h1,h2,hk=>by
  show bindL kindOf ((p,w)::P.zip vs) m x=_
  unfold bindL
  exact znG (i:=i) (ybo.mp nd).2 (by simpa using h1) (by simpa using h2) hk
theorem znD {kindOf:Str->Option NameKind} {x:Str} {v:Value}:∀ {P:List Str} {vs:List Value} {i:Nat} {m:Str->Option Value},P.Nodup->P[i]?=some x->vs[i]?=some v->kindOf x≠some .local ->
  bindC kindOf (P.zip vs) m x=some v
 | [],_,_,_,_,h,_,_=>by simp at h
 | _::_,[],_,_,_,_,h,_=>by simp at h
 | p::P,w::vs,0,m,nd,h1,h2,hk=>by
  simp at h1 h2;subst h1;subst h2
  show bindC kindOf ((p,w)::P.zip vs) m p=_
  unfold bindC
  rw[znK fun v hv=>(ybo.mp nd).1 (List.of_mem_zip hv).1,if_neg hk]
  simp
 | p::P,w::vs,i+1,m,nd,h1,h2,hk=>by
  show bindC kindOf ((p,w)::P.zip vs) m x=_
  unfold bindC
  exact znD (i:=i) (ybo.mp nd).2 (by simpa using h1) (by simpa using h2) hk
noncomputable def start (N:List Str) (vs:List V):St:=vs.map some++yba (N.length-vs.length) none
noncomputable def zgZ (CX:CXT) (P:Program) (w:World) (K:W.Frag) (mg:Str->Option Value) (base:Heap) (N:List Str) (qual:Str) (scope:Scope) (f:Addr) (cd:Value) (A:Around) (outer:List Env) (s:Shared) (H:Hp) (E:XK):Cx where
 prog:=P
 w:=w
 K:=K
 mg:=mg
 base:=base
 A:=A.deeper (envOfC qual scope s.heap.objs.size f cd)
 N:=N
 s₀:=s
 H₀:=H
 env:=envOfC qual scope s.heap.objs.size f cd
 outer:=outer
 stack:=envOfC qual scope s.heap.objs.size f cd::outer
 ex:=[]
 calm:=true
 fn:=fun _=>true
 pn:=[]
 xe:=fun e s'=>wpAny (model P w) (A.deeper (envOfC qual scope s.heap.objs.size f cd)) (leaving (envOfC qual scope s.heap.objs.size f cd) e) (fun _ s''=>CX outer H s E e s'') (fun e' s''=>CX outer H s E e' s'') s'
theorem zp4 {sc:Scope} {n:Nat} {x:Str} (h:sc.names.lookup x=some .cell):∃ c,(cellsFrom n sc.names []).lookup x=some c:=by
 have q:=PySem.W.cellsFrom_some sc.names n [] (.inl h)
 exact Option.isSome_iff_exists.mp q
theorem zsz {CX:CXT} {P:Program} {w:World} {K:W.Frag} {mg:Str->Option Value} {base:Heap} {N ps:List Str} {qual:Str} {scope:Scope} {f:Addr} {cd:Value} {A:Around} {outer:List Env} {s s1:Shared} {H:Hp} {E:XK} {us:List Value} {vs:List V}
  (S:zk N ps scope) (hd:A.handled=none) (e0:zl5 P w K mg base A outer s H) (hl:vs.length=ps.length) (r:Vals vs us)
  (x:InCallC s s.heap.objs.size (bindL (envOfC qual scope s.heap.objs.size f cd).kindOf (ps.zip us) fun _=>none) (cellsFrom (s.heap.objs.size+1) scope.names []) (bindC (envOfC qual scope s.heap.objs.size f cd).kindOf (ps.zip us) fun _=>none) s1) :
  Inv (zgZ CX P w K mg base N qual scope f cd A outer s H E) [] (start N vs) H s1:=by
 have hpl:ps.length<=N.length:=by have:=congrArg List.length S.pre;rw[ybd] at this;omega
 obtain ⟨h1,tk,rfl,hk⟩:=x.done
 have noA:∀ b:Addr,b ∉ (zgZ CX P w K mg base N qual scope f cd A outer s H E).ex:=fun b z=>absurd (show b∈([]:List Addr) from z) (by simp)
 refine ⟨⟨e0.mod,S.kind,rfl,rfl,ycu _,fun y z c h1 h2=>?_,fun y hy=>?_,fun y c _ h=>?_,fun _=>hd,Around.frames_deeper e0.frames,.inr ⟨rfl,rfl⟩,fun b z=>absurd z (noA b),e0.bs,e0.bsz,fun b _ _=>noA b,fun b z=>absurd z (noA b),e0.funs,e0.frf⟩,
  rfl,e0.bare,Un.kept hk,⟨_,x.toInCall.ns,fun i y v h1 h2 h3=>?_⟩,fun y c h=>⟨_,x.cell y c h⟩,e0.hok.fresh (ycu _),fun y c h=>?_,fun p hp=>absurd (show p∈([]:List (Addr × Obj)) from hp) (by simp),e0.hok.kept hk,?_⟩
 ·exact name_of_addr x.apart (PySem.mem_of_lookup h1) (PySem.mem_of_lookup h2)
 ·have hy:scope.names.lookup y=some .cell\/scope.names.lookup y=some .free:=hy
  rcases hy with hy | hy
  ·exact zp4 hy
  ·exact absurd rfl (S.nofree _ (PySem.mem_of_lookup hy))
 ·exact ydg (x.above y c (PySem.mem_of_lookup h))
 ·have hi:i<vs.length:=by
   unfold start at h2
   by_cases hi:i<vs.length
   ·exact hi
   ·rw[ybj (by simpa using hi)] at h2
    rw[List.getElem?_replicate] at h2
    split at h2 <;> cases h2
  have ha:vs[i]?=some v:=by
   unfold start at h2
   rw[ybt (by simpa using hi),yaj] at h2
   cases e:vs[i]? with
   | none=>rw[e] at h2;cases h2
   | some a=>rw[e] at h2;cases h2;rfl
  obtain ⟨u,hu,rv⟩:=r.get ha
  have hp:ps[i]?=some y:=by
   rw[<-S.pre,List.getElem?_take_of_lt (by omega)];exact h1
  have ndP:ps.Nodup:=by rw[<-S.pre];exact S.nd.sublist (List.take_sublist _ _)
  refine ⟨u,rv,?_⟩
  rcases S.par y (yai hp) with k | k
  ·exact .inl ⟨k,znG ndP hp hu k⟩
  ·obtain ⟨c,e⟩:=zp4 (n:=s.heap.objs.size+1) k
   refine .inr ⟨.inl k,c,e,?_⟩
   have q:=x.cell y c e
   rw[znD ndP hp hu (by show scope.names.lookup y≠_;rw[k];decide)] at q
   exact q
 ·exact e0.hok.fresh (ydg (x.above y c (PySem.mem_of_lookup h)))
 ·unfold start
  show _=N.length
  rw[yag,yab,List.length_replicate]
  omega
theorem zwt {CX:CXT} {P:Program} {w:World} {K:W.Frag} {mg:Str->Option Value} {base:Heap} {k:Nat} {f:Addr} {name qual:Str} {params:Arguments} {body:List Stmt} {scope:Scope} {dV kV doc pm cdv ct oc:Value} {an od:Option Addr}
  {osl:Array (Option Value)} {N ps:List Str} {sp:Sp} (lk:K.lookup f=some ⟨oc,od,.func (PySem.W.fnOf name qual params body scope dV kV doc pm an cdv ct),osl⟩) (hcd:PySem.W.codeIn K cdv qual=true) (S:zk N ps scope)
  (len:∀ vs H Q E,sp vs H Q E->vs.length=ps.length)
  (hbody:∀ (A:Around) (outer:List Env) (s:Shared) (H:Hp) (vs:List V) (Q:VK) (E:XK),Room k (A.deeper (envOfC qual scope s.heap.objs.size f cdv))->sp vs H Q E ->
   ∃ t,PSs (zgZ CX P w K mg base N qual scope f cdv A outer s H E) body t/\t { nx:=fun _ H'=>Q .non H',rt:=Q } (start N vs) H) :
  zcm P w K mg base CX (k+1) f (PySem.W.fnOf name qual params body scope dV kV doc pm an cdv ct) ps sp:=by
 refine ⟨len,fun A outer s H args us vs Q E hr e0 hb r hsp=>?_⟩
 have hl:=len _ _ _ _ hsp
 have KX:K.In s.heap:=e0.mod.kin.keeps fun b o e=>(e0.bs b o e).1
 have lim:s.heap.NoLimit:=e0.mod.nolimit.keeps fun b o e=>(e0.bs b o e).1
 have hkind:∀ y∈ps.zip us,scope.names.lookup y.1=some .local\/(scope.names.lookup y.1=some .cell/\((cellsFrom (s.heap.objs.size+1) scope.names []).lookup y.1).isSome=true):=fun ⟨n,v⟩ hy=>by
  rcases S.par n (List.of_mem_zip hy).1 with q | q
  ·exact .inl q
  ·exact .inr ⟨q,PySem.W.cellsFrom_some _ _ _ (.inl q)⟩
 refine codeAny_call_function hr.depth (KX _ _ lk) rfl S.co S.gen rfl (PySem.W.codeRec_of KX hcd) (hb _ _ _ _ ?_)
 refine wpAny_newFunctionEnv_cells S.kind hkind fun env he s1 x=>?_
 subst he
 refine ⟨lim.keeps x.toInCall.keep,codeAny_func ?_⟩
 obtain ⟨t,ht,hq⟩:=hbody A outer s H vs Q E (hr.deeper _) hsp
 have I:Inv (zgZ CX P w K mg base N qual scope f cdv A outer s H E) [] (start N vs) H s1:=zsz S hr.hd e0 hl r x
 refine wpAny_mono (ht [] s1 (start N vs) H _ I hq) (fun fl s' hs=>?_) fun e s' hs=>hs
 have fin:∀ {σ':St} {H':Hp} {v:V} {u:Value},Inv (zgZ CX P w K mg base N qual scope f cdv A outer s H E) [] σ' H' s'->RelV v u->Q v H'->CE outer P w H s Q u s' :=
  fun {σ' H' v u} J rv q=>⟨v,H',J.os,J.bare,J.base,J.hok,rv,q⟩
 cases fl with
 | ret u =>
  obtain ⟨v,σ',H',J,rv,q⟩:=hs
  exact fin J rv q
 | next =>
  obtain ⟨σ',H',J,q⟩:=hs
  exact fin (v:=V.non) (u:=Value.none) J rfl q
 | brk =>
  obtain ⟨_,_,_,q⟩:=hs
  exact False.elim q
 | cont =>
  obtain ⟨_,_,_,q⟩:=hs
  exact False.elim q
end L2
namespace L2
open PySem PySem.Spec PyProof.Rows
section
variable {X:Cx} {x:Str} {p pos:Pos} {e:Expr} {es:List Expr} {t:TA} {id T:String} {r:List V->Hp->VK->Prop}
def tCB (r:List V->Hp->VK->Prop) (t:TA):TE:=fun σ H Q=>t σ H fun vs H1=>r vs H1 Q
theorem zD (hc:zbD X (.builtin id) r) (hg:Gl X x) (hm:X.mg x=none) (hv:bootBuiltins x=some (.builtin id)) (ha:PA X (e::es) t) (hn:x ≠ "__name__" := by decide) (hdb:(x == ("__debug__" : Str))=false:=by decide)
  (he:starEach (e::es) X.env=(false,eval e X.env)::starEach es X.env:=by rfl) (hpl:(backTo pos (starEach es X.env)).any (·.1)=false:=by rfl):PE X (.Call (.Name x p) (e::es) [] pos) (tCB r t):=by
 intro pins s σ H Q I h
 refine wpAny_Call_Name_kw (zjX I hg hm hv ?_ hn hdb)
 exact PyProof.Rows.callWith_builtin1 (thn (ha pos pins s σ H _ I h) fun us s1 ⟨vs,H1,I1,r1,q1⟩=>hc pins s1 σ H1 vs us Q I1 r1 q1) he hpl
theorem zH (hc:zbD X (.type T) r) (hg:Gl X x) (hm:X.mg x=none) (hv:bootBuiltins x=some (.type T)) (ha:PA X (e::es) t) (hn:x ≠ "__name__" := by decide) (hdb:(x == ("__debug__" : Str))=false:=by decide)
  (he:starEach (e::es) X.env=(false,eval e X.env)::starEach es X.env:=by rfl) (hpl:(backTo pos (starEach es X.env)).any (·.1)=false:=by rfl):PE X (.Call (.Name x p) (e::es) [] pos) (tCB r t):=by
 intro pins s σ H Q I h
 refine wpAny_Call_Name_kw (zjX I hg hm hv ?_ hn hdb)
 exact PyProof.Rows.callWith_type1 (thn (ha pos pins s σ H _ I h) fun us s1 ⟨vs,H1,I1,r1,q1⟩=>hc pins s1 σ H1 vs us Q I1 r1 q1) he hpl
end
end L2
namespace HT
open PySem PyProof.Rows
section
open PySem.SeqAt
open PySem.AutoSeq1 (wpAny_loadPart')
open PySem.MeetsSeq PySem.MeetsSeq2 PySem.MeetsSeq3
end
section
variable {prog:Program} {w:World} {A:Around} {E:Value->Shared->Prop} {s:Shared}
theorem zuV {t b:Addr} {vs ws:List Value} {Q:Value->Shared->Prop} (ht:IsTup s.heap t vs.toArray) (hb:IsTup s.heap b ws.toArray) (hv:vs≠[])
  (h1:ws=[]->Q (.ref t) s) (h2:ws≠[]->Q (.ref s.heap.objs.size) { s with heap:=s.heap.push { cls:=.type "tuple", data:=.seq (vs++ws).toArray } })
  (hsz:vs.length+ws.length<=sizeLine):wpAny (model prog w) A (binaryOp .Add (.ref t) (.ref b)) Q E s:=by
 obtain ⟨⟨cls,dd,data,sl⟩,ho,hc,n,hd⟩:=id ht
 obtain ⟨⟨cls2,dd2,data2,sl2⟩,ho2,hc2,n2,hd2⟩:=id hb
 simp only at hc hd hc2 hd2
 subst hc hd hc2 hd2
 have e:vs.toArray++ws.toArray=(vs++ws).toArray:=by simp
 by_cases hw:ws=[]
 ·exact concat_meets ⟨_,ho,rfl⟩ ⟨_,ho2,rfl⟩ noFill_tuple_add seq_tuple_add PySem.F.slot_tuple_add PySem.F.entry_tuple_add (PySem.F.args_tuple_add_2 _ _)
   (tuple_addW1 t b vs.toArray ws.toArray n n2 dd dd2 sl sl2 (by simpa using hv) (by simp[hw])) ⟨ho,ho2,h1 hw⟩
 ·refine concat_meets ⟨_,ho,rfl⟩ ⟨_,ho2,rfl⟩ noFill_tuple_add seq_tuple_add PySem.F.slot_tuple_add PySem.F.entry_tuple_add (PySem.F.args_tuple_add_2 _ _)
   (tuple_addW2 t b vs.toArray ws.toArray n n2 dd dd2 sl sl2 (by simpa using hv) (by simpa using hw) (by rw[yal,yal];exact hsz)) ⟨ho,ho2,?_⟩
  rw[e]
  exact h2 hw
noncomputable def sIx (n d:Nat):Option Int->Nat
 | none=>d
 | some v=>if v<0 then (v+(n:Int)).toNat else min v.toNat n
end
end HT
namespace L2
open PySem PySem.Spec PyProof.Rows
noncomputable abbrev TO:=St->Hp->(Option Int->Hp->Prop)->Prop
def PO (X:Cx) (e:Option Expr) (t:TO):Prop :=
 ∀ (pins:List (Addr × Obj)) (s:Shared) (σ:St) (H:Hp) (Q:Option Int->Hp->Prop),Inv X pins σ H s->t σ H Q ->
  wpAny (model X.prog X.w) X.A (evalPart e X.env) (fun u s'=>∃ o H',Inv X pins σ H' s'/\IsPart u o/\Q o H') X.xe s
def zuM:TO:=fun _ H Q=>Q none H
def zwU (t:TE):TO:=fun σ H Q=>t σ H fun x H1=>∃ i,x=.int i/\Q (some i) H1
section
variable {X:Cx} {e:Expr} {te:TE} {lo hi:Option Expr} {tl th:TO} {pos p2:Pos}
theorem zcf:PO X none zuM:=by
 intro pins s σ H Q I h
 rw[evalPart_none]
 exact wpAny_pure ⟨none,H,I,.none,h⟩
theorem zbv (h:PE X e te):PO X (some e) (zwU te):=by
 intro pins s σ H Q I hw
 rw[evalPart_some]
 refine thn (h pins s σ H _ I hw) fun u s1 ⟨x,H1,I1,r1,q1⟩=>?_
 obtain ⟨i,rfl,q⟩:=q1
 obtain ⟨t,rfl⟩:=r1
 exact ⟨some i,H1,I1,.int i t,q⟩
def SlR (X:Cx) (r:V->Option Int->Option Int->Hp->VK->Prop):Prop :=
 ∀ (pins:List (Addr × Obj)) (s:Shared) (σ:St) (H:Hp) (x:V) (v vl vu:Value) (lo hi:Option Int) (sl:Addr) (Q:VK),Inv X pins σ H s->RelV x v->s.heap.IsSliceOf sl vl vu .none->IsPart vl lo->IsPart vu hi->r x lo hi H Q ->
  ∃ T id,typeLookup (.type T) "__getitem__" = pure (some (.builtin id))/\s.TypeIs v T/\wpAny (model X.prog X.w) X.A (getItem v (.ref sl)) (EP X pins σ Q) X.xe s
def tSl (r:V->Option Int->Option Int->Hp->VK->Prop) (te:TE) (tl th:TO):TE:=fun σ H Q=>te σ H fun x H1=>tl σ H1 fun l H2=>th σ H2 fun u H3=>r x l u H3 Q
theorem zbp {r:V->Option Int->Option Int->Hp->VK->Prop} (hr:SlR X r) (he:PE X e te) (hl:PO X lo tl) (hu:PO X hi th):PE X (.Subscript e (.Slice lo hi none p2) pos) (tSl r te tl th):=by
 intro pins s σ H Q I h
 refine Subscript_ (thn (he pins s σ H _ I h) fun v s1 ⟨x,H1,I1,r1,q1⟩=>?_)
 refine wpAny_Slice (thn (hl pins s1 σ H1 _ I1 q1) fun vl s2 ⟨l,H2,I2,pl,q2⟩=>thn (hu pins s2 σ H2 _ I2 q2) fun vu s3 ⟨u,H3,I3,pu,q3⟩=>?_)
 rw[evalPart_none]
 refine wpAny_pure ?_
 have I4:Inv X pins σ H3 { s3 with heap:=s3.heap.push { cls:=.type "slice", data:=.fields #[vl,vu,.none] } }:=I3.kept (t':=s3.toks) fun b ob q=>ydj _ q
 obtain ⟨T,id,hT,ht,hg⟩:=hr pins { s3 with heap:=s3.heap.push { cls:=.type "slice", data:=.fields #[vl,vu,.none] } } σ H3 x v vl vu l u s3.heap.objs.size Q I4 r1 (Heap.IsSliceOf.new ..) pl pu q3
 show wpAny (model X.prog X.w) X.A (subscriptTail e (.Slice lo hi none p2) v (.ref s3.heap.objs.size)) (EP X pins σ Q) X.xe { s3 with heap:=s3.heap.push { cls:=.type "slice", data:=.fields #[vl,vu,.none] } }
 exact tail_any (ops:=[.ref s3.heap.objs.size,v]) ht hT hg (by with_unfolding_all rfl)
noncomputable def zdv (xs:List V) (lo hi:Option Int):List V:=(xs.drop (HT.sIx xs.length 0 lo)).take (HT.sIx xs.length xs.length hi-HT.sIx xs.length 0 lo)
theorem zqt (xs:List V) (lo hi:Option Int):(zdv xs lo hi).length<=xs.length:=by
 unfold zdv
 rw[ybd,ybv]
 omega
def zuy (K:W.Frag):R2:=fun x y H Q=>∃ a b xs ys,x=.ref a/\y=.ref b/\SqT K H a xs/\SqT K H b ys/\xs≠[]/\xs.length+ys.length<=sizeLine /\
 (ys=[]->Q (.ref a) H)/\(ys≠[]->∀ p,H p=none->Q (.ref p) (upd H p (.tup (xs++ys))))
theorem Vals.znt {xs:List V} {us:List Value} (r:Vals xs us):us=[]↔xs=[]:=by
 cases r with
 | nil=>simp
 | cons _ _=>simp
theorem zkV:OpR X (binaryOp .Add) (zuy X.K):=by
 intro pins s σ H x y v u Q I rx ry h
 obtain ⟨a,b,xs,ys,rfl,rfl,ha,hb,hx,hz,q1,q2⟩:=h
 cases rx
 cases ry
 obtain ⟨its,r1,p1,_⟩:=I.tuple ha
 obtain ⟨its2,r2,p2,_⟩:=I.tuple hb
 refine HT.zuV p1 p2 (fun z=>hx (r1.znt.mp z)) (fun z=>⟨.ref a,H,I,rfl,q1 (r2.znt.mp z)⟩) (fun z=>?_) (by rw[<-r1.length,<-r2.length];exact hz)
 refine ⟨.ref s.heap.objs.size,_,I.laid (t':=s.toks) (o:=.tup (xs++ys)) (fun b ob q=>ydj _ q) (ycu _) ?_,rfl,q2 (fun w=>z (r2.znt.mpr w)) _ (I.hok.fresh (ycu _))⟩
 exact ⟨by rw[yag];exact hz,_,r1.append r2,IsTup.new _ _⟩
end
end L2
namespace L2
open PySem PySem.Spec PyProof.Rows
noncomputable def ixN (n:Nat) (i:Int):Option Nat:=if 0<=i then (if i<n then some i.toNat else none) else if -(n:Int)<=i then some (i+n).toNat else none
noncomputable def atI {α:Type} (xs:List α) (i:Int):Option α:=(ixN xs.length i).bind fun j=>xs[j]?
theorem zru {n:Nat} {i:Int} {j:Nat} (h:ixN n i=some j):seqIndex? i n=some j/\j<n /\ -(n:Int)<=i/\i<n:=by
 unfold ixN at h
 by_cases h0:0<=i
 ·rw[if_pos h0] at h
  by_cases h1:i<n
  ·rw[if_pos h1] at h
   have e:i.toNat=j:=Option.some.inj h
   exact ⟨by rw[seqIndex_of h0 h1,e],by omega,by omega,h1⟩
  ·rw[if_neg h1] at h;cases h
 ·rw[if_neg h0] at h
  by_cases h1:-(n:Int)<=i
  ·rw[if_pos h1] at h
   have e:(i+n).toNat=j:=Option.some.inj h
   exact ⟨by rw[seqIndex_neg (by omega) h1,e],by omega,h1,by omega⟩
  ·rw[if_neg h1] at h;cases h
theorem zrH {α:Type} {xs:List α} {i:Int} {v:α} (h:atI xs i=some v):∃ j,seqIndex? i xs.length=some j/\xs[j]?=some v/\j<xs.length /\ -(xs.length:Int)<=i/\i<xs.length:=by
 unfold atI at h
 cases e:ixN xs.length i with
 | none=>rw[e] at h;cases h
 | some j =>
  rw[e] at h
  obtain ⟨h1,h2,h3,h4⟩:=zru e
  exact ⟨j,h1,h,h2,h3,h4⟩
theorem zak {α:Type} {xs:List α} {j:Nat} {v:α} (h:xs[j]?=some v):atI xs (j:Int)=some v:=by
 have hj:j<xs.length:=(yad.mp h).1
 have e:ixN xs.length (j:Int)=some j:=by
  unfold ixN
  rw[if_pos (by omega),if_pos (by omega)];simp
 unfold atI;rw[e];exact h
def zuW (b:Expr):Prop:=∀ o i,subscripted b false o i=operate [o,i] (getItem o i)
def IxR (X:Cx) (r:R2):Prop :=
 ∀ (value slice:Expr) (pins:List (Addr × Obj)) (s:Shared) (σ:St) (H:Hp) (x y:V) (v u:Value) (Q:VK),Inv X pins σ H s->RelV x v->RelV y u->r x y H Q ->
  subscripted slice false v u=operate [v,u] (getItem v u)->wpAny (model X.prog X.w) X.A (subscriptTail value slice v u) (EP X pins σ Q) X.xe s
def MtR (X:Cx) (id:String) (r:V->List V->Hp->VK->Prop):Prop :=
 ∀ (pins:List (Addr × Obj)) (s:Shared) (σ:St) (H:Hp) (x:V) (xs:List V) (v:Value) (us:List Value) (Q:VK),Inv X pins σ H s->RelV x v->Vals xs us->r x xs H Q ->
  wpAny (model X.prog X.w) X.A (call (.builtin id) (v::us)) (EP X pins σ Q) X.xe s
section
variable {X:Cx} {a b:Expr} {ta tb:TE} {pos:Pos}
theorem zo {r:R2} (hr:IxR X r) (ha:PE X a ta) (hb:PE X b tb) (hs:zuW b):PE X (.Subscript a b pos) (tOp r ta tb):=by
 intro pins s σ H Q I h
 exact Subscript_ (ztO ha hb I h fun v u s2 x y H2 I2 rx ry q=>hr a b pins s2 σ H2 x y v u Q I2 rx ry q (hs _ _))
def zvV (K:W.Frag):R2:=fun x y H Q=>∃ p xs i v,x=.ref p/\y=.int i/\SqL K H p xs/\atI xs i=some v/\Q v H
def zvK (K:W.Frag):R2:=fun x y H Q=>∃ p xs i v,x=.ref p/\y=.int i/\SqT K H p xs/\atI xs i=some v/\Q v H
theorem zt:IxR X (zvV X.K):=by
 intro value slice pins s σ H x y v u Q I rx ry h hs
 obtain ⟨p,xs,i,z,rfl,rfl,hq,he,q⟩:=h
 cases rx
 obtain ⟨t,rfl⟩:=ry
 obtain ⟨its,r,pl,hz⟩:=I.list hq
 obtain ⟨j,h1,h2,h3,h4,h5⟩:=zrH he
 obtain ⟨w,ew,rw'⟩:=r.get h2
 have hl:=r.length
 have hn:=zmh
 have fin:EP X pins σ Q w s:=⟨z,H,I,rw',q⟩
 by_cases h0:0<=i
 ·have hj:i.toNat=j:=by
   rw[seqIndex_of h0 h5] at h1
   exact Option.some.inj h1
  exact item_listR pl.isList h0 (by omega) (by rw[hj];simpa using ew) fin hs
 ·have hj:(i+(its.toArray.size:Int)).toNat=j:=by
   rw[seqIndex_neg (by omega) h4] at h1
   rw[yal,<-hl]
   exact Option.some.inj h1
  exact subscriptTail_builtinR (x:=w) pl.isList.typeIs slot_list_getitem.lookup
   (wpAny_getItem_list_neg (Q:=fun r s'=>r=w/\EP X pins σ Q r s') pl.isList (by omega) (by rw[yal] <;> omega) (by omega) (by rw[hj];simpa using ew) ⟨rfl,fin⟩) hs
theorem zah:IxR X (zvK X.K):=by
 intro value slice pins s σ H x y v u Q I rx ry h hs
 obtain ⟨p,xs,i,z,rfl,rfl,hq,he,q⟩:=h
 cases rx
 obtain ⟨t,rfl⟩:=ry
 obtain ⟨its,r,pl,hz⟩:=I.tuple hq
 obtain ⟨j,h1,h2,h3,h4,h5⟩:=zrH he
 obtain ⟨w,ew,rw'⟩:=r.get h2
 have hl:=r.length
 have hn:=zmh
 have fin:EP X pins σ Q w s:=⟨z,H,I,rw',q⟩
 exact subscriptTail_builtinR (x:=w) pl.typeIs slot_tuple_getitem.lookup
  (getItem_tuple (j:=j) (Q:=fun r s'=>r=w/\EP X pins σ Q r s') pl (by omega) (by omega) (by rw[yal,<-hl];exact h1) (by simpa using ew) ⟨rfl,fin⟩) hs
theorem zrV (its:List Value) (n j:Nat) (u:Value):Obj.mapSeq (·.setIfInBounds j u) { cls:=.type "list", data:=.seq its.toArray n }={ cls:=.type "list", data:=.seq (its.set j u).toArray n }:=by
 simp[Obj.mapSeq]
theorem Inv.lst {pins:List (Addr × Obj)} {σ:St} {H:Hp} {s:Shared} {p:Addr} {xs:List V} (I:Inv X pins σ H s) (h:H p=some (.lst xs)) :
  ∃ (its:List Value) (n:Nat),Vals xs its/\s.heap.get? p=some { cls:=.type "list", data:=.seq its.toArray n }/\xs.length<=sizeLine:=by
 obtain ⟨z,its,n,r,e⟩:=I.hok p _ h
 exact ⟨its,n,r,e,z⟩
theorem Inv.zwk {pins:List (Addr × Obj)} {σ:St} {H:Hp} {s:Shared} {p:Addr} {xs ys:List V} {its its':List Value} {n n':Nat} {f:Obj->Obj} (I:Inv X pins σ H s) (h:H p=some (.lst xs))
  (ho:s.heap.get? p=some { cls:=.type "list", data:=.seq its.toArray n }) (hf:f { cls:=.type "list", data:=.seq its.toArray n }={ cls:=.type "list", data:=.seq its'.toArray n' }) (r:Vals ys its') (hz:ys.length<=sizeLine) (t:Nat) :
  Inv X pins σ (upd H p (.lst ys)) { s with heap:=s.heap.update p f,toks:=t }:=by
 have e:(s.heap.update p f).get? p=some { cls:=.type "list", data:=.seq its'.toArray n' }:=by
  rw[ydo f ho (by rw[hf] <;> rfl),hf]
 refine I.write (x:=p) (e:=p) (by rw[h];trivial) (.inl rfl) (fun b u hb q=>(Heap.get?_update_other _ _ (Ne.symm hb)).trans q) ⟨_,e⟩ ?_
 exact ⟨hz,its',n',r,e⟩
noncomputable def zwP:V->V->V->Hp->(Hp->Prop)->Prop:=fun o i v H Q=>∃ p xs k j,o=.ref p/\i=.int k/\H p=some (.lst xs)/\ixN xs.length k=some j/\Q (upd H p (.lst (xs.set j v)))
theorem set_list:PSet X zwP:=by
 intro pins s σ H o i v ov iv u Q I ro ri rv h
 obtain ⟨p,xs,k,j,rfl,rfl,hp,hj,q⟩:=h
 cases ro
 obtain ⟨t,rfl⟩:=ri
 obtain ⟨its,n,r,ho,hz⟩:=I.lst hp
 obtain ⟨h1,h2,h3,h4⟩:=zru hj
 have hl:=r.length
 have hn:=zmh
 have I':Inv X pins σ (upd H p (.lst (xs.set j v))) { s with heap:=s.heap.update p (Obj.mapSeq (·.setIfInBounds j u)) } :=
  I.zwk hp ho (zrV its n j u) (r.set rv j) (by rw[List.length_set];exact hz) s.toks
 by_cases h0:0<=k
 ·have hk:k.toNat=j:=by
   rw[seqIndex_of h0 h4] at h1
   exact Option.some.inj h1
  exact PySem.W.ki_setAt ho h0 (by omega) (by rw[yal,<-hl];exact h4) (by rw[hk];exact ⟨_,I',q⟩)
 ·have hk:(k+(its.toArray.size:Int)).toNat=j:=by
   rw[seqIndex_neg (by omega) h3] at h1
   rw[yal,<-hl]
   exact Option.some.inj h1
  exact PySem.W.ki_setBack ho (by omega) (by rw[yal,<-hl];exact h3) (by omega) (by rw[hk];exact ⟨_,I',q⟩)
theorem zpP (lo hi:Option Int) (n:Nat):(sliceBounds lo hi none n).1=((HT.sIx n 0 lo:Nat):Int)/\(sliceBounds lo hi none n).2.1=((HT.sIx n n hi:Nat):Int)/\(sliceBounds lo hi none n).2.2=1:=by
 refine ⟨?_,?_,rfl⟩
 ·cases lo with
  | none=>simp[sliceBounds,HT.sIx]
  | some i =>
   simp only[sliceBounds,HT.sIx,Option.getD_none,show (1:Int) > 0 by decide,if_true]
   by_cases h:i<0
   ·simp only[h,if_true] <;> omega
   ·simp only[h,if_false] <;> omega
 ·cases hi with
  | none=>simp[sliceBounds,HT.sIx]
  | some i =>
   simp only[sliceBounds,HT.sIx,Option.getD_none,show (1:Int) > 0 by decide,if_true]
   by_cases h:i<0
   ·simp only[h,if_true] <;> omega
   ·simp only[h,if_false] <;> omega
theorem zn1 (its:List Value) (lo hi:Option Int):slicePick its.toArray lo hi none=((its.drop (HT.sIx its.length 0 lo)).take (HT.sIx its.length its.length hi-HT.sIx its.length 0 lo)).toArray:=by
 obtain ⟨h1,h2,h3⟩:=zpP lo hi its.toArray.size
 unfold slicePick
 rw[h1,h2,h3]
 simp only[sliceRange_one,pick_run,yal] <;> rfl
noncomputable def zxz (K:W.Frag):V->Option Int->Option Int->Hp->VK->Prop:=fun x lo hi H Q=>∃ a xs,x=.ref a/\SqL K H a xs/\∀ p,H p=none->Q (.ref p) (upd H p (.lst (zdv xs lo hi)))
theorem zbZ:SlR X (zxz X.K):=by
 intro pins s σ H x v vl vu lo hi sl Q I rx hs pl pu h
 obtain ⟨a,xs,rfl,hx,q⟩:=h
 cases rx
 obtain ⟨its,r,ht,hz⟩:=I.list hx
 have hlen:=r.length
 refine ⟨"list", _,slot_list_getitem.lookup,ht.isList.typeIs,?_⟩
 refine wpAny_getItem_list_slice ht.isList hs pl pu .none (by simp) ?_ (by rw[yal] <;> omega)
 rw[zn1,<-hlen]
 refine ⟨.ref s.heap.objs.size,_,I.laid (t':=s.toks) (o:=.lst (zdv xs lo hi)) (fun b ob q=>ydj _ q) (ycu _) ?_,rfl,q _ (I.hok.fresh (ycu _))⟩
 exact ⟨ycz (zqt xs lo hi) hz,_,0,(r.drop (HT.sIx xs.length 0 lo)).take (HT.sIx xs.length xs.length hi-HT.sIx xs.length 0 lo),ydl _ rfl⟩
noncomputable def zgc:V->Bool
 | .non=>true
 | .bl _=>true
 | .int _=>true
 | .str _=>true
 | _=>false
noncomputable def eqV:V->V->Bool
 | .non,.non=>true
 | .bl a,.bl b=>a == b
 | .bl a,.int b=>(if a then 1 else 0) == b
 | .int a,.bl b=>a == (if b then 1 else 0)
 | .int a,.int b=>a == b
 | .str a,.str b=>a == b
 | _,_=>false
theorem zvT {A:Around} {s:Shared} {y x:V} {u v:Value} (ry:RelV y u) (rx:RelV x v) (fy:zgc y=true) (fx:zgc x=true):SeqAt.EqAt A s u v (eqV y x):=by
 cases y with
 | non =>
  cases ry
  cases x with
  | non=>cases rx;exact SeqAt.EqAt.same _
  | bl b=>cases rx;exact SeqAt.EqAt.none_bool b
  | int b=>obtain ⟨t,rfl⟩:=rx;exact SeqAt.EqAt.none_int b t
  | str b=>obtain ⟨t,rfl⟩:=rx;exact SeqAt.EqAt.none_str b t
  | _=>exact absurd (show false=true from fx) Bool.false_ne_true
 | bl a =>
  cases ry
  cases x with
  | non=>cases rx;exact SeqAt.EqAt.bool_none a
  | bl b=>cases rx;exact SeqAt.EqAt.bool_bool a b
  | int b=>obtain ⟨t,rfl⟩:=rx;exact SeqAt.EqAt.bool_int a b t
  | str b=>obtain ⟨t,rfl⟩:=rx;exact SeqAt.EqAt.bool_str a b t
  | _=>exact absurd (show false=true from fx) Bool.false_ne_true
 | int a =>
  obtain ⟨t',rfl⟩:=ry
  cases x with
  | non=>cases rx;exact SeqAt.EqAt.int_none a t'
  | bl b=>cases rx;exact SeqAt.EqAt.int_bool a t' b
  | int b=>obtain ⟨t,rfl⟩:=rx;exact SeqAt.EqAt.int_int a t' b t
  | str b=>obtain ⟨t,rfl⟩:=rx;exact SeqAt.EqAt.int_str a t' b t
  | _=>exact absurd (show false=true from fx) Bool.false_ne_true
 | str a =>
  obtain ⟨t',rfl⟩:=ry
  cases x with
  | non=>cases rx;exact SeqAt.EqAt.str_none a t'
  | bl b=>cases rx;exact SeqAt.EqAt.str_bool a t' b
  | int b=>obtain ⟨t,rfl⟩:=rx;exact SeqAt.EqAt.str_int a t' b t
  | str b=>obtain ⟨t,rfl⟩:=rx;exact SeqAt.EqAt.str_str a t' b t
  | _=>exact absurd (show false=true from fx) Bool.false_ne_true
 | _=>exact absurd (show false=true from fy) Bool.false_ne_true
def eqU (x:V) (u:Value):Bool:=match u with
 | .none=>eqV .non x
 | .bool b=>eqV (.bl b) x
 | .int i _=>eqV (.int i) x
 | .str z _=>eqV (.str z) x
 | _=>false
theorem zti {x y:V} {u:Value} (r:RelV y u) (f:zgc y=true):eqU x u=eqV y x:=by
 cases y with
 | non=>cases r;rfl
 | bl b=>cases r;rfl
 | int i=>obtain ⟨t,rfl⟩:=r;rfl
 | str z=>obtain ⟨t,rfl⟩:=r;rfl
 | _=>exact absurd (show false=true from f) Bool.false_ne_true
theorem zmQ {x:V}:∀ {xs:List V} {us:List Value},Vals xs us->xs.all zgc=true->us.any (eqU x)=xs.any fun y=>eqV y x
 | _,_,.nil,_=>rfl
 | y::xs,u::us,.cons r t,f=>by
  rw[List.all_cons,Bool.and_eq_true] at f
  rw[ycd,ycd,zti r f.1,zmQ t f.2]
theorem zlG {A:Around} {s:Shared} {x:V} {v:Value} (rx:RelV x v) (fx:zgc x=true):∀ {xs:List V} {us:List Value},Vals xs us->xs.all zgc=true->∀ u∈us,SeqAt.EqAt A s u v (eqU x u)
 | _,_,.nil,_=>fun u hu=>by cases hu
 | y::xs,u::us,.cons r t,f=>fun u' hu=>by
  rw[List.all_cons,Bool.and_eq_true] at f
  rcases yak.mp hu with rfl | hu
  ·rw[zti r f.1];exact zvT r rx f.1 fx
  ·exact zlG rx fx t f.2 u' hu
def inV (x:V) (xs:List V):Bool:=xs.any fun y=>eqV y x
def rIn (K:W.Frag) (neg:Bool):R2:=fun x y H Q=>∃ p xs,y=.ref p/\(SqL K H p xs\/SqT K H p xs)/\zgc x=true/\xs.all zgc=true/\Q (.bl (if neg then !inV x xs else inV x xs)) H
theorem zhl:OpR X (compareOp .In) (rIn X.K false):=by
 intro pins s σ H x y v u Q I rx ry h
 obtain ⟨p,xs,rfl,hq,fx,fs,q⟩:=h
 cases ry
 rcases hq with hq | hq
 ·obtain ⟨its,r,pl,hz⟩:=I.list hq
  refine SeqAt.in_listAt (eqU x) pl.isList (fun w hw=>zlG rx fx r fs w (by simpa using hw)) ⟨.bl _,H,I,rfl,?_⟩
  rw[show its.toArray.any (eqU x)=its.any (eqU x) by simp,zmQ r fs]
  exact q
 ·obtain ⟨its,r,pl,hz⟩:=I.tuple hq
  refine SeqAt.in_tupleAt (eqU x) pl (fun w hw=>zlG rx fx r fs w (by simpa using hw)) ⟨.bl _,H,I,rfl,?_⟩
  rw[show its.toArray.any (eqU x)=its.any (eqU x) by simp,zmQ r fs]
  exact q
theorem zaN:zbD X (.builtin "len") (fun xs H Q=>∃ p ys,xs=[.ref p]/\(SqL X.K H p ys\/SqT X.K H p ys)/\Q (.int ys.length) H):=by
 intro pins s σ H xs us Q I r h
 obtain ⟨p,ys,rfl,hq,q⟩:=h
 obtain ⟨u,rfl,rx⟩:=vals1 r
 cases rx
 have hn:=zmh
 rcases hq with hq | hq
 ·obtain ⟨its,r',pl,hz⟩:=I.list hq
  have hlen:=r'.length
  exact Calls.call_len_list pl.isList (by simp only[yal] <;> omega) ⟨.int ys.length,H,I.tok _,⟨s.toks+1,by rw[yal,hlen]⟩,q⟩
 ·obtain ⟨its,r',pl,hz⟩:=I.tuple hq
  have hlen:=r'.length
  exact len_tuple pl (by simp only[yal] <;> omega) ⟨.int ys.length,H,I.tok _,⟨s.toks+1,by rw[yal,hlen]⟩,q⟩
theorem zas:zbD X (.type "list") (fun xs H Q=>∃ p ys,xs=[.ref p]/\(SqL X.K H p ys\/SqT X.K H p ys)/\∀ l,H l=none->Q (.ref l) (upd H l (.lst ys))):=by
 intro pins s σ H xs us Q I r h
 obtain ⟨p,ys,rfl,hq,q⟩:=h
 obtain ⟨u,rfl,rx⟩:=vals1 r
 cases rx
 have fin:∀ (its:List Value),Vals ys its->ys.length<=sizeLine->∀ (h':Heap) (c':Nat),(∀ b o',s.heap.get? b=some o'->h'.get? b=some o') ->
   h'.get? s.heap.objs.size=some { cls:=.type "list", dict:=none,data:=.seq its.toArray c',slots:=#[] }->EP X pins σ Q (.ref s.heap.objs.size) { s with heap:=h' }:=fun its r' hz h' c' kp e =>
  ⟨.ref s.heap.objs.size,_,I.laid (t':=s.toks) kp (ycu _) (show zam X.prog X.w _ h' _ (.lst ys) from ⟨hz,its,c',r',e⟩),rfl,q _ (I.hok.fresh (ycu _))⟩
 rcases hq with hq | hq
 ·obtain ⟨its,r',pl,hz⟩:=I.list hq
  have hlen:=r'.length
  obtain ⟨o,ho,hc,n,hd⟩:=pl.isList
  exact call_list_seq p (.inl rfl) ho hc hd (fun h' c' kp e=>fin its r' hz h' c' kp e) (by simp only[yal] <;> omega)
 ·obtain ⟨its,r',pl,hz⟩:=I.tuple hq
  have hlen:=r'.length
  obtain ⟨o,ho,hc,n,hd⟩:=pl
  exact call_list_seq p (.inr rfl) ho hc hd (fun h' c' kp e=>fin its r' hz h' c' kp e) (by simp only[yal] <;> omega)
theorem zjN:zbD X (.type "tuple") (fun xs H Q=>∃ p ys,xs=[.ref p]/\((SqL X.K H p ys/\∀ l,H l=none->Q (.ref l) (upd H l (.tup ys)))\/(SqT X.K H p ys/\Q (.ref p) H))):=by
 intro pins s σ H xs us Q I r h
 obtain ⟨p,ys,rfl,h⟩:=h
 obtain ⟨u,rfl,rx⟩:=vals1 r
 cases rx
 rcases h with ⟨hq,q⟩ | ⟨hq,q⟩
 ·obtain ⟨its,r',pl,hz⟩:=I.list hq
  have hlen:=r'.length
  refine call_tuple_list pl.isList (fun h' kp=>?_) (by simp only[yal] <;> omega)
  have I1:Inv X pins σ H { s with heap:=h' }:=I.kept (t':=s.toks) kp
  have I2:Inv X pins σ (upd H h'.objs.size (.tup ys)) { s with heap:=h'.push { cls:=.type "tuple", data:=.seq its.toArray } } :=
   I1.laid (t':=s.toks) (fun b o e=>ydj _ e) (ycu _) (show zam X.prog X.w _ _ _ (.tup ys) from ⟨hz,its,r',IsTup.new _ _⟩)
  exact ⟨.ref h'.objs.size,_,I2,rfl,q _ (I1.hok.fresh (ycu _))⟩
 ·obtain ⟨its,r',pl,hz⟩:=I.tuple hq
  exact call_tuple_same pl ⟨.ref p,H,I,rfl,q⟩
def tyV (K:W.Frag) (T:String) (x:V) (H:Hp):Prop:=match x with
 | .str _=>T = "str"
 | .int _=>T = "int"
 | .ref p=>(T = "list" /\ ∃ xs,SqL K H p xs)\/(T = "tuple" /\ ∃ o,K.lookup p=some o/\o.cls=.type "tuple" /\ o.dict=none) \/
   (T = "dict" /\ ∃ kvs,H p=some (.dK kvs))\/(T = "set" /\ ∃ S n,H p=some (.set S n))
 | _=>False
theorem zvU {pins:List (Addr × Obj)} {σ:St} {H:Hp} {s:Shared} {T:String} {x:V} {v:Value} (I:Inv X pins σ H s) (r:RelV x v) (ty:tyV X.K T x H) :
  s.TypeIs v T/\∀ a,v=.ref a->∃ ob,s.heap.get? a=some ob/\ob.dict=none:=by
 cases x with
 | str z =>
  obtain ⟨t,rfl⟩:=r
  cases (show T = "str" from ty)
  exact ⟨typeIs_str s z t,fun _ e=>nomatch e⟩
 | int i =>
  obtain ⟨t,rfl⟩:=r
  cases (show T = "int" from ty)
  exact ⟨typeIs_int s i t,fun _ e=>nomatch e⟩
 | ref p =>
  cases r
  rcases ty with ⟨rfl,xs,hq⟩ | ⟨rfl,o,hk,hc,hd⟩ | ⟨rfl,hk⟩ | ⟨rfl,S,n,hk⟩
  ·obtain ⟨its,_,pl,_⟩:=I.list hq
   refine ⟨pl.isList.typeIs,fun a e=>?_⟩
   cases e
   obtain ⟨o,n,e,c,hd,_⟩:=pl
   exact ⟨o,e,hd⟩
  ·refine ⟨⟨o,I.kIn p o hk,hc⟩,fun a e=>?_⟩
   cases e
   exact ⟨o,I.kIn _ o hk,hd⟩
  ·have z:∃ o,s.heap.get? p=some o/\o.ExactDict:=by
    obtain ⟨kvs,hk⟩:=hk
    obtain ⟨_,_,_,_,o,_,_,e,ex,_⟩:=I.hok p _ hk
    exact ⟨o,e,ex⟩
   obtain ⟨o,e,ex⟩:=z
   refine ⟨⟨o,e,ex.1⟩,fun a e2=>?_⟩
   cases e2
   exact ⟨o,e,ex.2.1⟩
  ·obtain ⟨o,_,_,_,e,ex,_⟩:=I.hok p _ hk
   refine ⟨⟨o,e,ex.1⟩,fun a e2=>?_⟩
   cases e2
   exact ⟨o,e,ex.2.1⟩
 | _=>exact False.elim ty
def tBM (K:W.Frag) (T:String) (r:V->List V->Hp->VK->Prop) (to:TE) (t:TA):TE:=fun σ H Q=>to σ H fun x H1=>tyV K T x H1/\t σ H1 fun xs H2=>r x xs H2 Q
variable {o e:Expr} {es:List Expr} {to:TE} {t:TA} {name:Str} {apos cpos:Pos} {T id:String} {r:V->List V->Hp->VK->Prop}
theorem zbK (pa:PlainAttrs T) (slot:Slot T name id) (hty:typeOf (.builtin id)=pure (.type "method_descriptor")) (hm:MtR X id r) (ho:PE X o to) (ha:PA X (e::es) t)
  (hbase:attributeBase o name X.env (eval o X.env)=eval o X.env:=by rfl)
  (hfew:((backTo cpos (starEach (e::es) X.env)).all (fun x=>!x.1) && (backToKw cpos (keywordEach [] X.env)).all (fun x=>x.1.isSome)
   && decide ((e::es).length+([]:List Keyword).length+(if ([]:List Keyword).isEmpty then 0 else 1)<30))=true:=by rfl)
  (hline:(apos.endLine == cpos.line)=true:=by rfl) (hs:starEach (e::es) X.env=(false,eval e X.env)::starEach es X.env:=by rfl) (hplain:(backTo cpos (starEach es X.env)).any (·.1)=false:=by rfl) :
  PE X (.Call (.Attribute o name apos) (e::es) [] cpos) (tBM X.K T r to t):=by
 intro pins s σ H Q I h
 refine wpAny_Call_method_late hbase hfew hline rfl (thn (ho pins s σ H _ I h) fun v s1 ⟨x,H1,I1,r1,ty,q1⟩=>?_)
 obtain ⟨h1,h2⟩:=zvU I1 r1 ty
 refine ⟨T,id,pa,slot,hty,h1,h2,?_⟩
 have hA:=ha cpos pins s1 σ H1 _ I1 q1
 rw[hs] at hA ⊢
 refine Calls.callWith_builtin (by show (false || (backTo cpos (starEach es X.env)).any (·.1))=false;rw[hplain] <;> rfl) (Calls.evalArgs_plain ?_)
 exact thn hA fun us s2 ⟨vs,H2,I2,r2,q2⟩=>hm pins s2 σ H2 x vs v us Q I2 r1 r2 q2
/- xs.append(e),list.index on a module's tuple .. are MtR facts of 06m -/
end
end L2
namespace L2
open PySem PySem.Spec PyProof.Rows
def MtM (X:Cx) (id:String) (r:V->List V->Hp->VK->Prop):Prop :=
 ∀ (pins:List (Addr × Obj)) (s:Shared) (σ:St) (H:Hp) (x:V) (xs:List V) (v:Value) (us:List Value) (Q:VK),Inv X pins σ H s->RelV x v->Vals xs us->r x xs H Q ->
  wpAny (model X.prog X.w) X.A (call (.builtin id) (v::us)) (EP X pins σ Q) X.xe s
theorem Vals.one:∀ {x:V} {us:List Value},Vals [x] us->∃ u,us=[u]/\RelV x u
 | _,_,.cons r .nil=>⟨_,rfl,r⟩
theorem Vals.rep {xs:List V} {us:List Value} (h:Vals xs us):∀ k:Nat,Vals (yba k xs).flatten (yba k us).flatten
 | 0=>.nil
 | k+1=>by
  rw[ybu,ybu,yce,yce]
  exact Vals.append h (Vals.rep h k)
theorem foldl_rep (its:List Value):∀ (k:Nat) (acc:List Value),
  List.foldl (fun x1 x2=>x1++x2) acc.toArray (yba k its.toArray)=(acc++(yba k its).flatten).toArray
 | 0,acc=>by simp
 | k+1,acc=>by
  have e:acc.toArray++its.toArray=(acc++its).toArray:=by simp
  have e2:(acc++its)++(yba k its).flatten=acc++(yba (k+1) its).flatten:=by
   rw[ybu,yce,ycp]
  rw[<-e2,<-foldl_rep its k (acc++its),<-e,ybu,ycf]
section
variable {X:Cx} {pins:List (Addr × Obj)} {σ:St} {H:Hp} {s:Shared} {l b:Addr} {xs ys zs:List V}
theorem Inv.lset {its its':List Value} {n:Nat} {f:Array Value->Array Value} {t':Nat} (I:Inv X pins σ H s) (hH:H l=some (.lst xs))
  (e:s.heap.get? l=some { cls:=.type "list", data:=.seq its.toArray n }) (hf:f its.toArray=its'.toArray) (hv:Vals ys its') (hz:ys.length<=sizeLine) :
  Inv X pins σ (upd H l (.lst ys)) { s with heap:=s.heap.update l (Obj.mapSeq f),toks:=t' }:=by
 have q:=PySem.IsL.update e f
 rw[hf] at q
 refine I.write (x:=l) (e:=l) (by rw[hH];exact trivial) (.inl rfl) (fun b' u hb hu=>(Heap.get?_update_other s.heap (Obj.mapSeq f) (Ne.symm hb)).trans hu) ⟨_,q⟩ ?_
 exact ⟨hz,its',_,hv,q⟩
theorem Inv.lnew {its:List Value} {t':Nat} (I:Inv X pins σ H s) (hv:Vals ys its) (hz:ys.length<=sizeLine) :
  Inv X pins σ (upd H s.heap.objs.size (.lst ys)) { s with heap:=s.heap.push { cls:=.type "list", data:=.seq its.toArray },toks:=t' } :=
 I.laid (fun _ _ q=>ydj _ q) (ycu _) ⟨hz,its,0,hv,ydl _ rfl⟩
theorem Inv.fresh (I:Inv X pins σ H s):H s.heap.objs.size=none:=I.hok.fresh (ycu _)
theorem Inv.zlA (I:Inv X pins σ H s) (hH:H l=some (.lst xs)):xs.length<=sizeLine/\∃ (its:List Value) (n:Nat),Vals xs its/\xs.length=its.length/\s.heap.get? l=some { cls:=.type "list", data:=.seq its.toArray n }:=by
 obtain ⟨z,its,n,r,e⟩:=I.hok l _ hH
 exact ⟨z,its,n,r,r.length,e⟩
theorem zlR {n:Nat} (h:n<=sizeLine):Builtin.List.listTooLong n=false:=by
 unfold Builtin.List.listTooLong
 exact decide_eq_false (by omega)
end
section
variable {X:Cx}
noncomputable def zuU:V->List V->Hp->VK->Prop:=fun x vs H Q=>∃ l xs y,x=.ref l/\vs=[y]/\H l=some (.lst xs)/\xs.length<sizeLine/\Q .non (upd H l (.lst (xs++[y])))
theorem zax:MtM X "list.append" zuU:=by
 intro pins s σ H x vs v us Q I rx rv h
 obtain ⟨l,xs,y,rfl,rfl,hH,hz,q⟩:=h
 cases rx
 obtain ⟨u,rfl,ru⟩:=rv.one
 obtain ⟨z,its,n,r,hl,e⟩:=I.zlA hH
 refine call_meets F.slot_list_append ⟨_,e,rfl⟩ F.entry_list_append (F.args_list_append_2 _ _) (PySem.list_append l its.toArray n u (by rw[yal];omega)) ⟨e,?_⟩
 refine ⟨.non,_,I.lset (its':=its++[u]) hH e (by simp) (r.append (.cons ru .nil)) ?_,rfl,q⟩
 rw[yag,yau]
 omega
noncomputable def zvw:V->List V->Hp->VK->Prop:=fun x vs H Q=>∃ l b xs zs,x=.ref l/\vs=[.ref b]/\H l=some (.lst xs)/\H b=some (.lst zs)/\xs.length+zs.length<=sizeLine/\Q .non (upd H l (.lst (xs++zs)))
theorem znX:MtM X "list.extend" zvw:=by
 intro pins s σ H x vs v us Q I rx rv h
 obtain ⟨l,b,xs,zs,rfl,rfl,hH,hB,hz,q⟩:=h
 cases rx
 obtain ⟨u,rfl,ru⟩:=rv.one
 cases ru
 obtain ⟨z,its,n,r,hl,e⟩:=I.zlA hH
 obtain ⟨z2,its2,n2,r2,hl2,e2⟩:=I.zlA hB
 have hsz:its.toArray.size+its2.toArray.size<=sizeLine:=by rw[yal,yal];omega
 have hlong:¬ (!its.toArray.isEmpty && Builtin.List.listTooLong (its.toArray.size+its2.toArray.size))=true:=by
  rw[zlR hsz,Bool.and_false]
  exact Bool.false_ne_true
 refine call_meets F.slot_list_extend ⟨_,e,rfl⟩ F.entry_list_extend (F.args_list_extend_2 _ _)
  (AutoSeq1.list_extend_list_list_0 l its.toArray n b its2.toArray n2 hlong (by rw[yal];omega) (by omega)) ⟨e,e2,?_⟩
 refine ⟨.non,_,I.lset (its':=its++its2) hH e (by simp) (r.append r2) ?_,rfl,q⟩
 rw[yag]
 omega
def zxx:R2:=fun x y H Q=>∃ l b xs zs,x=.ref l/\y=.ref b/\H l=some (.lst xs)/\H b=some (.lst zs)/\xs.length+zs.length<=sizeLine/\∀ p,H p=none->Q (.ref p) (upd H p (.lst (xs++zs)))
theorem zbk:OpR X (binaryOp .Add) zxx:=by
 intro pins s σ H x y v u Q I rx ry h
 obtain ⟨l,b,xs,zs,rfl,rfl,hH,hB,hz,q⟩:=h
 cases rx
 cases ry
 obtain ⟨z,its,n,r,hl,e⟩:=I.zlA hH
 obtain ⟨z2,its2,n2,r2,hl2,e2⟩:=I.zlA hB
 refine PySem.P.add_list e e2 ?_ (by rw[yal,yal];omega)
 have ea:its.toArray++its2.toArray=(its++its2).toArray:=by simp
 rw[ea]
 exact ⟨.ref _,_,I.lnew (t':=s.toks) (r.append r2) (by rw[yag];omega),rfl,q _ I.fresh⟩
def zxs:R2:=fun x y H Q=>∃ l k xs,x=.ref l/\y=.int k/\H l=some (.lst xs) /\ -(2 ^ 63)<=k/\k<2 ^ 63/\xs.length*k.toNat<=sizeLine /\
 ∀ p,H p=none->Q (.ref p) (upd H p (.lst (yba k.toNat xs).flatten))
theorem len_rep {α:Type} (xs:List α) (k:Nat):(yba k xs).flatten.length=k*xs.length:=by
 induction k with
 | zero=>simp
 | succ k ih=>rw[ybu,yce,yag,ih,Nat.succ_mul,Nat.add_comm]
theorem zv6:OpR X (binaryOp .Mult) zxs:=by
 intro pins s σ H x y v u Q I rx ry h
 obtain ⟨l,k,xs,rfl,rfl,hH,h1,h2,hz,q⟩:=h
 cases rx
 obtain ⟨t,rfl⟩:=ry
 obtain ⟨z,its,n,r,hl,e⟩:=I.zlA hH
 have hlen:its.toArray.size*k.toNat<=sizeLine:=by rw[yal,<-hl];exact hz
 have hcap:¬ its.toArray.size*k.toNat > (2 ^ 63-1) / 8:=by
  have:(sizeLine:Nat)<=(2 ^ 63-1) / 8:=by decide
  omega
 have hfit:¬ (!Builtin.List.listFitsIndex k)=true:=by
  rw[fitsIndex_both h1 h2]
  exact Bool.false_ne_true
 have hlong:¬ Builtin.List.listTooLong (its.toArray.size*k.toNat)=true:=by
  rw[zlR hlen]
  exact Bool.false_ne_true
 have hnew:List.foldl (fun x1 x2=>x1++x2) #[] (yba (if its.toArray.isEmpty=true then 0 else k.toNat) its.toArray)=(yba k.toNat its).flatten.toArray:=by
  have f0:∀ m:Nat,List.foldl (fun x1 x2=>x1++x2) #[] (yba m its.toArray)=(yba m its).flatten.toArray:=fun m=>by
   have:=foldl_rep its m []
   rw[List.nil_append] at this
   exact this
  rw[f0]
  cases its with
  | nil=>simp
  | cons a r'=>rw[if_neg (by simp)]
 refine wpAny_binaryOp_repeat_ref (T:="list") (U:="int") (by decide) ⟨_,e,rfl⟩ (fun s'=>typeIs_int s' k t) noFill_list_mul F.fills_int_mul F.slot_int_rmul repeat_list F.slot_int_index.lookup
  (call_meets F.slot_int_rmul (typeIs_int s k t) F.entry_int_rmul (F.args_int_rmul_2 _ _) (int___rmul___int_list k t l its.toArray n)
   ⟨e,rfl,⟨_,e,rfl⟩,call_meets F.slot_list_mul ⟨_,e,rfl⟩ F.entry_list_mul (F.args_list_mul_2 _ _) (AutoListH.list___mul___list_int_3 l its.toArray n k t hfit hcap hlong) ⟨e,?_⟩⟩)
 rw[hnew]
 exact ⟨.ref _,_,I.lnew (t':=s.toks) (r.rep k.toNat) (by rw[len_rep,Nat.mul_comm];exact hz),rfl,q _ I.fresh⟩
end
section
variable {prog:Program} {w:World} {A:Around} {E:Value->Shared->Prop} {s:Shared}
set_option maxRecDepth 100000 in
end
section
variable {X:Cx}
end
end L2
namespace Att
open PySem PySem.W PySem.Calls PyProof.Rows
theorem zmo {P:Params} {h:Heap}:∀ (ns:List Int) (vs:List Value),WellAll P h vs (ns.map WData.int)->IntsAre vs ns:=by
 intro ns
 induction ns with
 | nil =>
  intro vs w
  rw[List.map_nil] at w
  cases w
  exact .nil
 | cons n ns ih =>
  intro vs w
  rw[ybk] at w
  cases w with
  | cons a b =>
   cases a
   exact .cons _ _ (ih _ b)
theorem zte {l:OpenLaw} {n:Nat} (hn:l.most=some n) {P:Params} {h:Heap} {args:List WData} {vals:List Value}
  (hpre:l.row.toRowW.claim.pre args=true) (hwl:WellAll P h vals args) :
  ∃ a vs ns,vals=[Value.ref a]/\args=[WData.list (ns.map WData.int)]/\h.get? a=some { cls:=.type "list", data:=.seq vs.toArray }/\IntsAre vs ns/\ns.length<=n:=by
 have hsh:WShape.hasAll [] args [.list .int]=true:=(pre_splitW hpre).1
 have hc:l.pre.holds [] { args:=args }=true:=(pre_splitW hpre).2
 obtain ⟨d,r,rfl,h1,h2⟩:=hasAllW_cons hsh
 obtain rfl:=hasAllW_nil h2
 obtain ⟨xs,rfl,h3⟩:=hasW_list h1
 obtain ⟨ns,rfl⟩:=items_int h3
 have hlen:ns.length<=n:=by
  unfold OpenLaw.pre at hc
  have h4:(WTm.not (.lt (.lit (.int (n:Int))) (.len (.arg 0)))).holds [] { args:=[.list (ns.map .int)] }=true:=by
   have h4:=(holds_andW hc).1
   rw[hn] at h4
   exact h4
  have h5:=condW_of h4 (w_not (w_lt w_lit (w_len_list (w_arg rfl))))
  rw[yab] at h5
  refine Nat.le_of_not_lt fun q=>?_
  have q':(n:Int)<((ns.length:Nat):Int):=by omega
  first
   | (rw[decide_eq_true q'] at h5;exact absurd h5 (by decide))
   | (simp at h5;omega)
 cases hwl with
 | cons w1 w2 =>
  cases w2
  cases w1 with
  | list ho hall=>exact ⟨_,_,ns,rfl,rfl,ho,zmo ns _ hall,hlen⟩
theorem zs9 (l:OpenLaw) (args:List WData):l.row.toRowW.claim.post args (.bool true) args=true :=
 postW_of (r:=l.row.toRowW) (X:=(true == true))
  (show WShape.has [] (.bool true) .bool=true by first | rfl | decide | simp[WShape.has,WShape.arms,WShape.armsAll])
  (show (WTm.eq .res (.lit (.bool true))).value [] { args:=args,res:=some (.bool true),after:=args }=some (.bool (true == true)) from w_eq_bool (w_res rfl) w_lit) rfl
theorem zrb {l:OpenLaw} {n:Nat} {q:Program} {loose:List Str} {XP:(Str->Option Value)->Heap->Prop} {YP:World->Heap->Prop} {d:DefRec}
  (hn:l.most=some n) (hdf:d.params.defaults=[])
  (call:∀ (w:World) (s₀ s₁:Shared) (mg mb:Str->Option Value) (fa:Addr) (o:Obj) (pm cd doc:Value) (a:Addr) (vs:List Value) (ns:List Int),
   Ground q loose [] XP w s₀ mg mb s₁.heap->YP w s₁.heap ->
   s₁.heap.get? fa=some o->o.data=.func (docDef d.name d.params d.body d.scope pm cd doc)->s₁.heap.CodeRec cd d.name->mg d.name=some (.ref fa) ->
   s₁.heap.get? a=some { cls:=.type "list", data:=.seq vs.toArray }->IntsAre vs ns->ns.length<=n->s₁.gens=#[] ->
   codeAny (model l.prog w) callerA (.call (.ref fa) ⟨[.ref a],[]⟩) (fun r s'=>r=.ok (.ret (.bool true))/\OldK s₁.heap s'.heap/\s'.os=s₁.os/\AllBare s'.gens) s₁) :
  WalkO q loose XP YP l.row.toRowW d [] (fun f vs=>PySem.call f vs):=by
 intro w s₀ s₁ mg mb G Y fa o pm cd doc dV kV ho hd hcd hD hmg hg args vals as hpre hlay hrd hwl hlo
 obtain rfl:dV=.none:=Dflts.none hD hdf
 obtain rfl:kV=.none:=Dflts.noKw hD
 obtain ⟨a,vs,ns,rfl,rfl,hobj,hints,hlen⟩:=zte hn hpre hwl
 refine enter_call (codeAny_mono (call w s₀ s₁ mg mb fa o pm cd doc a vs ns G Y ho (fd_plain hd) hcd hmg hobj hints hlen hg) fun r s' hq=>?_)
 obtain ⟨rfl,h2,h3,h4⟩:=hq
 exact ⟨.inl ⟨.bool true,.bool true,[],rfl,fun _=>rfl,.bool true,zs9 l _,fun _=>⟨List.Pairwise.nil,fun _ hm=>(nomatch hm)⟩⟩,h2,h3,h4⟩
section
variable {prog:Program} {w:World} {A:Around} {E:Value->Shared->Prop} {s:Shared} {K:Frag}
noncomputable def ledger (h:Heap) (L d:Addr):List (Addr × Obj):=(yax h.objs.size).filterMap fun a=>if a=L\/a=d then none else (h.get? a).map fun o=>(a,o)
end
end Att
namespace L2
open PySem PySem.Spec PyProof.Rows
theorem zhp:∀ {vs:List Value} {ns:List Int},IntsAre vs ns->Vals (ns.map V.int) vs
 | _,_,.nil=>.nil
 | _,_,.cons n t h=>.cons ⟨t,rfl⟩ (zhp h)
def Only (H:Hp):Prop:=∀ b,H b=none\/∃ o xs,H b=some (.frz o (.lst xs))
theorem zt0 {P:Program} {w:World} {K:W.Frag} {mg mb:Str->Option Value} {CX:CXT} {k:Nat} {fa a:Addr} {fd:FuncData} {x:Str} {sp:Sp} {s₁:Shared} {vs:List Value} {ns:List Int}
  (KX:K.In s₁.heap) (hns:s₁.heap.Ns mainGlobals mg) (hb:s₁.heap.Ns builtinsNs mb) (hbb:∀ x:Str,x ≠ "__name__" -> mb x=bootBuiltins x) (hlim:s₁.heap.NoLimit) (hg:s₁.gens=#[])
  (ha:s₁.heap.get? a=some { cls:=.type "list", data:=.seq vs.toArray }) (hi:IntsAre vs ns) (hl:ns.length<=sizeLine) (hr:Room k callerA)
  (F:∀ base:Heap,K.In base->base.Ns mainGlobals mg->zcm P w K mg base CX k fa fd [x] sp) (hbind:∀ (s:Shared) (u:Value),BindsTo s fd ⟨[u],[]⟩ [(x,u)])
  (hsp:∀ H:Hp,Only H->SqL K H a (ns.map V.int)->sp [.ref a] H (fun v _=>v=.bl true) fun _ _ _=>False)
  (hCX:∀ H e s',CX [] H s₁ (fun _ _ _=>False) e s'->False) :
  codeAny (model P w) callerA (.call (.ref fa) ⟨[.ref a],[]⟩) (fun r s'=>r=.ok (.ret (.bool true))/\OldK s₁.heap s'.heap/\s'.os=s₁.os/\AllBare s'.gens) s₁:=by
 have rv:=zhp hi
 have lenV:=hi.length
 have core:∀ H:Hp,Only H->SqL K H a (ns.map V.int)->HOk P w H s₁.heap->(∀ b,H b≠none->b=a)->(H a≠none->K.lookup a=none) ->
   codeAny (model P w) callerA (.call (.ref fa) ⟨[.ref a],[]⟩) (fun r s'=>r=.ok (.ret (.bool true))/\OldK s₁.heap s'.heap/\s'.os=s₁.os/\AllBare s'.gens) s₁:=by
  intro H hO hS hok hA hK
  have base_of:∀ {b:Addr} {o:Obj},s₁.heap.get? b=some o->H b=none->(zi5 s₁.heap H).get? b=some o:=fun e n=>zt6 e n
  have noA:∀ {b:Addr} {o:Obj} {es:Array DictEntry} {ep:Nat},s₁.heap.get? b=some o->o.data=.dict es ep->H b=none:=fun {b o es ep} e d=>by
   cases q:H b with
   | none=>rfl
   | some u =>
    have e':b=a:=hA b (by rw[q];simp)
    subst e'
    rw[ha] at e;cases e
    have d':Data.seq vs.toArray _=Data.dict es ep:=d
    cases d'
  have nsK:∀ {b:Addr} {m:Str->Option Value},s₁.heap.Ns b m->(zi5 s₁.heap H).Ns b m:=fun {b m} ⟨o,es,ep,e,d,r⟩=>⟨o,es,ep,base_of e (noA e d),d,r⟩
  have hKb:K.In (zi5 s₁.heap H):=fun b o e=>base_of (KX b o e) (by
   cases q:H b with
   | none=>rfl
   | some u =>
    have e':b=a:=hA b (by rw[q];simp)
    subst e'
    rw[hK (by rw[q];simp)] at e;cases e)
  have hM:Mod K mg (zi5 s₁.heap H):=⟨hKb,nsK hns,⟨mb,nsK hb,hbb⟩,let ⟨mc,h1,h2⟩:=hlim;⟨mc,nsK h1,h2⟩⟩
  have e0:zl5 P w K mg (zi5 s₁.heap H) callerA [] s₁ H:=⟨rfl,hM,fun b o e=>zvy e,Nat.le_of_eq (zsC _ _),trivial,fun b hb=>absurd (show b∈([]:List Addr) from hb) (by simp),hok,.of_eq hg⟩
  refine codeAny_mono ((F _ hKb (nsK hns)).run callerA [] s₁ H ⟨[.ref a],[]⟩ [.ref a] [.ref a] _ _ hr e0 (hbind s₁ (.ref a)) (.cons rfl .nil) (hsp H hO hS)) fun r s' h=>?_
  cases r with
  | error e=>exact (hCX H e s' h).elim
  | ok fl =>
   cases fl with
   | next=>exact False.elim h
   | brk=>exact False.elim h
   | cont=>exact False.elim h
   | ret u =>
    obtain ⟨v,H',os,bare,un,hok',r',q⟩:=h
    have q':v=.bl true:=q
    subst q'
    obtain rfl:u=Value.bool true:=r'
    refine ⟨rfl,OldK.of_keep fun b o e=>?_,os,bare⟩
    cases q:H b with
    | none=>exact un.keep b o e q (by intro z;exact absurd (show b∈([]:List Addr) from z) (by simp)) (by simp)
    | some u =>
     rcases hO b with z | ⟨ob,xs,z⟩
     ·rw[q] at z;cases z
     ·have z2:=un.frzs b ob _ z
      obtain ⟨e1,_⟩:=hok b _ z
      obtain ⟨e2,_⟩:=hok' b _ z2
      rw[e] at e1;cases e1
      exact e2
 cases hk:K.lookup a with
 | some o =>
  have e:=KX a o hk
  rw[ha] at e
  cases e
  refine core (fun _=>none) (fun _=>.inl rfl) (.inr ⟨_,vs.toArray,_,hk,rfl,rfl,rfl,by rw[yal,lenV];exact hl,by simpa using rv⟩) (fun b u z=>by have z':(none:Option HO)=some u:=z;cases z') (fun b z=>absurd rfl z) fun z=>absurd rfl z
 | none =>
  refine core (fun b=>if b=a then some (.frz { cls:=.type "list", data:=.seq vs.toArray } (.lst (ns.map V.int))) else none) (fun b=>?_) (.inl (.inr ⟨{ cls:=.type "list", data:=.seq vs.toArray },if_pos rfl⟩)) (fun b u z=>?_) (fun b z=>?_) fun _=>hk
  ·by_cases hb:b=a
   ·exact .inr ⟨_,_,if_pos hb⟩
   ·exact .inl (if_neg hb)
  ·by_cases hb:b=a
   ·have z':=(if_pos hb).symm.trans z
    cases z'
    subst hb
    exact ⟨ha,by rw[yab];exact hl,vs,_,rv,ha⟩
   ·have z':=(if_neg hb).symm.trans z
    cases z'
  ·by_cases hb:b=a
   ·exact hb
   ·exact absurd (if_neg hb) z
end L2
namespace L2
open PySem PySem.Spec PyProof.Rows
theorem zvf {l:PySem.W.OpenLaw} {n k:Nat} {q:Program} {loose:List Str} {XP:(Str->Option Value)->Heap->Prop} {YP:World->Heap->Prop} {d:DefRec} {K:Params->W.Frag} {CX:World->CXT} {sp:World->Sp} {x:Str}
  (hn:l.most=some n) (hn2:n<=sizeLine) (hdf:d.params.defaults=[]) (hr:Room k callerA)
  (hY:∀ (w:World) (h:Heap),YP w h->(K w.params).In h)
  (F:∀ (w:World) (mg:Str->Option Value) (fa:Addr) (h:Heap),(K w.params).In h->h.Ns mainGlobals mg->mg d.name=some (.ref fa) ->
   ∃ fd:FuncData,(∀ (s:Shared) (u:Value),BindsTo s fd ⟨[u],[]⟩ [(x,u)]) /\
    ∀ base:Heap,(K w.params).In base->base.Ns mainGlobals mg->zcm l.prog w (K w.params) mg base (CX w) k fa fd [x] (sp w))
  (hsp:∀ (w:World) (H:Hp) (a:Addr) (ns:List Int),ns.length<=n->Only H->SqL (K w.params) H a (ns.map V.int)->sp w [.ref a] H (fun v _=>v=.bl true) fun _ _ _=>False)
  (hCX:∀ (w:World) (H:Hp) (s:Shared) (e:Value) (s':Shared),CX w [] H s (fun _ _ _=>False) e s'->False) :
  PySem.W.WalkO q loose XP YP l.row.toRowW d [] (fun f vs=>PySem.call f vs):=by
 refine Att.zrb hn hdf fun w s₀ s₁ mg mb fa o pm cd doc a vs ns G Y ho hd hcd hmg hobj hints hlen hg=>?_
 have KX:=hY w _ Y
 obtain ⟨fd,hb,hF⟩:=F w mg fa _ KX G.T.g hmg
 exact zt0 KX G.T.g G.T.b G.T.builtins G.T.nolimit hg hobj hints (ycz hlen hn2) hr hF hb (fun H hO hS=>hsp w H a ns hlen hO hS) fun H e s'=>hCX w H s₁ e s'
end L2
namespace L2
open PySem PySem.Spec PyProof.Rows
noncomputable def inClass (s:Stmt) (j:Nat):Stmt:=match s with
 | .ClassDef _ _ _ body _ _ _ _ _ _ _=>body.getD j (.Pass ⟨0,0,0,0⟩)
 | _=>.Pass ⟨0,0,0,0⟩
noncomputable def zcI (s:Stmt):Arguments:=match s with
 | .FunctionDef _ a _ _ _ _ _ _ _ _=>a
 | _=>{ posonlyargs:=[],args:=[],vararg:=none,kwonlyargs:=[],kw_defaults:=[],kwarg:=none,defaults:=[] }
noncomputable def zaT (s:Stmt):List Stmt:=match s with
 | .FunctionDef _ _ b _ _ _ _ _ _ _=>b
 | _=>[]
noncomputable def zi (s:Stmt):Scope:=match s with
 | .FunctionDef _ _ _ _ _ _ sc _ _ _=>sc
 | _=>{ kind:=.function,names:=[],isGenerator:=false,isCoroutine:=false }
noncomputable abbrev CX0:CXT:=fun _ _ _ _ _ _=>False
noncomputable abbrev E0:XK:=fun _ _ _=>False
theorem zhh {X:Cx}:Passes CX0 X E0:=fun _ _ _ _ _ _ _ h=>h.elim
structure Fun (K:W.Frag) (x qual:Str) (st:Stmt) (f:Addr) (fd:FuncData):Prop where
 ex:∃ (oc:Value) (od:Option Addr) (kV doc pm:Value) (an:Option Addr) (cdv ct:Value) (osl:Array (Option Value)),
  fd=PySem.W.fnOf x qual (zcI st) (zaT st) (zi st) .none kV doc pm an cdv ct/\K.lookup f=some ⟨oc,od,.func fd,osl⟩/\PySem.W.codeIn K cdv qual=true
 kp:PySem.W.keepIn K (.ref f)=true
section
variable {P:Program} {w:World} {K:W.Frag} {mg:Str->Option Value} {base:Heap}
theorem Fun.ok {x qual:Str} {st:Stmt} {f:Addr} {fd:FuncData} {N ps:List Str} {k:Nat} {sp:Sp} (F:Fun K x qual st f fd) (S:zk N ps (zi st)) (len:∀ vs H Q E,sp vs H Q E->vs.length=ps.length)
  (hbody:∀ (cdv:Value) (A:Around) (outer:List Env) (s:Shared) (H:Hp) (vs:List V) (Q:VK) (E:XK),Room k (A.deeper (envOfC qual (zi st) s.heap.objs.size f cdv))->sp vs H Q E ->
   ∃ t,PSs (zgZ CX0 P w K mg base N qual (zi st) f cdv A outer s H E).nox (zaT st) t/\t { nx:=fun _ H'=>Q .non H',rt:=Q } (start N vs) H):zcm P w K mg base CX0 (k+1) f fd ps sp:=by
 obtain ⟨oc,od,kV,doc,pm,an,cdv,ct,osl,rfl,lk,hcd⟩:=F.ex
 refine zwt lk hcd S len fun A outer s H vs Q E hr hsp=>?_
 obtain ⟨t,h,q⟩:=hbody cdv A outer s H vs Q E hr hsp
 exact ⟨t,h.nox,q⟩
theorem zoW {x qual:Str} {st:Stmt} {f:Addr} {oc:Value} {od an:Option Addr} {osl:Array (Option Value)} {kV doc pm cdv ct:Value} (l:K.lookup f=some ⟨oc,od,.func (PySem.W.fnOf x qual (zcI st) (zaT st) (zi st) .none kV doc pm an cdv ct),osl⟩)
  (c:PySem.W.codeIn K cdv qual=true) (k:PySem.W.keepIn K (.ref f)=true):Fun K x qual st f (PySem.W.fnOf x qual (zcI st) (zaT st) (zi st) .none kV doc pm an cdv ct):=⟨⟨oc,od,kV,doc,pm,an,cdv,ct,osl,rfl,l,c⟩,k⟩
end
section
variable {X:Cx}
theorem pv (i:Nat) {x:Str} {pos:Pos} (hN:X.N[i]?=some x:=by rfl) (hv:Vis X.env.scope x:=by first | exact Or.inl rfl | exact Or.inr (Or.inl rfl) | exact Or.inr (Or.inr rfl)) (hd:(x == ("__debug__" : Str))=false:=by decide)
  (hcd:(x == ("__classdict__" : Str))=false:=by decide):PE X (.Name x pos) (zvP i):=zv0 hN hv hd hcd
end
theorem zwg {A B:Prop} (h:B):if false=true then A else B:=by
 rw[if_neg Bool.false_ne_true]
 exact h
theorem zxf {A B:Prop} (h:A):if true=true then A else B:=by
 rw[if_pos rfl]
 exact h
def Same (H H':Hp):Prop:=∀ b o,H b=some o->H' b=some o
theorem Same.refl (H:Hp):Same H H:=fun _ _ h=>h
theorem Same.trans {H H1 H2:Hp} (a:Same H H1) (b:Same H1 H2):Same H H2:=fun c o h=>b c o (a c o h)
theorem Same.seq {K:W.Frag} {H H':Hp} {a:Addr} {xs:List V} (e:Same H H') (h:SqL K H a xs):SqL K H' a xs:=by
 rcases h with (h | ⟨o,h⟩) | h
 ·exact .inl (.inl (e _ _ h))
 ·exact .inl (.inr ⟨o,e _ _ h⟩)
 ·exact .inr h
end L2
namespace L2
open PySem PySem.Spec PyProof.Rows
theorem zam.swap {P:Program} {w:World} {H H':Hp} {h h':Heap} {a:Addr} {o:HO} (x:zam P w H h a o) (y:zam P w H' h' a o):zam P w H h' a o:=by
 induction o with
 | ins C dx fs=>exact ⟨x.1,y.2⟩
 | frz ob u ih=>exact ⟨y.1,ih x.2 y.2⟩
 | _=>exact y
theorem HOk.forget {P:Program} {w:World} {H H':Hp} {h h':Heap} (a:HOk P w H h) (b:HOk P w H' h') (s:Same H H'):HOk P w H h':=fun x o e=>(a x o e).swap (b x o (s x o e))
theorem Un.forget {fs ex:List Addr} {H H':Hp} {h h':Heap} (u:Un fs ex H H' h h'):Un fs ex H H h h' :=
 ⟨u.keep,u.slot,fun _ _ _ n _=>n,u.there,fun _ _ q=>q,fun _ _ _ q=>q,fun b ps q=>⟨#[],by rw[q];simp⟩⟩
theorem zcm.forget {P:Program} {w:World} {K:W.Frag} {mg:Str->Option Value} {base:Heap} {CX:CXT} {k:Nat} {f:Addr} {fd:FuncData} {ps:List Str} {sp sp':Sp} (F:zcm P w K mg base CX k f fd ps sp)
  (h:∀ vs H Q E,sp' vs H Q E->sp vs H (fun v H'=>Same H H'/\Q v H) E):zcm P w K mg base CX k f fd ps sp' where
 len:=fun vs H Q E q=>F.len _ _ _ _ (h _ _ _ _ q)
 run:=fun A outer s H args us vs Q E hr e0 hb hv hs=>by
  refine codeAny_mono (F.run A outer s H args us vs _ E hr e0 hb hv (h _ _ _ _ hs)) fun r s' q=>?_
  cases r with
  | error e=>exact q
  | ok fl =>
   cases fl with
   | ret u =>
    obtain ⟨v,H',os,bare,un,hok,rv,sm,qv⟩:=q
    exact ⟨v,H,os,bare,un.forget,e0.hok.forget hok sm,rv,qv⟩
   | next=>exact q
   | brk=>exact q
   | cont=>exact q
structure Src (K:W.Frag) (mg:Str->Option Value) (x:Str) (st:Stmt) (ps:List Str):Prop where
 ex:∃ (f:Addr) (fd:FuncData),Fun K x x st f fd/\mg x=some (.ref f)/\∀ us:List Value,us.length=ps.length->bindArgs fd ⟨us,[]⟩=pure (ps.zip us)
structure Def (P:Program) (w:World) (K:W.Frag) (mg:Str->Option Value) (base:Heap) (k:Nat) (x:Str) (ps:List Str) (sp:Sp):Prop where
 ex:∃ (f:Addr) (fd:FuncData),zcm P w K mg base CX0 k f fd ps sp/\mg x=some (.ref f)/\PySem.W.keepIn K (.ref f)=true/\(∀ us:List Value,us.length=ps.length->bindArgs fd ⟨us,[]⟩=pure (ps.zip us)) /\
  ∃ o,K.lookup f=some o/\o.data=.func fd
section
variable {P:Program} {w:World} {K:W.Frag} {mg:Str->Option Value} {base:Heap} {x:Str} {st:Stmt} {N ps:List Str} {k:Nat} {sp:Sp}
theorem Src.ok (S:Src K mg x st ps) (sc:zk N ps (zi st)) (len:∀ vs H Q E,sp vs H Q E->vs.length=ps.length)
  (hbody:∀ (f:Addr) (cdv:Value) (A:Around) (outer:List Env) (s:Shared) (H:Hp) (vs:List V) (Q:VK) (E:XK),Room k (A.deeper (envOfC x (zi st) s.heap.objs.size f cdv))->sp vs H Q E ->
   ∃ t,PSs (zgZ CX0 P w K mg base N x (zi st) f cdv A outer s H E).nox (zaT st) t/\t { nx:=fun _ H'=>Q .non H',rt:=Q } (start N vs) H):Def P w K mg base (k+1) x ps sp:=by
 obtain ⟨f,fd,F,hm,hb⟩:=S.ex
 refine ⟨f,fd,F.ok sc len (fun cdv=>hbody f cdv),hm,F.kp,hb,?_⟩
 obtain ⟨oc,od,kV,doc,pm,an,cdv,ct,osl,e,lk,hcd⟩:=F.ex
 exact ⟨_,lk,rfl⟩
theorem Src.okF (S:Src K mg x st ps) (sc:zk N ps (zi st)) (len:∀ vs H Q E,sp vs H Q E->vs.length=ps.length)
  (hbody:∀ (f:Addr) (cdv:Value) (A:Around) (outer:List Env) (s:Shared) (H:Hp) (vs:List V) (Q:VK) (E:XK),Room k (A.deeper (envOfC x (zi st) s.heap.objs.size f cdv))->sp vs H Q E ->
   ∃ t,PSs (zgZ CX0 P w K mg base N x (zi st) f cdv A outer s H E).nox (zaT st) t/\t { nx:=fun _ H'=>Same H H'/\Q .non H,rt:=fun v H'=>Same H H'/\Q v H } (start N vs) H):Def P w K mg base (k+1) x ps sp:=by
 obtain ⟨f,fd,F,hm,hb⟩:=S.ex
 have G:zcm P w K mg base CX0 (k+1) f fd ps (fun vs H R E=>∃ Q,sp vs H Q E/\R=fun v H'=>Same H H'/\Q v H) :=
  F.ok sc (fun vs H R E ⟨Q,h,_⟩=>len vs H Q E h) fun cdv A outer s H vs R E hr ⟨Q,h,e⟩=>by
   subst e
   exact hbody f cdv A outer s H vs Q E hr h
 refine ⟨f,fd,G.forget fun vs H Q E h=>⟨Q,h,rfl⟩,hm,F.kp,hb,?_⟩
 obtain ⟨oc,od,kV,doc,pm,an,cdv,ct,osl,e,lk,hcd⟩:=F.ex
 exact ⟨_,lk,rfl⟩
theorem zB {h:Heap} {f:Addr} {oc:Value} {od an:Option Addr} {osl:Array (Option Value)} {kV doc pm cdv ct:Value} (X:K.In h) (G:h.Ns mainGlobals mg) (a:PySem.W.nsIn K mainGlobals x=some (some (.ref f)))
  (l:K.lookup f=some ⟨oc,od,.func (PySem.W.fnOf x x (zcI st) (zaT st) (zi st) .none kV doc pm an cdv ct),osl⟩) (c:PySem.W.codeIn K cdv x=true) (k:PySem.W.keepIn K (.ref f)=true)
  (hb:∀ us:List Value,us.length=ps.length->bindArgs (PySem.W.fnOf x x (zcI st) (zaT st) (zi st) .none kV doc pm an cdv ct) ⟨us,[]⟩=pure (ps.zip us)):Src K mg x st ps :=
 ⟨f,_,zoW l c k,PySem.W.mg_of X G a,hb⟩
theorem zgl {h:Heap} {i:Int} {t:Tok} (X:K.In h) (G:h.Ns mainGlobals mg) (a:PySem.W.nsIn K mainGlobals x=some (some (.int i t))):∃ t,mg x=some (.int i t):=⟨t,PySem.W.mg_of X G a⟩
theorem zuT {h:Heap} {p:Addr} {od:Option Addr} {its:Array Value} {n:Nat} {sl:Array (Option Value)} {xs:List V} (X:K.In h) (G:h.Ns mainGlobals mg) (a:PySem.W.nsIn K mainGlobals x=some (some (.ref p)))
  (l:K.lookup p=some ⟨.type "tuple", od,.seq its n,sl⟩) (r:Vals xs its.toList) (z:its.size<=sizeLine):∃ a,mg x=some (.ref a)/\∀ H,SqT K H a xs :=
 ⟨p,PySem.W.mg_of X G a,fun H=>.inr ⟨_,its,n,l,rfl,rfl,z,r⟩⟩
end
theorem ztC {l:PySem.W.OpenLaw} {lv:Nat} {q:Program} {loose:List Str} {XP:(Str->Option Value)->Heap->Prop} {YP:World->Heap->Prop} {d:DefRec} {K:Params->W.Frag} {sp:W.Frag->Sp} {x:Str} {st:Stmt}
  (hn:l.most=some 63) (hdf:d.params.defaults=[]) (hnm:d.name = "law") (hr:Room lv callerA)
  (hY:∀ (w:World) (h:Heap),YP w h->(K w.params).In h)
  (F:∀ (w:World) (mg:Str->Option Value) (h:Heap),(K w.params).In h->h.Ns mainGlobals mg ->
   Src (K w.params) mg "law" st [x]/\∀ base:Heap,Def l.prog w (K w.params) mg base lv "law" [x] (sp (K w.params)))
  (hsp:∀ (K:W.Frag) (H:Hp) (a:Addr) (ns:List Int),ns.length<=63->SqL K H a (ns.map V.int)->sp K [.ref a] H (fun v _=>v=.bl true) fun _ _ _=>False) :
  PySem.W.WalkO q loose XP YP l.row.toRowW d [] (fun f vs=>PySem.call f vs):=by
 refine L2.zvf (n:=63) (k:=lv) (x:=x) (CX:=fun _=>CX0) (sp:=fun w=>sp (K w.params)) hn (by decide) hdf hr hY ?_ (fun w H a ns h1 h2 h3=>hsp (K w.params) H a ns h1 h3) fun _ _ _ _ _ z=>z
 intro w mg fa h KX G hmg
 obtain ⟨S,D⟩:=F w mg h KX G
 obtain ⟨f,fd,Fn,hm,hb⟩:=S.ex
 obtain ⟨oc,od,kV,doc,pm,an,cdv,ct,osl,e,lk,hcd⟩:=Fn.ex
 refine ⟨fd,fun s u=>.of_eq (hb [u] rfl),fun base _ _=>?_⟩
 obtain ⟨f',fd',ok,hm',_,_,o,lk',ho⟩:=(D base).ex
 rw[hnm,hm] at hmg
 rw[hm] at hm'
 cases hmg
 cases hm'
 rw[lk] at lk'
 cases lk'
 cases ho
 exact ok
section
variable {X:Cx} {x:Str} {p pos:Pos} {e:Expr} {es:List Expr} {t:TA} {j k:Nat} {ps:List Str} {sp:Sp}
theorem zu (D:Def X.prog X.w X.K X.mg X.base j x ps sp) (hr:Room k X.A) (ha:PA X (e::es) t) (hg:Gl X x:=by rfl) (hj:j<=k:=by decide) (hdb:(x == ("__debug__" : Str))=false:=by decide)
  (he:starEach (e::es) X.env=(false,eval e X.env)::starEach es X.env:=by rfl) (hpl:(backTo pos (starEach es X.env)).any (·.1)=false:=by rfl) :
  PE X (.Call (.Name x p) (e::es) [] pos) (zsf sp [] E0 t):=by
 obtain ⟨f,fd,F,hm,hk,hb,_⟩:=D.ex
 exact zu8 F (hr.mono hj) hg hm hk (.all hb) .nil zhh ha hdb he hpl
theorem zcL {i:Int} (h:∃ t,X.mg x=some (.int i t)) (hg:Gl X x:=by rfl) (hd:(x == ("__debug__" : Str))=false:=by decide):PE X (.Name x pos) (tC (.int i)):=by
 obtain ⟨t,h⟩:=h
 exact zgj hg h ⟨t,rfl⟩ hd
def tGT (K:W.Frag) (xs:List V):TE:=fun _ H Q=>∀ a,(∀ H,SqT K H a xs)->Q (.ref a) H
theorem zvm {xs:List V} (h:∃ a,X.mg x=some (.ref a)/\∀ H,SqT X.K H a xs) (hg:Gl X x:=by rfl) (hd:(x == ("__debug__" : Str))=false:=by decide):PE X (.Name x pos) (tGT X.K xs):=by
 obtain ⟨a,h,hs⟩:=h
 intro pins s σ H Q I hq
 exact zgj (v:=.ref a) hg h rfl hd pins s σ H Q I (hq a hs)
theorem zhR:zbD X (.builtin "isinstance") (fun xs H Q=>∃ x t n b,xs=[x,.ty n]/\zdo X.K H x t/\PySem.W.kitOne X.K t (.type n)=some b/\Q (.bl b) H):=by
 intro pins s σ H xs us Q I r h
 obtain ⟨x,t,n,b,rfl,ty,e,q⟩:=h
 obtain ⟨u,w',rfl,rx,rn⟩:=vals2 r
 cases rn
 exact znP I rx ty e fun tk=>⟨.bl b,H,I.tok tk,rfl,q⟩
end
theorem ifI {a b:Int} {A B:Prop} (h1:a=b->A) (h2:¬ a=b->B):if decide (V.int a=V.int b)=true then A else B:=by
 by_cases h:a=b
 ·rw[if_pos (by rw[h];simp)];exact h1 h
 ·rw[if_neg (by simpa using h)];exact h2 h
theorem zxb {a b:Int} {A B:Prop} (h1:¬ a=b->A) (h2:a=b->B):if (!decide (V.int a=V.int b))=true then A else B:=by
 by_cases h:a=b
 ·rw[if_neg (by rw[h];simp)];exact h2 h
 ·rw[if_pos (by simpa using h)];exact h1 h
theorem ifD {p A B:Prop} [Decidable p] (h1:p->A) (h2:¬ p->B):if decide p=true then A else B:=by
 by_cases h:p
 ·rw[if_pos (by simpa using h)];exact h1 h
 ·rw[if_neg (by simpa using h)];exact h2 h
theorem ifB {c:Bool} {A B:Prop} (h1:c=true->A) (h2:c=false->B):if c=true then A else B:=by
 cases c with
 | true=>rw[if_pos rfl];exact h1 rfl
 | false=>rw[if_neg Bool.false_ne_true];exact h2 rfl
theorem dI {a b:Int}:decide (V.int a=V.int b)=decide (a=b):=by
 by_cases h:a=b <;> simp[h]
def zw2 (t:TS):TS:=fun D σ H=>∃ Mid:St->Hp->Prop,t { D with nx:=Mid } σ H/\∀ σ' H',Mid σ' H'->D.nx σ' H'
theorem zmt {X:Cx} {st:Stmt} {t:TS} (h:PS X st t):PS X st (zw2 t):=by
 intro pins s σ H D I ⟨Mid,hq,hm⟩
 refine thn (h pins s σ H _ I hq) fun f s' q=>?_
 cases f with
 | next =>
  obtain ⟨σ',H',I',q⟩:=q
  exact ⟨σ',H',I',hm σ' H' q⟩
 | ret v=>exact q
 | brk=>exact q
 | cont=>exact q
end L2
namespace L2
open PySem PySem.Spec PyProof.Rows
theorem noE {α:Type} {M:Model} {A:Around} {s:Shared} {t:Sem α} {Q:α->Shared->Prop} {E:Value->Shared->Prop} (h:wpAny M A t Q (fun _ _=>False) s):wpAny M A t Q E s:=wpAny_mono h (fun _ _ q=>q) fun _ _ z=>z.elim
section
variable {prog:Program} {w:World} {A:Around} {R:Result->Shared->Prop} {s:Shared}
theorem zsN {elt target iter:Expr} {scope:Scope} {pos:Pos} {it acc:Value} {env:Env} (I:Nat->Shared->Prop)
  (turn:∀ n s,I n s->wpAny (model prog w) A (pyNext it) (fun r s₁=>match r with
   | none=>R (.ok .next) s₁
   | some v=>wpAny (model prog w) A (letOwnedTupleGo target it v) (fun _ s₂=>wpAny (model prog w) A (assign target env v) (fun _ s₃=>wpAny (model prog w) A (eval elt env) (fun y s₄ =>
     wpAny (model prog w) A (call (.builtin "list.append") [acc,y]) (fun _ s₅=>∃ m,m<n/\I m s₅) (fun _ _=>False) s₄) (fun _ _=>False) s₃) (fun _ _=>False) s₂) (fun _ _=>False) s₁) (fun _ _=>False) s)
  (n:Nat) (h:I n s):codeAny (model prog w) A (.compLoop (.ListComp elt [⟨target,iter,[],0⟩] scope pos) 0 it acc env) R s:=by
 refine codeAny_loop rfl I (fun n s hI=>?_) n h
 show wpAny _ _ (Sem.onRaise (compTurn (.ListComp elt [⟨target,iter,[],0⟩] scope pos) 0 it acc env) _) _ _ s
 refine wpAny_noted (noE ?_)
 rw[compTurn_list1]
 refine wpAny_bind (wpAny_standAt (wpAny_bind (wpAny_mono (turn n s hI) (fun r s₁ h₁=>?_) fun _ _ z=>z)))
 cases r with
 | none=>exact wpAny_pure h₁
 | some v =>
  refine wpAny_bind (wpAny_mono h₁ (fun _ s₂ h₂=>?_) fun _ _ z=>z)
  refine wpAny_bind (wpAny_mono h₂ (fun _ s₃ h₃=>?_) fun _ _ z=>z)
  refine wpAny_bind (wpAny_bind (wpAny_mono h₃ (fun y s₄ h₄=>?_) fun _ _ z=>z))
  refine wpAny_bind (wpAny_mono h₄ (fun _ s₅ h₅=>?_) fun _ _ z=>z)
  exact wpAny_pure (wpAny_pure ⟨rfl,h₅⟩)
theorem zj3 {elt target iter c:Expr} {scope:Scope} {pos:Pos} {it acc:Value} {env:Env} (I:Nat->Shared->Prop)
  (turn:∀ n s,I n s->wpAny (model prog w) A (pyNext it) (fun r s₁=>match r with
   | none=>R (.ok .next) s₁
   | some v=>wpAny (model prog w) A (letOwnedTupleGo target it v) (fun _ s₂=>wpAny (model prog w) A (assign target env v) (fun _ s₃=>wpAny (model prog w) A (isTrue c env (eval c env)) (fun b s₄ =>
     if b=true then wpAny (model prog w) A (eval elt env) (fun y s₅ =>
      wpAny (model prog w) A (call (.builtin "list.append") [acc,y]) (fun _ s₆=>∃ m,m<n/\I m s₆) (fun _ _=>False) s₅) (fun _ _=>False) s₄
     else ∃ m,m<n/\I m s₄) (fun _ _=>False) s₃) (fun _ _=>False) s₂) (fun _ _=>False) s₁) (fun _ _=>False) s)
  (n:Nat) (h:I n s):codeAny (model prog w) A (.compLoop (.ListComp elt [⟨target,iter,[c],0⟩] scope pos) 0 it acc env) R s:=by
 refine codeAny_loop rfl I (fun n s hI=>?_) n h
 show wpAny _ _ (Sem.onRaise (compTurn (.ListComp elt [⟨target,iter,[c],0⟩] scope pos) 0 it acc env) _) _ _ s
 refine wpAny_noted (noE ?_)
 rw[compTurn_list]
 refine wpAny_bind (wpAny_standAt (wpAny_bind (wpAny_mono (turn n s hI) (fun r s₁ h₁=>?_) fun _ _ z=>z)))
 cases r with
 | none=>exact wpAny_pure h₁
 | some v =>
  refine wpAny_bind (wpAny_mono h₁ (fun _ s₂ h₂=>?_) fun _ _ z=>z)
  refine wpAny_bind (wpAny_mono h₂ (fun _ s₃ h₃=>?_) fun _ _ z=>z)
  simp only[List.forIn_cons,List.forIn_nil,if_true,bind_assoc,pure_bind]
  refine wpAny_bind (wpAny_mono h₃ (fun b s₄ h₄=>?_) fun _ _ z=>z)
  cases b with
  | true =>
   simp only[if_true] at h₄ ⊢
   refine wpAny_bind (wpAny_mono h₄ (fun y s₅ h₅=>?_) fun _ _ z=>z)
   refine wpAny_bind (wpAny_mono h₅ (fun _ s₆ h₆=>?_) fun _ _ z=>z)
   exact wpAny_pure ⟨rfl,h₆⟩
  | false =>
   simp only[Bool.false_eq_true,if_false] at h₄ ⊢
   exact wpAny_pure ⟨rfl,h₄⟩
end
noncomputable def zbt (sc:Scope) (env:Env):List (Str × Addr):=(sc.names.filterMap fun p=>if p.2 == .free then (env.cells.lookup p.1).map fun c=>(p.1,c) else none).reverse
structure Blk where
 C:Addr
 s:Shared
 H:Hp
 pn:List (Addr × Obj)
 ex:List Addr
noncomputable def Cx.block (X:Cx) (sc:Scope) (x:Str) (ix:List Nat) (b:Blk):Cx where
 prog:=X.prog
 w:=X.w
 K:=X.K
 mg:=X.mg
 base:=X.base
 A:=X.A
 N:=x::ix.map fun i=>X.N.getD i x
 s₀:=b.s
 H₀:=b.H
 env:=compEnvC sc (zbt sc X.env) b.C X.env
 outer:=X.stack
 stack:=X.stack
 ex:=b.ex
 fn:=fun _=>false
 calm:=X.calm
 pn:=b.pn
 xe:=fun _ _=>False
noncomputable def capts (σ:St) (ix:List Nat):St:=ix.map fun i=>σ.getD i none
def zuG (X:Cx) (sc:Scope) (x:Str) (i:Nat):Prop :=
 (X.env.kindOf (X.N.getD i x)=some .cell\/X.env.kindOf (X.N.getD i x)=some .free)/\((relabel sc X.env).names.lookup (X.N.getD i x)=some .cell\/(relabel sc X.env).names.lookup (X.N.getD i x)=some .free) /\
  (zbt sc X.env).lookup (X.N.getD i x)=X.env.cells.lookup (X.N.getD i x)
noncomputable def ziN (X:Cx) (sc:Scope) (x:Str):List Nat->Prop
 | []=>True
 | i::r=>zuG X sc x i/\ziN X sc x r
theorem ziN.get {X:Cx} {sc:Scope} {x:Str}:∀ {ix:List Nat},ziN X sc x ix->∀ i∈ix,zuG X sc x i
 | [],_,_,h=>nomatch h
 | _::_,h,_,hi=>(yak.mp hi).elim (fun e=>e ▸ h.1) fun z=>ziN.get h.2 _ z
noncomputable def zk2 (cells:List (Str × Addr)):List (Str × Addr)->Prop
 | []=>True
 | p::r=>cells.lookup p.1=some p.2/\zk2 cells r
theorem zk2.get {cells:List (Str × Addr)}:∀ {cl:List (Str × Addr)},zk2 cells cl->∀ y c,cl.lookup y=some c->cells.lookup y=some c
 | [],_,_,_,h=>by simp at h
 | p::r,h,y,c,e=>by
  rw[List.lookup_cons] at e
  cases q:y == p.1 with
  | true =>
   rw[q] at e
   have e1:p.2=c:=Option.some.inj e
   rw[eq_of_beq q,<-e1]
   exact h.1
  | false =>
   rw[q] at e
   exact zk2.get h.2 y c e
noncomputable def zk7 (cl:List (Str × Addr)):List (Str × NameKind)->Prop
 | []=>True
 | p::r=>(p.2=.cell\/p.2=.free->∃ c,cl.lookup p.1=some c)/\zk7 cl r
theorem zk7.get {cl:List (Str × Addr)}:∀ {ns:List (Str × NameKind)},zk7 cl ns->∀ p∈ns,p.2=.cell\/p.2=.free->∃ c,cl.lookup p.1=some c
 | [],_,_,h=>nomatch h
 | _::_,h,_,hp=>(yak.mp hp).elim (fun e=>e ▸ h.1) fun z=>zk7.get h.2 _ z
structure zfs (X:Cx) (sc:Scope) (x:Str) (ix:List Nat):Prop where
 clos:closureFor sc X.env=pure (zbt sc X.env)
 cell:∀ y∈sc.names,y.2≠.cell
 kind:sc.kind=.function
 names:∀ y∈sc.names,y.2=.local->sc.names.lookup y.1=some .local
 var:sc.names.lookup x=some .local
 nd:(x::ix.map fun i=>X.N.getD i x).Nodup
 cap:ziN X sc x ix
 sub:zk2 X.env.cells (zbt sc X.env)
 has:zk7 (zbt sc X.env) (relabel sc X.env).names
section
variable {X:Cx} {pins:List (Addr × Obj)} {σ:St} {H:Hp} {s:Shared} {sc:Scope} {x:Str} {ix:List Nat} {fp:List Addr}
theorem zt1 (I:Inv X pins σ H s) (O:zfs X sc x ix) (hf:∀ b∈fp,za8 X pins H b) (hx:∀ b∈fp,∃ o,s.heap.get? b=some o):(X.block sc x ix ⟨s.heap.objs.size,s,H,X.pn++pins,fp⟩).Ok where
 mod:=I.ok.mod
 kind:=O.kind
 glob:=I.ok.glob
 blt:=I.ok.blt
 above:=ycu _
 inj:=fun y z c h1 h2=>I.ok.inj y z c (O.sub.get y c h1) (O.sub.get z c h2)
 has:=fun y h=>by
  have h':(relabel sc X.env).names.lookup y=some .cell\/(relabel sc X.env).names.lookup y=some .free:=h
  rcases h' with h' | h'
  ·exact O.has.get _ (PySem.mem_of_lookup h') (.inl rfl)
  ·exact O.has.get _ (PySem.mem_of_lookup h') (.inr rfl)
 cab:=fun _ _ h=>absurd (show false=true from h) Bool.false_ne_true
 hd:=I.ok.hd
 frames:=I.ok.frames
 stk:=.inl rfl
 exf:=fun b hb=>by
  obtain ⟨o,e⟩:=hx b hb
  exact ⟨ycv (ydk e),fun y c h=>(hf b hb).2.2.2.2.1 y c (O.sub.get y c h)⟩
 bs:=I.bs
 bsz:=ycz I.ok.bsz I.sz
 noex:=fun b o e hb=>by
  rcases (hf b hb).2.2.2.1 with z | z
  ·exact I.ok.noex b o e z
  ·exact absurd (ycx (ydk e) (ycz I.ok.bsz z)) (yda _)
 exfs:=fun b hb z=>(yak.mp (I.zee b z)).elim (hf b hb).2.1 (hf b hb).2.2.1
 funs:=I.stack
 frf:=I.znd
theorem znQ {h₁:Heap} {m:Str->Option Value} {tk:Nat} (I:Inv X pins σ H s) (O:zfs X sc x ix) (hf:∀ b∈fp,za8 X pins H b) (hx:∀ b∈fp,∃ o,s.heap.get? b=some o)
  (hn:h₁.Ns s.heap.objs.size m) (keep:∀ b o,s.heap.get? b=some o->h₁.get? b=some o) :
  Inv (X.block sc x ix ⟨s.heap.objs.size,s,H,X.pn++pins,fp⟩) [] (none::capts σ ix) H { s with heap:=h₁,toks:=tk }:=by
 refine ⟨zt1 I O hf hx,rfl,I.bare,Un.kept keep,⟨m,hn,fun i y v e1 e2 _=>?_⟩,fun y c h=>?_,I.hok.fresh (ycu _),fun y c h=>I.freeC y c (O.sub.get y c h),fun p hp=>?_,I.hok.kept keep,?_⟩
 ·cases i with
  | zero=>cases e2
  | succ j =>
   have e1':(ix.map fun i=>X.N.getD i x)[j]?=some y:=e1
   have e2':(capts σ ix)[j]?=some (some v):=e2
   unfold capts at e2'
   rw[yaj] at e1' e2'
   cases q:ix[j]? with
   | none=>rw[q] at e1';cases e1'
   | some i =>
    rw[q] at e1' e2'
    have e3:X.N.getD i x=y:=Option.some.inj e1'
    have e4:σ.getD i none=some v:=Option.some.inj e2'
    obtain ⟨c1,c2,c3⟩:=O.cap.get i (yai q)
    rw[e3] at c1 c2 c3
    have e5:σ[i]?=some (some v):=by
     rw[yae] at e4
     cases z:σ[i]? with
     | none=>rw[z] at e4;cases e4
     | some a=>rw[z] at e4;exact congrArg some e4
    have hl:i<X.N.length:=by
     rw[<-I.len]
     exact (yad.mp e5).1
    have e6:X.N[i]?=some y:=by
     rw[yae,yaa hl] at e3
     rw[yaa hl]
     exact congrArg some e3
    obtain ⟨m0,_,l0⟩:=I.loc
    have vis:Vis X.env.scope y:=by
     rcases c1 with z | z
     ·exact .inr (.inl z)
     ·exact .inr (.inr z)
    obtain ⟨u,ru,lu⟩:=l0 i y v e6 e5 vis
    refine ⟨u,ru,?_⟩
    rcases lu with ⟨k,_⟩ | ⟨_,c,hc,o,ho,hd⟩
    ·rcases c1 with z | z
     ·rw[z] at k;cases k
     ·rw[z] at k;cases k
    ·exact .inr ⟨c2,c,c3.trans hc,o,keep c o ho,hd⟩
 ·obtain ⟨v,o,ho,hd⟩:=I.cell y c (O.sub.get y c h)
  exact ⟨v,o,keep c o ho,hd⟩
 ·have hp':p∈X.pn++pins:=by
   rcases yac.mp hp with z | z
   ·exact z
   ·cases z
  obtain ⟨e,n,ne,nf,d⟩:=I.pin p hp'
  exact ⟨keep _ _ e,n,ycv (ydk e),fun z=>(yak.mp (I.zee _ z)).elim ne nf,d⟩
 ·show (none::capts σ ix).length=(x::ix.map fun i=>X.N.getD i x).length
  simp[capts]
theorem zmr {pins':List (Addr × Obj)} {σ':St} {H':Hp} {s':Shared} (I:Inv X pins σ H s) (hf:∀ b∈fp,za8 X pins H b) (J:Inv (X.block sc x ix ⟨s.heap.objs.size,s,H,X.pn++pins,fp⟩) pins' σ' H' s'):Inv X pins σ H' s' :=
 I.call' J.os J.base J.hok J.bare fun b hb=>⟨(hf b hb).2.2.2.1,(hf b hb).2.1,(hf b hb).2.2.2.2.1,(hf b hb).2.2.2.2.2⟩
theorem Inv.addpin {b:Addr} {o:Obj} (I:Inv X pins σ H s) (e:s.heap.get? b=some o) (hn:H b=none) (hL:b≠X.env.locals) (hf:b ∉ X.fs) (hd:∀ v,o.data≠.cell v):Inv X (pins++[(b,o)]) σ H s :=
 I.zm4 fun p hp=>(yac.mp hp).elim (fun z=>I.pin p (yah _ z)) fun z=>by
  have e':p=(b,o):=by simpa using z
  subst e'
  exact ⟨e,hn,hL,hf,hd⟩
end
def Turns (ix:List Nat) (te:TE) (σ:St) (J:It) (l:Addr) (R:Hp->Prop) (W:Nat->Nat->List V->Hp->Prop):Prop :=
 ∀ i m xs H',W i m xs H'->H' l=some (.lst xs)/\((J.stop i H'/\R H')\/(J.go i H'/\xs.length<sizeLine/\∀ x H2,J.yld i H' x H2 ->
  te (some x::capts σ ix) H2 fun v H3=>H3 l=some (.lst xs)/\∃ m',m'<m/\W (i+1) m' (xs++[v]) (upd H3 l (.lst (xs++[v])))))
def zux (ix:List Nat) (wi:TI) (te:TE):TE:=fun σ H Q=>wi σ H fun J H1=>∀ l,H1 l=none->∃ W:Nat->Nat->List V->Hp->Prop,(∃ m,W 0 m [] (upd H1 l (.lst [])))/\Turns ix te σ J l (Q (.ref l)) W
section
variable {X:Cx} {pins:List (Addr × Obj)} {σ:St} {H:Hp} {s:Shared} {sc:Scope} {x:Str} {ix:List Nat} {fp:List Addr} {elt iter:Expr} {te:TE} {wi:TI} {px pos:Pos}
theorem znS {it:Addr} {tn:Nat->Heap->Prop} {J:It} {use:Option (Value->Sem Unit)} {Q:Value->Shared->Prop} {E:Value->Shared->Prop} (O:zfs X sc x ix) (hel:∀ b,PE (X.block sc x ix b) elt te) (hc:X.calm=true)
  (I:Inv X pins σ H s) (T:Turn X.prog X.w X.K (.Name x px) J fp it tn) (st:tn 0 s.heap) (hf:∀ b∈fp,za8 X pins H b) (R:Addr->Hp->Prop)
  (h:∀ l,H l=none->∃ W:Nat->Nat->List V->Hp->Prop,(∃ m,W 0 m [] (upd H l (.lst [])))/\Turns ix te σ J l (R l) W)
  (fin:∀ l C m s' H',Inv X pins σ H' s'->s'.heap.Ns C m->za8 X pins H' C->R l H'->compPost (model X.prog X.w) X.A E use Q (.ref l) C (.ok .next) s') :
  wpAny (model X.prog X.w) X.A (newList []) (fun acc s₃=>wpAny (model X.prog X.w) X.A (newFunctionEnv sc X.env.globals (zbt sc X.env) [] X.env.qual none .none (some X.env)) (fun cenv s₄ =>
   codeAny (model X.prog X.w) X.A (.compStart (.ListComp elt [⟨.Name x px,iter,[],0⟩] sc pos) 0 (.ref it) acc { cenv with scope:=relabel sc X.env }) (compPost (model X.prog X.w) X.A E use Q acc cenv.locals) s₄) E s₃) E s:=by
 refine wpAny_newObj_type (wpAny_newFunctionEnv O.cell (by intro y hy;simp at hy) (fun h₁ hns hsb=>?_) O.kind)
 dsimp only at hns hsb ⊢
 have hl0:H s.heap.objs.size=none:=I.hok.fresh (ycu _)
 obtain ⟨W,⟨m0,w0⟩,tr⟩:=h s.heap.objs.size hl0
 have I3:Inv X pins σ (upd H s.heap.objs.size (.lst [])) { s with heap:=s.heap.push { cls:=.type "list", dict:=none,data:=.seq ([]:List Value).toArray } } :=
  I.laid (t':=s.toks) (fun b o e=>ydj _ e) (ycu _) ⟨ycy _,[],0,.nil,ydl _ rfl⟩
 have ofp:∀ b∈fp,∃ o,s.heap.get? b=some o:=fun b hb=>by
  obtain ⟨o,e,_⟩:=T.obj 0 _ st b hb
  exact ⟨o,e⟩
 generalize e3:s.heap.push { cls:=.type "list", dict:=none,data:=.seq ([]:List Value).toArray }=G at I3 hns hsb ⊢
 have ofp3:∀ b∈fp,∃ o,G.get? b=some o:=fun b hb=>by
  obtain ⟨o,e⟩:=ofp b hb
  exact ⟨o,by rw[<-e3];exact ydj _ e⟩
 have nl:∀ b∈fp,b≠s.heap.objs.size:=fun b hb=>by
  obtain ⟨o,e⟩:=ofp b hb
  exact ycv (ydk e)
 have hf3:∀ b∈fp,za8 X pins (upd H s.heap.objs.size (.lst [])) b:=fun b hb=>⟨by rw[zp (nl b hb)];exact (hf b hb).1,(hf b hb).2⟩
 have keep3:∀ b o,G.get? b=some o->h₁.get? b=some o:=fun b o e=>hsb.extBut b o (ycv (ydk e)) (ydj _ e)
 have stk:tn 0 h₁:=T.keep _ _ _ st fun b hb o e=>keep3 b o (by rw[<-e3];exact ydj _ e)
 have J0:=znQ (tk:=s.toks+([]:List (Str × Value)).length) I3 O hf3 ofp3 hns keep3
 have stat:∀ {H':Hp},(∀ b∈fp,H' b=none)->∀ b∈fp,za8 (X.block sc x ix ⟨G.objs.size,{ s with heap:=G },upd H s.heap.objs.size (.lst []),X.pn++pins,fp⟩) [] H' b:=fun hn b hb=>by
  obtain ⟨o,e⟩:=ofp3 b hb
  refine ⟨hn b hb,ycv (ydk e),fun z=>(yak.mp (I3.zee _ z)).elim (hf b hb).2.1 (hf b hb).2.2.1,.inl hb,fun y c q=>(hf b hb).2.2.2.2.1 y c (O.sub.get y c q),fun p hp=>?_⟩
  have hp':p∈X.pn++pins:=by
   rcases yac.mp hp with z | z
   ·exact z
   ·cases z
  exact (hf b hb).2.2.2.2.2 p hp'
 have loop:∀ s4:Shared,s4={ s with heap:=h₁,toks:=s.toks+([]:List (Str × Value)).length } ->
   codeAny (model X.prog X.w) X.A (.compLoop (.ListComp elt [⟨.Name x px,iter,[],0⟩] sc pos) 0 (.ref it) (.ref s.heap.objs.size) (compEnvC sc (zbt sc X.env) G.objs.size X.env))
    (compPost (model X.prog X.w) X.A E use Q (.ref s.heap.objs.size) G.objs.size) s4:=by
  rintro s4 rfl
  refine zsN (fun n s'=>∃ i xs H' z,Inv (X.block sc x ix ⟨G.objs.size,{ s with heap:=G },upd H s.heap.objs.size (.lst []),X.pn++pins,fp⟩) [] (z::capts σ ix) H' s'/\tn i s'.heap/\(∀ b∈fp,H' b=none)/\W i n xs H') ?_ m0
   ⟨0,[],_,none,J0,stk,fun b hb=>(hf3 b hb).1,w0⟩
  rintro n s5 ⟨i,xs,H5,z,I5,st5,fr5,w5⟩
  obtain ⟨hl5,h5⟩:=tr i n xs H5 w5
  rcases h5 with ⟨stop,r5⟩ | ⟨go,hz,step⟩
  ·refine thn (T.done (X.block sc x ix ⟨G.objs.size,{ s with heap:=G },upd H s.heap.objs.size (.lst []),X.pn++pins,fp⟩) rfl rfl rfl hc i [] s5 _ H5 _ I5 (stat fr5) st5 stop) fun r s6 ⟨hr,I6⟩=>?_
   subst hr
   obtain ⟨m6,hn6,_⟩:=I6.loc
   refine fin _ _ m6 s6 H5 (zmr I3 hf3 I6) hn6 ?_ r5
   exact I3.zpF (ycu _) I6.free
  ·refine thn (T.item (X.block sc x ix ⟨G.objs.size,{ s with heap:=G },upd H s.heap.objs.size (.lst []),X.pn++pins,fp⟩) rfl rfl rfl hc i [] s5 _ H5 _ I5 (stat fr5) st5 go) fun r s6 ⟨u,hr,h6⟩=>?_
   subst hr
   refine thn h6 fun _ s7 ⟨y,H7,I7,r7,y7,st7,fr7⟩=>?_
   have I7':=I7.pinned (stat fr7) (T.obj _ _ st7)
   have lx:(relabel sc X.env).names.lookup x=some .local:=lookup_relabel_local O.var
   refine thn ((zG (i:=0) O.nd rfl (Or.inl lx) (Or.inr lx):PG (X.block sc x ix ⟨G.objs.size,{ s with heap:=G },upd H s.heap.objs.size (.lst []),X.pn++pins,fp⟩) (.Name x px) (zcz 0)) _ s7 _ H7 y u (fun σ' H'=>σ'=some y::capts σ ix/\H'=H7) I7' r7 ⟨rfl,rfl⟩) fun _ s8 ⟨σ8,H8,I8,e8,e8'⟩=>?_
   subst e8 e8'
   refine thn (hel _ _ s8 _ H8 _ I8 (step y H8 y7)) fun v9 s9 ⟨v,H9,I9,r9,hl9,m',hm,w9⟩=>?_
   refine thn (zax _ s9 _ H9 (.ref s.heap.objs.size) [v] (.ref s.heap.objs.size) [v9] (fun _ H'=>H'=upd H9 s.heap.objs.size (.lst (xs++[v]))) I9 rfl (.cons r9 .nil) ⟨_,xs,v,rfl,rfl,hl9,hz,rfl⟩) fun _ s10 ⟨_,H10,I10,_,e10⟩=>?_
   subst e10
   refine ⟨m',hm,i+1,xs++[v],_,some y,I10.unpinned,T.keep _ _ _ st7 fun b hb o e=>(I10.pin (b,o) (yah _ (yah _ (zbB hb e)))).1,fun b hb=>?_,w9⟩
   obtain ⟨o,e,d⟩:=T.obj _ _ st7 b hb
   exact (I10.pin (b,o) (yah _ (yah _ (zbB hb e)))).2.1
 exact codeAny_compStart_list (loop _ rfl) (T.self _ 0 _ _ _ stk (loop _ rfl))
theorem zcG (O:zfs X sc x ix) (hi:PI X (.Name x px) iter wi) (hel:∀ b,PE (X.block sc x ix b) elt te) (hc:X.calm=true:=by rfl) (hs:∀ v,foldedSetIterable iter X.env v=pure v:=by intro _;rfl) :
  PE X (.ListComp elt [⟨.Name x px,iter,[],0⟩] sc pos) (zux ix wi te):=by
 intro pins s σ H Q I h
 rw[eval_ListComp]
 refine wpAny_comprehension_free (use:=none) rfl hs O.clos O.kind O.names (thn (hi pins s σ H _ I h) fun xv s1 h1=>thn h1 fun itv s2 h2=>?_)
 obtain ⟨it,fp,tn,J,H2,e,I2,T,st2,f2,hq⟩:=h2
 subst e
 refine znS O hel hc I2 T st2 f2 (fun l H'=>Q (.ref l) H') hq ?_
 intro l C m s' H' I' hn hf r
 refine ⟨m,hn,fun h' hb=>⟨.ref l,H',?_,rfl,r⟩⟩
 exact I'.turned (t':=s'.toks) (fun b o hne e=>hb.extBut b o hne e) hf.1 hf.2.1 hf.2.2.2.1 hf.2.2.2.2.1 hf.2.2.2.2.2
theorem zrJ {y:Str} {i:Nat} {py spos:Pos} (hN:X.N.Nodup) (hiy:X.N[i]?=some y) (hy:X.env.scope.names.lookup y=some .local) (O:zfs X sc x ix) (hi:PI X (.Name x px) iter wi) (hel:∀ b,PE (X.block sc x ix b) elt te)
  (hc:X.calm=true:=by rfl) (hs:∀ v,foldedSetIterable iter X.env v=pure v:=by intro _;rfl) (hsw:swapsWith (.ListComp elt [⟨.Name x px,iter,[],0⟩] sc pos) (some (.Name y py)) spos.line X.env=pure true:=by rfl) :
  PS X (.Assign [.Name y py] (.ListComp elt [⟨.Name x px,iter,[],0⟩] sc pos) spos) (zo7 (zux ix wi te) (zcz i)):=by
 intro pins s σ H D I h
 rw[exec_Assign_Name_used _ _ _ _ hsw]
 refine wpAny_bind (wpAny_standAt (wpAny_bind ?_))
 show wpAny _ X.A (do let _ <-comprehension (.ListComp elt [⟨.Name x px,iter,[],0⟩] sc pos) sc X.env _ (newList []) false (eval iter X.env) (some (assign (.Name y py) X.env))) _ _ s
 refine wpAny_bind (wpAny_mono (wpAny_comprehension_free (use:=some (assign (.Name y py) X.env)) (Q:=fun _ s'=>SP X pins D .next s') rfl hs O.clos O.kind O.names
  (thn (hi pins s σ H _ I h) fun xv s1 h1=>thn h1 fun itv s2 h2=>?_)) (fun _ s' hq=>wpAny_pure (wpAny_pure hq)) fun _ _ e=>e)
 obtain ⟨it,fp,tn,J,H2,e,I2,T,st2,f2,hq⟩:=h2
 subst e
 refine znS O hel hc I2 T st2 f2 (fun l H'=>D.nx (σ.set i (some (.ref l))) H') hq ?_
 intro l C m s' H' I' hn hf r
 obtain ⟨o,es,ep,ho,hd,hr⟩:=id hn
 have Ip:=I'.addpin ho hf.1 hf.2.1 hf.2.2.1 (by intro v z;rw[hd] at z;cases z)
 refine thn ((zG (i:=i) hN hiy (Or.inl hy) (Or.inr hy):PG X (.Name y py) (zcz i)) _ s' σ H' (.ref l) (.ref l) (fun σ' H''=>σ'=σ.set i (some (.ref l))/\H''=H') Ip rfl ⟨rfl,rfl⟩) fun _ s'' ⟨σ'',H'',I'',e1,e2⟩=>?_
 subst e1 e2
 have pc:=(I''.pin (C,o) (yah _ (yah _ yan))).1
 refine ⟨m,⟨o,es,ep,pc,hd,hr⟩,fun h' hb=>⟨_,_,?_,r⟩⟩
 exact I''.unpinned.turned (t':=s''.toks) (fun b o hne e=>hb.extBut b o hne e) hf.1 hf.2.1 hf.2.2.2.1 hf.2.2.2.2.1 hf.2.2.2.2.2
end
def zlc (ix:List Nat) (tt:TT) (te:TE) (σ:St) (J:It) (l:Addr) (R:Hp->Prop) (W:Nat->Nat->List V->Hp->Prop):Prop :=
 ∀ i m xs H',W i m xs H'->H' l=some (.lst xs)/\((J.stop i H'/\R H')\/(J.go i H'/\xs.length<sizeLine/\∀ x H2,J.yld i H' x H2 ->
  tt (some x::capts σ ix) H2 fun b H3=>if b=true then te (some x::capts σ ix) H3 fun v H4=>H4 l=some (.lst xs)/\∃ m',m'<m/\W (i+1) m' (xs++[v]) (upd H4 l (.lst (xs++[v]))) else ∃ m',m'<m/\W (i+1) m' xs H3))
def zrq (ix:List Nat) (wi:TI) (tt:TT) (te:TE):TE:=fun σ H Q=>wi σ H fun J H1=>∀ l,H1 l=none->∃ W:Nat->Nat->List V->Hp->Prop,(∃ m,W 0 m [] (upd H1 l (.lst [])))/\zlc ix tt te σ J l (Q (.ref l)) W
section
variable {X:Cx} {pins:List (Addr × Obj)} {σ:St} {H:Hp} {s:Shared} {sc:Scope} {x:Str} {ix:List Nat} {fp:List Addr} {elt iter c:Expr} {te:TE} {tt:TT} {wi:TI} {px pos:Pos}
theorem zli {it:Addr} {tn:Nat->Heap->Prop} {J:It} {use:Option (Value->Sem Unit)} {Q:Value->Shared->Prop} {E:Value->Shared->Prop} (O:zfs X sc x ix) (htt:∀ b,PT (X.block sc x ix b) c tt) (hel:∀ b,PE (X.block sc x ix b) elt te) (hc:X.calm=true)
  (I:Inv X pins σ H s) (T:Turn X.prog X.w X.K (.Name x px) J fp it tn) (st:tn 0 s.heap) (hf:∀ b∈fp,za8 X pins H b) (R:Addr->Hp->Prop)
  (h:∀ l,H l=none->∃ W:Nat->Nat->List V->Hp->Prop,(∃ m,W 0 m [] (upd H l (.lst [])))/\zlc ix tt te σ J l (R l) W)
  (fin:∀ l C m s' H',Inv X pins σ H' s'->s'.heap.Ns C m->za8 X pins H' C->R l H'->compPost (model X.prog X.w) X.A E use Q (.ref l) C (.ok .next) s') :
  wpAny (model X.prog X.w) X.A (newList []) (fun acc s₃=>wpAny (model X.prog X.w) X.A (newFunctionEnv sc X.env.globals (zbt sc X.env) [] X.env.qual none .none (some X.env)) (fun cenv s₄ =>
   codeAny (model X.prog X.w) X.A (.compStart (.ListComp elt [⟨.Name x px,iter,[c],0⟩] sc pos) 0 (.ref it) acc { cenv with scope:=relabel sc X.env }) (compPost (model X.prog X.w) X.A E use Q acc cenv.locals) s₄) E s₃) E s:=by
 refine wpAny_newObj_type (wpAny_newFunctionEnv O.cell (by intro y hy;simp at hy) (fun h₁ hns hsb=>?_) O.kind)
 dsimp only at hns hsb ⊢
 have hl0:H s.heap.objs.size=none:=I.hok.fresh (ycu _)
 obtain ⟨W,⟨m0,w0⟩,tr⟩:=h s.heap.objs.size hl0
 have I3:Inv X pins σ (upd H s.heap.objs.size (.lst [])) { s with heap:=s.heap.push { cls:=.type "list", dict:=none,data:=.seq ([]:List Value).toArray } } :=
  I.laid (t':=s.toks) (fun b o e=>ydj _ e) (ycu _) ⟨ycy _,[],0,.nil,ydl _ rfl⟩
 have ofp:∀ b∈fp,∃ o,s.heap.get? b=some o:=fun b hb=>by
  obtain ⟨o,e,_⟩:=T.obj 0 _ st b hb
  exact ⟨o,e⟩
 generalize e3:s.heap.push { cls:=.type "list", dict:=none,data:=.seq ([]:List Value).toArray }=G at I3 hns hsb ⊢
 have ofp3:∀ b∈fp,∃ o,G.get? b=some o:=fun b hb=>by
  obtain ⟨o,e⟩:=ofp b hb
  exact ⟨o,by rw[<-e3];exact ydj _ e⟩
 have nl:∀ b∈fp,b≠s.heap.objs.size:=fun b hb=>by
  obtain ⟨o,e⟩:=ofp b hb
  exact ycv (ydk e)
 have hf3:∀ b∈fp,za8 X pins (upd H s.heap.objs.size (.lst [])) b:=fun b hb=>⟨by rw[zp (nl b hb)];exact (hf b hb).1,(hf b hb).2⟩
 have keep3:∀ b o,G.get? b=some o->h₁.get? b=some o:=fun b o e=>hsb.extBut b o (ycv (ydk e)) (ydj _ e)
 have stk:tn 0 h₁:=T.keep _ _ _ st fun b hb o e=>keep3 b o (by rw[<-e3];exact ydj _ e)
 have J0:=znQ (tk:=s.toks+([]:List (Str × Value)).length) I3 O hf3 ofp3 hns keep3
 have stat:∀ {H':Hp},(∀ b∈fp,H' b=none)->∀ b∈fp,za8 (X.block sc x ix ⟨G.objs.size,{ s with heap:=G },upd H s.heap.objs.size (.lst []),X.pn++pins,fp⟩) [] H' b:=fun hn b hb=>by
  obtain ⟨o,e⟩:=ofp3 b hb
  refine ⟨hn b hb,ycv (ydk e),fun z=>(yak.mp (I3.zee _ z)).elim (hf b hb).2.1 (hf b hb).2.2.1,.inl hb,fun y c q=>(hf b hb).2.2.2.2.1 y c (O.sub.get y c q),fun p hp=>?_⟩
  have hp':p∈X.pn++pins:=by
   rcases yac.mp hp with z | z
   ·exact z
   ·cases z
  exact (hf b hb).2.2.2.2.2 p hp'
 have loop:∀ s4:Shared,s4={ s with heap:=h₁,toks:=s.toks+([]:List (Str × Value)).length } ->
   codeAny (model X.prog X.w) X.A (.compLoop (.ListComp elt [⟨.Name x px,iter,[c],0⟩] sc pos) 0 (.ref it) (.ref s.heap.objs.size) (compEnvC sc (zbt sc X.env) G.objs.size X.env))
    (compPost (model X.prog X.w) X.A E use Q (.ref s.heap.objs.size) G.objs.size) s4:=by
  rintro s4 rfl
  refine zj3 (fun n s'=>∃ i xs H' z,Inv (X.block sc x ix ⟨G.objs.size,{ s with heap:=G },upd H s.heap.objs.size (.lst []),X.pn++pins,fp⟩) [] (z::capts σ ix) H' s'/\tn i s'.heap/\(∀ b∈fp,H' b=none)/\W i n xs H') ?_ m0
   ⟨0,[],_,none,J0,stk,fun b hb=>(hf3 b hb).1,w0⟩
  rintro n s5 ⟨i,xs,H5,z,I5,st5,fr5,w5⟩
  obtain ⟨hl5,h5⟩:=tr i n xs H5 w5
  rcases h5 with ⟨stop,r5⟩ | ⟨go,hz,step⟩
  ·refine thn (T.done (X.block sc x ix ⟨G.objs.size,{ s with heap:=G },upd H s.heap.objs.size (.lst []),X.pn++pins,fp⟩) rfl rfl rfl hc i [] s5 _ H5 _ I5 (stat fr5) st5 stop) fun r s6 ⟨hr,I6⟩=>?_
   subst hr
   obtain ⟨m6,hn6,_⟩:=I6.loc
   refine fin _ _ m6 s6 H5 (zmr I3 hf3 I6) hn6 ?_ r5
   exact I3.zpF (ycu _) I6.free
  ·refine thn (T.item (X.block sc x ix ⟨G.objs.size,{ s with heap:=G },upd H s.heap.objs.size (.lst []),X.pn++pins,fp⟩) rfl rfl rfl hc i [] s5 _ H5 _ I5 (stat fr5) st5 go) fun r s6 ⟨u,hr,h6⟩=>?_
   subst hr
   refine thn h6 fun _ s7 ⟨y,H7,I7,r7,y7,st7,fr7⟩=>?_
   have I7':=I7.pinned (stat fr7) (T.obj _ _ st7)
   have lx:(relabel sc X.env).names.lookup x=some .local:=lookup_relabel_local O.var
   refine thn ((zG (i:=0) O.nd rfl (Or.inl lx) (Or.inr lx):PG (X.block sc x ix ⟨G.objs.size,{ s with heap:=G },upd H s.heap.objs.size (.lst []),X.pn++pins,fp⟩) (.Name x px) (zcz 0)) _ s7 _ H7 y u (fun σ' H'=>σ'=some y::capts σ ix/\H'=H7) I7' r7 ⟨rfl,rfl⟩) fun _ s8 ⟨σ8,H8,I8,e8,e8'⟩=>?_
   subst e8 e8'
   refine thn (htt _ _ s8 _ H8 _ I8 (step y H8 y7)) fun b s9 ⟨H9,I9,q9⟩=>?_
   have kp:∀ {σ0:St} {H0:Hp} {s0:Shared},Inv (X.block sc x ix ⟨G.objs.size,{ s with heap:=G },upd H s.heap.objs.size (.lst []),X.pn++pins,fp⟩) ([]++ziH fp s7.heap) σ0 H0 s0->tn (i+1) s0.heap/\∀ b∈fp,H0 b=none:=fun {σ0 H0 s0} I0=>by
    refine ⟨T.keep _ _ _ st7 fun b hb o e=>(I0.pin (b,o) (yah _ (yah _ (zbB hb e)))).1,fun b hb=>?_⟩
    obtain ⟨o,e,d⟩:=T.obj _ _ st7 b hb
    exact (I0.pin (b,o) (yah _ (yah _ (zbB hb e)))).2.1
   cases b with
   | false =>
    rw[if_neg Bool.false_ne_true] at q9 ⊢
    obtain ⟨m',hm,w9⟩:=q9
    exact ⟨m',hm,i+1,xs,_,some y,I9.unpinned,(kp I9).1,(kp I9).2,w9⟩
   | true =>
    rw[if_pos rfl] at q9 ⊢
    refine thn (hel _ _ s9 _ H9 _ I9 q9) fun v9 s10 ⟨v,H10,I10,r10,hl10,m',hm,w10⟩=>?_
    refine thn (zax _ s10 _ H10 (.ref s.heap.objs.size) [v] (.ref s.heap.objs.size) [v9] (fun _ H'=>H'=upd H10 s.heap.objs.size (.lst (xs++[v]))) I10 rfl (.cons r10 .nil) ⟨_,xs,v,rfl,rfl,hl10,hz,rfl⟩) fun _ s11 ⟨_,H11,I11,_,e11⟩=>?_
    subst e11
    exact ⟨m',hm,i+1,xs++[v],_,some y,I11.unpinned,(kp I11).1,(kp I11).2,w10⟩
 exact codeAny_compStart_list (loop _ rfl) (T.self _ 0 _ _ _ stk (loop _ rfl))
theorem zdB (O:zfs X sc x ix) (hi:PI X (.Name x px) iter wi) (htt:∀ b,PT (X.block sc x ix b) c tt) (hel:∀ b,PE (X.block sc x ix b) elt te) (hc:X.calm=true:=by rfl) (hs:∀ v,foldedSetIterable iter X.env v=pure v:=by intro _;rfl) :
  PE X (.ListComp elt [⟨.Name x px,iter,[c],0⟩] sc pos) (zrq ix wi tt te):=by
 intro pins s σ H Q I h
 rw[eval_ListComp]
 refine wpAny_comprehension_free (use:=none) rfl hs O.clos O.kind O.names (thn (hi pins s σ H _ I h) fun xv s1 h1=>thn h1 fun itv s2 h2=>?_)
 obtain ⟨it,fp,tn,J,H2,e,I2,T,st2,f2,hq⟩:=h2
 subst e
 refine zli O htt hel hc I2 T st2 f2 (fun l H'=>Q (.ref l) H') hq ?_
 intro l C m s' H' I' hn hf r
 refine ⟨m,hn,fun h' hb=>⟨.ref l,H',?_,rfl,r⟩⟩
 exact I'.turned (t':=s'.toks) (fun b o hne e=>hb.extBut b o hne e) hf.1 hf.2.1 hf.2.2.2.1 hf.2.2.2.2.1 hf.2.2.2.2.2
end
theorem ze {H:Hp} {p:Addr} (h:H p=none) (o:HO):Same H (upd H p o):=fun b u q=>by rw[zp (zZ q h)];exact q
section
variable {X:Cx}
theorem zjY:∀ {ns:List Int} {us:List Value},Vals (ns.map V.int) us->IntsAre us ns
 | [],_,.nil=>.nil
 | n::ns,_,.cons ⟨t,e⟩ r=>by
  subst e
  exact .cons n t (zjY r)
end
end L2
namespace L2
open PySem PySem.Spec PyProof.Rows
mutual
inductive RdV (K:W.Frag) (H:Hp):V->PyData->Prop
 | non:RdV K H .non .none
 | bl (b:Bool):RdV K H (.bl b) (.bool b)
 | int (i:Int):RdV K H (.int i) (.int i)
 | str (x:Str):RdV K H (.str x) (.str x)
 | lst {a:Addr} {xs:List V} {ds:List PyData}:SqL K H a xs->zfD K H xs ds->RdV K H (.ref a) (.list ds)
 | tup {a:Addr} {xs:List V} {ds:List PyData}:SqT K H a xs->zfD K H xs ds->RdV K H (.ref a) (.tuple ds)
inductive zfD (K:W.Frag) (H:Hp):List V->List PyData->Prop
 | nil:zfD K H [] []
 | cons {x:V} {d:PyData} {xs:List V} {ds:List PyData}:RdV K H x d->zfD K H xs ds->zfD K H (x::xs) (d::ds)
end
section
variable {X:Cx} {pins:List (Addr × Obj)} {σ:St} {H:Hp} {s:Shared} {pos:Pos}
mutual
theorem RdV.reads (I:Inv X pins σ H s):∀ {x:V} {d:PyData} {u:Value},RdV X.K H x d->RelV x u->∃ as,Reads s.heap u d as
 | _,_,_,.non,r=>by cases r;exact ⟨_,.none⟩
 | _,_,_,.bl b,r=>by cases r;exact ⟨_,.bool b⟩
 | _,_,_,.int i,r=>by obtain ⟨t,rfl⟩:=r;exact ⟨_,.int i t⟩
 | _,_,_,.str x,r=>by obtain ⟨t,rfl⟩:=r;exact ⟨_,.str x t⟩
 | _,_,_,.lst h hs,r=>by
  cases r
  obtain ⟨its,rv,pl,hz⟩:=I.list h
  obtain ⟨as,q⟩:=zfD.reads I hs rv
  obtain ⟨o,n,e,c,hd,dt⟩:=pl
  exact ⟨_,reads_list_at e c dt (by simpa using q)⟩
 | _,_,_,.tup h hs,r=>by
  cases r
  obtain ⟨its,rv,pl,hz⟩:=I.tuple h
  obtain ⟨as,q⟩:=zfD.reads I hs rv
  obtain ⟨o,e,c,n,dt⟩:=pl
  exact ⟨_,reads_tuple_at e c dt (by simpa using q)⟩
theorem zfD.reads (I:Inv X pins σ H s):∀ {xs:List V} {ds:List PyData} {us:List Value},zfD X.K H xs ds->Vals xs us->∃ as,ReadsAll s.heap us ds as
 | _,_,_,.nil,.nil=>⟨_,.nil⟩
 | _,_,_,.cons h hs,.cons r rs=>by
  obtain ⟨as,q⟩:=RdV.reads I h r
  obtain ⟨bs,q'⟩:=zfD.reads I hs rs
  exact ⟨_,.cons q q'⟩
end
def zw3 (K:W.Frag):R2:=fun x y H Q=>∃ d e,RdV K H x d/\RdV K H y e/\SeqAt.shaped d=true/\SeqAt.shaped e=true/\Q (.bl (PyData.eqv d e)) H
theorem zl8 (hu:X.A.units+64<cLine):OpR X (compareOp .Eq) (zw3 X.K):=by
 intro pins s σ H x y v u Q I rx ry h
 obtain ⟨d,e,hd,he,sd,se,q⟩:=h
 obtain ⟨as,ra⟩:=hd.reads I rx
 obtain ⟨bs,rb⟩:=he.reads I ry
 exact eq_dataH ra rb sd se hu ⟨.bl _,H,I,rfl,q⟩
end
noncomputable def kinds:List String:=["NoneType", "bool", "int", "str", "list", "tuple", "dict"]
theorem zu5 {K:W.Frag} {T:String} (h:T∈kinds):PySem.W.kitOne K (.type T) (.type "int")=some (decide (T = "int" \/ T = "bool")):=by
 simp only[kinds,yak,ybw,or_false] at h
 rcases h with rfl | rfl | rfl | rfl | rfl | rfl | rfl <;> rfl
theorem ztK {K:W.Frag} {T:String} (h:T∈kinds):PySem.W.kitOne K (.type T) (.type "bool")=some (decide (T = "bool")):=by
 simp only[kinds,yak,ybw,or_false] at h
 rcases h with rfl | rfl | rfl | rfl | rfl | rfl | rfl <;> rfl
def zvN (K:W.Frag) (H:Hp) (x:V) (T:String):Prop:=zdo K H x (.type T)/\T∈kinds
theorem zwM {A B:Prop} (h:B):if (!true)=true then A else B:=zwg (A:=A) h
theorem zxv {p A B:Prop} [Decidable p] (h1:¬ p->A) (h2:p->B):if (!decide p)=true then A else B:=by
 by_cases h:p
 ·rw[if_neg (by simpa using h)];exact h2 h
 ·rw[if_pos (by simpa using h)];exact h1 h
theorem zbd {X:Cx} {a b v:Int} {j j':Nat} {p p' pos:Pos} (h:a ^ b.toNat=v) (hb:CPow a b):PE X (.BinOp (.Constant (.int a) j p) .Pow (.Constant (.int b) j' p') pos) (tC (.int v)):=by
 intro pins s σ H Q I hq
 exact zh zwc zb zb pins s σ H Q I ⟨_,_,rfl,rfl,hb,by show Q (V.int (a ^ b.toNat)) H;rw[h];exact hq⟩
end L2
namespace L2
open PySem PySem.Spec PyProof.Rows
theorem zam.get {P:Program} {w:World} {H:Hp} {h:Heap} {a:Addr} {o:HO} (x:zam P w H h a o):∃ u,h.get? a=some u:=by
 cases o with
 | lst xs=>obtain ⟨_,_,_,_,e⟩:=x;exact ⟨_,e⟩
 | tup xs=>obtain ⟨_,_,_,_,e,_⟩:=x;exact ⟨_,e⟩
 | dK kvs=>obtain ⟨_,_,_,_,_,_,_,e,_⟩:=x;exact ⟨_,e⟩
 | set S n=>obtain ⟨_,_,_,_,e,_⟩:=x;exact ⟨_,e⟩
 | ins C dx fs=>obtain ⟨_,_,_,e,_⟩:=x;exact ⟨_,e⟩
 | own y=>exact x
 | xd fs=>obtain ⟨_,⟨_,_,_,e,_⟩,_⟩:=x;exact ⟨_,e⟩
 | rng lo hi=>obtain ⟨_,_,_,e⟩:=x;exact ⟨_,e⟩
 | frz ob u=>obtain ⟨e,_⟩:=x;exact ⟨_,e⟩
 | tbl ps=>exact ⟨_,(show h.get? a=some _ from x)⟩
 | met f y=>exact ⟨_,(show h.get? a=some _ from x)⟩
 | ext φ=>obtain ⟨_,e,_⟩:=x;exact e
theorem HOk.gone {P:Program} {w:World} {H:Hp} {h:Heap} {a:Addr} (x:HOk P w H h) (e:h.get? a=none):H a=none:=by
 cases q:H a with
 | none=>rfl
 | some o =>
  obtain ⟨u,z⟩:=(x a o q).get
  rw[e] at z;cases z
section
variable {X:Cx} {pins:List (Addr × Obj)} {σ:St} {H:Hp} {s:Shared} {h':Heap} {hid:List Addr}
end
section
variable {P:Program} {w:World} {K:W.Frag} {mg:Str->Option Value} {base:Heap} {N:List Str} {qual:Str} {scope:Scope} {f:Addr} {cd:Value} {A:Around} {outer:List Env} {s₀:Shared} {H₀:Hp} {E:XK}
end
section
variable {P:Program} {w:World} {K:W.Frag} {mg:Str->Option Value} {base:Heap} {x:Str} {st:Stmt} {N ps:List Str} {k:Nat} {sp:Sp}
end
section
variable {X:Cx} {x:Str} {p pos:Pos} {e:Expr} {es:List Expr} {t:TA} {j k:Nat} {ps:List Str} {sp:Sp}
end
noncomputable def cA (K:W.Frag) (x:Str):Addr:=match PySem.W.nsIn K mainGlobals x with
 | some (some (.ref C))=>C
 | _=>0
theorem zdF {K:W.Frag} {x:Str} {C:Addr} (e:PySem.W.nsIn K mainGlobals x=some (some (.ref C))):cA K x=C:=by unfold cA;rw[e]
section
variable {X:Cx} {x:Str} {np cpos pos:Pos} {e0:Expr} {rest:List Expr} {t:TA} {E:XK}
end
section
open PySem.Builtin PySem.Builtin.ObjectAttr PySem.Builtin.Getset_descriptor
variable {prog:Program} {w:World} {A:Around} {E:Value->Shared->Prop} {s:Shared} {K:W.Frag} {e C:Addr} {oe:Obj}
end
end L2
namespace L2
open PySem PySem.Spec PyProof.Rows
section
variable {K:W.Frag} {e C:Addr}
end
section
variable {X:Cx}
end
section
variable {X:Cx} {pins:List (Addr × Obj)} {σ:St} {H:Hp} {s:Shared} {e:Addr}
theorem Inv.track {o:HO} (I:Inv X pins σ H s) (hn:H e=none) (h0:X.s₀.heap.get? e=none) (hL:e≠X.env.locals) (hC:∀ x c,X.env.cells.lookup x=some c->c≠e) (hp:∀ p∈X.pn++pins,p.1≠e)
  (new:zam X.prog X.w (upd H e o) s.heap e o):Inv X pins σ (upd H e o) s:=by
 refine ⟨I.ok,I.os,I.bare,⟨I.base.keep,I.base.slot,fun b u q n hx=>?_,I.base.there,fun b xs q=>?_,fun b u v q=>?_,fun b ps q=>?_⟩,I.loc,I.cell,?_,fun x c q=>?_,fun p q=>?_,fun b u q=>?_,I.len⟩
 ·rw[zp (fun z=>by rw[z,h0] at q;cases q)]
  exact I.base.free b u q n hx
 ·have z:=I.base.tups b xs q
  rw[zp (zZ z hn)];exact z
 ·have z:=I.base.frzs b u v q
  rw[zp (zZ z hn)];exact z
 ·obtain ⟨more,z⟩:=I.base.tbls b ps q
  exact ⟨more,by rw[zp (zZ z hn)];exact z⟩
 ·rw[zp (Ne.symm hL)];exact I.free
 ·rw[zp (hC x c q)];exact I.freeC x c q
 ·obtain ⟨a,b,c,d,f⟩:=I.pin p q
  exact ⟨a,by rw[zp (hp p q)];exact b,c,d,f⟩
 ·by_cases hb:b=e
  ·subst hb
   rw[zg] at q;cases q
   exact new
  ·rw[zp hb] at q
   exact (I.hok b u q).stay (fun _ _ _ z=>z) (fun c z=>by rw[zp (zZ z hn)];exact z) fun c xs z=>by rw[zp (zZ z hn)];exact z
end
end L2
namespace L2
open PySem PySem.Spec PyProof.Rows
section
variable {K:W.Frag} {h:Heap} {mg:Str->Option Value} {x y:Str} {C D:Addr} {v:Bool} {n:String}
theorem zbh (X:K.In h) (a:PySem.W.nsIn K mainGlobals x=some (some (.ref C))):PySem.W.nsIn K mainGlobals x=some (some (.ref C)):=a
theorem zdk (X:K.In h) (G:h.Ns mainGlobals mg) (a:PySem.W.nsIn K mainGlobals x=some (some (.ref C))):mg x=some (.ref (cA K x)):=by
 rw[zdF a];exact PySem.W.mg_of X G a
theorem zmI (a:PySem.W.nsIn K mainGlobals x=some (some (.ref C))) (b:PySem.W.nsIn K mainGlobals y=some (some (.ref D))) (q:PySem.W.kitOne K (.ref C) (.ref D)=some v):PySem.W.kitOne K (.ref (cA K x)) (.ref (cA K y))=some v:=by
 rw[zdF a,zdF b];exact q
theorem zlb (a:PySem.W.nsIn K mainGlobals x=some (some (.ref C))) (q:PySem.W.kitOne K (.ref C) (.type n)=some v):PySem.W.kitOne K (.ref (cA K x)) (.type n)=some v:=by
 rw[zdF a];exact q
end
end L2
namespace L2
open PySem PySem.Spec PyProof.Rows
section
variable {P:Program} {w:World} {K:W.Frag} {mg:Str->Option Value} {base:Heap} {x:Str} {st:Stmt} {N ps:List Str} {k:Nat} {sp:Sp}
end
section
variable {X:Cx} {x:Str} {p pos:Pos} {e:Expr} {es:List Expr} {t:TA} {j k:Nat} {ps:List Str} {sp:Sp}
end
theorem zfk {xs:List V} {k:Int} (h0:0<=k) (h:k<(xs.length:Int)):∃ v,atI xs k=some v/\v∈xs:=by
 have hk:k.toNat<xs.length:=by omega
 have q:atI xs ((k.toNat:Nat):Int)=some xs[k.toNat]:=zak (yaa hk)
 rw[show ((k.toNat:Nat):Int)=k by omega] at q
 exact ⟨_,q,yck hk⟩
theorem zaz {v:V} {xs:List V} {p:V->Prop} (h:p v) (t:∀ x∈xs,p x):∀ x∈v::xs,p x:=fun x hx=>by
 rcases yak.mp hx with rfl | hx
 ·exact h
 ·exact t x hx
theorem zlY {p:V->Prop}:∀ x∈([]:List V),p x:=fun x hx=>by cases hx
theorem zJ {H H':Hp} {a:Addr} (s:Same H H') (h:H' a=none):H a=none:=by
 cases q:H a with
 | none=>rfl
 | some o=>rw[s a o q] at h;cases h
theorem zE {H H':Hp} {l:Addr} {o:HO} (s:Same H H') (h:H l=none):Same H (upd H' l o):=fun b u q=>by
 rw[zp (zZ q h)];exact s b u q
theorem zlx:∀ ns:List Int,PyData.canLayAll0 (ns.map PyData.int)=true
 | []=>by simp[PyData.canLayAll0]
 | n::ns=>by simp[PyData.canLayAll0,PyData.canLay0,zlx ns]
theorem zmp:∀ ns:List Int,PyData.depthAll (ns.map PyData.int)=0
 | []=>by simp[PyData.depthAll]
 | n::ns=>by simp[PyData.depthAll,PyData.depth,zmp ns]
theorem zlj:∀ ns:List Int,PyData.eqvAll (ns.map PyData.int) (ns.map PyData.int)=true
 | []=>by simp[PyData.eqvAll]
 | n::ns=>by simp[PyData.eqvAll,PyData.eqv,zlj ns]
end L2
namespace L2
open PySem PySem.W PyProof.Rows
def zQ (t u:TS):TS:=zaf t u
theorem zc {X:Cx} {st:Stmt} {rest:List Stmt} {t u:TS} (h1:PS X st t) (h2:PSs X rest u):PSs X (st::rest) (zQ t u):=ztN h1 h2
def Mkd (p:Prop):Prop:=p
variable {t1 t2 t3 t4 t5 t6 t7 t8 t9 t10:TS} {D:Ends} {σ:St} {H:Hp}
theorem sqG (h:Mkd (zQ t1 t2 D σ H)):zQ t1 t2 D σ H:=h
theorem zxi (h:let v1:=t2;zaf t1 v1 D σ H):Mkd ((zQ t1 t2) D σ H):=h
theorem zxg (h:let v2:=t3;let v1:=zaf t2 v2;zaf t1 v1 D σ H):Mkd ((zQ t1 (zQ t2 t3)) D σ H):=h
theorem zxl (h:let v3:=t4;let v2:=zaf t3 v3;let v1:=zaf t2 v2;zaf t1 v1 D σ H):Mkd ((zQ t1 (zQ t2 (zQ t3 t4))) D σ H):=h
theorem zxh (h:let v4:=t5;let v3:=zaf t4 v4;let v2:=zaf t3 v3;let v1:=zaf t2 v2;zaf t1 v1 D σ H):Mkd ((zQ t1 (zQ t2 (zQ t3 (zQ t4 t5)))) D σ H):=h
theorem zxw (h:let v5:=t6;let v4:=zaf t5 v5;let v3:=zaf t4 v4;let v2:=zaf t3 v3;let v1:=zaf t2 v2;zaf t1 v1 D σ H):Mkd ((zQ t1 (zQ t2 (zQ t3 (zQ t4 (zQ t5 t6))))) D σ H):=h
theorem zxB (h:let v6:=t7;let v5:=zaf t6 v6;let v4:=zaf t5 v5;let v3:=zaf t4 v4;let v2:=zaf t3 v3;let v1:=zaf t2 v2;zaf t1 v1 D σ H):Mkd ((zQ t1 (zQ t2 (zQ t3 (zQ t4 (zQ t5 (zQ t6 t7)))))) D σ H):=h
theorem zxA (h:let v7:=t8;let v6:=zaf t7 v7;let v5:=zaf t6 v6;let v4:=zaf t5 v5;let v3:=zaf t4 v4;let v2:=zaf t3 v3;let v1:=zaf t2 v2;zaf t1 v1 D σ H):Mkd ((zQ t1 (zQ t2 (zQ t3 (zQ t4 (zQ t5 (zQ t6 (zQ t7 t8))))))) D σ H):=h
theorem zw6 (h:let v8:=t9;let v7:=zaf t8 v8;let v6:=zaf t7 v7;let v5:=zaf t6 v6;let v4:=zaf t5 v5;let v3:=zaf t4 v4;let v2:=zaf t3 v3;let v1:=zaf t2 v2;zaf t1 v1 D σ H):Mkd ((zQ t1 (zQ t2 (zQ t3 (zQ t4 (zQ t5 (zQ t6 (zQ t7 (zQ t8 t9)))))))) D σ H):=h
theorem zwX (h:let v9:=t10;let v8:=zaf t9 v9;let v7:=zaf t8 v8;let v6:=zaf t7 v7;let v5:=zaf t6 v6;let v4:=zaf t5 v5;let v3:=zaf t4 v4;let v2:=zaf t3 v3;let v1:=zaf t2 v2;zaf t1 v1 D σ H):Mkd ((zQ t1 (zQ t2 (zQ t3 (zQ t4 (zQ t5 (zQ t6 (zQ t7 (zQ t8 (zQ t9 t10))))))))) D σ H):=h
inductive Ee4 {α0 α1 α2 α3:Type} (p:α0->α1->α2->α3->Prop):Prop | mk (x0:α0) (x1:α1) (x2:α2) (x3:α3) (h:p x0 x1 x2 x3):Ee4 p
inductive Ee5 {α0 α1 α2 α3 α4:Type} (p:α0->α1->α2->α3->α4->Prop):Prop | mk (x0:α0) (x1:α1) (x2:α2) (x3:α3) (x4:α4) (h:p x0 x1 x2 x3 x4):Ee5 p
inductive Ee6 {α0 α1 α2 α3 α4 α5:Type} (p:α0->α1->α2->α3->α4->α5->Prop):Prop | mk (x0:α0) (x1:α1) (x2:α2) (x3:α3) (x4:α4) (x5:α5) (h:p x0 x1 x2 x3 x4 x5):Ee6 p
inductive Ee7 {α0 α1 α2 α3 α4 α5 α6:Type} (p:α0->α1->α2->α3->α4->α5->α6->Prop):Prop | mk (x0:α0) (x1:α1) (x2:α2) (x3:α3) (x4:α4) (x5:α5) (x6:α6) (h:p x0 x1 x2 x3 x4 x5 x6):Ee7 p
inductive Ee8 {α0 α1 α2 α3 α4 α5 α6 α7:Type} (p:α0->α1->α2->α3->α4->α5->α6->α7->Prop):Prop | mk (x0:α0) (x1:α1) (x2:α2) (x3:α3) (x4:α4) (x5:α5) (x6:α6) (x7:α7) (h:p x0 x1 x2 x3 x4 x5 x6 x7):Ee8 p
inductive Ee9 {α0 α1 α2 α3 α4 α5 α6 α7 α8:Type} (p:α0->α1->α2->α3->α4->α5->α6->α7->α8->Prop):Prop | mk (x0:α0) (x1:α1) (x2:α2) (x3:α3) (x4:α4) (x5:α5) (x6:α6) (x7:α7) (x8:α8) (h:p x0 x1 x2 x3 x4 x5 x6 x7 x8):Ee9 p
inductive zvL {α0 α1 α2 α3 α4 α5 α6 α7 α8 α9 α10 α11:Type} (p:α0->α1->α2->α3->α4->α5->α6->α7->α8->α9->α10->α11->Prop):Prop | mk (x0:α0) (x1:α1) (x2:α2) (x3:α3) (x4:α4) (x5:α5) (x6:α6) (x7:α7) (x8:α8) (x9:α9) (x10:α10) (x11:α11) (h:p x0 x1 x2 x3 x4 x5 x6 x7 x8 x9 x10 x11):zvL p
inductive Aa3 (a0 a1 a2:Prop):Prop | mk (h0:a0) (h1:a1) (h2:a2):Aa3 a0 a1 a2
inductive Aa4 (a0 a1 a2 a3:Prop):Prop | mk (h0:a0) (h1:a1) (h2:a2) (h3:a3):Aa4 a0 a1 a2 a3
inductive Aa5 (a0 a1 a2 a3 a4:Prop):Prop | mk (h0:a0) (h1:a1) (h2:a2) (h3:a3) (h4:a4):Aa5 a0 a1 a2 a3 a4
inductive Aa6 (a0 a1 a2 a3 a4 a5:Prop):Prop | mk (h0:a0) (h1:a1) (h2:a2) (h3:a3) (h4:a4) (h5:a5):Aa6 a0 a1 a2 a3 a4 a5
inductive Aa7 (a0 a1 a2 a3 a4 a5 a6:Prop):Prop | mk (h0:a0) (h1:a1) (h2:a2) (h3:a3) (h4:a4) (h5:a5) (h6:a6):Aa7 a0 a1 a2 a3 a4 a5 a6
inductive Aa8 (a0 a1 a2 a3 a4 a5 a6 a7:Prop):Prop | mk (h0:a0) (h1:a1) (h2:a2) (h3:a3) (h4:a4) (h5:a5) (h6:a6) (h7:a7):Aa8 a0 a1 a2 a3 a4 a5 a6 a7
inductive Aa9 (a0 a1 a2 a3 a4 a5 a6 a7 a8:Prop):Prop | mk (h0:a0) (h1:a1) (h2:a2) (h3:a3) (h4:a4) (h5:a5) (h6:a6) (h7:a7) (h8:a8):Aa9 a0 a1 a2 a3 a4 a5 a6 a7 a8
inductive zul (a0 a1 a2 a3 a4 a5 a6 a7 a8 a9:Prop):Prop | mk (h0:a0) (h1:a1) (h2:a2) (h3:a3) (h4:a4) (h5:a5) (h6:a6) (h7:a7) (h8:a8) (h9:a9):zul a0 a1 a2 a3 a4 a5 a6 a7 a8 a9
inductive zvX (a0 a1 a2 a3 a4 a5 a6 a7 a8 a9 a10 a11:Prop):Prop | mk (h0:a0) (h1:a1) (h2:a2) (h3:a3) (h4:a4) (h5:a5) (h6:a6) (h7:a7) (h8:a8) (h9:a9) (h10:a10) (h11:a11):zvX a0 a1 a2 a3 a4 a5 a6 a7 a8 a9 a10 a11
end L2
namespace L2
open PySem PySem.Spec PyProof.Rows
section
variable {X:Cx}
end
end L2
namespace L2
open PySem PySem.Spec PyProof.Rows
section
variable {prog:Program} {w:World} {A:Around} {E:Value->Shared->Prop} {s:Shared} {K:W.Frag} {e C f:Addr} {oe:Obj}
end
section
open PySem.Builtin PySem.Builtin.ObjectAttr
variable {prog:Program} {w:World} {A:Around} {E:Value->Shared->Prop} {s:Shared} {K:W.Frag} {e C f dx:Addr} {oe:Obj} {vs:Array Value} {mA:Str->Option Value} {name:Str} {v:Value}
end
section
open PySem.Builtin PySem.Builtin.ObjectAttr
variable {prog:Program} {w:World} {A:Around} {E:Value->Shared->Prop} {s:Shared} {K:W.Frag} {x C f dx:Addr} {o:Obj} {vs:Array Value} {mA:Str->Option Value} {name:Str} {v:Value}
set_option maxHeartbeats 2000000 in
end
section
variable {X:Cx} {pins:List (Addr × Obj)} {σ:St} {H:Hp} {s:Shared} {e:Addr}
theorem Inv.zpn (I:Inv X pins σ H s) (hn:s.heap.get? e=none) (hex:X.ex=[]):X.s₀.heap.get? e=none/\e≠X.env.locals/\(∀ x c,X.env.cells.lookup x=some c->c≠e)/\∀ p∈X.pn++pins,p.1≠e:=by
 refine ⟨?_,fun z=>?_,fun x c q z=>?_,fun p hp z=>?_⟩
 ·cases q:X.s₀.heap.get? e with
  | none=>rfl
  | some o =>
   obtain ⟨o',e1⟩:=I.base.there e o q (by rw[hex];simp)
   rw[hn] at e1;cases e1
 ·obtain ⟨m,⟨o,es,ep,ho,_⟩,_⟩:=I.loc
  rw[<-z,hn] at ho;cases ho
 ·obtain ⟨v,o,ho,hd⟩:=I.cell x c q
  rw[z,hn] at ho;cases ho
 ·have:=(I.pin p hp).1
  rw[z,hn] at this;cases this
theorem Inv.zlF {o:HO} {h':Heap} {t':Nat} (I:Inv X pins σ H s) (k:∀ b u,s.heap.get? b=some u->h'.get? b=some u) (hn:s.heap.get? e=none) (hex:X.ex=[]) (new:zam X.prog X.w (upd H e o) h' e o) :
  Inv X pins σ (upd H e o) { s with heap:=h',toks:=t' } :=
 let ⟨a,b,c,d⟩:=I.zpn hn hex
 (I.kept (t':=t') k).track (I.hok.gone hn) a b c d new
end
section
variable {X:Cx} {x:Str} {np pos:Pos} {e0:Expr} {rest:List Expr} {t:TA}
end
section
variable {X:Cx} {o value:Expr} {name:Str} {pos pos':Pos} {ta tv:TE} {C f:Addr}
end
section
variable {X:Cx} {x:Str} {np pos:Pos} {e0:Expr} {t:TA} {C f:Addr} {fd:FuncData} {ps:List Str} {name:Str} {j k:Nat}
end
section
variable {X:Cx} {o:Expr} {name:Str} {pos:Pos} {ta:TE} {C:Addr}
end
section
variable {K:W.Frag} {h:Heap} {mg:Str->Option Value} {x:Str} {C f D:Addr}
theorem zP {name:Str} (a:PySem.W.nsIn K mainGlobals x=some (some (.ref C))) (q:PySem.W.findIn K (.ref C) name=some none):PySem.W.findIn K (.ref (cA K x)) name=some none:=by rw[zdF a];exact q
end
end L2
namespace L2
open PySem PySem.Spec PyProof.Rows
namespace zaM
def Up (xs:Array Nat):Prop:=xs.toList.Pairwise (·<·)
theorem zoH {xs:Array Nat} (h:Up xs) {i j:Nat} (hi:i<j) (hj:j<xs.size) (d e:Nat):xs.getD i d<xs.getD j e:=by
 have hi':i<xs.size:=by omega
 have q:=ybe.mp h i j (by simpa using hi') (by simpa using hj) hi
 simpa [ydz,hi',hj] using q
theorem zmV {xs:Array Nat} {j:Nat} (h:Up xs):∀ (fuel lo hi:Nat),lo<=hi->hi<=xs.size->hi-lo<=fuel->(∀ i,i<lo->xs.getD i j<j)->(∀ i,hi<=i->i<xs.size->j<=xs.getD i j) ->
  SetTable.below.go xs j fuel lo hi<=xs.size/\(∀ i,i<SetTable.below.go xs j fuel lo hi->xs.getD i j<j)/\∀ i,SetTable.below.go xs j fuel lo hi<=i->i<xs.size->j<=xs.getD i j
 | 0,lo,hi,h1,h2,h3,a,b=>by
  unfold SetTable.below.go
  exact ⟨by omega,a,fun i p q=>b i (by omega) q⟩
 | fuel+1,lo,hi,h1,h2,h3,a,b=>by
  unfold SetTable.below.go
  by_cases hl:lo<hi
  ·rw[if_pos hl]
   dsimp only
   by_cases hm:xs.getD ((lo+hi) / 2) j<j
   ·rw[if_pos hm]
    refine zmV h fuel _ hi (by omega) h2 (by omega) (fun i q=>?_) b
    by_cases e:i=(lo+hi) / 2
    ·rw[e];exact hm
    ·exact ydf (zoH h (by omega) (by omega) j j) hm
   ·rw[if_neg hm]
    refine zmV h fuel lo _ (by omega) (by omega) (by omega) a (fun i q r=>?_)
    by_cases e:i=(lo+hi) / 2
    ·rw[e];omega
    ·have:=zoH h (i:=(lo+hi) / 2) (j:=i) (by omega) r j j
     omega
  ·rw[if_neg hl]
   exact ⟨by omega,a,fun i p q=>b i (by omega) q⟩
theorem zmg {xs:Array Nat} (h:Up xs) (j:Nat):SetTable.below xs j<=xs.size/\(∀ i,i<SetTable.below xs j->xs.getD i j<j)/\∀ i,SetTable.below xs j<=i->i<xs.size->j<=xs.getD i j:=by
 unfold SetTable.below
 exact zmV h _ _ _ (ycy _) (ycu _) (by omega) (fun i q=>by omega) fun i p q=>by omega
theorem ztv {xs:Array Nat} {j:Nat} (h:Up xs) (hj:xs[SetTable.below xs j]?≠some j):Up (SetTable.insertAt xs (SetTable.below xs j) j):=by
 obtain ⟨h0,h1,h2⟩:=zmg h j
 generalize SetTable.below xs j=p at *
 unfold Up
 rw[SetTable.toList_insertAt]
 have e:xs.toList=xs.toList.take p++xs.toList.drop p:=(List.take_append_drop p _).symm
 have hp:(xs.toList.take p++xs.toList.drop p).Pairwise (·<·):=by rw[<-e];exact h
 obtain ⟨a,b,c⟩:=ybl.mp hp
 have lo:∀ x∈xs.toList.take p,x<j:=fun x hx=>by
  obtain ⟨i,hi,rfl⟩:=yay.mp hx
  rw[ybd,ydw] at hi
  have:=h1 i (by omega)
  rw[List.getElem_take]
  simpa [ydz,show i<xs.size by omega] using this
 have hi:∀ x∈xs.toList.drop p,j<x:=fun x hx=>by
  obtain ⟨i,hi,rfl⟩:=yay.mp hx
  rw[ybv,ydw] at hi
  have q:=h2 (p+i) (by omega) (by omega)
  rw[List.getElem_drop]
  have g:xs.getD (p+i) j=xs.toList[p+i]'(by rw[ydw];omega):=by simp[ydz,show p+i<xs.size by omega]
  rw[g] at q
  refine Nat.lt_of_le_of_ne q fun z=>?_
  by_cases i0:i=0
  ·subst i0
   apply hj
   rw[ydv (by omega:p<xs.size),z]
   simp
  ·have q0:=h2 p (ycu _) (by omega)
   have lt:=zoH h (i:=p) (j:=p+i) (by omega) (by omega) j j
   rw[g,<-z] at lt
   omega
 exact ybl.mpr ⟨a,ybh.mpr ⟨hi,b⟩,fun x hx y hy=>by
  rcases yak.mp hy with rfl | hy
  ·exact lo x hx
  ·exact c x hx y hy⟩
structure Tab (bt:Bool) (t:SetTable):Prop where
 led:t.led=!bt
 dum:t.dummies=#[]
 up:t.plain=true->Up t.place
theorem has_none (j:Nat):SetTable.has #[] j=false:=by simp[SetTable.has]
theorem zsn {t:SetTable} (hd:t.dummies=#[]) (j:Nat):t.slot j≠.dummy:=by
 unfold SetTable.slot
 dsimp only
 split
 ·intro z;cases z
 ·rw[hd,has_none];intro z;simp at z
theorem zlu {t:SetTable} (hd:t.dummies=#[]) {f:Nat->Int} {h:Int}:∀ (fuel:Nat) (p:SetTable.Probe) {j:Nat} {d:Option Nat},p.dummy=none->SetTable.probe.go t f h fuel p=some (.empty j d)->d=none/\t.slot j=.empty
 | 0,p,j,d,hp,e=>by simp[SetTable.probe.go] at e
 | fuel+1,p,j,d,hp,e=>by
  have adv:∀ q:SetTable.Probe,q.dummy=none->(t.advance q).dummy=none:=fun q hq=>by
   unfold SetTable.advance
   split
   ·exact hq
   ·exact hq
  unfold SetTable.probe.go at e
  cases hs:t.slot p.j with
  | empty =>
   rw[hs] at e
   cases e
   exact ⟨hp,hs⟩
  | dummy=>exact absurd hs (zsn hd _)
  | live i =>
   rw[hs] at e
   dsimp only at e
   split at e
   ·cases e
   ·exact zlu hd fuel _ (adv p hp) e
theorem znY {t:SetTable} (hd:t.dummies=#[]) {h:Int} {j:Nat} {b:Bool} (e:t.freeSlot h=some (j,b)):t.place[SetTable.below t.place j]?≠some j:=by
 unfold SetTable.freeSlot at e
 split at e
 ·rename_i j' d' q
  obtain ⟨rfl,hs⟩:=zlu hd _ _ rfl (show SetTable.probe.go t _ h _ _=_ from q)
  cases e
  intro z
  have z':t.place[SetTable.below t.place j']?=some j':=z
  unfold SetTable.slot at hs
  dsimp only at hs
  rw[if_pos (by rw[z'];simp)] at hs
  cases hs
 ·cases e
theorem zht {bt:Bool} {t:SetTable} (T:Tab bt t) (n:Nat):Tab bt (t.standIn n):=⟨T.led,rfl,fun z=>by cases z⟩
theorem zrF {bt:Bool} {t:SetTable} (T:Tab bt t) {j:Nat} (hj:t.place[SetTable.below t.place j]?≠some j):Tab bt (t.put j).1 :=
 ⟨T.led,by show (if SetTable.has t.dummies j then _ else t.dummies)=#[];rw[T.dum,has_none];rfl,fun z=>ztv (T.up z) hj⟩
theorem zvq {bt:Bool} {t:SetTable} (T:Tab bt t) (es:Array (Int × Value)) (h:Int) (x:Value):Tab bt (layNew t es h x).2.1:=by
 unfold layNew
 split
 ·rename_i j b e
  dsimp only
  unfold SetTable.orStandIn
  split
  ·exact zrF T (znY T.dum e)
  ·exact zht (zrF T (znY T.dum e)) _
 ·exact zht T _
theorem zuK (owner:Array (Option Nat)) (m:Nat):(((yax m).filterMap fun j=>(owner.getD j none).map (fun k=>(j,k))).map (·.1)).Pairwise (·<·):=by
 have e:(((yax m).filterMap fun j=>(owner.getD j none).map (fun k=>(j,k))).map (·.1))=(yax m).filter fun j=>(owner.getD j none).isSome:=by
  generalize yax m=l
  induction l with
  | nil=>rfl
  | cons a l ih =>
   cases q:owner.getD a none with
   | none=>rw[yca,q,List.filter_cons,q];simpa using ih
   | some k=>rw[yca,q,List.filter_cons,q];simpa using ih
 rw[e]
 exact List.Pairwise.filter _ (List.pairwise_lt_range)
theorem zwj {bt:Bool} {t:SetTable} (T:Tab bt t) (es:Array (Int × Value)) (n:Nat):Tab bt (relayAll t es n).2.1:=by
 unfold relayAll
 split
 ·rename_i t' order e
  dsimp only
  split
  ·unfold SetTable.relaid SetTable.laid at e
   simp only[Option.bind_eq_bind,Option.bind_eq_some_iff] at e
   obtain ⟨owner,_,e⟩:=e
   cases e
   refine ⟨T.led,rfl,fun _=>?_⟩
   unfold Up
   simpa using zuK owner _
  ·exact zht T _
 ·exact zht T _
theorem ztb (bt:Bool):Tab bt (.fresh 0 0 (!bt)):=⟨rfl,rfl,fun _=>List.Pairwise.nil⟩
end zaM
end L2
namespace L2
open PySem PySem.Spec PyProof.Rows
namespace zaM
noncomputable def intOf:Value->Int
 | .int i _=>i
 | _=>0
theorem zpJ {k:Int} {v:Value} (h:Value.isInt k v=true):intOf v=k:=by
 obtain ⟨t,rfl⟩:=Value.isInt_shape h
 rfl
structure zdj (prog:Program) (w:World) (h:Heap) (a:Addr) (ms:List Int):Prop where
 ex:∃ o es ep t,(h.get? a=some o/\o.ExactSet/\o.data=.set es ep t)/\(ElemsOf (intKind prog w) es.toList/\es.size<scanBound/\t.fits es.size=true)/\Tab (w.params.followText "set-order") t /\
  es.toList.map (fun e=>intOf e.2)=ms
 nd:ms.Nodup
theorem zph {prog:Program} {w:World} {l:List (Int × Value)} (hl:ElemsOf (intKind prog w) l) (k:Int):(∃ e∈l,Value.isInt k e.2=true)↔k∈l.map fun e=>intOf e.2:=by
 constructor
 ·rintro ⟨e,he,q⟩
  exact yaf.mpr ⟨e,he,zpJ q⟩
 ·intro q
  obtain ⟨e,he,rfl⟩:=yaf.mp q
  obtain ⟨⟨k',hk,_⟩,_⟩:=hl e he
  refine ⟨e,he,?_⟩
  rw[zpJ hk];exact hk
section
variable {prog:Program} {w:World} {A:Around} {E:Value->Shared->Prop} {s:Shared} {a:Addr} {ms:List Int} {k:Int} {tk:Tok}
theorem xadd {Q:Bool->Shared->Prop} (S:zdj prog w s.heap a ms) (room:ms.length+1<scanBound)
  (hQ:∀ b h' ms',Heap.SameBut a s.heap h'->zdj prog w h' a ms'->(∀ m,m∈ms'↔m∈ms\/m=k)->ms'.length<=ms.length+1->Q b { s with heap:=h' }) :
  wpAny (model prog w) A (setAddHashed a (.int k tk) (hashInt k)) Q E s:=by
 obtain ⟨⟨o,es,ep,t,⟨ho,hex,hd⟩,⟨hel,hb,hf⟩,T,rfl⟩,nd⟩:=S
 have hlen:(es.toList.map fun e=>intOf e.2).length=es.size:=by simp
 have hkey:(intKind prog w).is k (.int k tk)=true:=intKind_is prog w k tk
 unfold setAddHashed setAddHashedIn
 refine wpAny_holding (wpAny_bind (wpAny_setState_of ho hd hf ?_))
 dsimp only
 rw[byScan_of (knd:=intKind prog w) rfl hb hel]
 simp only[↓reduceIte]
 unfold setAddByScan
 refine wpAny_bind (wpAny_bind (wpAny_rule (wpAny_bind (wpAny_setScan_of (knd:=intKind prog w) hkey ho hd hf hel ?_))))
 cases hr:List.findIdx? (fun e=>(intKind prog w).is k e.2) es.toList with
 | some j =>
  obtain ⟨hj,hpj,_⟩:=List.findIdx?_eq_some_iff_getElem.mp hr
  have hm:k∈es.toList.map fun e=>intOf e.2:=(zph hel k).mp ⟨es.toList[j],yck hj,hpj⟩
  refine wpAny_pure (wpAny_pure ?_)
  have z:=hQ false s.heap _ (Heap.SameBut.refl a s.heap) ⟨⟨o,es,ep,t,⟨ho,hex,hd⟩,⟨hel,hb,hf⟩,T,rfl⟩,nd⟩ (fun m=>⟨.inl,fun q=>q.elim id fun e=>e ▸ hm⟩) (by omega)
  exact z
 | none =>
  have hm:k ∉ es.toList.map fun e=>intOf e.2:=fun q=>by
   obtain ⟨e,he,hp⟩:=(zph hel k).mpr q
   have:=List.findIdx?_eq_none_iff.mp hr e he
   rw[show (intKind prog w).is k e.2=true from hp] at this
   cases this
  dsimp only
  have hperm:=layNew_perm t es (hashInt k) (.int k tk)
  have hfits:=layNew_fits t es (hashInt k) (.int k tk)
  have T1:=zvq T es (hashInt k) (.int k tk)
  generalize layNew t es (hashInt k) (.int k tk)=L at hperm hfits T1 ⊢
  obtain ⟨es1,t1,dm,gave⟩:=L
  dsimp only at hperm hfits T1 ⊢
  rw[Array.toList_push] at hperm
  have el1:ElemsOf (intKind prog w) es1.toList:=(hel.push (k:=k) hkey rfl).perm hperm
  have sz1:es1.size=es.size+1:=by rw[<-ydw,hperm.length_eq,yag,ydw];rfl
  have hb1:es1.size<scanBound:=by omega
  have pm:(es1.toList.map fun e=>intOf e.2).Perm ((es.toList.map fun e=>intOf e.2)++[k]):=by
   have:=hperm.map fun e=>intOf e.2
   rw[yar] at this
   exact this
  have nd1:(es1.toList.map fun e=>intOf e.2).Nodup:=pm.nodup_iff.mpr (ycq.mpr ⟨nd,(ybp _ _),fun x hx y hy z=>hm (by rw[ybm] at hy;rw[<-hy,<-z];exact hx)⟩)
  have mm:∀ m,m∈(es1.toList.map fun e=>intOf e.2)↔m∈(es.toList.map fun e=>intOf e.2)\/m=k:=fun m=>by rw[pm.mem_iff,yac,ybm]
  have len1:(es1.toList.map fun e=>intOf e.2).length<=(es.toList.map fun e=>intOf e.2).length+1:=by rw[pm.length_eq,yag];exact ycu _
  have fin:∀ h' es2 t2 ep2 o2,(h'.get? a=some o2/\o2.ExactSet/\o2.data=.set es2 ep2 t2)->es2.toList.Perm es1.toList->t2.fits es2.size=true->Tab (w.params.followText "set-order") t2->Heap.SameBut a s.heap h'->Q true { s with heap:=h' } :=
   fun h' es2 t2 ep2 o2 hg p2 f2 T2 sb=>by
    have q2:=p2.map fun e=>intOf e.2
    have z2:es2.size=es1.size:=by rw[<-ydw,p2.length_eq,ydw]
    refine hQ true h' _ sb ⟨⟨o2,es2,ep2,t2,hg,⟨el1.perm p2,by omega,f2⟩,T2,rfl⟩,q2.nodup_iff.mpr nd1⟩ (fun m=>(q2.mem_iff).trans (mm m)) ?_
    rw[q2.length_eq];exact len1
  have put:∀ {h:Heap} {o1:Obj} {e1:Array (Int × Value)} {p1:Nat} {u1:SetTable},h.get? a=some o1->o1.ExactSet->o1.data=.set e1 p1 u1->∀ (e2:Array (Int × Value)) (u2:SetTable),
    (h.update a (Obj.putSet e2 u2)).get? a=some { o1 with data:=.set e2 (p1+1) u2 }:=fun {h o1 e1 p1 u1} q1 _ q3 e2 u2=>by
   have z:=ydo (Obj.putSet e2 u2) q1 (by rw[putSet_of e2 u2 q3];rfl)
   rw[putSet_of e2 u2 q3] at z
   exact z
  have tl:∀ (Q':Option Bool->Shared->Prop),(∀ h',Q true { s with heap:=h' }->Q' (some true) { s with heap:=h' })->wpAny (model prog w) A (storeSet a es1 t1) (fun _ s1=>(dm=false/\t1.tooFull=true->∀ g:Sem Unit,(∀ Q₀:Unit->Shared->Prop,Q₀ () s1->wpAny (model prog w) A g Q₀ E s1) ->
    wpAny (model prog w) A (g >>= fun _=>storeSet a (relayAll t1 es1 (SetTable.grown es1.size)).1 (relayAll t1 es1 (SetTable.grown es1.size)).2.1 >>= fun _=>pure (some true)) Q' E s1)/\Q' (some true) s1) E s:=fun Q' hq=>by
   refine wpAny_storeSet_of ho hd ?_ (fits_of_scanBound hb1)
   have g1:=put ho hex hd es1 t1
   have sb1:=Heap.SameBut.update s.heap a (Obj.putSet es1 t1)
   refine ⟨fun _ g hg=>wpAny_bind (hg _ ?_),hq _ (fin _ es1 t1 _ _ ⟨g1,hex,rfl⟩ .rfl hfits T1 sb1)⟩
   have p2:=relayAll_perm t1 es1 (SetTable.grown es1.size)
   have f2:=relayAll_fits t1 es1 (SetTable.grown es1.size)
   have T2:=zwj T1 es1 (SetTable.grown es1.size)
   generalize relayAll t1 es1 (SetTable.grown es1.size)=L2 at p2 f2 T2 ⊢
   obtain ⟨es2,t2,gv2⟩:=L2
   dsimp only at p2 f2 T2 ⊢
   have z2:es2.size=es1.size:=by rw[<-ydw,p2.length_eq,ydw]
   refine wpAny_bind (wpAny_storeSet_of g1 rfl (wpAny_pure (hq _ ?_)) (fits_of_scanBound (by omega)))
   exact fin _ es2 t2 _ _ ⟨put g1 hex rfl es2 t2,hex,rfl⟩ p2 f2 T2 (sb1.trans (Heap.SameBut.update _ a _))
  refine wpAny_bind ?_
  cases gave
  all_goals
   first | refine wpAny_pure ?_ | refine wpAny_rule ?_
   split
   all_goals
    refine wpAny_bind ?_
    try rw[hashByValue_scannable 8 (show (Value.int k tk).scannable=true from rfl)]
    refine wpAny_pure ?_
    simp only[plainKind,↓reduceIte]
    refine wpAny_bind (wpAny_mono (tl (fun r s'=>wpAny (model prog w) A (match r with | some added=>pure added | none=>setAddHashedIn a (Value.int k tk) (hashInt k) 99999) Q E s') fun h' z=>wpAny_pure z) (fun _ s1 hz=>?_) fun _ _ z=>z)
    obtain ⟨hz1,hz2⟩:=hz
    split
    ·rename_i hc
     simp only[Bool.and_eq_true,Bool.not_eq_true'] at hc
     refine hz1 hc _ fun Q₀ q₀=>?_
     generalize (relayAll t1 es1 (SetTable.grown es1.size)).2.2=gb
     cases gb
     ·exact wpAny_pure q₀
     ·exact wpAny_rule q₀
    ·exact wpAny_pure hz2
end
end zaM
end L2
namespace L2
open PySem PySem.Spec PyProof.Rows
namespace zaM
theorem zdj.keep {prog:Program} {w:World} {h h':Heap} {a:Addr} {ms:List Int} (S:zdj prog w h a ms) (k:∀ o,h.get? a=some o->h'.get? a=some o):zdj prog w h' a ms:=by
 obtain ⟨⟨o,es,ep,t,⟨ho,r⟩,r2⟩,nd⟩:=S
 exact ⟨⟨o,es,ep,t,⟨k o ho,r⟩,r2⟩,nd⟩
section
variable {prog:Program} {w:World} {A:Around} {R:Result->Shared->Prop} {I a:Addr} {fp wr:List Addr} {G:Array GenState->Array GenState->Prop} {n:Nat} {P:Nat->Value->Prop} {St:Nat->Shared->Prop} {val:Nat->Int}
theorem xloop (W:WalksS prog w A.in1 I fp wr G n P St) (ha:a ∉ fp) (hval:∀ i v,P i v->∃ t,v=.int (val i) t) (hb:n+1<scanBound):∀ (k i:Nat) (s:Shared) (ms:List Int),n-i=k->i<=n->St i s->zdj prog w s.heap a ms ->
   (∀ m,m∈ms↔m∈(yax i).map val)->ms.length<=i ->
   (∀ s' ms',Moved (a::wr) G s s'->zdj prog w s'.heap a ms'->(∀ m,m∈ms'↔m∈(yax n).map val)->ms'.length<=n->R (.ok (.ret .none)) s') ->
   codeAny (model prog w) A (.builtin "set.update.loop" ⟨[.ref a,.ref I],[]⟩) R s:=by
 have aw:a ∉ wr:=fun z=>ha (W.sub _ z)
 have sub:∀ b∈wr,b∈a::wr:=fun b z=>yam _ z
 intro k
 induction k with
 | zero =>
  intro i s ms hk hi st S mm hl hR
  obtain rfl:i=n:=by omega
  refine codeAny_builtin PyProof.Rows.F.entry_set_update_loop ?_
  rw[Around.under_plainId PyProof.Rows.F.plain_set_update_loop _]
  show wpAny _ A.in1 (pyNext (.ref I) >>= _) _ _ s
  refine wpAny_bind (W.done s _ _ st fun s' mv=>wpAny_pure (hR s' ms (mv.mono sub) (S.keep fun o e=>mv.heap a o aw e) mm hl))
 | succ k ih =>
  intro i s ms hk hi st S mm hl hR
  have lt:i<n:=by omega
  refine codeAny_builtin PyProof.Rows.F.entry_set_update_loop ?_
  rw[Around.under_plainId PyProof.Rows.F.plain_set_update_loop _]
  show wpAny _ A.in1 (pyNext (.ref I) >>= _) _ _ s
  refine wpAny_bind (W.item i s _ _ lt st fun v s' hP st' mv=>?_)
  obtain ⟨t,rfl⟩:=hval i v hP
  have S':=S.keep (h':=s'.heap) fun o e=>mv.heap a o aw e
  show wpAny _ A.in1 (holding [Value.int (val i) t] (setAdd a (.int (val i) t)) >>= _) _ _ s'
  refine wpAny_bind (wpAny_holding ?_)
  unfold setAdd
  refine wpAny_holding (wpAny_bind ((intKind prog w).pyHash (k:=val i) (intKind_is _ _ _ _) ?_))
  refine xadd (s:={ s' with toks:=s'.toks+1 }) (ms:=ms) S' (by omega) fun b h' ms' sb S2 mm2 l2=>?_
  refine wpAny_pure ⟨plainId_quiet PyProof.Rows.F.plain_set_update_loop _,ih (i+1) _ ms' (by omega) lt (W.frame _ s' _ _ st' (yde _) fun b hb o e=>?_) S2 (fun m=>?_) (by omega) fun s2 ms2 mv2=>hR s2 ms2 ?_⟩
  ·rw[sb.2 b (fun z:b=a=>ha (by rw[<-z];exact hb))];exact e
  ·rw[mm2,mm,List.range_succ,yar,yac]
   simp
  ·refine Moved.trans W.gtrans ((mv.mono sub).then_heap (yde _) fun b o hb e=>?_) mv2
   rw[sb.2 b (fun z:b=a=>hb (by rw[z];exact yan))];exact e
end
section
variable {prog:Program} {w:World} {A:Around} {E:Value->Shared->Prop} {s:Shared}
noncomputable abbrev empty (w:World):Obj:={ cls:=.type "set", dict:=none,data:=.set #[] 0 (.fresh 0 0 (!w.params.followText "set-order")) }
theorem zxd (v:Value) {R:Result->Shared->Prop} (h:R (.ok (.ret (.ref s.heap.objs.size))) { s with heap:=s.heap.push (empty w) }) :
  codeAny (model prog w) A (.call (.builtin "set.__new__") ⟨[.type "set", v],[]⟩) R s:=by
 refine codeAny_of_tree ?_
 show wpAny _ A.in1 (checkBuiltinCall "set.__new__" ⟨[.type "set", v],[]⟩ >>= fun _=>again (.builtin "set.__new__" ⟨[.type "set", v],[]⟩)) _ _ s
 refine wpAny_bind (wpAny_of_eq (PySem.F.newCall_set_1 v) (wpAny_pure ⟨plainId_quiet PySem.F.plain_set_new _,codeAny_builtin PySem.F.entry_set_new ?_⟩))
 rw[Around.under_plainId PySem.F.plain_set_new _]
 unfold Builtin.«set.__new__» Builtin.Frozenset.newClass
 have sub:=sub_set_self
 obtain ⟨hp,g,d,tk,os⟩:=s
 dsimp only
 wp_walk
 refine wpAny_askSetting (wpAny_pure ?_)
 simp only[newObj]
 refine wpAny_bind (wpAny_alloc (wpAny_pure (wpAny_pure ?_)))
 exact h
theorem zta {h:Heap}:zdj prog w (h.push (empty w)) h.objs.size [] :=
 ⟨⟨_,#[],0,_,⟨ydl _ rfl,⟨rfl,rfl,rfl⟩,rfl⟩,⟨(fun e he=>by simp at he),by decide,rfl⟩,ztb _,rfl⟩,List.Pairwise.nil⟩
end
end zaM
end L2
namespace L2
open PySem PySem.Spec PyProof.Rows
namespace zaM
section
variable {prog:Program} {w:World} {A:Around} {E:Value->Shared->Prop} {s:Shared}
theorem zrW:∀ ns:List Int,(yax ns.length).map (fun i=>ns.getD i 0)=ns:=fun ns=>by
 apply ybz
 intro i
 rw[yaj]
 by_cases h:i<ns.length
 ·rw[ycb h,yaa h]
  simp[h]
 ·rw[yas (by rw[ycg];omega),yas (by omega)]
  rfl
theorem zwG {l:Addr} {items:Array Value} {ns:List Int} (hh:A.handled=none) (hl:s.heap.IsList l items) (hi:IntsAre items.toList ns) (hb:items.size+1<scanBound) {R:Result->Shared->Prop}
  (h:∀ h' tk ms,zdj prog w h' s.heap.objs.size ms->(∀ m,m∈ms↔m∈ns)->ms.length<=ns.length->(∀ b o,b<s.heap.objs.size->s.heap.get? b=some o->h'.get? b=some o)->R (.ok (.ret .none)) { s with heap:=h',toks:=tk }) :
  codeAny (model prog w) A (.call (.builtin "set.__init__") ⟨[.ref s.heap.objs.size,.ref l],[]⟩) R { s with heap:=s.heap.push (empty w) }:=by
 have hn:items.size=ns.length:=by rw[<-IntsAre.length hi];simp
 have at0:(s.heap.push (empty w)).get? s.heap.objs.size=some (empty w):=ydl _ rfl
 have ty:Shared.TypeIs { s with heap:=s.heap.push (empty w) } (.ref s.heap.objs.size) "set" := ⟨_,at0,rfl⟩
 refine codeAny_call_builtin PySem.F.called_set.init.plain PySem.F.entry_set_init (check_set_init_1 ty ?_)
 obtain ⟨ol,hol,hcl,nl,hdl⟩:=id hl
 have lS:l<s.heap.objs.size:=ydk hol
 obtain ⟨oc,od,odt,osl⟩:=ol
 dsimp only at hcl hdl
 subst hcl hdl
 have hol':=ydj (empty w) hol
 have n1:=PySem.F.sub_list_set
 have n2:=PySem.F.sub_list_frozenset
 have n3:(Value.type "list" == Value.type "dict")=false:=by decide
 have l1:(s.heap.push (empty w)).IsList l items:=⟨_,hol',rfl,nl,rfl⟩
 unfold Builtin.«set.__init__» noKeywords Builtin.Frozenset.updateFrom
 generalize hPI:pyIter=PI
 wp_walk
 subst hPI
 refine wpAny_pyIter_list l1 (wpAny_bind (wpAny_runValue ?_))
 have h3:A.in1.in1.handled=none:=by simp[hh]
 have sz:(s.heap.push (empty w)).objs.size=s.heap.objs.size+1:=ydn _ _
 have ne:l≠(s.heap.push (empty w)).objs.size:=by rw[sz];exact ycv (ydd lS)
 have nf:s.heap.objs.size ∉ [(s.heap.push (empty w)).objs.size,l]:=by
  rw[sz]
  simp only[yak,ybw,or_false,not_or]
  exact ⟨ycv (ydb _),ydh lS⟩
 have S0:zdj prog w ((s.heap.push (empty w)).push { cls:=.type "list_iterator", data:=.fields #[.ref l,.int 0 0] }) s.heap.objs.size []:=zta.keep fun o e=>ydj _ e
 refine xloop (val:=fun i=>ns.getD i 0) ((Walks.list h3 _ l ne items).toS) nf (fun i v q=>IntsAre.int_at hi i v (by rw[ydy];exact q)) hb (items.size-0) 0 _ [] (by omega) (ycy _)
  ?xst ?xS (fun m=>by simp) (ycy _) ?_
 case xst=>exact ⟨⟨_,ydl _ rfl,rfl,rfl⟩,l1.push _⟩
 case xS=>exact S0
 intro s' ms mv S mm len
 obtain ⟨h',g',d',tk',os'⟩:=s'
 obtain rfl:g'=s.gens:=mv.gens
 obtain rfl:d'=s.drawn:=mv.drawn
 obtain rfl:os'=s.os:=mv.os
 refine wpAny_pure ?_
 show wpAny _ _ (ret Value.none) _ _ _
 refine wpAny_pure (h h' tk' ms S (fun m=>?_) (by omega) fun b o lt e=>?_)
 ·rw[mm,hn,zrW]
 ·refine mv.heap b o ?_ (ydj _ (ydj _ e))
  rw[sz]
  simp only[yak,ybw,or_false,not_or]
  exact ⟨ycv lt,ycv (ydd lt)⟩
set_option maxHeartbeats 3200000 in
theorem zqQ {l:Addr} {items:Array Value} {ns:List Int} (hh:A.handled=none) (hl:s.heap.IsList l items) (hi:IntsAre items.toList ns) (hb:items.size+1<scanBound) {Q:Value->Shared->Prop}
  (h:∀ h' tk ms,zdj prog w h' s.heap.objs.size ms->(∀ m,m∈ms↔m∈ns)->ms.length<=ns.length->(∀ b o,b<s.heap.objs.size->s.heap.get? b=some o->h'.get? b=some o)->Q (.ref s.heap.objs.size) { s with heap:=h',toks:=tk }) :
  wpAny (model prog w) A (call (.type "set") [.ref l]) Q E s:=by
 obtain ⟨c,tl,hmro⟩:=PySem.F.called_set.mro
 have m1:=PySem.F.called_set.made
 have m2:=PySem.F.called_set.sub
 have m3:=PySem.F.called_set.notType
 have m4:=PySem.F.called_set.canCreate
 have m5:=PySem.F.typeCall_set_1 (.ref l)
 refine wpAny_call (codeAny_of_tree ?_)
 show wpAny _ _ (callAny (.type "set") _) _ _ _
 refine wpAny_pure ⟨Code.quiet_builtin _ (by decide +kernel),codeAny_builtin PySem.F.entry_type_call ?_⟩
 rw[Around.under_plain (weight_type_call_type "set" [.ref l] []) rfl]
 repeat (any_goals (first | assumption | wp_step))
 refine zxd (.ref l) ?_
 have at0:(s.heap.push (empty w)).get? s.heap.objs.size=some (empty w):=ydl _ rfl
 have ty:Shared.TypeIs { s with heap:=s.heap.push (empty w) } (.ref s.heap.objs.size) "set" := ⟨_,at0,rfl⟩
 have i1:=PySem.F.called_set.init.lookup
 have i2:=PySem.F.called_set.init.bind (.ref s.heap.objs.size)
 show wpAny _ _ _ _ _ _
 repeat (any_goals (first | assumption | wp_step))
 refine zwG (by simp[hh]) hl hi hb fun h' tk ms S mm len kp=>?_
 show wpAny _ _ _ _ _ _
 repeat (any_goals (first | assumption | wp_step))
 exact h _ _ _ S mm len kp
end
end zaM
end L2
namespace L2
open PySem PySem.Spec PyProof.Rows
namespace zaM
theorem zgk:Slot "set_iterator" "__next__" "set_iterator.__next__" := .of (owner:="set_iterator") (n:="__next__") (by rw[typeLookup_type,builtinLookup_eq_fast];kernel_rfl) (by decide +kernel) (by decide +kernel) (by decide +kernel)
 (by first | exact .inl (by decide +kernel) | exact .inr (by decide +kernel)) (by rw[isSubtype_type];kernel_rfl)
theorem zrE:Slot "set_iterator" "__iter__" "set_iterator.__iter__" := .of (owner:="set_iterator") (n:="__iter__") (by rw[typeLookup_type,builtinLookup_eq_fast];kernel_rfl) (by decide +kernel) (by decide +kernel) (by decide +kernel)
 (by first | exact .inl (by decide +kernel) | exact .inr (by decide +kernel)) (by rw[isSubtype_type];kernel_rfl)
theorem zrm:entryFor table "set_iterator.__next__" = some Builtin.«set_iterator.__next__»:=entryFor_of_fast (by kernel_rfl)
theorem zvc:entryFor table "set_iterator.__iter__" = some Builtin.«dict_keyiterator.__iter__»:=entryFor_alias (id' := "dict_keyiterator.__iter__") (by kernel_rfl) rfl (by decide +kernel) (by kernel_rfl)
theorem ztz:entryFor table "set.__iter__" = some Builtin.«frozenset.__iter__»:=entryFor_alias (id' := "frozenset.__iter__") (by kernel_rfl) rfl (by decide +kernel) (by kernel_rfl)
theorem zrn (a:Value):argsOk "set_iterator.__next__" ⟨[a],[]⟩:=by unfold argsOk;kernel_rfl
theorem zvn (a:Value):argsOk "set_iterator.__iter__" ⟨[a],[]⟩:=by unfold argsOk;kernel_rfl
def zbS (h:Heap) (I a:Addr) (first:Value) (i n ep:Nat):Prop:=∃ o,h.get? I=some o/\o.cls=.type "set_iterator" /\ o.data=.fields #[first,.int i 0,.ref a,.int n 0,.int ep 0]
theorem zbS.ty {s:Shared} {I a:Addr} {first:Value} {i n ep:Nat} (h:zbS s.heap I a first i n ep):s.TypeIs (.ref I) "set_iterator" := let ⟨_,a,b,_⟩:=h;⟨_,a,b⟩
theorem zbS.keep {h h':Heap} {I a:Addr} {first:Value} {i n ep:Nat} (x:zbS h I a first i n ep) (k:∀ o,h.get? I=some o->h'.get? I=some o):zbS h' I a first i n ep:=let ⟨o,a,b⟩:=x;⟨o,k o a,b⟩
def zbQ (h:Heap) (a:Addr) (es:Array (Int × Value)) (ep:Nat) (t:SetTable):Prop:=∃ o,h.get? a=some o/\o.data=.set es ep t/\t.fits es.size=true
theorem zbQ.keep {h h':Heap} {a:Addr} {es:Array (Int × Value)} {ep:Nat} {t:SetTable} (x:zbQ h a es ep t) (k:∀ o,h.get? a=some o->h'.get? a=some o):zbQ h' a es ep t:=let ⟨o,a,b⟩:=x;⟨o,k o a,b⟩
section
variable {prog:Program} {w:World} {A:Around} {E:Value->Shared->Prop} {s:Shared} {I a:Addr} {es:Array (Int × Value)} {ep:Nat} {t:SetTable}
theorem zb7 {Q:(Array (Int × Value) × Nat × SetTable)->Shared->Prop} (O:zbQ s.heap a es ep t) (h:Q (es,ep,t) s):wpAny (model prog w) A (setState a) Q E s:=by
 obtain ⟨o,ho,hd,hf⟩:=O
 exact wpAny_setState_of ho hd hf h
theorem znO {first:Value} {i n:Nat} {Q:Value->Shared->Prop} (h:zbS s.heap I a first i n ep) (q:Q (.ref I) s):wpAny (model prog w) A (pyIter (.ref I)) Q E s:=by
 refine wpAny_pyIter_slot h.ty zrE (wpAny_call_entry zrE h.ty zvc ?_ (zvn _))
 exact wpAny_pure ⟨_,rfl, "set_iterator", _,h.ty,zgk.lookup,q⟩
theorem znI {Q:Option Value->Shared->Prop} {h1:Heap} (hh:A.handled=none) (q:∀ h',(∀ b o,h1.get? b=some o->h'.get? b=some o)->Q none { s with heap:=h' }) :
  wpAny (model prog w) A.in1 (newExc (.type "StopIteration") [] >>= fun e=>raiseNew e:Sem Fin) (fun fin s'=>∃ v,fin=.done (.ret v)/\wpAny (model prog w) A (match (Except.ok (some v):Except Value (Option Value)) with | .ok (some v)=>pure (some v) | .ok none=>unsupported "iter:the-iterator's-class-has-lost-its-__next__-amid-the-walk" | .error e=>do if <-isInstance e (.type "StopIteration") then pure none else throw e) Q E s')
   (fun e s'=>wpAny (model prog w) A (do if <-isInstance e (.type "StopIteration") then pure none else throw e) Q E s') { s with heap:=h1 }:=by
 refine wpAny_bind ?_
 simp only[newExc,newTuple]
 refine wpAny_bind (wpAny_newObj_type ?_ (by size_fits))
 refine wpAny_bind (m:=firstArgMember _ _) (wpAny_of_eq (a:=Value.none) (by first | rfl | (simp only[firstArgMember];rfl)) ?_)
 refine wpAny_newObj_type ?_ (by size_fits)
 simp only[raiseNew]
 refine wpAny_bind (wpAny_handled ?_)
 rw[show A.in1.handled=none from hh]
 refine wpAny_bind (wpAny_pure (wpAny_throw ?_))
 refine wpAny_bind (wpAny_isInstance (T:="StopIteration") (b:=true) ⟨_,ydl _ rfl,rfl⟩ isSubtype_stop ?_)
 exact wpAny_pure (q _ fun b o e=>ydj _ (ydj _ e))
end
end zaM
end L2
namespace L2
open PySem PySem.Spec PyProof.Rows
namespace zaM
section
variable {prog:Program} {w:World} {A:Around} {E:Value->Shared->Prop} {s:Shared} {I a:Addr} {es:Array (Int × Value)} {ep:Nat} {t:SetTable}
theorem zhx {h:Heap} {o:Obj} {vs:Array Value} {j:Nat} {x:Value} (ho:h.get? I=some o) (hd:o.data=.fields vs):(h.update I (Obj.mapFields (·.setIfInBounds j x))).get? I=some (Obj.mapFields (·.setIfInBounds j x) o) :=
 ydo _ ho (Obj.isFreed_of_fields (Obj.data_mapFields hd _))
theorem zpl {F i:Nat} {r:Option (Value × Nat)} {Q:Option Value->Shared->Prop} (hh:A.handled=none) (It:zbS s.heap I a (.int F 0) i es.size ep) (O:zbQ s.heap a es ep t)
  (st:∀ (A':Around) (E':Value->Shared->Prop) (Q':Option (Value × Nat)->Shared->Prop),Q' r s->wpAny (model prog w) A' (setNext a F i ep) Q' E' s)
  (h1:∀ x F',r=some (x,F')->∀ h',Heap.SameBut I s.heap h'->zbS h' I a (.int F' 0) (i+1) es.size ep->Q (some x) { s with heap:=h' })
  (h2:r=none->∀ h',(∀ b o,b≠I->s.heap.get? b=some o->h'.get? b=some o)->Q none { s with heap:=h' }):wpAny (model prog w) A (pyNext (.ref I)) Q E s:=by
 obtain ⟨o,ho,hc,hd⟩:=id It
 unfold pyNext
 refine wpAny_bind (wpAny_attempt (wpAny_callSpecial?_slot (name:=Str.ofString "__next__") It.ty zgk (wpAny_call_entry zgk It.ty zrm ?_ (zrn _))))
 unfold Builtin.«set_iterator.__next__»
 refine wpAny_bind (wpAny_of_eq (a:=(Value.ref I,[])) rfl ?_)
 show wpAny _ _ (fieldsOf (.ref I) >>= _) _ _ s
 refine wpAny_bind (wpAny_fieldsOf ho hd ?_)
 show wpAny _ _ (setEntries a >>= _) _ _ s
 refine wpAny_bind ?_
 unfold setEntries
 refine wpAny_bind (zb7 O (wpAny_pure ?_))
 dsimp only
 rw[if_neg (by simp)]
 simp only[Int.toNat_natCast]
 refine wpAny_bind (st _ _ _ ?_)
 cases r with
 | some xf =>
  obtain ⟨x,F'⟩:=xf
  refine wpAny_bind (wpAny_setField ho hd (by simp) ?_)
  have ho1:=zhx (j:=0) (x:=rawInt F') ho hd
  have hd1:=Obj.data_mapFields hd (f:=(·.setIfInBounds 0 (rawInt F')))
  refine wpAny_bind (wpAny_setField ho1 hd1 (by simp) (wpAny_pure ⟨x,rfl,wpAny_pure (h1 x F' rfl _ ((Heap.SameBut.update ..).trans (Heap.SameBut.update ..)) ?_)⟩))
  refine ⟨_,zhx ho1 hd1,(Obj.cls_mapFields ..).trans ((Obj.cls_mapFields ..).trans hc),?_⟩
  rw[Obj.data_mapFields hd1]
  simp[rawInt]
 | none =>
  refine wpAny_bind (wpAny_setField ho hd (by simp) ?_)
  refine znI hh fun h' k=>h2 rfl h' fun b o hb e=>k b o ?_
  exact (ydm _ _ _ _ hb).trans e
end
end zaM
end L2
namespace L2
open PySem PySem.Spec PyProof.Rows
namespace zaM
section
variable {prog:Program} {w:World} {A:Around} {E:Value->Shared->Prop} {s:Shared} {I a T:Addr} {es:Array (Int × Value)} {ep:Nat} {t:SetTable} {ps:Array Value}
def zeF (h:Heap) (T:Addr) (ps:Array Value):Prop:=∃ o n,h.get? T=some o/\o.data=.seq ps n
theorem zeF.keep {h h':Heap} (x:zeF h T ps) (k:∀ o,h.get? T=some o->h'.get? T=some o):zeF h' T ps:=let ⟨o,n,a,b⟩:=x;⟨o,n,k o a,b⟩
theorem zma {i:Nat} {Q:Option Value->Shared->Prop} (hh:A.handled=none) (It:zbS s.heap I a (.ref T) i es.size ep) (O:zbQ s.heap a es ep t) (P:zeF s.heap T ps)
  (h1:∀ p,ps[i]?=some (.int p 0)->∀ k x,es[p.toNat]?=some (k,x)->∀ h',Heap.SameBut I s.heap h'->zbS h' I a (.ref T) (i+1) es.size ep->Q (some x) { s with heap:=h' })
  (h2:ps[i]?=none->∀ h',(∀ b o,b≠I->s.heap.get? b=some o->h'.get? b=some o)->Q none { s with heap:=h' })
  (hp:ps[i]?=none\/∃ p k x,ps[i]?=some (.int p 0)/\es[p.toNat]?=some (k,x)):wpAny (model prog w) A (pyNext (.ref I)) Q E s:=by
 obtain ⟨o,ho,hc,hd⟩:=id It
 obtain ⟨oT,nT,hT,hdT⟩:=P
 unfold pyNext
 refine wpAny_bind (wpAny_attempt (wpAny_callSpecial?_slot (name:=Str.ofString "__next__") It.ty zgk (wpAny_call_entry zgk It.ty zrm ?_ (zrn _))))
 unfold Builtin.«set_iterator.__next__»
 refine wpAny_bind (wpAny_of_eq (a:=(Value.ref I,[])) rfl ?_)
 show wpAny _ _ (fieldsOf (.ref I) >>= _) _ _ s
 refine wpAny_bind (wpAny_fieldsOf ho hd ?_)
 show wpAny _ _ (setEntries a >>= _) _ _ s
 refine wpAny_bind ?_
 unfold setEntries
 refine wpAny_bind (zb7 O (wpAny_pure ?_))
 dsimp only
 rw[if_neg (by simp)]
 simp only[Int.toNat_natCast]
 refine wpAny_bind (wpAny_seqItems hT hdT ?_)
 dsimp only
 rcases hp with hp | ⟨p,k,x,hp,hx⟩
 ·rw[hp]
  refine wpAny_bind (wpAny_setField ho hd (by simp) ?_)
  have ho1:=zhx (j:=0) (x:=rawInt 0) ho hd
  have hd1:=Obj.data_mapFields hd (f:=(·.setIfInBounds 0 (rawInt 0)))
  refine wpAny_bind (wpAny_setField ho1 hd1 (by simp) ?_)
  refine znI hh fun h' k=>h2 hp h' fun b o hb e=>k b o ?_
  exact (ydm _ _ _ _ hb).trans ((ydm _ _ _ _ hb).trans e)
 ·rw[hp]
  dsimp only
  refine wpAny_bind ?_
  unfold setNextDrawn
  refine wpAny_bind (zb7 O ?_)
  dsimp only
  rw[if_neg (by simp),hx]
  refine wpAny_pure (wpAny_bind (wpAny_setField ho hd (by simp) (wpAny_pure ⟨x,rfl,wpAny_pure (h1 p hp k x hx _ (Heap.SameBut.update ..) ?_)⟩)))
  refine ⟨_,zhx ho hd,(Obj.cls_mapFields ..).trans hc,?_⟩
  rw[Obj.data_mapFields hd]
  simp[rawInt]
theorem ztt (hh:A.handled=none) (ne:a≠I) {F:Nat->Nat} {ord:Nat->Value} (st:∀ i,i<=es.size->∀ (s:Shared),zbQ s.heap a es ep t->∀ (A':Around) (E':Value->Shared->Prop) (Q':Option (Value × Nat)->Shared->Prop),
   Q' (if i<es.size then some (ord i,F (i+1)) else none) s->wpAny (model prog w) A' (setNext a (F i) i ep) Q' E' s) :
  Walks prog w A I [I,a] [I] es.size (fun i v=>v=ord i) (fun i h=>i<=es.size/\zbS h I a (.int (F i) 0) i es.size ep/\zbQ h a es ep t) where
 sub:=fun b hb=>by simp at hb;simp[hb]
 frame:=fun _ _ _ st k=>⟨st.1,st.2.1.keep fun o e=>k I (by simp) o e,st.2.2.keep fun o e=>k a (by simp) o e⟩
 item:=fun i s Q E hi h hQ=>by
  refine zpl hh h.2.1 h.2.2 (fun A' E' Q' q=>st i h.1 s h.2.2 A' E' Q' q) (fun x F' e h' sb It=>?_) fun e=>?_
  ·rw[if_pos hi] at e
   cases e
   exact hQ _ h' s.toks rfl ⟨hi,It,h.2.2.keep fun o e=>(sb.2 a ne).trans e⟩ fun b o hb e=>(sb.2 b fun z=>hb (by simp[z])).trans e
  ·rw[if_pos hi] at e;cases e
 done:=fun s Q E h hQ=>by
  refine zpl hh h.2.1 h.2.2 (fun A' E' Q' q=>st _ h.1 s h.2.2 A' E' Q' q) (fun x F' e=>?_) fun _ h' k=>hQ h' s.toks fun b o hb e=>k b o (fun z=>hb (by simp[z])) e
  rw[if_neg (yda _)] at e;cases e
 self:=fun _ _ _ _ h q=>znO h.2.1 q
theorem zq8 (hh:A.handled=none) (ne:a≠I) (nT:T≠I) {ord:List Nat} (hps:ps=(ord.map fun i:Nat=>rawInt i).toArray) (hl:ord.length=es.size) (ho:∀ i∈ord,i<es.size) :
  Walks prog w A I [I,a,T] [I] es.size (fun i v=>∃ j,ord[i]?=some j/\∃ k,es[j]?=some (k,v)) (fun i h=>i<=es.size/\(zbS h I a (.ref T) i es.size ep/\zbQ h a es ep t)/\zeF h T ps) where
 sub:=fun b hb=>by simp at hb;simp[hb]
 frame:=fun _ _ _ st k=>⟨st.1,⟨st.2.1.1.keep fun o e=>k I (by simp) o e,st.2.1.2.keep fun o e=>k a (by simp) o e⟩,st.2.2.keep fun o e=>k T (by simp) o e⟩
 item:=fun i s Q E hi h hQ=>by
  have hj:i<ord.length:=by omega
  have e0:ps[i]?=some (.int (ord[i]:Nat) 0):=by rw[hps];simp[hj,rawInt]
  have hlt:=ho ord[i] (yck hj)
  obtain ⟨⟨k0,x0⟩,q0⟩:∃ q,es[ord[i]]?=some q:=⟨_,ydv hlt⟩
  refine zma hh h.2.1.1 h.2.1.2 h.2.2 (fun p ep' k x ex h' sb It=>?_) (fun e=>by rw[e0] at e;cases e) (.inr ⟨_,k0,x0,e0,by simpa using q0⟩)
  rw[e0] at ep'
  cases ep'
  refine hQ x h' s.toks ⟨ord[i],yaa hj,k,by simpa using ex⟩ ⟨hi,⟨It,h.2.1.2.keep fun o e=>(sb.2 a ne).trans e⟩,h.2.2.keep fun o e=>(sb.2 T nT).trans e⟩ fun b o hb e=>(sb.2 b fun z=>hb (by simp[z])).trans e
 done:=fun s Q E h hQ=>by
  have e0:ps[es.size]?=none:=by rw[hps];simp;omega
  exact zma hh h.2.1.1 h.2.1.2 h.2.2 (fun p ep'=>by rw[e0] at ep';cases ep') (fun _ h' k=>hQ h' s.toks fun b o hb e=>k b o (fun z=>hb (by simp[z])) e) (.inl e0)
 self:=fun _ _ _ _ h q=>znO h.2.1.1 q
end
end zaM
end L2
namespace L2
open PySem PySem.Spec PyProof.Rows
namespace zaM
theorem zi2 {α:Type}:∀ (l:List α) (i:Nat) (h:i<l.length),(l[i]::l.eraseIdx i).Perm l
 | x::xs,0,_=>.refl _
 | x::xs,i+1,h=>(List.Perm.swap x _ _).trans ((zi2 xs i (by simpa using h)).cons x)
theorem zrD {α:Type} (next:Nat->Nat):∀ (fuel k:Nat) (left:List α) (out:Array α),left.length=fuel->(pickOrder.go next fuel k left out).toList.Perm (out.toList++left)
 | 0,k,left,out,h=>by
  have:left=[]:=List.length_eq_zero_iff.mp h
  subst this
  unfold pickOrder.go
  simp
 | fuel+1,k,left,out,h=>by
  have lt:next k % left.length<left.length:=Nat.mod_lt _ (by omega)
  unfold pickOrder.go
  rw[yaa lt]
  dsimp only
  refine (zrD next fuel (k+1) _ _ (by rw[List.length_eraseIdx_of_lt lt,h];rfl)).trans ?_
  rw[Array.toList_push,ycp]
  refine List.Perm.append_left _ ?_
  exact zi2 left _ lt
theorem zkn {α:Type} (next:Nat->Nat) (xs:Array α):(pickOrder next xs).toList.Perm xs.toList:=by
 unfold pickOrder
 simpa using zrD next xs.size 0 xs.toList #[] (by simp)
noncomputable def slotAt (t:SetTable) (i:Nat):Nat:=if i=0 then 0 else t.place.getD (i-1) 0+1
theorem below_at {t:SetTable} (h:Up t.place) {i:Nat} (hi:i<=t.place.size):SetTable.below t.place (slotAt t i)=i:=by
 obtain ⟨h0,h1,h2⟩:=zmg h (slotAt t i)
 generalize SetTable.below t.place (slotAt t i)=p at *
 have gd:∀ j,j<t.place.size->∀ d e,t.place.getD j d=t.place.getD j e:=fun j hj d e=>by simp[ydz,hj]
 by_cases hz:i=0
 ·subst hz
  refine Nat.eq_zero_of_not_pos fun hp=>?_
  have:=h1 0 hp
  unfold slotAt at this
  rw[if_pos rfl] at this
  omega
 ·have e:slotAt t i=t.place.getD (i-1) 0+1:=by unfold slotAt;rw[if_neg hz]
  rcases ydc p i with lt | rfl | gt
  ·have:=h2 (i-1) (by omega) (by omega)
   rw[gd _ (by omega) _ 0,e] at this
   omega
  ·rfl
  ·have:=h1 i gt
   have u:=zoH h (i:=i-1) (j:=i) (by omega) (by omega) 0 0
   rw[gd _ (by omega) _ 0,e] at this
   omega
section
variable {prog:Program} {w:World} {a:Addr} {es:Array (Int × Value)} {ep:Nat} {t:SetTable}
theorem zrQ (hb:w.params.followText "set-order" = false) (T:Tab false t) (hf:t.fits es.size=true) (hp:(!t.plain && decide (es.size > 1))=false) (i:Nat) (hi:i<=es.size) (s:Shared) (O:zbQ s.heap a es ep t) (A':Around)
  (E':Value->Shared->Prop) (Q':Option (Value × Nat)->Shared->Prop) (q:Q' (if i<es.size then some ((es.getD i (0,.none)).2,slotAt t (i+1)) else none) s):wpAny (model prog w) A' (setNext a (slotAt t i) i ep) Q' E' s:=by
 have fz:t.place.size=es.size:=by simp[SetTable.fits] at hf;exact hf.1
 have up:Up t.place:=by
  by_cases pl:t.plain=true
  ·exact T.up pl
  ·have:es.size<=1:=by simp[pl] at hp;exact hp
   unfold Up
   have l1:t.place.toList.length<=1:=by rw[ydw];omega
   match hq:t.place.toList,l1 with
   | [],_=>exact .nil
   | [x],_=>exact ybp _ _
   | _::_::_,z=>simp at z
 unfold setNext
 refine wpAny_bind (zb7 O ?_)
 unfold setsByText
 refine wpAny_bind (wpAny_bind (wpAny_askSetting (wpAny_pure ?_)))
 rw[show (model prog w).w.params.followText "set-order" = false from hb]
 rw[if_neg Bool.false_ne_true]
 dsimp only
 show wpAny _ _ (if (!t.plain && decide (es.size > 1))=true then _ else _) _ _ _
 rw[if_neg (by rw[hp];exact Bool.false_ne_true)]
 refine wpAny_bind ?_
 show wpAny _ _ (if (!t.led && !es.isEmpty)=true then _ else _) _ _ _
 rw[if_neg (by rw[T.led];simp)]
 refine wpAny_pure ?_
 rw[below_at up (by omega)]
 refine wpAny_pure ?_
 by_cases lt:i<es.size
 ·rw[if_pos lt] at q
  rw[ydv lt,ydv (by omega:i<t.place.size)]
  dsimp only
  have e1:(es.getD i (0,.none)).2=es[i].2:=by simp[ydz,lt]
  have e2:slotAt t (i+1)=t.place[i]'(by omega)+1:=by simp[slotAt,ydz,show i<t.place.size by omega]
  rw[e1,e2] at q
  exact q
 ·rw[if_neg lt] at q
  rw[Array.getElem?_eq_none (by omega)]
  exact q
theorem zth (hb:w.params.followText "set-order" = true) (i:Nat) (hi:i<=es.size) (s:Shared) (O:zbQ s.heap a es ep t) (A':Around)
  (E':Value->Shared->Prop) (Q':Option (Value × Nat)->Shared->Prop) (q:Q' (if i<es.size then some (((pickOrder (w.params.setOrder a ep) es).getD i (0,.none)).2,0) else none) s):wpAny (model prog w) A' (setNext a 0 i ep) Q' E' s:=by
 have sz:(pickOrder (w.params.setOrder a ep) es).size=es.size:=by
  have:=(zkn (w.params.setOrder a ep) es).length_eq
  simpa using this
 unfold setNext
 refine wpAny_bind (zb7 O ?_)
 unfold setsByText
 refine wpAny_bind (wpAny_bind (wpAny_askSetting (wpAny_pure ?_)))
 rw[show (model prog w).w.params.followText "set-order" = true from hb,if_pos rfl]
 dsimp only
 rw[if_neg (by simp)]
 refine wpAny_bind ?_
 unfold setWalk
 refine wpAny_bind (zb7 O ?_)
 unfold setsByText
 refine wpAny_bind (wpAny_bind (wpAny_askSetting (wpAny_pure ?_)))
 rw[show (model prog w).w.params.followText "set-order" = true from hb,if_pos rfl]
 refine wpAny_bind (wpAny_askSetting (wpAny_pure (wpAny_pure ?_)))
 show Q' (Option.map (fun e=>(e.2,0)) (pickOrder (w.params.setOrder a ep) es)[i]?) s
 by_cases lt:i<es.size
 ·rw[if_pos lt] at q
  rw[ydv (by omega)]
  have e1:((pickOrder (w.params.setOrder a ep) es).getD i (0,.none)).2=((pickOrder (w.params.setOrder a ep) es)[i]'(by omega)).2:=by simp[ydz,show i<(pickOrder (w.params.setOrder a ep) es).size by omega]
  rw[e1] at q
  exact q
 ·rw[if_neg lt] at q
  rw[Array.getElem?_eq_none (by omega)]
  exact q
end
end zaM
end L2
namespace L2
open PySem PySem.Spec PyProof.Rows
namespace zaM
section
variable {prog:Program} {w:World} {A:Around} {E:Value->Shared->Prop}
theorem zsw {src:Source} {n:Nat} {s:Shared} {Q:Nat->Shared->Prop} (hn:0<n) (h:∀ i d,i<n->Q i { s with drawn:=d }):wpAny (model prog w) A (choose src n) Q E s :=
 fun Γ p hΓ=>⟨by omega,h _ _ (Nat.mod_lt _ hn)⟩
theorem znC {α:Type}:∀ (n:Nat) (xs:List α) (s:Shared) (Q:List α->Shared->Prop),xs.length=n->(∀ l d,l.Perm xs->Q l { s with drawn:=d })->wpAny (model prog w) A (drawOrder n xs) Q E s
 | 0,xs,s,Q,hl,h=>by
  have:xs=[]:=List.length_eq_zero_iff.mp hl
  subst this
  unfold drawOrder
  exact wpAny_pure (h [] s.drawn (.refl _))
 | n+1,[],s,Q,hl,h=>by simp at hl
 | n+1,x::xs,s,Q,hl,h=>by
  unfold drawOrder
  refine wpAny_bind (zsw (by simp) fun i d hi=>?_)
  rw[yaa hi]
  refine wpAny_bind (znC n _ _ _ (by rw[List.length_eraseIdx_of_lt hi,hl];rfl) fun l d' hp=>wpAny_pure (h _ d' ?_))
  exact (hp.cons _).trans (zi2 (x::xs) i hi)
end
theorem zpd {P:Nat->Value->Prop} {acc:Array Value} {n:Nat} {f:Nat->Value} (h:ItemsOf P acc n) (hf:∀ i v,i<n->P i v->v=f i):acc.toList=(yax n).map f:=by
 apply ybz
 intro j
 rw[yaj]
 by_cases lt:j<n
 ·have e:acc.toList[j]?=some (acc[j]'(by rw[h.1];exact lt)):=by rw[ydy];exact ydv _
  rw[e,ycb lt]
  exact congrArg some (hf j _ lt (h.2 j _ (ydv _)))
 ·rw[yas (by rw[ydw,h.1];omega),yas (by rw[ycg];omega)]
  rfl
theorem zhs {α β:Type} (xs:Array α) (d:α) (f:α->β):(yax xs.size).map (fun i=>f (xs.getD i d))=xs.toList.map f:=by
 apply ybz
 intro j
 rw[yaj,yaj]
 by_cases lt:j<xs.size
 ·rw[ycb lt,ydy,ydv lt]
  simp[ydz,lt]
 ·rw[yas (by rw[ycg];omega),yas (by rw[ydw];omega)]
  rfl
section
variable {prog:Program} {w:World} {A:Around} {E:Value->Shared->Prop} {s:Shared} {a:Addr} {es:Array (Int × Value)} {ep:Nat} {t:SetTable}
theorem zuj {B:Around} {Q:Value->Shared->Prop} (hB:B.handled=none) (ty:s.TypeIs (.ref a) "set") (O:zbQ s.heap a es ep t) (T:Tab (w.params.followText "set-order") t) (hz:es.size<=sizeLine)
  (hQ:∀ I h' d' fp P (St:Nat->Heap->Prop),Walks prog w B I fp [I] es.size P St->St 0 h'->(∀ b∈fp,b=a\/(s.heap.objs.size<=b/\b<h'.objs.size))->(∀ acc,ItemsOf P acc es.size->acc.toList.Perm (es.toList.map (·.2))) ->
   (∀ b o,s.heap.get? b=some o->h'.get? b=some o)->s.heap.objs.size<=I->Q (.ref I) { s with heap:=h',drawn:=d' }):wpAny (model prog w) A (pyIter (.ref a)) Q E s:=by
 have hf:t.fits es.size=true:=O.choose_spec.2.2
 have alt:a<s.heap.objs.size:=ydk O.choose_spec.1
 refine wpAny_pyIter_slot ty PySem.F.slot_set_iter (wpAny_call_entry PySem.F.slot_set_iter ty ztz ?_ (PySem.F.args_set_iter_1 _))
 unfold Builtin.«frozenset.__iter__» Builtin.Frozenset.slot0
 refine wpAny_bind (wpAny_bind (wpAny_of_eq (a:=(Value.ref a,[])) rfl (wpAny_of_eq (a:=a) rfl ?_)))
 unfold Builtin.Frozenset.sizeOf setEntries
 refine wpAny_bind (wpAny_bind (wpAny_bind (zb7 O (wpAny_pure (wpAny_pure ?_)))))
 unfold setDrawn setsByText
 refine wpAny_bind (wpAny_bind (zb7 O (wpAny_bind (wpAny_bind (wpAny_askSetting (wpAny_pure (wpAny_pure ?_)))))))
 show wpAny _ _ (if (!w.params.followText "set-order" && (!t.plain && decide (es.size > 1)))=true then _ else _) _ _ _
 have body:∀ (first:Value) (s1:Shared),zbQ s1.heap a es ep t->(∀ I h',h'=s1.heap.push { cls:=.type "set_iterator", data:=.fields #[first,.int (0:Nat) 0,.ref a,.int es.size 0,.int ep 0] }->I=s1.heap.objs.size->zbS h' I a first 0 es.size ep->zbQ h' a es ep t->Q (.ref I) { s1 with heap:=h' }) ->
   wpAny (model prog w) A.in1 (setEpoch a >>= fun e=>newFields "set_iterator" [first,rawInt 0,.ref a,rawInt es.size,rawInt e] >>= fun x=>ret x) (fun fin s'=>∃ v,fin=.done (.ret v)/\∃ T' r,s'.TypeIs v T'/\typeLookup (.type T') "__next__" = pure (some r)/\Q v s') E s1:=fun first s1 O1 q=>by
  unfold setEpoch
  refine wpAny_bind (wpAny_bind (zb7 O1 (wpAny_pure ?_)))
  refine wpAny_bind (wpAny_newObj_type (wpAny_pure ?_))
  have g:(s1.heap.push { cls:=.type "set_iterator", data:=.fields #[first,.int (0:Nat) 0,.ref a,.int es.size 0,.int ep 0] }).get? s1.heap.objs.size=some { cls:=.type "set_iterator", data:=.fields #[first,.int (0:Nat) 0,.ref a,.int es.size 0,.int ep 0] }:=ydl _ rfl
  exact ⟨_,rfl, "set_iterator", _,⟨_,g,rfl⟩,zgk.lookup,q _ _ rfl rfl ⟨_,g,rfl,rfl⟩ (O1.keep fun o e=>ydj _ e)⟩
 have pin:∀ (F:Nat->Nat) (ord:Nat->Value),F 0=0->(∀ i,i<=es.size->∀ (s:Shared),zbQ s.heap a es ep t->∀ (A':Around) (E':Value->Shared->Prop) (Q':Option (Value × Nat)->Shared->Prop),
   Q' (if i<es.size then some (ord i,F (i+1)) else none) s->wpAny (model prog w) A' (setNext a (F i) i ep) Q' E' s)->((yax es.size).map ord).Perm (es.toList.map (·.2)) ->
   wpAny (model prog w) A.in1 (setEpoch a >>= fun e=>newFields "set_iterator" [rawInt 0,rawInt 0,.ref a,rawInt es.size,rawInt e] >>= fun x=>ret x) (fun fin s'=>∃ v,fin=.done (.ret v)/\∃ T' r,s'.TypeIs v T'/\typeLookup (.type T') "__next__" = pure (some r)/\Q v s') E s:=fun F ord F0 st pm=>by
  refine body (rawInt 0) s O fun I h' eh eI It O'=>?_
  have Ilt:I<h'.objs.size:=by rw[eh,eI,ydn];exact ydb _
  refine hQ I h' s.drawn [I,a] _ _ (ztt (prog:=prog) (w:=w) (A:=B) hB (by rw[eI];exact ycv alt) st) ⟨ycy _,by rw[F0];exact It,O'⟩ (fun b hb=>?_) (fun acc hacc=>?_) (fun b o e=>by rw[eh];exact ydj _ e) (by rw[eI];exact ycu _)
  ·simp only[yak,ybw,or_false] at hb
   rcases hb with rfl | rfl
   ·exact .inr ⟨by rw[eI];exact ycu _,Ilt⟩
   ·exact .inl rfl
  ·rw[zpd hacc fun i v _ q=>q]
   exact pm
 by_cases hd:(!w.params.followText "set-order" && (!t.plain && decide (es.size > 1)))=true
 ·rw[if_pos hd]
  refine wpAny_bind (znC es.size (yax es.size) s _ (by simp) fun ord d hp=>?_)
  have ol:ord.length=es.size:=by rw[hp.length_eq];simp
  refine wpAny_bind (wpAny_newObj_type ?_ ?_)
  ·refine body (.ref s.heap.objs.size) { s with heap:=s.heap.push { cls:=.type "tuple", data:=.seq (ord.map fun i:Nat=>rawInt i).toArray },drawn:=d } (O.keep fun o e=>ydj _ e) fun I h' eh eI It O'=>?_
   have eI':I=s.heap.objs.size+1:=by rw[eI];exact ydn _ _
   have Ilt:h'.objs.size=s.heap.objs.size+2:=by rw[eh,ydn,ydn]
   have P:zeF h' s.heap.objs.size (ord.map fun i:Nat=>rawInt i).toArray:=⟨_,_,by rw[eh];exact ydj _ (ydl _ rfl),rfl⟩
   refine hQ I h' d [I,a,s.heap.objs.size] _ _ (zq8 (prog:=prog) (w:=w) (A:=B) hB (by rw[eI'];exact ycv (ydd alt)) (by rw[eI'];exact ycv (ydb _)) rfl ol fun i hi=>by
    have:=hp.mem_iff.mp hi
    simpa using this) ⟨ycy _,⟨It,O'⟩,P⟩ (fun b hb=>?_) (fun acc hacc=>?_) (fun b o e=>by rw[eh];exact ydj _ (ydj _ e)) (by rw[eI'];exact yde _)
   ·simp only[yak,ybw,or_false] at hb
    rcases hb with rfl | rfl | rfl
    ·exact .inr ⟨by rw[eI'];exact yde _,by rw[Ilt,eI'];exact ydb _⟩
    ·exact .inl rfl
    ·exact .inr ⟨ycu _,by rw[Ilt];exact ydd (ydb _)⟩
   ·have e1:acc.toList=(yax es.size).map fun i=>(es.getD (ord.getD i 0) (0,.none)).2:=zpd hacc fun i v lt ⟨j,hj,k,hk⟩=>by
     have hlt:j<es.size:=by
      have:=hp.mem_iff.mp (yai hj)
      simpa using this
     have hi:i<ord.length:=by omega
     rw[yaa hi] at hj
     cases hj
     rw[ydv hlt] at hk
     cases hq:es[ord[i]]
     rw[hq] at hk
     cases hk
     simp[ydz,hi,hlt,hq]
    rw[e1]
    have e2:(yax es.size).map (fun i=>(es.getD (ord.getD i 0) (0,.none)).2)=ord.map fun j=>(es.getD j (0,.none)).2:=by
     have:=zhs ord.toArray 0 fun j=>(es.getD j (0,.none)).2
     simpa [ol] using this
    rw[e2,<-zhs es (0,.none) (·.2)]
    exact hp.map _
  ·show (ord.map fun i:Nat=>rawInt i).toArray.size<=sizeLine
   simp[ol,hz]
 ·rw[if_neg hd]
  refine wpAny_bind (wpAny_pure ?_)
  cases hb:w.params.followText "set-order" with
  | true =>
   refine pin (fun _=>0) (fun i=>((pickOrder (w.params.setOrder a ep) es).getD i (0,.none)).2) rfl (fun i hi s O A' E' Q' q=>zth hb i hi s O A' E' Q' q) ?_
   have sz:(pickOrder (w.params.setOrder a ep) es).size=es.size:=by
    have:=(zkn (w.params.setOrder a ep) es).length_eq
    simpa using this
   rw[<-sz,zhs]
   exact (zkn _ _).map _
  | false =>
   have T':=T
   rw[hb] at T'
   rw[hb] at hd
   refine pin (slotAt t) (fun i=>(es.getD i (0,.none)).2) rfl (fun i hi s O A' E' Q' q=>zrQ hb T' hf (by simpa using hd) i hi s O A' E' Q' q) ?_
   rw[zhs]
end
end zaM
end L2
namespace L2
open PySem PySem.Spec PyProof.Rows
namespace zaM
theorem zvi:typeLookup (.type "set") "__len__" = pure (some (.builtin "set.__len__")):=by rw[typeLookup_type,builtinLookup_eq_fast];kernel_rfl
theorem zur {M:Model} {A:Around} {α:Type} {Q:α->Shared->Prop} {E:Value->Shared->Prop} {s:Shared} {c:Prop} [Decidable c] {x y:Sem α} (hc:c) (h:wpAny M A x Q E s):wpAny M A (if c then x else y) Q E s:=by rw[if_pos hc];exact h
theorem zvz {M:Model} {A:Around} {α:Type} {Q:α->Shared->Prop} {E:Value->Shared->Prop} {s:Shared} {c:Prop} [Decidable c] {x y:Sem α} (hc:¬ c) (h:wpAny M A y Q E s):wpAny M A (if c then x else y) Q E s:=by rw[if_neg hc];exact h
section
variable {prog:Program} {w:World} {A:Around} {E:Value->Shared->Prop} {s:Shared} {a:Addr} {es:Array (Int × Value)} {ep:Nat} {t:SetTable}
theorem ztB {Q:Bool->Shared->Prop} (ty:s.TypeIs (.ref a) "set") (q:Q false s):wpAny (model prog w) A (Builtin.List.listLengthHint (.ref a)) Q E s:=by
 unfold Builtin.List.listLengthHint
 refine wpAny_bind (wpAny_specialOf ty zvi ?_)
 generalize hid:("set.__len__" : String)=id0
 have h1:splitId id0=some ("set", "__len__"):=by subst hid;decide +kernel
 dsimp only
 rw[h1]
 subst hid
 refine wpAny_bind (wpAny_isInstance (b:=true) ty (by rw[isSubtype_type];kernel_rfl) ?_)
 refine zvz (by simp) (zur (by decide +kernel) (wpAny_bind (wpAny_typeOf ty ?_)))
 exact wpAny_pure q
theorem zrg {Q:List Value->Shared->Prop} (hh:A.handled=none) (ty:s.TypeIs (.ref a) "set") (O:zbQ s.heap a es ep t) (T:Tab (w.params.followText "set-order") t) (hz:es.size<=sizeLine)
  (hQ:∀ vs h' d' tk,vs.Perm (es.toList.map (·.2))->(∀ b o,s.heap.get? b=some o->h'.get? b=some o)->Q vs { s with heap:=h',drawn:=d',toks:=tk }):wpAny (model prog w) A (collect (.ref a)) Q E s:=by
 have alt:a<s.heap.objs.size:=ydk O.choose_spec.1
 unfold collect
 refine wpAny_bind (wpAny_runValue (codeAny_builtin PySem.F.entry_proto_collect ?_))
 rw[Around.under_plainId PySem.F.plain_proto_collect _]
 show wpAny _ A.in1 (newList [] >>= fun l=>again (.builtin "list.__iadd__" ⟨[l,.ref a],[]⟩)) _ _ s
 refine wpAny_bind (wpAny_newObj_type ?_)
 refine wpAny_pure ⟨plainId_quiet PySem.F.plain_list_iadd _,codeAny_builtin PySem.F.entry_list_iadd ?_⟩
 rw[Around.under_plainId PySem.F.plain_list_iadd _]
 show wpAny _ A.in1 (Builtin.List.listExtendWith (.ref s.heap.objs.size) (.ref a) (.ref s.heap.objs.size)) _ _ _
 have ne:Builtin.List.listSameRef (.ref s.heap.objs.size) (.ref a)=false:=by
  have:s.heap.objs.size≠a:=ydh alt
  simp[Builtin.List.listSameRef,this]
 obtain ⟨oa,hoa,hca⟩:=id ty
 have ty1:({ s with heap:=s.heap.push { cls:=.type "list", data:=.seq ([]:List Value).toArray } }:Shared).TypeIs (.ref a) "set" := ⟨oa,ydj _ hoa,hca⟩
 unfold Builtin.List.listExtendWith
 refine wpAny_bind (wpAny_typeOf ty1 ?_)
 rw[if_neg (by rw[ne];decide)]
 refine wpAny_bind (zuj (B:=A.in1) (by simp[hh]) ty1 (O.keep fun o e=>ydj _ e) T hz fun I h' d' fp P St W st0 hfp pm kp hI=>?_)
 have S1:h'.get? s.heap.objs.size=some { cls:=.type "list", data:=.seq ([]:List Value).toArray }:=kp _ _ (ydl _ rfl)
 refine wpAny_bind (wpAny_holding (ztB ⟨oa,kp _ _ (ydj _ hoa),hca⟩ ?_))
 refine zur (by decide +kernel) (wpAny_bind (wpAny_rule (wpAny_bind ?_)))
 unfold Builtin.List.listTouch
 have g1:(h'.update s.heap.objs.size (Obj.mapSeq (·.push Value.none))).get? s.heap.objs.size=some { cls:=.type "list", data:=.seq #[.none] 1 }:=ydo _ S1 rfl
 have g2:((h'.update s.heap.objs.size (Obj.mapSeq (·.push Value.none))).update s.heap.objs.size (Obj.mapSeq (·.pop))).get? s.heap.objs.size=some { cls:=.type "list", data:=.seq #[] 2 }:=ydo _ g1 rfl
 refine wpAny_bind (listUpdate_at S1 rfl (listUpdate_at g1 rfl ?_ (by decide) (by decide)) (by decide) (by decide))
 have Sf:s.heap.objs.size ∉ fp:=fun z=>by
  rcases hfp _ z with e | ⟨e,_⟩
  ·exact absurd alt (by rw[<-e];exact yda _)
  ·rw[ydn] at e
   exact Nat.not_succ_le_self _ e
 have st1:St 0 ((h'.update s.heap.objs.size (Obj.mapSeq (·.push Value.none))).update s.heap.objs.size (Obj.mapSeq (·.pop))):=W.frame 0 h' _ st0 fun b hb o e=>by
  have nb:b≠s.heap.objs.size:=fun z=>Sf (z ▸ hb)
  exact (ydm _ _ _ _ nb).trans ((ydm _ _ _ _ nb).trans e)
 refine wpAny_pure ⟨plainId_quiet PySem.F.plain_extend_loop _,codeAny_extend_loopS W.toS hz _ Sf _ es.size 0 _ #[] 2 rfl (ycy _) st1 g2 (ItemsOf.nil P) fun s' acc c mv S' hacc=>?_⟩
 show wpAny _ A (load s.heap.objs.size >>= _) _ _ s'
 refine wpAny_bind (wpAny_load S' (wpAny_pure ?_))
 obtain ⟨h2,g',d2,tk',os'⟩:=s'
 obtain rfl:g'=s.gens:=mv.gens
 obtain rfl:os'=s.os:=mv.os
 refine hQ acc.toList h2 d2 tk' (pm acc hacc) fun b o e=>mv.heap b o ?_ ?_
 ·intro z
  have lt:=ydk e
  rcases yak.mp z with z | z
  ·exact absurd lt (by rw[z];exact yda _)
  ·have z':b=I:=by simpa using z
   rw[z'] at lt
   have:s.heap.objs.size+1<=I:=by rw[<-ydn];exact hI
   exact absurd (ycx lt (ycz (yde _) this)) (yda _)
 ·have nb:b≠s.heap.objs.size:=ycv (ydk e)
  exact (ydm _ _ _ _ nb).trans ((ydm _ _ _ _ nb).trans (kp b o (ydj _ e)))
end
end zaM
end L2
namespace L2
open PySem PySem.Spec PyProof.Rows
namespace zaM
theorem znA:∀ {vs:List Value},(∀ v∈vs,∃ m t,v=.int m t)->IntsAre vs (vs.map intOf)
 | [],_=>.nil
 | v::vs,h=>by
  obtain ⟨m,t,rfl⟩:=h v (yan)
  exact .cons m t (znA fun v hv=>h v (yam _ hv))
section
variable {prog:Program} {w:World} {A:Around} {E:Value->Shared->Prop} {s:Shared} {a:Addr} {ms:List Int}
theorem zsv {Q:Value->Shared->Prop} (hh:A.handled=none) (S:zdj prog w s.heap a ms) (h64:ms.length<64)
  (h:∀ h' d' tk (out:Array Value) ns' p n,IntsAre out.toList ns'->ns'.Perm ms->ns'.Pairwise (·<=·)->(∀ b o,s.heap.get? b=some o->h'.get? b=some o)->s.heap.get? p=none->h'.get? p=some (seqObj "list" out n)->Q (.ref p) { s with heap:=h',drawn:=d',toks:=tk }) :
  wpAny (model prog w) A (call (.builtin "sorted") [.ref a]) Q E s:=by
 obtain ⟨⟨o,es,ep,t,⟨ho,hex,hd⟩,⟨hel,hb,hf⟩,T,rfl⟩,nd⟩:=S
 have lz:es.size<64:=by simpa using h64
 refine Calls.call_function_entry kind_sorted plain_sorted entry_sorted (args_sorted1 _) ?_
 unfold Builtin.«sorted»
 refine wpAny_bind (m:=checkCount "sorted" 1 1 _) (wpAny_pure ?_)
 refine wpAny_bind (zrg (by simp[hh]) ⟨o,ho,hex.1⟩ ⟨o,ho,hd,hf⟩ T (by rw[sizeLine_eq];omega) fun vs h1 d1 tk1 pm kp=>?_)
 have vi:IntsAre vs (vs.map intOf):=znA fun v hv=>by
  obtain ⟨e,he,rfl⟩:=yaf.mp (pm.mem_iff.mp hv)
  obtain ⟨⟨k,hk,_⟩,_⟩:=hel e he
  obtain ⟨t,e2⟩:=Value.isInt_shape (show Value.isInt k e.2=true from hk)
  exact ⟨k,t,e2⟩
 have vp:(vs.map intOf).Perm (es.toList.map fun e=>intOf e.2):=by
  have:=pm.map intOf
  rwa [ybs] at this
 have vl:vs.length<64:=by rw[pm.length_eq];simpa using lz
 have sl:vs.length<=sizeLine:=by rw[sizeLine_eq];omega
 refine wpAny_bind (wpAny_newList ?_ (by first | exact sl | simpa using sl))
 have g0:(h1.push (seqObj "list" vs.toArray 0)).get? h1.objs.size=some (seqObj "list" vs.toArray 0):=ydl _ rfl
 have ol:s.heap.get? h1.objs.size=none:=by
  cases q:s.heap.get? h1.objs.size with
  | none=>rfl
  | some u=>exact absurd (ydk (kp _ _ q)) (yda _)
 show wpAny _ _ _ _ _ { s with heap:=h1.push (seqObj "list" vs.toArray 0),drawn:=d1,toks:=tk1 }
 refine wpAny_bind (wpAny_holding (wpAny_call_entry slot_list_sort ⟨_,g0,rfl⟩ entry_list_sort (list_sort_tree g0 vi vl fun out ns' a1 a2 a3=>⟨_,rfl,?_⟩) (args_list_sort _)))
 obtain ⟨n,g1⟩:=sortedHeap_at (out:=out) g0
 refine wpAny_pure ⟨_,rfl,h _ _ _ out ns' h1.objs.size n a1 (a2.trans vp) a3 (fun b u e=>?_) ol g1⟩
 have e1:=kp b u e
 have lt:=ydk e1
 rw[sortedHeap_old (ycv lt) (by rw[size_push'];exact ydd lt)]
 exact ydj _ e1
end
end zaM
end L2
namespace L2
open PySem PySem.Spec PyProof.Rows
noncomputable def zse (P:Program) (w:World) (a:Addr) (ms:List Int):HO:=.ext fun h=>zaM.zdj P w h a ms
theorem zaM.zdj.obj {P:Program} {w:World} {h:Heap} {a:Addr} {ms:List Int} (S:zaM.zdj P w h a ms):∃ o,h.get? a=some o:=let ⟨⟨o,_,_,_,⟨e,_⟩,_⟩,_⟩:=S;⟨o,e⟩
section
variable {X:Cx} {pins:List (Addr × Obj)} {σ:St} {H:Hp} {s:Shared}
theorem Inv.drew (I:Inv X pins σ H s) (d:Drawn):Inv X pins σ H { s with drawn:=d }:=⟨I.ok,I.os,I.bare,I.base,I.loc,I.cell,I.free,I.freeC,I.pin,I.hok,I.len⟩
theorem zfl (hc:X.calm=true):zbD X (.type "set") (fun xs H Q=>∃ (l:Addr) (ns:List Int),xs=[.ref l]/\SqL X.K H l (ns.map V.int)/\ns.length<4000 /\
  ∀ (p:Addr) (H':Hp) (ms:List Int),H p=none->Same H H'->H' p=some (zse X.prog X.w p ms)->ms.Nodup->(∀ m,m∈ms↔m∈ns)->ms.length<=ns.length->Q (.ref p) H'):=by
 intro pins s σ H xs us Q I r h
 obtain ⟨l,ns,rfl,hq,hl,q⟩:=h
 obtain ⟨u,rfl,rx⟩:=vals1 r
 cases rx
 obtain ⟨its,rv,pl,hz⟩:=I.list hq
 have len:its.length=ns.length:=by rw[<-rv.length,yab]
 refine zaM.zqQ (I.ok.hd hc) pl.isList (by simpa using zjY rv) (by show its.toArray.size+1<4096;simp;omega) fun h' tk ms S mm lm kp=>?_
 have k:∀ b o,s.heap.get? b=some o->h'.get? b=some o:=fun b o e=>kp b o (ydk e) e
 refine ⟨.ref s.heap.objs.size,_,I.laid (o:=zse X.prog X.w s.heap.objs.size ms) k (ycu _) ⟨S,S.obj,fun h1 h2 p e=>p.keep e⟩,rfl,q _ _ ms (I.hok.fresh (ycu _)) (ze (I.hok.fresh (ycu _)) _) zg S.nd mm lm⟩
theorem zct (hc:X.calm=true) (hex:X.ex=[]:=by rfl):zbD X (.builtin "sorted") (fun xs H Q=>∃ (p:Addr) (ms:List Int),xs=[.ref p]/\H p=some (zse X.prog X.w p ms)/\ms.length<64 /\
  ∀ (l:Addr) (H':Hp) (ns:List Int),H l=none->Same H H'->H' l=some (.lst (ns.map V.int))->ns.Perm ms->ns.Pairwise (·<=·)->Q (.ref l) H'):=by
 intro pins s σ H xs us Q I r h
 obtain ⟨p,ms,rfl,hp,hl,q⟩:=h
 obtain ⟨u,rfl,rx⟩:=vals1 r
 cases rx
 refine zaM.zsv (I.ok.hd hc) (I.hok p _ hp).1 hl fun h' d' tk out ns l n a1 a2 a3 kp new at_=>?_
 have vl:Vals (ns.map V.int) out.toList:=zhp a1
 have nl:(ns.map V.int).length<=sizeLine:=by rw[yab,a2.length_eq,sizeLine_eq];omega
 have I1:Inv X pins σ (upd H l (.lst (ns.map V.int))) { s with heap:=h',toks:=tk }:=I.zlF kp new hex ⟨nl,out.toList,n,vl,by simpa [seqObj] using at_⟩
 exact ⟨.ref l,_,I1.drew d',rfl,q l _ ns (I.hok.gone new) (ze (I.hok.gone new) _) zg a2 a3⟩
end
theorem zho {ns ms:List Int} (p:ns.Perm ms) (nd:ms.Nodup) (o:ns.Pairwise (·<=·)):ns.Pairwise (·<·):=by
 have n:=p.nodup_iff.mpr nd
 refine (o.and n).imp fun {a b} h=>?_
 have:=h.1
 have:=h.2
 omega
end L2
namespace L2
open PySem PySem.Spec PyProof.Rows
section
variable {X:Cx} {pins:List (Addr × Obj)} {σ:St} {H:Hp} {s:Shared} {h':Heap}
end
end L2
namespace L2
open PySem PySem.Spec PyProof.Rows
theorem zkA {K:W.Frag} {ix:List Nat} {te:TE} {σ:St} {a l:Addr} {xs:List V} {H:Hp} {R:Hp->Prop} (P:Nat->V->Prop) (ha:SqL K H a xs) (hl:H l=none) (hz:xs.length<=sizeLine)
  (hel:∀ i x H' Q',xs[i]?=some x->Same H H'->(∀ v,P i v->Q' v H')->te (some x::capts σ ix) H' Q') (fin:∀ ys:List V,ys.length=xs.length->(∀ j v,ys[j]?=some v->P j v)->R (upd H l (.lst ys))) :
  ∃ W:Nat->Nat->List V->Hp->Prop,(∃ m,W 0 m [] (upd H l (.lst [])))/\Turns ix te σ (Itl K a) l R W:=by
 refine ⟨fun i m ys H'=>m=xs.length-i/\i<=xs.length/\ys.length=i/\(∀ j v,ys[j]?=some v->P j v)/\H'=upd H l (.lst ys),⟨xs.length,by simp,ycy _,rfl,(fun j v e=>by simp at e),rfl⟩,?_⟩
 rintro i m ys H' ⟨rfl,hi,hx,hp,rfl⟩
 have hT:SqL K (upd H l (.lst ys)) a xs:=(ze hl _).seq ha
 refine ⟨zg,?_⟩
 by_cases hlt:i<xs.length
 ·have ex:xs[i]?=some xs[i]:=yaa hlt
  refine .inr ⟨⟨xs,_,hT,ex⟩,by omega,fun x H2 y=>?_⟩
  obtain ⟨e,y⟩:=y
  subst e
  have e2:=y xs hT
  refine hel i x _ _ e2 (ze hl _) fun v hv=>⟨zg,xs.length-(i+1),by omega,rfl,hlt,by rw[yag,hx];rfl,fun j w e=>?_,by rw[zag]⟩
  by_cases hj:j<ys.length
  ·rw[ybt hj] at e
   exact hp j w e
  ·by_cases hj2:j=ys.length
   ·subst hj2
    rw[ybj (ycu _),ydi] at e
    cases e
    rw[hx]
    exact hv
   ·rw[yas (by rw[yag,yau];omega)] at e
    cases e
 ·exact .inl ⟨⟨xs,hT,by omega⟩,fin ys (by omega) hp⟩
theorem zdC {X:Cx} (K:W.Frag) (h:X.K=K:=by rfl):IxR X (zvK K):=by subst h;exact zah
theorem zi3 {X:Cx} (K:W.Frag) (h:X.K=K:=by rfl):IxR X (zvV K):=by subst h;exact zt
inductive zA (K:W.Frag) (H:Hp):List V->List (Int × Int)->Prop
 | nil:zA K H [] []
 | cons {p:Addr} {s:Int × Int} {xs:List V} {l:List (Int × Int)}:H p=some (.tup [.int s.1,.int s.2])->zA K H xs l->zA K H (.ref p::xs) (s::l)
section
variable {K:W.Frag} {H H':Hp} {xs ys zs:List V} {l:List (Int × Int)} {p:Addr} {s:Int × Int}
theorem zA.get (r:zA K H xs l):∀ {i:Nat} {x:V},xs[i]?=some x->∃ p s,x=.ref p/\l[i]?=some s/\H p=some (.tup [.int s.1,.int s.2]):=by
 induction r with
 | nil=>intro i x e;simp at e
 | cons h _ ih =>
  intro i x e
  cases i with
  | zero=>cases e;exact ⟨_,_,rfl,rfl,h⟩
  | succ i=>exact ih e
theorem zA.length (r:zA K H xs l):xs.length=l.length:=by
 induction r with
 | nil=>rfl
 | cons _ _ ih=>simp[ih]
theorem zA.same (r:zA K H xs l) (s:Same H H'):zA K H' xs l:=by
 induction r with
 | nil=>exact .nil
 | cons h _ ih=>exact .cons (s _ _ h) ih
theorem zA.put (r:zA K H xs l) (hp:H p=some (.lst ys)):zA K (upd H p (.lst zs)) xs l:=by
 induction r with
 | nil=>exact .nil
 | cons h _ ih=>exact .cons (by rw[zp (zan h hp (by intro z;cases z))];exact h) ih
theorem zA.push (r:zA K H xs l) (h:H p=some (.tup [.int s.1,.int s.2])):zA K H (xs++[.ref p]) (l++[s]):=by
 induction r with
 | nil=>exact .cons h .nil
 | cons h' _ ih=>exact .cons h' ih
end
theorem znm {ys:List V} {ns:List Int} (h:ys.length=ns.length) (p:∀ j v,ys[j]?=some v->v=V.int (ns.getD j 0)):ys=ns.map V.int:=by
 apply ybz
 intro j
 rw[yaj]
 by_cases hj:j<ys.length
 ·have e:=yaa (l:=ys) hj
  rw[e,p j _ e,yaa (by omega:j<ns.length)]
  simp[show j<ns.length by omega]
 ·rw[yas (by omega),yas (by omega)]
  rfl
end L2
namespace L2
open PySem PySem.Spec PyProof.Rows
structure ziv (J:It) (H:Hp) (xs:List V):Prop where
 go:∀ i H',Same H H'->i<xs.length->J.go i H'
 yld:∀ i H' x H2,Same H H'->J.yld i H' x H2->H2=H'/\xs[i]?=some x
 stop:∀ i H',Same H H'->xs.length<=i->J.stop i H'
theorem zay {K:W.Frag} {H:Hp} {a:Addr} {xs:List V} (h:SqL K H a xs):ziv (Itl K a) H xs :=
 ⟨fun i H' s hi=>⟨xs,_,s.seq h,yaa hi⟩,fun i H' x H2 s y=>⟨y.1,y.2 xs (s.seq h)⟩,fun i H' s hi=>⟨xs,s.seq h,hi⟩⟩
theorem zuo {J:It} {ix:List Nat} {te:TE} {σ:St} {l:Addr} {xs:List V} {H:Hp} {R:Hp->Prop} (Y:ziv J H xs) (hl:H l=none) (hz:xs.length<=sizeLine) (P:Nat->V->Hp->Prop)
  (mono:∀ i v H1 H2,Same H1 H2->P i v H1->P i v H2) (put:∀ i v H1 ys zs,H1 l=some (.lst ys)->P i v H1->P i v (upd H1 l (.lst zs)))
  (hel:∀ i x H' Q',xs[i]?=some x->Same H H'->(∀ v H2,Same H' H2->P i v H2->Q' v H2)->te (some x::capts σ ix) H' Q')
  (fin:∀ ys H',Same H H'->H' l=some (.lst ys)->ys.length=xs.length->(∀ j v,ys[j]?=some v->P j v H')->R H') :
  ∃ W:Nat->Nat->List V->Hp->Prop,(∃ m,W 0 m [] (upd H l (.lst [])))/\Turns ix te σ J l R W:=by
 refine ⟨fun i m ys H'=>m=xs.length-i/\i<=xs.length/\ys.length=i/\(∀ j v,ys[j]?=some v->P j v H')/\Same H H'/\H' l=some (.lst ys),⟨xs.length,by simp,ycy _,rfl,(fun j v e=>by simp at e),ze hl _,zg⟩,?_⟩
 rintro i m ys H' ⟨rfl,hi,hx,hp,sH,hL⟩
 refine ⟨hL,?_⟩
 by_cases hlt:i<xs.length
 ·refine .inr ⟨Y.go i H' sH hlt,by omega,fun x H2 y=>?_⟩
  obtain ⟨rfl,e2⟩:=Y.yld i H' x H2 sH y
  refine hel i x _ _ e2 sH fun v H3 s3 hv=>⟨s3 _ _ hL,xs.length-(i+1),by omega,rfl,hlt,by rw[yag,hx];rfl,fun j w e=>?_,zE (sH.trans s3) hl,zg⟩
  by_cases hj:j<ys.length
  ·rw[ybt hj] at e
   exact put _ _ _ _ _ (s3 _ _ hL) (mono _ _ _ _ s3 (hp j w e))
  ·by_cases hj2:j=ys.length
   ·subst hj2
    rw[ybj (ycu _),ydi] at e
    cases e
    rw[hx]
    exact put _ _ _ _ _ (s3 _ _ hL) hv
   ·rw[yas (by rw[yag,yau];omega)] at e
    cases e
 ·exact .inl ⟨Y.stop i H' sH (by omega),fin ys H' sH hL (by omega) hp⟩
theorem zkZ (n d k:Nat):HT.sIx n d (some (k:Int))=min k n:=by
 show (if (k:Int)<0 then ((k:Int)+(n:Int)).toNat else min (k:Int).toNat n)=min k n
 rw[if_neg (by omega)]
 rfl
theorem zkM (xs:List V) (k:Nat):zdv xs (some (k:Int)) none=xs.drop k:=by
 unfold zdv
 rw[zkZ,show HT.sIx xs.length xs.length none=xs.length from rfl]
 by_cases h:k<=xs.length
 ·rw[Nat.min_eq_left h,yav (by rw[ybv];exact ycu _)]
 ·rw[Nat.min_eq_right (by omega),List.drop_of_length_le (ycu _),List.drop_of_length_le (by omega),List.take_nil]
theorem zuQ (xs:List V) (k:Nat):zdv xs none (some (k:Int))=xs.take k:=by
 unfold zdv
 rw[zkZ,show HT.sIx xs.length 0 none=0 from rfl,List.drop_zero,Nat.sub_zero]
 by_cases h:k<=xs.length
 ·rw[Nat.min_eq_left h]
 ·rw[Nat.min_eq_right (by omega),yav (ycu _),yav (by omega)]
theorem zm5 {K:W.Frag} {H:Hp}:∀ {ys:List V} {l:List (Int × Int)},ys.length=l.length->(∀ (j:Nat) v s,ys[j]?=some v->l[j]?=some s->∃ p,v=.ref p/\H p=some (.tup [.int s.1,.int s.2]))->zA K H ys l
 | [],[],_,_=>.nil
 | y::ys,s::l,e,h=>by
  obtain ⟨p,rfl,hp⟩:=h 0 y s rfl rfl
  exact .cons hp (zm5 (by simpa using e) fun j v u h1 h2=>h (j+1) v u h1 h2)
 | [],_::_,e,_=>by simp at e
 | _::_,[],e,_=>by simp at e
end L2
namespace L2
open PySem
end L2
namespace L2
open PySem PySem.Spec PyProof.Rows
section
variable {X:Cx} {pins:List (Addr × Obj)} {σ:St} {H:Hp} {s:Shared} {sc:Scope} {x:Str} {ix:List Nat} {fp:List Addr} {elt iter c:Expr} {te:TE} {tt:TT} {wi:TI} {px pos:Pos}
theorem zs1 {y:Str} {i:Nat} {py spos:Pos} (hN:X.N.Nodup) (hiy:X.N[i]?=some y) (hy:X.env.scope.names.lookup y=some .local) (O:zfs X sc x ix) (hi:PI X (.Name x px) iter wi) (htt:∀ b,PT (X.block sc x ix b) c tt) (hel:∀ b,PE (X.block sc x ix b) elt te)
  (hc:X.calm=true:=by rfl) (hs:∀ v,foldedSetIterable iter X.env v=pure v:=by intro _;rfl) (hsw:swapsWith (.ListComp elt [⟨.Name x px,iter,[c],0⟩] sc pos) (some (.Name y py)) spos.line X.env=pure true:=by rfl) :
  PS X (.Assign [.Name y py] (.ListComp elt [⟨.Name x px,iter,[c],0⟩] sc pos) spos) (zo7 (zrq ix wi tt te) (zcz i)):=by
 intro pins s σ H D I h
 rw[exec_Assign_Name_used _ _ _ _ hsw]
 refine wpAny_bind (wpAny_standAt (wpAny_bind ?_))
 show wpAny _ X.A (do let _ <-comprehension (.ListComp elt [⟨.Name x px,iter,[c],0⟩] sc pos) sc X.env _ (newList []) false (eval iter X.env) (some (assign (.Name y py) X.env))) _ _ s
 refine wpAny_bind (wpAny_mono (wpAny_comprehension_free (use:=some (assign (.Name y py) X.env)) (Q:=fun _ s'=>SP X pins D .next s') rfl hs O.clos O.kind O.names
  (thn (hi pins s σ H _ I h) fun xv s1 h1=>thn h1 fun itv s2 h2=>?_)) (fun _ s' hq=>wpAny_pure (wpAny_pure hq)) fun _ _ e=>e)
 obtain ⟨it,fp,tn,J,H2,e,I2,T,st2,f2,hq⟩:=h2
 subst e
 refine zli O htt hel hc I2 T st2 f2 (fun l H'=>D.nx (σ.set i (some (.ref l))) H') hq ?_
 intro l C m s' H' I' hn hf r
 obtain ⟨o,es,ep,ho,hd,hr⟩:=id hn
 have Ip:=I'.addpin ho hf.1 hf.2.1 hf.2.2.1 (by intro v z;rw[hd] at z;cases z)
 refine thn ((zG (i:=i) hN hiy (Or.inl hy) (Or.inr hy):PG X (.Name y py) (zcz i)) _ s' σ H' (.ref l) (.ref l) (fun σ' H''=>σ'=σ.set i (some (.ref l))/\H''=H') Ip rfl ⟨rfl,rfl⟩) fun _ s'' ⟨σ'',H'',I'',e1,e2⟩=>?_
 subst e1 e2
 have pc:=(I''.pin (C,o) (yah _ (yah _ yan))).1
 refine ⟨m,⟨o,es,ep,pc,hd,hr⟩,fun h' hb=>⟨_,_,?_,r⟩⟩
 exact I''.unpinned.turned (t':=s''.toks) (fun b o hne e=>hb.extBut b o hne e) hf.1 hf.2.1 hf.2.2.2.1 hf.2.2.2.2.1 hf.2.2.2.2.2
end
end L2
namespace L2
open PySem PySem.Spec PyProof.Rows
structure Mk0 (K:W.Frag) (C:Addr):Prop where
 makes:PySem.W.makesIn K C=true
 init:PySem.W.findIn K (.ref C) "__init__" = some (some (.builtin "object.__init__"))
 kp:PySem.W.keepIn K (.ref C)=true
def zwZ (C:Addr):TE:=fun _ H Q=>∀ x dx,H x=none->H dx=none->dx≠x->Q (.ref x) (upd (upd H dx (.own x)) x (.ins C dx []))
section
variable {X:Cx} {C:Addr} {x m:Str} {p pos apos:Pos} {e o:Expr} {es:List Expr} {ta:TE} {t:TA} {j k:Nat} {ps:List Str}
theorem zkP (M:Mk0 X.K C) (hm:X.mg x=some (.ref C)) (hg:Gl X x:=by rfl) (hdb:(x == ("__debug__" : Str))=false:=by decide):PE X (.Call (.Name x p) [] [] pos) (zwZ C):=by
 intro pins s σ H Q I h
 refine wpAny_Call_Name_kw (zkQ I hg hm ?_ hdb)
 refine PySem.W.callWith_K0 I.kIn M.kp ?_
 have hq:=h (s.heap.objs.size+1) s.heap.objs.size (I.hok.fresh (yde _)) (I.hok.fresh (ycu _)) (ycv (ydb _))
 have I2:=Inv.made (C:=C) I
 have Y:=PySem.W.makes_of (M:=model X.prog X.w) I.kIn M.makes
 have e2:((s.heap.push PySem.W.emptyDict).push (PySem.W.instObj C s.heap.objs.size)).get? (s.heap.objs.size+1)=some (PySem.W.instObj C s.heap.objs.size):=by
  have:=ydl (s.heap.push PySem.W.emptyDict) (o:=PySem.W.instObj C s.heap.objs.size) rfl
  rwa [ydn] at this
 refine wpAny_call (zsD I.kIn M.makes M.init (fun self=>PySem.W.Looks.of_pure (PySem.W.oi_bind self)) ?_)
 have t1:PySem.W.Looks (model X.prog X.w) ((s.heap.push PySem.W.emptyDict).push (PySem.W.instObj C s.heap.objs.size)) (typeOf (.ref (s.heap.objs.size+1))) (.ref C):=(PySem.W.Looks.ld e2).andThen .now
 have t2:PySem.W.Looks (model X.prog X.w) ((s.heap.push PySem.W.emptyDict).push (PySem.W.instObj C s.heap.objs.size)) (isInstance (.ref (s.heap.objs.size+1)) (.type "object")) true:=t1.andThen (Y.top.keeps fun b o e=>ydj _ (ydj _ e))
 refine codeAny_call_builtin PySem.W.oi_plain PySem.W.entry_oi (@PySem.W.check_slot (model X.prog X.w) _ _ _ "object.__init__" "object" "__init__" (.ref (s.heap.objs.size+1)) [] [] _ PySem.W.oi_kind PySem.W.oi_split t2 (PySem.W.oi_args (.ref (s.heap.objs.size+1))) ?_)
 rw[PySem.W.oi_run]
 exact wpAny_pure (And.intro rfl ⟨V.ref (s.heap.objs.size+1),_,I2,rfl,hq⟩)
inductive Kd where
 | plain | bank | thirty | exact
noncomputable def Kd.cls:Kd->Str
 | .plain => "Count"
 | .bank => "Bank"
 | .thirty => "Thirty"
 | .exact => "Exact"
def zcb (K:W.Frag) (H:Hp) (a:Addr) (kd:Kd):Prop:=∃ dx,H a=some (.ins (cA K kd.cls) dx [])
theorem zcb.same {K:W.Frag} {H H':Hp} {a:Addr} {kd:Kd} (h:zcb K H a kd) (s:Same H H'):zcb K H' a kd:=let ⟨dx,e⟩:=h;⟨dx,s _ _ e⟩
structure zr (K:W.Frag) (C:Addr) (m qual:Str) (st:Stmt) (ps:List Str):Prop where
 ex:∃ (f:Addr) (fd:FuncData),Fun K m qual st f fd/\Meth K C m f/\∀ us:List Value,us.length=ps.length->bindArgs fd ⟨us,[]⟩=pure (ps.zip us)
structure zv (P:Program) (w:World) (K:W.Frag) (mg:Str->Option Value) (base:Heap) (k:Nat) (C:Addr) (m:Str) (ps:List Str) (sp:Sp):Prop where
 ex:∃ (f:Addr) (fd:FuncData),zcm P w K mg base CX0 k f fd ps sp/\Meth K C m f/\∀ us:List Value,us.length=ps.length->bindArgs fd ⟨us,[]⟩=pure (ps.zip us)
theorem zr.ok {P:Program} {w:World} {K:W.Frag} {mg:Str->Option Value} {base:Heap} {C:Addr} {m qual:Str} {st:Stmt} {N ps:List Str} {k:Nat} {sp:Sp} (S:zr K C m qual st ps) (sc:zk N ps (zi st)) (len:∀ vs H Q E,sp vs H Q E->vs.length=ps.length)
  (hbody:∀ (f:Addr) (cdv:Value) (A:Around) (outer:List Env) (s:Shared) (H:Hp) (vs:List V) (Q:VK) (E:XK),Room k (A.deeper (envOfC qual (zi st) s.heap.objs.size f cdv))->sp vs H Q E ->
   ∃ t,PSs (zgZ CX0 P w K mg base N qual (zi st) f cdv A outer s H E).nox (zaT st) t/\t { nx:=fun _ H'=>Q .non H',rt:=Q } (start N vs) H):zv P w K mg base (k+1) C m ps sp:=by
 obtain ⟨f,fd,F,hm,hb⟩:=S.ex
 exact ⟨f,fd,F.ok sc len (fun cdv=>hbody f cdv),hm,hb⟩
theorem zr.okF {P:Program} {w:World} {K:W.Frag} {mg:Str->Option Value} {base:Heap} {C:Addr} {m qual:Str} {st:Stmt} {N ps:List Str} {k:Nat} {sp:Sp} (S:zr K C m qual st ps) (sc:zk N ps (zi st)) (len:∀ vs H Q E,sp vs H Q E->vs.length=ps.length)
  (hbody:∀ (f:Addr) (cdv:Value) (A:Around) (outer:List Env) (s:Shared) (H:Hp) (vs:List V) (Q:VK) (E:XK),Room k (A.deeper (envOfC qual (zi st) s.heap.objs.size f cdv))->sp vs H Q E ->
   ∃ t,PSs (zgZ CX0 P w K mg base N qual (zi st) f cdv A outer s H E).nox (zaT st) t/\t { nx:=fun _ H'=>Same H H'/\Q .non H,rt:=fun v H'=>Same H H'/\Q v H } (start N vs) H):zv P w K mg base (k+1) C m ps sp:=by
 obtain ⟨f,fd,F,hm,hb⟩:=S.ex
 have G:zcm P w K mg base CX0 (k+1) f fd ps (fun vs H R E=>∃ Q,sp vs H Q E/\R=fun v H'=>Same H H'/\Q v H) :=
  F.ok sc (fun vs H R E ⟨Q,h,_⟩=>len vs H Q E h) fun cdv A outer s H vs R E hr ⟨Q,h,e⟩=>by
   subst e
   exact hbody f cdv A outer s H vs Q E hr h
 exact ⟨f,fd,G.forget fun vs H Q E h=>⟨Q,h,rfl⟩,hm,hb⟩
def ztq (K:W.Frag) (sp:Kd->Sp) (ta:TE) (t:TA):TE:=fun σ H Q=>ta σ H fun x H1=>∃ (kd:Kd) (a:Addr),x=.ref a/\zcb K H1 a kd/\t σ H1 fun vs H2=>sp kd (x::vs) H2 Q E0
theorem zlE {pl:Sem Bool} {sp:Kd->Sp} (D:∀ kd:Kd,zv X.prog X.w X.K X.mg X.base j (cA X.K kd.cls) m ps (sp kd)) (hc:∀ kd:Kd,Cls X.K (cA X.K kd.cls)) (hr:Room k X.A) (he:PE X o ta) (ha:PA X (e::es) t) (hj:j<=k:=by decide)
  (hst:starEach (e::es) X.env=(false,eval e X.env)::starEach es X.env:=by rfl) (hpl:(backTo pos (starEach es X.env)).any (·.1)=false:=by rfl)
  (ht:eval (.Call (.Attribute o m apos) (e::es) [] pos) X.env=(do
   let ov <-eval o X.env
   standAt apos.atName
   let (f,first) <-holding [ov] (getMethod ov m pl)
   callWith pos f first (backTo pos (starEach (e::es) X.env)) (backToKw pos (keywordEach [] X.env))):=by rfl) :
  PE X (.Call (.Attribute o m apos) (e::es) [] pos) (ztq X.K sp ta t):=by
 intro pins s σ H Q I h
 refine PySem.W.methodCall_KW (pl:=pl) (thn (he pins s σ H _ I h) fun u s1 ⟨x,H1,I1,rx,kd,a,ex,⟨dx,ea⟩,q⟩=>?_) ht
 subst ex
 obtain rfl:u=Value.ref a:=rx
 obtain ⟨f,fd,F,hm,hb⟩:=(D kd).ex
 refine zdE I1 ea (hc kd) hm rfl ?_
 refine PySem.W.callWith_K (first:=[.ref a]) (h₀:=X.base) I.ok.mod.kin hm.kp (thn (ha pos pins s1 σ H1 _ I1 q) fun us s2 ⟨vs,H2,I2,r,q2⟩=>⟨I2.kIn,?_⟩) hst hpl
 exact zgt (us:=.ref a::us) (vs:=.ref a::vs) (dvs:=[]) (ds:=[]) F (hr.mono hj) (.all hb) .nil zhh I2 (.cons rfl r) (by rw[yco];exact q2)
theorem zjZ {pl:Sem Bool} {sp:Kd->Sp} (D:∀ kd:Kd,zv X.prog X.w X.K X.mg X.base j (cA X.K kd.cls) m ps (sp kd)) (hc:∀ kd:Kd,Cls X.K (cA X.K kd.cls)) (hr:Room k X.A) (he:PE X o ta) (hj:j<=k:=by decide)
  (ht:eval (.Call (.Attribute o m apos) [] [] pos) X.env=(do
   let ov <-eval o X.env
   standAt apos.atName
   let (f,first) <-holding [ov] (getMethod ov m pl)
   callWith pos f first (backTo pos (starEach [] X.env)) (backToKw pos (keywordEach [] X.env))):=by rfl) :
  PE X (.Call (.Attribute o m apos) [] [] pos) (ztq X.K sp ta znn):=by
 intro pins s σ H Q I h
 refine PySem.W.methodCall_KW (pl:=pl) (thn (he pins s σ H _ I h) fun u s1 ⟨x,H1,I1,rx,kd,a,ex,⟨dx,ea⟩,q⟩=>?_) ht
 subst ex
 obtain rfl:u=Value.ref a:=rx
 obtain ⟨f,fd,F,hm,hb⟩:=(D kd).ex
 refine zdE I1 ea (hc kd) hm rfl ?_
 exact PySem.W.callWith_K0 (first:=[.ref a]) I1.kIn hm.kp (zgt (us:=[.ref a]) (vs:=[.ref a]) (dvs:=[]) (ds:=[]) F (hr.mono hj) (.all hb) .nil zhh I1 (.cons rfl .nil) q)
end
section
variable {K:W.Frag} {x:Str} {C f:Addr}
theorem zbi (a:PySem.W.nsIn K mainGlobals x=some (some (.ref C))) (h1:PySem.W.plainGet K C Str.empty=true) (h2:PySem.W.hasDictIn K C=true) (h3:PySem.W.plainOver K C=true) (h4:PySem.W.findIn K (.ref C) "__setattr__" = some (some (.builtin "object.__setattr__"))):Cls K (cA K x):=by
 rw[zdF a];exact ⟨h1,h2,h3,h4⟩
theorem zmd (a:PySem.W.nsIn K mainGlobals x=some (some (.ref C))) (h1:PySem.W.makesIn K C=true) (h2:PySem.W.findIn K (.ref C) "__init__" = some (some (.builtin "object.__init__"))) (h3:PySem.W.keepIn K (.ref C)=true):Mk0 K (cA K x):=by
 rw[zdF a];exact ⟨h1,h2,h3⟩
theorem zx {m qual:Str} {st:Stmt} {ps:List Str} {oc:Value} {od an:Option Addr} {osl:Array (Option Value)} {kV doc pm cdv ct:Value} (a:PySem.W.nsIn K mainGlobals x=some (some (.ref C))) (hi:PySem.W.findIn K (.ref C) m=some (some (.ref f))) (hf:PySem.W.isFn K (.ref f)=true)
  (fk:PySem.W.keepIn K (.ref f)=true) (fl:K.lookup f=some ⟨oc,od,.func (PySem.W.fnOf m qual (zcI st) (zaT st) (zi st) .none kV doc pm an cdv ct),osl⟩) (fc:PySem.W.codeIn K cdv qual=true)
  (hb:∀ us:List Value,us.length=ps.length->bindArgs (PySem.W.fnOf m qual (zcI st) (zaT st) (zi st) .none kV doc pm an cdv ct) ⟨us,[]⟩=pure (ps.zip us)):zr K (cA K x) m qual st ps:=by
 rw[zdF a];exact ⟨f,_,zoW fl fc fk,⟨hi,hf,fk⟩,hb⟩
end
end L2
namespace L2
open PySem
end L2
namespace L2
theorem zvs {α:Type} {xs:List α} {v:α} (h:xs[xs.length-1]?=some v) (h0:0<xs.length):atI xs (-1)=some v:=by
 have e:ixN xs.length (-1)=some (xs.length-1):=by
  unfold ixN
  rw[if_neg (by decide),if_pos (by omega),show ((-1:Int)+(xs.length:Int)).toNat=xs.length-1 by omega]
 unfold atI
 rw[e]
 exact h
end L2
namespace L2
open PySem PySem.Spec PyProof.Rows
end L2
namespace L2
open PySem PySem.Spec PyProof.Rows
section
variable {X:Cx} {pins:List (Addr × Obj)} {σ:St} {H:Hp} {s:Shared} {sc:Scope} {x y0:Str} {ix:List Nat} {fp:List Addr}
end
section
variable {X:Cx} {pins:List (Addr × Obj)} {σ:St} {H:Hp} {s:Shared} {sc:Scope} {x y0:Str} {ix:List Nat} {fp:List Addr} {elt iter:Expr} {te:TE} {wi:TI} {px py0 pt0 pos:Pos} {kt0:Nat}
end
end L2
namespace SortT
open PySem PySem.W PyProof.Rows
noncomputable def okT {α:Type} (n:Nat) (lt:Nat->Nat->Bool):KasT α->(α->Prop)->Prop
 | .ret a,Q=>Q a
 | .ask i j k,Q=>(i<n/\j<n)/\okT n lt (k (lt i j)) Q
theorem zo5 {α:Type} {n:Nat} {lt:Nat->Nat->Bool} {Q Q':α->Prop} (h:∀ a,Q a->Q' a):∀ (t:KasT α),okT n lt t Q->okT n lt t Q'
 | .ret a,q=>h a q
 | .ask i j k,q=>⟨q.1,zo5 h _ q.2⟩
theorem zeu {α β:Type} {n:Nat} {lt:Nat->Nat->Bool} {f:α->KasT β} {Q:β->Prop}:∀ (t:KasT α),okT n lt t (fun a=>okT n lt (f a) Q)->okT n lt (t.bind f) Q
 | .ret a,q=>q
 | .ask i j k,q=>⟨q.1,zeu _ q.2⟩
theorem ztc {α:Type} {n:Nat} {lt:Nat->Nat->Bool} {s:Shared} {cmp:Nat->Nat->(Bool->Shared->Prop)->Shared->Prop} (hc:∀ i j C,i<n->j<n->C (lt i j) s->cmp i j C s) {Q:α->Prop} {R:α->Shared->Prop} (hR:∀ a,Q a->R a s):∀ (t:KasT α),okT n lt t Q->t.kasWp cmp R s
 | .ret a,q=>hR a q
 | .ask i j k,q=>hc i j _ q.1.1 q.1.2 (ztc hc hR _ q.2)
structure Ord (lt:Nat->Nat->Bool):Prop where
 irr:∀ i,lt i i=false
 asy:∀ i j,lt i j=true->lt j i=false
 neg:∀ i j k,lt i j=false->lt j k=false->lt i k=false
variable {N:Nat} {lt:Nat->Nat->Bool}
def In (N:Nat) (p:Array Nat):Prop:=p.size=N/\∀ i,i<N->p.getD i 0<N
def Up (lt:Nat->Nat->Bool) (p:Array Nat) (k:Nat):Prop:=∀ i j,i<=j->j<k->lt (p.getD j 0) (p.getD i 0)=false
def Dn (lt:Nat->Nat->Bool) (p:Array Nat) (k:Nat):Prop:=∀ i j,i<=j->j<k->lt (p.getD i 0) (p.getD j 0)=false
theorem ziE {p q:Array Nat} {i j:Nat} (h:p[i]?=q[j]?):p.getD i 0=q.getD j 0:=by
 rw[ydx,ydx,h]
theorem zco {p:Array Nat} {i j k:Nat} (hj:j<=p.size):(kas_rev p i j).getD k 0=if i<=k/\k<j then p.getD (i+j-1-k) 0 else p.getD k 0:=by
 have e:=getElem?_mirror_all (xs:=p) (i:=i) hj k
 unfold kas_rev
 by_cases c:i<=k/\k<j
 ·rw[if_pos c] at e ⊢;exact ziE e
 ·rw[if_neg c] at e ⊢;exact ziE e
theorem zj5 {p:Array Nat} {i j:Nat} (h:In N p) (hj:j<=N):In N (kas_rev p i j):=by
 refine ⟨by rw[kas_rev_size];exact h.1,fun k hk=>?_⟩
 rw[zco (by rw[h.1];exact hj)]
 split
 ·exact h.2 _ (by omega)
 ·exact h.2 k hk
theorem Up.one {p:Array Nat} (O:Ord lt):Up lt p 1:=fun i j h1 h2=>by
 have:i=j:=by omega
 subst this
 exact O.irr _
theorem Up.next {p:Array Nat} {n:Nat} (O:Ord lt) (h:Up lt p n) (h1:1<=n) (c:lt (p.getD n 0) (p.getD (n-1) 0)=false):Up lt p (n+1):=fun i j h2 h3=>by
 by_cases e:j=n
 ·subst e
  by_cases e2:i=j
  ·subst e2;exact O.irr _
  ·exact O.neg _ _ _ c (h i (j-1) (by omega) (by omega))
 ·exact h i j h2 (by omega)
theorem zo9 (O:Ord lt) {p:Array Nat} (hp:In N p) {Q:Nat->Prop}:∀ (f n:Nat),1<=n->n+f<=N->Up lt p n->(∀ m,n<=m->m<=n+f->Up lt p m->(m=n+f\/lt (p.getD m 0) (p.getD (m-1) 0)=true)->Q m)->okT N lt (kas_asc p f n) Q
 | 0,n,h1,h2,up,hQ=>hQ n (ycu _) (ycu _) up (.inl rfl)
 | f+1,n,h1,h2,up,hQ=>by
  refine ⟨⟨hp.2 n (by omega),hp.2 (n-1) (by omega)⟩,?_⟩
  cases c:lt (p.getD n 0) (p.getD (n-1) 0) with
  | true=>exact hQ n (ycu _) (by omega) up (.inr c)
  | false=>exact zo9 O hp f (n+1) (by omega) (by omega) (up.next O h1 c) fun m a b u z=>hQ m (by omega) (by omega) u (by rcases z with z | z;exact .inl (by omega);exact .inr z)
theorem zjc (p:Array Nat) (i j:Nat):(kas_rev p i j).Perm p:=mirror_perm _ _ _ _
structure Des (lt:Nat->Nat->Bool) (p:Array Nat) (n q:Nat):Prop where
 hq:q+1<=n
 dn:Dn lt p n
 al:∀ i,n<=i+(q+1)->i<n->lt (p.getD i 0) (p.getD (n-1) 0)=false/\lt (p.getD (n-1) 0) (p.getD i 0)=false
theorem Des.alike {p:Array Nat} {n q:Nat} (O:Ord lt) (D:Des lt p n q) {i j:Nat} (h1:n<=i+(q+1)) (h2:i<n) (h3:n<=j+(q+1)) (h4:j<n):lt (p.getD i 0) (p.getD j 0)=false:=O.neg _ _ _ (D.al i h1 h2).1 (D.al j h3 h4).2
theorem Des.turn {p:Array Nat} {n q:Nat} (O:Ord lt) (D:Des lt p n q) (hn:n<=p.size):Dn lt (kas_rev p (n-(q+1)) n) n:=fun i j h1 h2=>by
 have:=D.hq
 rw[zco hn,zco hn]
 by_cases ci:n-(q+1)<=i/\i<n
 ·rw[if_pos ci,if_pos (show n-(q+1)<=j/\j<n by omega)]
  exact D.alike O (by omega) (by omega) (by omega) (by omega)
 ·rw[if_neg ci]
  by_cases cj:n-(q+1)<=j/\j<n
  ·rw[if_pos cj]
   exact D.dn _ _ (by omega) (by omega)
  ·rw[if_neg cj]
   exact D.dn i j h1 h2
theorem Des.fall {p:Array Nat} {n:Nat} (O:Ord lt) (dn:Dn lt p n) (h1:1<=n) (c:lt (p.getD (n-1) 0) (p.getD n 0)=false):Dn lt p (n+1):=fun i j h2 h3=>by
 by_cases e:j=n
 ·subst e
  by_cases e2:i=j
  ·subst e2;exact O.irr _
  ·exact O.neg _ _ _ (dn i (j-1) (by omega) (by omega)) c
 ·exact dn i j h2 (by omega)
theorem zk5 (O:Ord lt) {Q:Array Nat × Nat × Nat->Prop}:∀ (f:Nat) (p:Array Nat) (n q:Nat),In N p->n+f<=N->Des lt p n q->(∀ p' n' q',In N p'->p'.Perm p->n<=n'->n'<=n+f->Des lt p' n' q'->Q (p',n',q'))->okT N lt (kas_desc f p n q) Q
 | 0,p,n,q,hp,hn,D,hQ=>hQ p n q hp (Array.Perm.refl _) (ycu _) (ycu _) D
 | f+1,p,n,q,hp,hn,D,hQ=>by
  have hq:=D.hq
  refine ⟨⟨hp.2 n (by omega),hp.2 (n-1) (by omega)⟩,?_⟩
  cases c:lt (p.getD n 0) (p.getD (n-1) 0) with
  | true =>
   have c':=O.asy _ _ c
   show okT N lt (if q > 0 then _ else _) Q
   by_cases q0:q > 0
   ·rw[if_pos q0]
    have hs:n<=p.size:=by rw[hp.1];omega
    have dn:Dn lt (kas_rev p (n-(q+1)) n) (n+1):=by
     refine Des.fall O (D.turn O hs) (by omega) ?_
     rw[zco hs,zco hs,if_pos (by omega),if_neg (by omega)]
     exact O.neg _ _ _ (D.alike O (by omega) (by omega) (by omega) (by omega)) c'
    refine zk5 O f _ (n+1) 0 (zj5 hp (by omega)) (by omega) ⟨by omega,dn,fun i a b=>?_⟩ fun p' n' q' a b c d e=>hQ p' n' q' a (b.trans (zjc _ _ _)) (by omega) (by omega) e
    have:i=n:=by omega
    subst this
    exact ⟨O.irr _,O.irr _⟩
   ·rw[if_neg q0]
    refine zk5 O f _ (n+1) 0 hp (by omega) ⟨by omega,Des.fall O D.dn (by omega) c',fun i a b=>?_⟩ fun p' n' q' a b c d e=>hQ p' n' q' a b (by omega) (by omega) e
    have:i=n:=by omega
    subst this
    exact ⟨O.irr _,O.irr _⟩
  | false =>
   refine ⟨⟨hp.2 (n-1) (by omega),hp.2 n (by omega)⟩,?_⟩
   cases d:lt (p.getD (n-1) 0) (p.getD n 0) with
   | true=>exact hQ p n q hp (Array.Perm.refl _) (ycu _) (by omega) D
   | false =>
    refine zk5 O f _ (n+1) (q+1) hp (by omega) ⟨by omega,Des.fall O D.dn (by omega) d,fun i a b=>?_⟩ fun p' n' q' a b c d e=>hQ p' n' q' a b (by omega) (by omega) e
    show lt (p.getD i 0) (p.getD n 0)=false/\lt (p.getD n 0) (p.getD i 0)=false
    by_cases e:i=n
    ·subst e
     exact ⟨O.irr _,O.irr _⟩
    ·have al:=D.al i (by omega) (by omega)
     exact ⟨O.neg _ _ _ al.1 d,O.neg _ _ _ c al.2⟩
theorem Dn.up {p:Array Nat} {n:Nat} (dn:Dn lt p n) (hn:n<=p.size):Up lt (kas_rev p 0 n) n:=fun i j h1 h2=>by
 rw[zco hn,zco hn,if_pos (by omega),if_pos (by omega)]
 exact dn _ _ (by omega) (by omega)
abbrev Good (N:Nat) (lt:Nat->Nat->Bool) (p0:Array Nat) (r:Nat × Array Nat):Prop:=In N r.2/\r.2.Perm p0/\1<=r.1/\r.1<=N/\Up lt r.2 r.1
theorem zpN (O:Ord lt) {p p0:Array Nat} {n:Nat} (hp:In N p) (pe:p.Perm p0) (h1:1<=n) (hn:n<=N) (dn:Dn lt p n):okT N lt (kas_tail3 n N p) (Good N lt p0):=by
 have hs:n<=p.size:=by rw[hp.1];omega
 refine zeu _ (zo9 O (zj5 hp hn) (N-n) n h1 (by omega) (dn.up hs) fun m a b u _=>?_)
 exact ⟨zj5 hp hn,(zjc _ _ _).trans pe,by show 1<=m;omega,by show m<=N;omega,u⟩
theorem zlv (O:Ord lt) {p p0:Array Nat} {n:Nat} (hp:In N p) (pe:p.Perm p0) (h1:1<=n) (hn:n+1<=N) (dn:Dn lt p (n+1)):okT N lt (kas_descPart n N p) (Good N lt p0):=by
 refine zeu _ (zk5 O (N-(n+1)) p (n+1) 0 hp (by omega) ⟨by omega,dn,fun i a b=>?_⟩ fun p' n' q' a b c d D=>?_)
 ·have:i=n:=by omega
  subst this
  exact ⟨O.irr _,O.irr _⟩
 ·show okT N lt (if q' > 0 then kas_tail3 n' N (kas_rev p' (n'-(q'+1)) n') else kas_tail3 n' N p') _
  have hs:n'<=p'.size:=by rw[a.1];omega
  by_cases q0:q' > 0
  ·rw[if_pos q0]
   exact zpN O (zj5 a (by omega)) ((zjc _ _ _).trans (b.trans pe)) (by omega) (by omega) (D.turn O hs)
  ·rw[if_neg q0]
   exact zpN O a (b.trans pe) (by omega) (by omega) D.dn
theorem ztF (O:Ord lt) {p:Array Nat} (hp:In N p) (h1:1<=N):okT N lt (kas_count N p) (Good N lt p):=by
 refine zeu _ (zo9 O hp (N-1) 1 (ycu _) (by omega) (Up.one O) fun n a b u z=>?_)
 show okT N lt (if (n == N)=true then _ else _) _
 by_cases e:n=N
 ·rw[if_pos (by rw[e];exact beq_self_eq_true N)]
  exact ⟨hp,Array.Perm.refl _,by show 1<=n;omega,by show n<=N;omega,u⟩
 ·rw[if_neg (by rw[beq_iff_eq];exact e)]
  have c:lt (p.getD n 0) (p.getD (n-1) 0)=true:=by rcases z with z | z;omega;exact z
  have c':=O.asy _ _ c
  by_cases g:n > 1
  ·rw[if_pos g]
   refine ⟨⟨hp.2 0 (by omega),hp.2 (n-1) (by omega)⟩,?_⟩
   cases d:lt (p.getD 0 0) (p.getD (n-1) 0) with
   | true=>exact ⟨hp,Array.Perm.refl _,by show 1<=n;omega,by show n<=N;omega,u⟩
   | false =>
    have hs:n<=p.size:=by rw[hp.1];omega
    have al:∀ i j,i<n->j<n->lt (p.getD i 0) (p.getD j 0)=false:=fun i j hi hj=>O.neg _ _ _ (u 0 i (ycy _) hi) (O.neg _ _ _ d (u j (n-1) (by omega) (by omega)))
    refine zlv O (zj5 hp (by omega)) (zjc _ _ _) (by omega) (by omega) (Des.fall O (fun i j h2 h3=>?_) (by omega) ?_)
    ·rw[zco hs,zco hs,if_pos (by omega),if_pos (by omega)]
     exact al _ _ (by omega) (by omega)
    ·rw[zco hs,zco hs,if_pos (by omega),if_neg (by omega)]
     exact O.neg _ _ _ (al _ (n-1) (by omega) (by omega)) c'
  ·rw[if_neg g]
   have e1:n=1:=by omega
   subst e1
   refine zlv O hp (Array.Perm.refl _) (ycu _) (by omega) (Des.fall O (fun i j h2 h3=>?_) (ycu _) c')
   have:i=j:=by omega
   subst this
   exact O.irr _
theorem zlI (O:Ord lt) {p:Array Nat} (hp:In N p) {k:Nat} (hk:k<N) (u:Up lt p k) {Q:Nat->Prop}:∀ (f l r:Nat),l<=r->r<=k->r-l<=f->(∀ i,i<l->lt (p.getD k 0) (p.getD i 0)=false)->(∀ i,r<=i->i<k->lt (p.getD k 0) (p.getD i 0)=true) ->
  (∀ m,m<=k->(∀ i,i<m->lt (p.getD k 0) (p.getD i 0)=false)->(∀ i,m<=i->i<k->lt (p.getD k 0) (p.getD i 0)=true)->Q m)->okT N lt (kas_place p k f l r) Q
 | 0,l,r,h1,h2,h3,lo,hi,hQ=>hQ l (by omega) lo fun i a b=>hi i (by omega) b
 | f+1,l,r,h1,h2,h3,lo,hi,hQ=>by
  show okT N lt (if l>=r then _ else _) Q
  by_cases g:l>=r
  ·rw[if_pos g]
   exact hQ l (by omega) lo fun i a b=>hi i (by omega) b
  ·rw[if_neg g]
   refine ⟨⟨hp.2 k hk,hp.2 _ (by omega)⟩,?_⟩
   cases c:lt (p.getD k 0) (p.getD ((l+r) / 2) 0) with
   | true =>
    refine zlI O hp hk u f l ((l+r) / 2) (by omega) (by omega) (by omega) lo (fun i a b=>?_) hQ
    cases d:lt (p.getD k 0) (p.getD i 0) with
    | true=>rfl
    | false =>
     have:=O.neg _ _ _ d (u _ i a b)
     rw[c] at this
     cases this
   | false=>exact zlI O hp hk u f ((l+r) / 2+1) r (by omega) h2 (by omega) (fun i a=>O.neg _ _ _ c (u i _ (by omega) (by omega))) hi hQ
theorem zoY {p:Array Nat} {k l i:Nat} (hk:k<p.size) (hl:l<=k):(bubble p k (k-l)).getD i 0=if i=l then p.getD k 0 else if l<i/\i<=k then p.getD (i-1) 0 else p.getD i 0:=by
 have e:=getElem?_bubble hk (k-l) (by omega) i
 rw[show k-(k-l)=l by omega] at e
 by_cases c:i=l
 ·rw[if_pos c] at e ⊢;exact ziE e
 ·rw[if_neg c] at e ⊢
  by_cases c2:l<i/\i<=k
  ·rw[if_pos c2] at e ⊢;exact ziE e
  ·rw[if_neg c2] at e ⊢;exact ziE e
theorem zsB (O:Ord lt) {p0:Array Nat}:∀ (f:Nat) (p:Array Nat) (k:Nat),In N p->p.Perm p0->k+f=N->Up lt p k->okT N lt (kas_bin f p k) fun q=>In N q/\q.Perm p0/\Up lt q N
 | 0,p,k,hp,pe,e,u=>⟨hp,pe,by rw[<-e];exact u⟩
 | f+1,p,k,hp,pe,e,u=>by
  have hk:k<p.size:=by rw[hp.1];omega
  refine zeu _ (zlI O hp (by omega) u k 0 k (ycy _) (ycu _) (by omega) (fun i h=>absurd h (Nat.not_lt_zero _)) (fun i a b=>by omega) fun l hl lo hi=>?_)
  refine zsB O f _ (k+1) ⟨by rw[bubble_size];exact hp.1,fun i h=>?_⟩ ((bubble_perm _ _ _).trans pe) (by omega) fun i j h1 h2=>?_
  ·rw[zoY hk hl]
   by_cases c1:i=l
   ·rw[if_pos c1];exact hp.2 k (by omega)
   ·rw[if_neg c1]
    by_cases c2:l<i/\i<=k
    ·rw[if_pos c2];exact hp.2 _ (by omega)
    ·rw[if_neg c2];exact hp.2 i h
  ·rw[zoY hk hl,zoY hk hl]
   by_cases ei:i=l
   ·rw[if_pos ei]
    by_cases ej:j=l
    ·rw[if_pos ej];exact O.irr _
    ·rw[if_neg ej,if_pos (by omega)]
     exact O.asy _ _ (hi (j-1) (by omega) (by omega))
   ·rw[if_neg ei]
    by_cases ej:j=l
    ·rw[if_pos ej,if_neg (by omega)]
     exact lo i (by omega)
    ·rw[if_neg ej]
     by_cases ci:l<i/\i<=k
     ·rw[if_pos ci,if_pos (by omega)]
      exact u _ _ (by omega) (by omega)
     ·rw[if_neg ci]
      by_cases cj:l<j/\j<=k
      ·rw[if_pos cj]
       exact u _ _ (by omega) (by omega)
      ·rw[if_neg cj]
       exact u _ _ h1 (by omega)
theorem zvb (O:Ord lt) (h1:1<=N):okT N lt (kas_sort N) fun q=>In N q/\q.Perm (ybn (yax N))/\Up lt q N:=by
 have hp:In N (ybn (yax N)):=⟨by simp,fun i h=>by
  rw[ydx]
  simp[h]⟩
 refine zeu _ (zo5 (fun r g=>?_) _ (ztF O hp h1))
 obtain ⟨a,b,c,d,e⟩:=g
 show okT N lt (if r.1<N then _ else _) _
 by_cases h:r.1<N
 ·rw[if_pos h]
  exact zsB O _ _ _ a b (by omega) (by rw[Nat.max_eq_left c];exact e)
 ·rw[if_neg h]
  have:r.1=N:=by omega
  exact ⟨a,b,by rw[<-this];exact e⟩
end SortT
namespace SortT
open PySem PySem.W PyProof.Rows PySem.Calls
def zbq (h:Heap) (v:Value) (x:Int × Int):Prop:=∃ a o n t u,v=.ref a/\h.get? a=some o/\o.cls=.type "tuple" /\ o.data=.seq #[.int x.1 t,.int x.2 u] n
theorem zbq.keep {h h':Heap} {v:Value} {x:Int × Int} (p:zbq h v x) (k:∀ a o,v=.ref a->h.get? a=some o->h'.get? a=some o):zbq h' v x:=by
 obtain ⟨a,o,n,t,u,rfl,e,r⟩:=p
 exact ⟨a,o,n,t,u,rfl,k a o rfl e,r⟩
def lex (x y:Int × Int):Bool:=decide (x.1<y.1\/(x.1=y.1/\x.2<y.2))
section
variable {prog:Program} {w:World} {A:Around} {E:Value->Shared->Prop} {s:Shared}
theorem zu3 {v v':Value} {x y:Int × Int} (hv:zbq s.heap v x) (hw:zbq s.heap v' y) {Q:Bool->Shared->Prop} (h:Q (lex x y) s):wpAny (model prog w) A (keyLt' (tuples' true) v v') Q E s:=by
 obtain ⟨a,o,n,t,u,rfl,e,c,d⟩:=hv
 obtain ⟨a',o',n',t',u',rfl,e',c',d'⟩:=hw
 refine kat_lt e d e' d' ?_
 refine kat_cons (wpAny_eqBool_int ?_)
 by_cases c1:x.1=y.1
 ·rw[show (x.1 == y.1)=true from beq_iff_eq.mpr c1]
  refine kat_yes (kat_cons (wpAny_eqBool_int ?_))
  by_cases c2:x.2=y.2
  ·rw[show (x.2 == y.2)=true from beq_iff_eq.mpr c2]
   refine kat_yes (kat_nil ?_)
   have:lex x y=false:=decide_eq_false (by omega)
   rw[this] at h
   exact h
  ·rw[show (x.2 == y.2)=false from beq_eq_false_iff_ne.mpr c2]
   refine kat_no (kat_one _ _ (lt_int ?_))
   have:lex x y=decide (x.2<y.2):=decide_eq_decide.mpr (by omega)
   rw[this] at h
   exact h
 ·rw[show (x.1 == y.1)=false from beq_eq_false_iff_ne.mpr c1]
  refine kat_no (oneLt_int ?_)
  have:lex x y=decide (x.1<y.1):=decide_eq_decide.mpr (by omega)
  rw[this] at h
  exact h
theorem zrI (f:Nat->Int × Int):Ord fun i j=>lex (f i) (f j):=by
 refine ⟨fun i=>decide_eq_false (by omega),fun i j h=>?_,fun i j k h1 h2=>?_⟩
 ·have:=of_decide_eq_true h
  exact decide_eq_false (by omega)
 ·have a:=of_decide_eq_false h1
  have b:=of_decide_eq_false h2
  exact decide_eq_false (by omega)
theorem zll {a:Addr} {vs:List Value} {n:Nat} {P:PySem.Fin->Shared->Prop} {f:Nat->Int × Int} (ho:s.heap.get? a=some (seqObj "list" vs.toArray n)) (h64:vs.length<64) (hp:∀ i,i<vs.length->zbq s.heap (vs.getD i .none) (f i))
  (h:∀ p:Array Nat,In vs.length p->p.Perm (ybn (yax vs.length))->Up (fun i j=>lex (f i) (f j)) p vs.length->P (.done (.ret .none)) { s with heap:=sortedHeap s.heap a vs (ybn (p.toList.map fun i=>vs.getD i Value.none)) }) :
  wpAny (model prog w) A (Builtin.«list.sort» ⟨[.ref a],[]⟩) P E s:=by
 rw[list_sort_plain]
 have ha:a<s.heap.objs.size:=ydk ho
 refine wpAny_bind (listItems_at ho rfl ?_)
 refine wpAny_bind (listUpdate_at ho rfl ?_ (by rw[yal,sizeLine_eq];omega) (ycy _))
 obtain ⟨e1,ho1⟩:∃ e1,(s.heap.update a (Obj.mapSeq fun _=>#[])).get? a=some (seqObj "list" #[] e1):=⟨_,get?_update_seq ho (fun _=>#[])⟩
 refine wpAny_bind (seqEpoch_at ho1 rfl ?_)
 refine wpAny_bind (wpAny_newTuple ?_ (by show vs.length<=_;rw[sizeLine_eq];omega))
 refine wpAny_bind (wpAny_newList ?_ (ycy _))
 refine wpAny_holding ?_
 have ho6:(((s.heap.update a (Obj.mapSeq fun _=>#[])).push (seqObj "tuple" vs.toArray 0)).push (seqObj "list" #[] 0)).get? a=some (seqObj "list" #[] e1):=ydj _ (ydj _ ho1)
 show wpAny (model prog w) A _ P E { s with heap:=((s.heap.update a (Obj.mapSeq fun _=>#[])).push (seqObj "tuple" vs.toArray 0)).push (seqObj "list" #[] 0) }
 dsimp only
 have hsz:vs.toArray.size=vs.length:=by simp
 have outsz:∀ p:Array Nat,p.size=vs.length->(ybn (p.toList.map fun i=>vs.getD i Value.none)).size<=sizeLine:=fun p hp=>by
  rw[yal,yab,ydw,hp,sizeLine_eq];omega
 by_cases h2:vs.toArray.size<2
 ·rw[if_pos h2,if_pos h2]
  refine wpAny_bind (wpAny_pure ?_)
  rw[StateT.run_pure]
  refine wpAny_bind (wpAny_pure ?_)
  dsimp only
  have hin:In vs.length (ybn (yax vs.length)):=⟨by simp,fun i h=>by rw[ydx];simp[h]⟩
  have key:=h (ybn (yax vs.length)) hin (Array.Perm.refl _) (fun i j h1 h3=>by
   have:i=j:=by omega
   subst this
   exact (zrI f).irr _)
  have eo:(arrOf (SortSt.mk' general' (vs.toArray.zip vs.toArray) #[] 7 none)).map (·.2)=ybn ((ybn (yax vs.length)).toList.map fun i=>vs.getD i Value.none):=by
   refine kat_snds rfl ?_
   have e:=kas_range (vs.toArray.zip vs.toArray)
   rw[show (vs.toArray.zip vs.toArray).size=vs.length by simp] at e
   exact e.symm
  refine wpAny_bind (seqEpoch_at ho6 rfl ?_)
  refine wpAny_bind (listUpdate_at ho6 rfl ?_ (ycy _) (by rw[eo];exact Nat.le_succ_of_le (outsz _ hin.1)))
  simp only[bne_self_eq_false,Bool.false_eq_true,if_false]
  rw[eo]
  exact wpAny_pure key
 ·rw[if_neg h2,if_neg h2]
  have kp:∀ b o,b≠a->s.heap.get? b=some o->(((s.heap.update a (Obj.mapSeq fun _=>#[])).push (seqObj "tuple" vs.toArray 0)).push (seqObj "list" #[] 0)).get? b=some o:=fun b o nb e=>ydj _ (ydj _ (by rw[ydm _ _ _ _ nb];exact e))
  have hp':∀ i,i<vs.length->zbq (((s.heap.update a (Obj.mapSeq fun _=>#[])).push (seqObj "tuple" vs.toArray 0)).push (seqObj "list" #[] 0)) (vs.getD i .none) (f i):=fun i hi=>by
   obtain ⟨b,o,m,t,u,e,eo,c,d⟩:=hp i hi
   refine ⟨b,o,m,t,u,e,kp b o (fun z=>?_) eo,c,d⟩
   subst z
   rw[ho] at eo
   have eo':=Option.some.inj eo
   rw[<-eo'] at c
   exact absurd (show Value.type "list" = Value.type "tuple" from c) (by decide)
  have tups:∀ (ws:List Value) (g:Nat->Int × Int),(∀ i,i<ws.length->zbq (((s.heap.update a (Obj.mapSeq fun _=>#[])).push (seqObj "tuple" vs.toArray 0)).push (seqObj "list" #[] 0)) (ws.getD i .none) (g i))->∃ fs,KatTups (((s.heap.update a (Obj.mapSeq fun _=>#[])).push (seqObj "tuple" vs.toArray 0)).push (seqObj "list" #[] 0)) ws fs/\fs.length=ws.length/\∀ v∈fs,∃ m t,v=.int m t:=by
   intro ws
   induction ws with
   | nil=>intro g _;exact ⟨[],KatTups.nil,rfl,fun v hv=>by cases hv⟩
   | cons v ws ih =>
    intro g hg
    obtain ⟨fs,k1,k2,k3⟩:=ih (fun i=>g (i+1)) fun i hi=>hg (i+1) (by simp;omega)
    obtain ⟨b,o,m,t,u,e,eo,c,d⟩:=hg 0 (by simp)
    have e':v=.ref b:=e
    subst e'
    exact ⟨.int (g 0).1 t::fs,KatTups.cons eo c d rfl k1,by simp[k2],fun v hv=>by
     rcases yak.mp hv with rfl | hv
     ·exact ⟨_,_,rfl⟩
     ·exact k3 v hv⟩
  obtain ⟨fs,k1,k2,k3⟩:=tups vs f hp'
  refine wpAny_bind (kat_kind (T:=.type "int") k1 (by omega) (fun v hv=>?_) (by decide) ?_)
  ·obtain ⟨m,t,rfl⟩:=k3 v hv
   exact Looks.now
  have ask:(kas_sort vs.length).kasWp (kas_ask prog w A (tuples' (Value.type "int" != Value.type "tuple")) vs) (fun p s''=>(In vs.length p/\p.Perm (ybn (yax vs.length))/\Up (fun i j=>lex (f i) (f j)) p vs.length)/\s''={ s with heap:=((s.heap.update a (Obj.mapSeq fun _=>#[])).push (seqObj "tuple" vs.toArray 0)).push (seqObj "list" #[] 0) }) { s with heap:=((s.heap.update a (Obj.mapSeq fun _=>#[])).push (seqObj "tuple" vs.toArray 0)).push (seqObj "list" #[] 0) }:=by
   refine ztc (fun i j C hi hj hc=>?_) (fun p g=>⟨g,rfl⟩) _ (zvb (zrI f) (by omega))
   show wpAny (model prog w) A (keyLt' (tuples' true) (vs.getD i .none) (vs.getD j .none)) C _ _
   exact zu3 (hp' i hi) (hp' j hj) hc
  refine wpAny_bind (wpAny_mono (kat_run (Q:=fun st' s'=>∃ p:Array Nat,p.size=vs.length/\arrOf st'=p.map (kas_item (vs.toArray.zip vs.toArray))/\failedOf st'=none/\(In vs.length p/\p.Perm (ybn (yax vs.length))/\Up (fun i j=>lex (f i) (f j)) p vs.length)/\s'={ s with heap:=((s.heap.update a (Obj.mapSeq fun _=>#[])).push (seqObj "tuple" vs.toArray 0)).push (seqObj "list" #[] 0) })
   rfl (by omega) h64 (fun p' st' s' a1 a2 a3 a4=>⟨p',a1,a2,a3,a4⟩) ask) ?_ fun _ _ e=>e)
  rintro ⟨⟨⟩,st'⟩ s' ⟨p,hps,har,hf,⟨g1,g2,g3⟩,rfl⟩
  dsimp only
  have hout:=kat_snds rfl har
  rw[hout]
  refine wpAny_bind (seqEpoch_at ho6 rfl ?_)
  refine wpAny_bind (listUpdate_at ho6 rfl ?_ (ycy _) (Nat.le_succ_of_le (outsz p hps)))
  rw[hf]
  simp only[bne_self_eq_false,Bool.false_eq_true,if_false]
  exact wpAny_pure (h p g1 g2 g3)
theorem ztQ {l:Addr} {vs:List Value} {Q:Value->Shared->Prop} {f:Nat->Int × Int} (hl:s.heap.IsList l vs.toArray) (h64:vs.length<64) (hp:∀ i,i<vs.length->zbq s.heap (vs.getD i .none) (f i))
  (h:∀ p:Array Nat,In vs.length p->p.Perm (ybn (yax vs.length))->Up (fun i j=>lex (f i) (f j)) p vs.length->Q (.ref (s.heap.objs.size+1)) { s with heap:=sortedAll s.heap vs (ybn (p.toList.map fun i=>vs.getD i Value.none)) }) :
  wpAny (model prog w) A (call (.builtin "sorted") [.ref l]) Q E s:=by
 refine Calls.call_function_entry kind_sorted plain_sorted entry_sorted (args_sorted1 _) ?_
 unfold Builtin.«sorted»
 refine wpAny_bind (m:=checkCount "sorted" 1 1 _) (wpAny_pure ?_)
 refine wpAny_bind (collect_list hl ?_ (by rw[sizeLine_eq];omega))
 refine wpAny_bind (wpAny_newList ?_ (by rw[sizeLine_eq];omega))
 have hsz:((s.heap.push (seqObj "list" #[] 0)).update s.heap.objs.size (Obj.mapSeq (·++vs.toArray))).objs.size=s.heap.objs.size+1:=by
  rw[Heap.size_update,size_push']
 have hoL:(((s.heap.push (seqObj "list" #[] 0)).update s.heap.objs.size (Obj.mapSeq (·++vs.toArray))).push (seqObj "list" vs.toArray 0)).get? (s.heap.objs.size+1)=some (seqObj "list" vs.toArray 0):=by
  rw[<-hsz];exact ydl _ rfl
 have keep:∀ b o,s.heap.get? b=some o->(((s.heap.push (seqObj "list" #[] 0)).update s.heap.objs.size (Obj.mapSeq (·++vs.toArray))).push (seqObj "list" vs.toArray 0)).get? b=some o:=fun b o q=>by
  have hlt:b<s.heap.objs.size:=ydk q
  rw[Heap.get?_push_ne _ _ _ (by rw[hsz];exact ycv (ydd hlt)),ydm _ _ _ _ (ycv hlt),Heap.get?_push_ne _ _ _ (ycv hlt)]
  exact q
 show wpAny _ _ _ _ _ { s with heap:=((s.heap.push (seqObj "list" #[] 0)).update s.heap.objs.size (Obj.mapSeq (·++vs.toArray))).push (seqObj "list" vs.toArray 0) }
 rw[hsz]
 refine wpAny_bind (wpAny_holding (wpAny_call_entry slot_list_sort ⟨_,hoL,rfl⟩ entry_list_sort (zll hoL h64 (fun i hi=>(hp i hi).keep fun a o _ e=>keep a o e) fun p a1 a2 a3=>⟨_,rfl,?_⟩) (args_list_sort _)))
 exact wpAny_pure ⟨_,rfl,h p a1 a2 a3⟩
end
end SortT
namespace L2
open PySem PySem.Spec PyProof.Rows
section
variable {X:Cx} {e k:Expr} {te:TE} {p2 pos:Pos} {lo hi:Option Expr} {tl th:TO}
theorem map_getD {α:Type} (l:List α) (d:α):(yax l.length).map (fun i=>l.getD i d)=l:=by
 apply ybz
 intro i
 rw[yaj]
 by_cases h:i<l.length
 ·rw[ycb h,yaa h]
  simp[h]
 ·rw[yas (by simp;omega),yas (by omega)]
  rfl
theorem zl0 {α:Type} {f:α->V} {g:α->Value}:∀ is:List α,(∀ i∈is,RelV (f i) (g i))->Vals (is.map f) (is.map g)
 | [],_=>.nil
 | i::is,h=>.cons (h i (yan ..)) (zl0 is fun j hj=>h j (yam _ hj))
theorem zpI (hex:X.ex=[]:=by rfl):zbD X (.builtin "sorted") (fun xs H Q=>∃ (p:Addr) (vs:List V) (l:List (Int × Int)),xs=[.ref p]/\SqL X.K H p vs/\zA X.K H vs l/\l.length<64 /\
  ∀ (q:Addr) (H':Hp) (ws:List V) (r:List (Int × Int)),H q=none->Same H H'->H' q=some (.lst ws)->zA X.K H' ws r->r.Perm l->(r.Pairwise fun s t=>s.1<=t.1)->Q (.ref q) H'):=by
 intro pins s σ H xs us Q I r h
 obtain ⟨p,vs,l,rfl,hp,hR,hl,q⟩:=h
 obtain ⟨u,rfl,rx⟩:=vals1 r
 cases rx
 obtain ⟨its,rv,pl,hz⟩:=I.list hp
 have vl:=hR.length
 have len:its.length=l.length:=by rw[<-rv.length,vl]
 have pair:∀ i,i<its.length->SortT.zbq s.heap (its.getD i .none) (l.getD i (0,0)):=fun i hi=>by
  have ev:vs[i]?=some (vs[i]'(by omega)):=yaa (by omega)
  obtain ⟨a,x,e1,e2,e3⟩:=hR.get ev
  obtain ⟨w,hw,rw'⟩:=rv.get ev
  rw[e1] at rw'
  cases rw'
  obtain ⟨ts,tv,tp,_⟩:=I.tuple (SqT.of e3)
  cases tv with
  | cons t1 tv =>
   cases tv with
   | cons t2 tv =>
    cases tv
    obtain ⟨t,rfl⟩:=t1
    obtain ⟨t',rfl⟩:=t2
    obtain ⟨o,eo,oc,n,od⟩:=(show s.heap.IsTuple a _ from tp)
    refine ⟨a,o,n,t,t',?_,eo,oc,?_⟩
    ·rw[yae,hw];rfl
    ·rw[od,show l.getD i (0,0)=x by rw[yae,e2];rfl]
 refine SortT.ztQ pl.isList (by omega) pair fun P a1 a2 a3=>?_
 obtain ⟨n,at_⟩:=sortedAll_at s.heap its (ybn (P.toList.map fun i=>its.getD i Value.none))
 have pin:∀ i∈P.toList,i<its.length:=fun i hi=>by
  obtain ⟨j,hj,rfl⟩:=yay.mp hi
  have hj':j<its.length:=by rw[<-a1.1];simpa using hj
  have:=a1.2 j hj'
  rw[ydx,ydv (by rw[a1.1];exact hj')] at this
  simpa using this
 have plen:P.toList.length=its.length:=by rw[ydw,a1.1]
 have vl':Vals (P.toList.map fun i=>vs.getD i .non) (P.toList.map fun i=>its.getD i Value.none):=zl0 _ fun i hi=>by
  have hi':=pin i hi
  have ev:vs[i]?=some (vs[i]'(by omega)):=yaa (by omega)
  obtain ⟨w,hw,rw'⟩:=rv.get ev
  rw[yae,ev,yae,hw]
  exact rw'
 have new:s.heap.get? (s.heap.objs.size+1)=none:=ydp (yde _)
 have nl:(P.toList.map fun i=>vs.getD i .non).length<=sizeLine:=by rw[yab,plen,sizeLine_eq];omega
 have I1:Inv X pins σ (upd H (s.heap.objs.size+1) (.lst (P.toList.map fun i=>vs.getD i .non))) { s with heap:=sortedAll s.heap its (ybn (P.toList.map fun i=>its.getD i Value.none)),toks:=s.toks } :=
  I.zlF (fun b o e=>sortedAll_old e) new hex ⟨nl,_,n,vl',by simpa [seqObj] using at_⟩
 have sm:Same H (upd H (s.heap.objs.size+1) (.lst (P.toList.map fun i=>vs.getD i .non))):=ze (I.hok.gone new) _
 refine ⟨.ref (s.heap.objs.size+1),_,I1,rfl,q _ _ _ (P.toList.map fun i=>l.getD i (0,0)) (I.hok.gone new) sm zg (zm5 (by rw[yab,yab]) fun j v x h1 h2=>?_) ?_ ?_⟩
 ·rw[yaj] at h1 h2
  obtain ⟨i,hi,rfl⟩:=Option.map_eq_some_iff.mp h1
  rw[hi] at h2
  have h2':l.getD i (0,0)=x:=Option.some.inj h2
  have hi':=pin i (yai hi)
  have ev:vs[i]?=some (vs[i]'(by omega)):=yaa (by omega)
  obtain ⟨b,y,e1,e2,e3⟩:=hR.get ev
  have ey:l.getD i (0,0)=y:=by rw[yae,e2];rfl
  refine ⟨b,by rw[yae,ev,<-e1];rfl,?_⟩
  rw[<-h2',ey]
  exact sm _ _ e3
 ·have pp:P.toList.Perm (yax l.length):=by
   have:=Array.perm_iff_toList_perm.mp a2
   rw[len] at this
   exact this
  have:=pp.map fun i=>l.getD i (0,0)
  rw[map_getD] at this
  exact this
 ·refine ybe.mpr fun i j hi hj lt=>?_
  rw[yab] at hi hj
  have up:=a3 i j (ydg lt) (by omega)
  have gi:∀ m (h:m<P.toList.length),P.getD m 0=P.toList[m]:=fun m h=>by
   rw[ydx,ydv (by simpa using h)]
   simp
  rw[gi i hi,gi j hj] at up
  have:=of_decide_eq_false up
  rw[ycr,ycr]
  omega
end
end L2
namespace L2
open PySem PySem.Spec PyProof.Rows
noncomputable def zao (l:List (Int × Int)) (k y:Int):List (Int × Int):=if l.any (fun p=>p.1=k) then l.map (fun p=>if p.1=k then (p.1,y) else p) else l++[(k,y)]
noncomputable def zcn (l:List (Int × Int)):List (Int × Int):=l.foldl (fun acc s=>zao acc s.1 s.2) []
inductive KR:List (Int × Value)->List (Int × Int)->Prop
 | nil:KR [] []
 | cons {k y:Int} {t:Tok} {r:List (Int × Value)} {l:List (Int × Int)}:KR r l->KR ((k,.int y t)::r) ((k,y)::l)
theorem KR.length {r:List (Int × Value)} {l:List (Int × Int)} (h:KR r l):r.length=l.length:=by
 induction h with
 | nil=>rfl
 | cons _ ih=>simp[ih]
theorem KR.any {r:List (Int × Value)} {l:List (Int × Int)} {k:Int} (h:KR r l):r.any (fun kv=>kv.1=k)=l.any (fun p=>p.1=k):=by
 induction h with
 | nil=>rfl
 | cons _ ih=>rw[ycd,ycd,ih]
theorem KR.snoc {r:List (Int × Value)} {l:List (Int × Int)} {k y:Int} {t:Tok} (h:KR r l):KR (r++[(k,.int y t)]) (l++[(k,y)]):=by
 induction h with
 | nil=>exact .cons .nil
 | cons _ ih=>exact .cons ih
theorem KR.map {r:List (Int × Value)} {l:List (Int × Int)} {k y:Int} {t:Tok} (h:KR r l):KR (r.map fun kv=>if kv.1=k then (kv.1,.int y t) else kv) (l.map fun p=>if p.1=k then (p.1,y) else p):=by
 induction h with
 | nil=>exact .nil
 | @cons k' y' t' r l _ ih =>
  rw[ybk,ybk]
  by_cases e:k'=k
  ·rw[if_pos e,if_pos e];exact .cons ih
  ·rw[if_neg e,if_neg e];exact .cons ih
theorem KR.stored {r:List (Int × Value)} {l:List (Int × Int)} {k y:Int} {t:Tok} (h:KR r l):KR (stored r k (.int y t)) (zao l k y):=by
 unfold PySem.stored zao
 rw[h.any]
 split
 ·exact h.map
 ·exact h.snoc
theorem KR.get {r:List (Int × Value)} {l:List (Int × Int)} (h:KR r l):∀ {i:Nat} {k:Int} {v:Value},r[i]?=some (k,v)->∃ y t,l[i]?=some (k,y)/\v=.int y t:=by
 induction h with
 | nil=>intro i k v e;simp at e
 | cons _ ih =>
  intro i k v e
  cases i with
  | zero=>cases e;exact ⟨_,_,rfl,rfl⟩
  | succ i=>exact ih e
theorem zny (l:List (Int × Int)) (k y:Int):(zao l k y).length<=l.length+1:=by
 unfold zao
 split
 ·rw[yab];omega
 ·simp
theorem zlr (l acc:List (Int × Int)):(l.foldl (fun acc s=>zao acc s.1 s.2) acc).length<=acc.length+l.length:=by
 induction l generalizing acc with
 | nil=>simp
 | cons s l ih =>
  rw[ycf]
  have:=ih (zao acc s.1 s.2)
  have:=zny acc s.1 s.2
  rw[ybg]
  omega
theorem zq3 (l:List (Int × Int)):(zcn l).length<=l.length:=by
 have:=zlr l []
 simpa [zcn] using this
theorem zoK:typeLookup (.type "list") "keys" = pure none:=by rw[typeLookup_type,builtinLookup_eq_fast];kernel_rfl
theorem zpL {prog:Program} {w:World} {A:Around} {E:Value->Shared->Prop} {s:Shared} {a:Addr} {xs:Array Value} {k:Nat} {Q:Option Value->Shared->Prop}
  (hx:s.heap.get? a=some { cls:=.type "list", dict:=none,data:=.seq xs k,slots:=#[] }) (hA:A.handled=none)
  (h:∀ h' tk,(∀ b o,s.heap.get? b=some o->h'.get? b=some o)->Q none { s with heap:=h',toks:=tk }) :
  wpAny (model prog w) A (getAttr? (.ref a) "keys") Q E s:=by
 obtain ⟨hp,g,d,tk,os⟩:=s
 have hT:∀ tk',(⟨hp,g,d,tk',os⟩:Shared).TypeIs (.ref a) "list" := fun _=>⟨_,hx,rfl⟩
 have f1:=sub_AttributeError
 have f3:=F.slot_list_getattribute.lookup
 have f4:=F.slot_list_getattribute.bind (.ref a)
 have f5:=am_list_getattr_none
 unfold getAttr? getAttrBy? getAttrBy
 repeat (any_goals (first | assumption | exact hT _ | ((with_reducible show wpAny _ _ (call (Value.builtin "list.__getattribute__") _ _) _ _ _);refine call_meets F.slot_list_getattribute (hT _) am_entry_list_getattribute (F.args_list_getattribute_2 _ _) (meets_getattribute_miss_list a xs k #[] "keys" _ zoK (by decide +kernel) (by size_fits)) ⟨hx,hA,fun h' tk' e hx'=>?_⟩) | wp_step))
 obtain ⟨t',u',he⟩:=hx'.there
 show wpAny _ _ (getattributeRaised _ _ _ _ _ _ _) _ _ _
 unfold getattributeRaised
 repeat (any_goals (first | assumption | wp_step))
 exact h _ _ hx'.keeps
theorem ziu:entryFor table "dict.update.loop" = some Builtin.«dict.update.loop»:=entryFor_of_tree (by kernel_rfl)
theorem zcK:plainId "dict.update.loop" = true:=by decide +kernel
section
variable {prog:Program} {w:World} {A:Around} {s:Shared} {R:Result->Shared->Prop}
theorem zbF {h h':Heap} {d:Addr} {kvs:List (Int × Value)} (x:h.DictOf (intKind prog w) d kvs) (k:∀ o,h.get? d=some o->h'.get? d=some o):h'.DictOf (intKind prog w) d kvs:=by
 obtain ⟨o,es,ep,e,r⟩:=x
 exact ⟨o,es,ep,k o e,r⟩
theorem ztx {d it p:Addr} {its:List Value} {l:List (Int × Int)} {h₁:Heap} (hh:A.handled=none) (ndi:d≠it) (ndp:d≠p) (nip:it≠p) (len:its.length=l.length) (h64:its.length<64)
  (hR:∀ h' tk kvs,(∀ b o,b≠d->b≠it->h₁.get? b=some o->h'.get? b=some o)->h'.DictOf (intKind prog w) d kvs->KR kvs (zcn l)->R (.ok (.ret .none)) { s with heap:=h',toks:=tk }) :
  ∀ (k i:Nat) (h:Heap) (tk:Nat) (kvs:List (Int × Value)),its.length-i=k->i<=its.length->h.IsListIter it p i->h.IsList p its.toArray->(∀ j,j<its.length->SortT.zbq h (its.getD j .none) (l.getD j (0,0))) ->
   h.DictOf (intKind prog w) d kvs->KR kvs ((l.take i).foldl (fun acc s=>zao acc s.1 s.2) [])->(∀ b o,b≠d->b≠it->h₁.get? b=some o->h.get? b=some o) ->
   codeAny (model prog w) A (.builtin "dict.update.loop" ⟨[.ref d,.ref it,rawInt i,.none],[]⟩) R { s with heap:=h,toks:=tk }:=by
 intro k
 induction k with
 | zero =>
  intro i h tk kvs hk hi hit hl hp hd hkr hkeep
  have hin:i=its.length:=by omega
  refine codeAny_builtin ziu ?_
  rw[Around.under_plainId zcK _]
  show wpAny _ A.in1 (pyNext (.ref it) >>= _) _ _ _
  refine wpAny_bind (wpAny_pyNext_list_end (s:={ s with heap:=h,toks:=tk }) (A:=A.in1) hh hit hl (by simp;omega) fun h' he=>?_)
  show wpAny _ _ (Builtin.Dict.addKeywords d [] >>= _) _ _ _
  refine wpAny_bind (wpAny_pure (wpAny_pure ?_))
  refine hR h' tk kvs (fun b o b1 b2 e=>he b o b2 (hkeep b o b1 b2 e)) (zbF hd fun o e=>he d o ndi e) ?_
  rw[hin,len,ycl] at hkr
  exact hkr
 | succ k ih =>
  intro i h tk kvs hk hi hit hl hp hd hkr hkeep
  have hlt:i<its.length:=by omega
  obtain ⟨a,oa,n,t,u,ea,eo,oc,odt⟩:=hp i hlt
  have hx:its[i]?=some (.ref a):=by
   rw[yae,yaa hlt] at ea
   rw[yaa hlt]
   exact congrArg some ea
  refine codeAny_builtin ziu ?_
  rw[Around.under_plainId zcK _]
  show wpAny _ A.in1 (pyNext (.ref it) >>= _) _ _ _
  refine wpAny_bind (wpAny_pyNext_list_item (s:={ s with heap:=h,toks:=tk }) (A:=A.in1) hit hl (x:=.ref a) (by simpa using hx) fun h' hit' sb=>?_)
  have ait:a≠it:=fun z=>by
   obtain ⟨o,ho,hc,_⟩:=hit
   rw[z,ho] at eo
   cases eo
   rw[hc] at oc
   exact absurd oc (by decide)
  have ad:a≠d:=fun z=>by
   obtain ⟨o,es,ep,ho,hc,_⟩:=id hd
   rw[z,ho] at eo
   cases eo
   have:=hc.1
   rw[this] at oc
   exact absurd oc (by decide)
  have eo':h'.get? a=some oa:=(sb.2 a ait).trans eo
  have hT:({ s with heap:=h',toks:=tk }:Shared).TypeIs (.ref a) "tuple" := ⟨oa,eo',oc⟩
  have hd':h'.DictOf (intKind prog w) d kvs:=zbF hd fun o e=>(sb.2 d ndi).trans e
  show wpAny _ _ (holding [Value.ref a] _ >>= _) _ _ _
  refine wpAny_bind (wpAny_holding ?_)
  refine wpAny_bind (wpAny_tryCatch ?_)
  unfold Builtin.Dict.pairItems
  refine wpAny_bind (wpAny_typeOf hT ?_)
  rw[if_pos (by decide)]
  refine wpAny_bind (wpAny_seqItems eo' odt ?_)
  refine wpAny_pure ?_
  show wpAny _ _ (holding [Value.int (l.getD i (0,0)).1 t,Value.int (l.getD i (0,0)).2 u] (dictSet d (Value.int (l.getD i (0,0)).1 t) (Value.int (l.getD i (0,0)).2 u))) _ _ _
  refine wpAny_holding ?_
  have kl:=hkr.length
  have fl:=zlr (l.take i) []
  rw[ybd] at fl
  refine wpAny_dictSet_pairs (knd:=intKind prog w) (k:=(l.getD i (0,0)).1) (by first | exact Value.isInt_int _ _ | (simp[intKind,Value.isInt];done) | exact beq_self_eq_true _) hd' (fun h2 hd2 sb2=>?_) (by rw[sizeLine_eq];simp at fl;omega)
  refine wpAny_pure ⟨plainId_quiet zcK _,?_⟩
  have k2:∀ b o,b≠d->b≠it->h.get? b=some o->h2.get? b=some o:=fun b o b1 b2 e=>(sb2.2 b b1).trans ((sb.2 b b2).trans e)
  refine ih (i+1) h2 _ _ (by omega) (by omega) (hit'.at fun o e=>(sb2.2 it ndi.symm).trans e) ?_ (fun j hj=>(hp j hj).keep fun b o eb e=>k2 b o ?_ ?_ e) hd2 ?_ fun b o b1 b2 e=>k2 b o b1 b2 (hkeep b o b1 b2 e)
  ·obtain ⟨o,e,r⟩:=hl
   exact ⟨o,k2 p o ndp.symm nip.symm e,r⟩
  ·intro z
   obtain ⟨b',o',n',t',u',e1,e2,e3,_⟩:=hp j hj
   rw[eb] at e1
   cases e1
   obtain ⟨od,es,ep,ho,hc,_⟩:=id hd
   rw[z,ho] at e2
   cases e2
   rw[hc.1] at e3
   exact absurd e3 (by decide)
  ·intro z
   obtain ⟨b',o',n',t',u',e1,e2,e3,_⟩:=hp j hj
   rw[eb] at e1
   cases e1
   obtain ⟨oi,ho,hc,_⟩:=id hit
   rw[z,ho] at e2
   cases e2
   rw[hc] at e3
   exact absurd e3 (by decide)
  ·have tk:l.take (i+1)=l.take i++[l.getD i (0,0)]:=by
    rw[ybc,yaa (by omega),yae,yaa (by omega)]
    rfl
   rw[tk,List.foldl_append]
   exact hkr.stored
theorem zox {E:Value->Shared->Prop} {p:Addr} {its:List Value} {n:Nat} {l:List (Int × Int)} {Q:Value->Shared->Prop} (hh:A.handled=none) (hl:s.heap.get? p=some { cls:=.type "list", dict:=none,data:=.seq its.toArray n,slots:=#[] }) (len:its.length=l.length) (h64:its.length<64)
  (hp:∀ j,j<its.length->SortT.zbq s.heap (its.getD j .none) (l.getD j (0,0)))
  (h:∀ h' tk kvs,(∀ b o,s.heap.get? b=some o->h'.get? b=some o)->h'.DictOf (intKind prog w) s.heap.objs.size kvs->KR kvs (zcn l)->Q (.ref s.heap.objs.size) { s with heap:=h',toks:=tk }) :
  wpAny (model prog w) A (call (.type "dict") [.ref p]) Q E s:=by
 have hlt:p<s.heap.objs.size:=ydk hl
 refine callType_codes (Q₁:=fun obj s₁=>obj=.ref s.heap.objs.size/\s₁={ s with heap:=s.heap.push { cls:=.type "dict", data:=.dict #[] } }) F.kt_called_dict (F.kt_typeCall_dict_1 _) F.entry_dict_init (kt_code_dict_new _ ⟨rfl,rfl⟩) ?_
 rintro obj s₁ ⟨rfl,rfl⟩
 have hnew:(s.heap.push { cls:=.type "dict", data:=.dict #[] }).DictOf (intKind prog w) s.heap.objs.size []:=Heap.DictOf.new s.heap
 have hl1:(s.heap.push { cls:=.type "dict", data:=.dict #[] }).get? p=some { cls:=.type "list", dict:=none,data:=.seq its.toArray n,slots:=#[] }:=ydj _ hl
 refine ⟨hnew.typeIs,F.args_dict_init_2 _ _,?_⟩
 unfold Builtin.«dict.__init__»
 refine wpAny_bind ?_
 unfold Builtin.Dict.selfAndRest
 refine wpAny_bind (wpAny_notOrdered_dict hnew.typeIs ?_)
 show wpAny _ _ (pure (s.heap.objs.size,[Value.ref p])) _ _ _
 refine wpAny_pure ?_
 show wpAny _ _ (Builtin.Dict.updateFrom "dict.__init__" s.heap.objs.size (.ref p) [] .none) _ _ _
 unfold Builtin.Dict.updateFrom
 refine wpAny_bind (wpAny_typeOf (T:="list") ⟨_,hl1,rfl⟩ ?_)
 rw[if_pos (by decide)]
 refine wpAny_bind (zpL (s:={ s with heap:=s.heap.push { cls:=.type "dict", data:=.dict #[] } }) hl1 hh fun h2 tk2 k2=>?_)
 rw[if_pos (show (none:Option Value).isNone=true from rfl)]
 refine wpAny_bind (wpAny_rule ?_)
 have hl2:=k2 p _ hl1
 have hd2:=zbF (h':=h2) hnew fun o e=>k2 _ o e
 have lt2:s.heap.objs.size<h2.objs.size:=by
  obtain ⟨o,es,ep,e,_⟩:=hd2
  exact ydk e
 have hlL:h2.IsList p its.toArray:=⟨_,hl2,rfl,n,rfl⟩
 refine wpAny_bind (wpAny_pyIter_list hlL ?_)
 refine wpAny_pure ⟨plainId_quiet zcK _,?_⟩
 refine ztx (s:=s) (A:=A.in1) (h₁:=h2) (d:=s.heap.objs.size) (it:=h2.objs.size) (p:=p) (its:=its) (l:=l) hh (ycv lt2) (ydh hlt) (ydh (ydf hlt lt2)) len h64 (fun h' tk kvs kp hd' hkr=>?_)
  its.length 0 _ tk2 [] (Nat.sub_zero _) (ycy _) ⟨_,ydl _ rfl,rfl,rfl⟩ (hlL.push _) (fun j hj=>(hp j hj).keep fun a o _ e=>ydj _ (k2 a o (ydj _ e))) (zbF hd2 fun o e=>ydj _ e) .nil fun b o b1 b2 e=>ydj _ e
 refine ⟨rfl,h h' tk kvs (fun b o e=>kp b o (ycv (ydk e)) (ycv (ydf (ydk e) lt2)) (k2 b o (ydj _ e))) hd' hkr⟩
end
noncomputable def zbM (P:Program) (w:World) (d:Addr) (l:List (Int × Int)):HO:=.ext fun h=>(d == sysModules)=false/\∃ kvs,h.DictOf (intKind P w) d kvs/\KR kvs l
noncomputable def zrZ (v d:Addr):HO:=.ext fun h=>h.IsItemsView v d
section
variable {X:Cx} {pins:List (Addr × Obj)} {σ:St} {H:Hp} {s:Shared}
theorem zts {vs:List V} {l:List (Int × Int)} {p:Addr} (I:Inv X pins σ H s) (hp:SqL X.K H p vs) (hR:zA X.K H vs l):∃ its,Vals vs its/\s.heap.IsList p its.toArray/\its.length=l.length/\∀ i,i<its.length->SortT.zbq s.heap (its.getD i .none) (l.getD i (0,0)):=by
 obtain ⟨its,rv,pl,hz⟩:=I.list hp
 have vl:=hR.length
 refine ⟨its,rv,pl.isList,by rw[<-rv.length,vl],fun i hi=>?_⟩
 have len:its.length=l.length:=by rw[<-rv.length,vl]
 have ev:vs[i]?=some (vs[i]'(by omega)):=yaa (by omega)
 obtain ⟨a,x,e1,e2,e3⟩:=hR.get ev
 obtain ⟨w,hw,rw'⟩:=rv.get ev
 rw[e1] at rw'
 cases rw'
 obtain ⟨ts,tv,tp,_⟩:=I.tuple (SqT.of e3)
 cases tv with
 | cons t1 tv =>
  cases tv with
  | cons t2 tv =>
   cases tv
   obtain ⟨t,rfl⟩:=t1
   obtain ⟨t',rfl⟩:=t2
   obtain ⟨o,eo,oc,n,od⟩:=(show s.heap.IsTuple a _ from tp)
   refine ⟨a,o,n,t,t',?_,eo,oc,?_⟩
   ·rw[yae,hw];rfl
   ·rw[od,show l.getD i (0,0)=x by rw[yae,e2];rfl]
theorem zcS (hc:X.calm=true):zbD X (.type "dict") (fun xs H Q=>∃ (p:Addr) (vs:List V) (l:List (Int × Int)),xs=[.ref p]/\H p=some (.lst vs)/\zA X.K H vs l/\l.length<64 /\
  ∀ (d:Addr) (H':Hp),H d=none->Same H H'->H' d=some (zbM X.prog X.w d (zcn l))->Q (.ref d) H'):=by
 intro pins s σ H xs us Q I r h
 obtain ⟨p,vs,l,rfl,hp,hR,hl,q⟩:=h
 obtain ⟨u,rfl,rx⟩:=vals1 r
 cases rx
 obtain ⟨its,rv,pl,len,pr⟩:=zts I (SqL.of hp) hR
 obtain ⟨z,its',n',rv',e'⟩:=(show zam X.prog X.w H s.heap p (.lst vs) from I.hok p _ hp)
 obtain ⟨o,eo,oc,n,od⟩:=pl
 have ei:its=its':=by
  rw[e'] at eo
  cases eo
  have:=od
  simpa using (Data.seq.inj this).1.symm
 subst ei
 have big:sysModules<s.heap.objs.size:=ydf (by decide) (show mainGlobals<s.heap.objs.size from (I.mod.glob.keeps I.bk).lt)
 have lo:(s.heap.objs.size == sysModules)=false:=beq_eq_false_iff_ne.mpr (Ne.symm (ycv big))
 refine zox (I.ok.hd hc) e' len (by omega) pr fun h' tk kvs kp hd hkr=>?_
 refine ⟨.ref s.heap.objs.size,_,I.laid (o:=zbM X.prog X.w s.heap.objs.size (zcn l)) kp (ycu _) ⟨⟨lo,kvs,hd,hkr⟩,(let ⟨o,_,_,e,_⟩:=hd;⟨o,e⟩),fun h1 h2 ⟨lo',kv,x,y⟩ e=>⟨lo',kv,zbF x e,y⟩⟩,rfl,q _ _ (I.hok.fresh (ycu _)) (ze (I.hok.fresh (ycu _)) _) zg⟩
def zwf (P:Program) (w:World) (to:TE):TE:=fun σ H Q=>to σ H fun x H1=>∃ (d:Addr) (l:List (Int × Int)),x=.ref d/\H1 d=some (zbM P w d l)/\∀ (v:Addr) (H':Hp),H1 v=none->Same H1 H'->H' v=some (zrZ v d)->Q (.ref v) H'
theorem zp7 {o:Expr} {to:TE} {apos cpos:Pos} (ho:PE X o to)
  (hbase:attributeBase o "items" X.env (eval o X.env)=eval o X.env:=by rfl) (hline:(apos.endLine == cpos.line)=true:=by rfl):PE X (.Call (.Attribute o "items" apos) [] [] cpos) (zwf X.prog X.w to):=by
 intro pins s σ H Q I h
 refine wpAny_Call_method0_late hbase hline (thn (ho pins s σ H _ I h) fun v s1 ⟨x,H1,I1,r1,d,l,ex,hd,q1⟩=>?_)
 subst ex
 obtain rfl:v=Value.ref d:=r1
 obtain ⟨lo,kvs,hD,hkr⟩:=(I1.hok d _ hd).1
 refine ⟨"dict", "dict.items", F.plainAttrs_dict,F.slot_dict_items,F.type_dict_items,hD.typeIs,hD.mapOf.noDict,Calls.callWith_builtin rfl (PySem.evalArgs_none ?_)⟩
 refine call_meetsIn PySem.F.slot_dict_items hD.typeIs PySem.F.entry_dict_items (PySem.F.args_dict_items_1 _) (meets_dict_items (intKind X.prog X.w) d lo) ⟨⟨kvs,hD⟩,?_⟩
 exact ⟨.ref s1.heap.objs.size,_,I1.laid (t':=s1.toks) (o:=zrZ s1.heap.objs.size d) (fun b ob q=>ydj _ q) (ycu _) ⟨⟨_,ydl _ rfl,rfl,rfl⟩,⟨_,ydl _ rfl⟩,fun h1 h2 ⟨o,e,r⟩ k=>⟨o,k o e,r⟩⟩,rfl,
  q1 _ _ (I1.hok.fresh (ycu _)) (ze (I1.hok.fresh (ycu _)) _) zg⟩
theorem zl9 {h':Heap} {tk:Nat} (hex:X.ex=[]) (I:Inv X pins σ H s) (k:∀ b o,s.heap.get? b=some o->h'.get? b=some o):∀ (bs:List (Addr × (Int × Int))),(bs.map (·.1)).Nodup->(∀ b∈bs,s.heap.get? b.1=none/\SortT.zbq h' (.ref b.1) b.2) ->
  ∃ H',Inv X pins σ H' { s with heap:=h',toks:=tk }/\Same H H'/\(∀ b∈bs,H' b.1=some (.tup [.int b.2.1,.int b.2.2]))/\∀ a,a ∉ bs.map (·.1)->H' a=H a
 | [],_,_=>⟨H,I.kept k,Same.refl _,(fun _ hb=>absurd hb (ybw)),fun _ _=>rfl⟩
 | b::bs,nd,hb=>by
  obtain ⟨H1,I1,s1,t1,o1⟩:=zl9 hex I k bs (ybo.mp nd).2 fun c hc=>hb c (yam _ hc)
  obtain ⟨hn,a,o,n,t,u,ea,eo,oc,od⟩:=hb b (yan ..)
  cases ea
  obtain ⟨f1,f2,f3,f4⟩:=I.zpn hn hex
  have nb:b.1 ∉ bs.map (·.1):=(ybo.mp nd).1
  have gone:H1 b.1=none:=by rw[o1 _ nb];exact I.hok.gone hn
  refine ⟨_,I1.track (o:=.tup [.int b.2.1,.int b.2.2]) gone f1 f2 f3 f4 ⟨by show 2<=sizeLine;rw[sizeLine_eq];omega,[.int b.2.1 t,.int b.2.2 u],.cons ⟨t,rfl⟩ (.cons ⟨u,rfl⟩ .nil),⟨o,eo,oc,n,od⟩⟩,s1.trans (ze gone _),fun c hc=>?_,fun c hc=>?_⟩
  ·rcases yak.mp hc with rfl | hc
   ·exact zg
   ·rw[zp (fun z=>nb (by rw[<-z];exact yaf.mpr ⟨c,hc,rfl⟩))]
    exact t1 c hc
  ·rw[ybk,yak,not_or] at hc
   rw[zp hc.1]
   exact o1 c hc.2
theorem zjS (hc:X.calm=true) (hex:X.ex=[]:=by rfl):zbD X (.builtin "sorted") (fun xs H Q=>∃ (v d:Addr) (l:List (Int × Int)),xs=[.ref v]/\H v=some (zrZ v d)/\H d=some (zbM X.prog X.w d l)/\l.length<64 /\
  ∀ (q:Addr) (H':Hp) (ws:List V) (r:List (Int × Int)),H q=none->Same H H'->H' q=some (.lst ws)->zA X.K H' ws r->r.Perm l->(r.Pairwise fun s t=>s.1<=t.1)->Q (.ref q) H'):=by
 intro pins s σ H xs us Q I r h
 obtain ⟨v,d,l,rfl,hV,hD,hl,q⟩:=h
 obtain ⟨u,rfl,rx⟩:=vals1 r
 cases rx
 have hv:s.heap.IsItemsView v d:=(I.hok v _ hV).1
 obtain ⟨lo,kvs,hd,hkr⟩:=(I.hok d _ hD).1
 obtain ⟨od,es,ep,rd⟩:=hd
 have hat:s.heap.DictAt (intKind X.prog X.w) d kvs ep:=⟨od,es,rd⟩
 have kl:=hkr.length
 refine Calls.call_function_entry kind_sorted plain_sorted entry_sorted (args_sorted1 _) ?_
 unfold Builtin.«sorted»
 refine wpAny_bind (m:=checkCount "sorted" 1 1 _) (wpAny_pure ?_)
 refine wpAny_bind (PySem.W.kdx_collect (A:=X.A.in1) (knd:=intKind X.prog X.w) (kvs:=kvs) (ep:=ep) (I.ok.hd hc) hv hat (by rw[sizeLine_eq];omega) fun h1 tk as k1 al hG=>?_)
 refine wpAny_bind (wpAny_newList ?_ (by rw[yab,al,sizeLine_eq];omega))
 have an:as.length=l.length:=by omega
 have asl:∀ a∈as,a<h1.objs.size:=fun a ha=>hG.there ha
 have fresh:∀ a∈as,s.heap.get? a=none:=fun a ha=>ydp (ydg (hG.above a ha))
 have pr:∀ i,i<as.length->SortT.zbq h1 ((as.map Value.ref).getD i .none) (l.getD i (0,0)):=fun i hi=>by
  obtain ⟨key,k,x,e1,e2,e3⟩:=hG.pairs i as[i] (yaa hi)
  obtain ⟨y,t,e4,rfl⟩:=hkr.get e1
  obtain ⟨t',rfl⟩:=Value.isInt_shape e2
  refine ⟨as[i],_,0,t',t,?_,e3,rfl,?_⟩
  ·rw[yae,yaj,yaa hi];rfl
  ·rw[yae,e4];rfl
 have hoL:(h1.push (seqObj "list" (as.map Value.ref).toArray 0)).get? h1.objs.size=some (seqObj "list" (as.map Value.ref).toArray 0):=ydl _ rfl
 show wpAny _ _ _ _ _ { s with heap:=h1.push (seqObj "list" (as.map Value.ref).toArray 0),toks:=tk }
 refine wpAny_bind (wpAny_holding (wpAny_call_entry slot_list_sort ⟨_,hoL,rfl⟩ entry_list_sort (SortT.zll (f:=fun i=>l.getD i (0,0)) hoL (by rw[yab];omega) (fun i hi=>(pr i (by rw[yab] at hi;exact hi)).keep fun a o _ e=>ydj _ e) fun P a1 a2 a3=>⟨_,rfl,?_⟩) (args_list_sort _)))
 refine wpAny_pure ⟨_,rfl,?_⟩
 rw[yab] at a1 a2 a3
 obtain ⟨out,hout⟩:∃ out,out=(P.toList.map fun i=>(as.map Value.ref).getD i Value.none):=⟨_,rfl⟩
 show EP X pins σ Q (Value.ref h1.objs.size) { s with heap:=sortedHeap (h1.push (seqObj "list" (as.map Value.ref).toArray 0)) h1.objs.size (as.map Value.ref) (ybn (P.toList.map fun i=>(as.map Value.ref).getD i Value.none)),toks:=tk }
 rw[<-hout]
 have keep3:∀ b o,h1.get? b=some o->(sortedHeap (h1.push (seqObj "list" (as.map Value.ref).toArray 0)) h1.objs.size (as.map Value.ref) out.toArray).get? b=some o:=fun b o e =>
  (sortedHeap_old (ycv (ydk e)) (by rw[ydn];exact ydd (ydk e))).trans (ydj _ e)
 obtain ⟨n3,at3⟩:=sortedHeap_at (out:=out.toArray) hoL
 generalize sortedHeap (h1.push (seqObj "list" (as.map Value.ref).toArray 0)) h1.objs.size (as.map Value.ref) out.toArray=h3 at keep3 at3 ⊢
 have zm:(as.zip l).map (·.1)=as:=List.map_fst_zip (by omega)
 have nd:((as.zip l).map (·.1)).Nodup:=by
  rw[zm]
  exact hG.rise.imp fun {a b} z=>ycv z
 have zin:∀ i,i<as.length->(as.getD i 0,l.getD i (0,0))∈as.zip l:=fun i hi=>by
  refine yai (i:=i) ?_
  rw[List.getElem?_zip_eq_some]
  have hi2:i<l.length:=by omega
  have g1:as.getD i 0=as[i]:=by rw[yae,yaa hi];rfl
  have g2:l.getD i (0,0)=l[i]:=by rw[yae,yaa hi2];rfl
  rw[g1,g2]
  exact ⟨yaa hi,yaa hi2⟩
 obtain ⟨H1,I1,s1,t1,o1⟩:=zl9 (h':=h3) (tk:=tk) hex I (fun b o e=>keep3 b o (k1 b o e)) (as.zip l) nd fun b hb=>by
  obtain ⟨i,hi⟩:=ybi.mp hb
  rw[List.getElem?_zip_eq_some] at hi
  have hlt:i<as.length:=(yad.mp hi.1).1
  refine ⟨fresh _ (yai hi.1),?_⟩
  have:=(pr i hlt).keep (h':=h3) fun a o _ e=>keep3 a o e
  rw[yae,yaj,hi.1,yae,hi.2] at this
  exact this
 have hnL:s.heap.get? h1.objs.size=none:=by
  cases e:s.heap.get? h1.objs.size with
  | none=>rfl
  | some o=>exact absurd (ydk (k1 _ o e)) (yda _)
 obtain ⟨f1,f2,f3,f4⟩:=I.zpn hnL hex
 have nLa:h1.objs.size ∉ (as.zip l).map (·.1):=by
  rw[zm]
  exact fun z=>yda _ (asl _ z)
 have goneL:H1 h1.objs.size=none:=by rw[o1 _ nLa];exact I.hok.gone hnL
 have pin:∀ i∈P.toList,i<as.length:=fun i hi=>by
  obtain ⟨j,hj,rfl⟩:=yay.mp hi
  have hj':j<as.length:=by rw[<-a1.1];simpa using hj
  have:=a1.2 j hj'
  rw[ydx,ydv (by rw[a1.1];exact hj')] at this
  simpa using this
 have plen:P.toList.length=as.length:=by rw[ydw,a1.1]
 have vl':Vals (P.toList.map fun i=>V.ref (as.getD i 0)) out:=by
  rw[hout]
  refine zl0 _ fun i hi=>?_
  have hi':=pin i hi
  rw[yae,yae,yaj,yaa hi']
  rfl
 have I2:=I1.track (o:=.lst (P.toList.map fun i=>V.ref (as.getD i 0))) goneL f1 f2 f3 f4 ⟨by rw[yab,plen,sizeLine_eq];omega,out,n3,vl',by simpa [seqObj] using at3⟩
 have sm:Same H (upd H1 h1.objs.size (.lst (P.toList.map fun i=>V.ref (as.getD i 0)))):=s1.trans (ze goneL _)
 refine ⟨.ref h1.objs.size,_,I2,rfl,q _ _ _ (P.toList.map fun i=>l.getD i (0,0)) (I.hok.gone hnL) sm zg (zm5 (by rw[yab,yab]) fun j v x e1 e2=>?_) ?_ ?_⟩
 ·rw[yaj] at e1 e2
  obtain ⟨i,hi,rfl⟩:=Option.map_eq_some_iff.mp e1
  rw[hi] at e2
  have e2':l.getD i (0,0)=x:=Option.some.inj e2
  have hi':=pin i (yai hi)
  refine ⟨_,rfl,?_⟩
  rw[<-e2',zp (fun z=>nLa (by rw[zm,<-z,yae,yaa hi'];exact yck hi'))]
  exact t1 _ (zin i hi')
 ·have pp:P.toList.Perm (yax l.length):=by
   have:=Array.perm_iff_toList_perm.mp a2
   rw[an] at this
   exact this
  have:=pp.map fun i=>l.getD i (0,0)
  rw[map_getD] at this
  exact this
 ·refine ybe.mpr fun i j hi hj lt=>?_
  rw[yab] at hi hj
  have up:=a3 i j (ydg lt) (by omega)
  have gi:∀ m (h:m<P.toList.length),P.getD m 0=P.toList[m]:=fun m h=>by
   rw[ydx,ydv (by simpa using h)]
   simp
  rw[gi i hi,gi j hj] at up
  have:=of_decide_eq_false up
  rw[ycr,ycr]
  omega
end
end L2
namespace Dbt
noncomputable def mx (a b:Int):Int:=if b > a then b else a
noncomputable def mn (a b:Int):Int:=if b<a then b else a
theorem zi0 {a b:Int}:a<=mx a b/\b<=mx a b/\(mx a b=a\/mx a b=b):=by unfold mx;split <;> omega
theorem zrO {a b:Int}:mn a b<=a/\mn a b<=b/\(mn a b=a\/mn a b=b):=by unfold mn;split <;> omega
inductive Wd where
 | lend | fee | turn | take | grow
noncomputable def step (u:Int) (w:Wd) (x m n:Int):Int × Int :=
 match w with
 | .lend=>(mn (m+x) (mx 0 ((n+u*x) / u)),n+u*x)
 | .fee=>(mn m (mx 0 ((n+u*x) / u)),n+u*x)
 | .take=>(mn m (mx 0 ((n+u * -x) / u)),n+u * -x)
 | .turn=>(mx 0 (n / u),n)
 | .grow=>(m,n+x)
noncomputable def Okd:Wd->Int->Prop
 | .lend,x=>0<=x
 | .grow,x=>0<=x
 | _,_=>True
def Good (u m n:Int):Prop:=0<=m/\m<=mx 0 (n / u)
theorem good0 (u:Int):Good u 0 0:=⟨yds _,zi0.1⟩
theorem zdD {u:Int} {w:Wd} {x m n:Int} (hu:0<u) (ok:Okd w x) (g:Good u m n):Good u (step u w x m n).1 (step u w x m n).2:=by
 obtain ⟨g0,g1⟩:=g
 cases w with
 | lend =>
  have h0:0<=x:=ok
  have:=zi0 (a:=0) (b:=(n+u*x) / u)
  have:=zrO (a:=m+x) (b:=mx 0 ((n+u*x) / u))
  show 0<=mn (m+x) (mx 0 ((n+u*x) / u))/\mn (m+x) (mx 0 ((n+u*x) / u))<=mx 0 ((n+u*x) / u)
  omega
 | fee =>
  have:=zi0 (a:=0) (b:=(n+u*x) / u)
  have:=zrO (a:=m) (b:=mx 0 ((n+u*x) / u))
  show 0<=mn m (mx 0 ((n+u*x) / u))/\mn m (mx 0 ((n+u*x) / u))<=mx 0 ((n+u*x) / u)
  omega
 | take =>
  have:=zi0 (a:=0) (b:=(n+u * -x) / u)
  have:=zrO (a:=m) (b:=mx 0 ((n+u * -x) / u))
  show 0<=mn m (mx 0 ((n+u * -x) / u))/\mn m (mx 0 ((n+u * -x) / u))<=mx 0 ((n+u * -x) / u)
  omega
 | turn =>
  have:=zi0 (a:=0) (b:=n / u)
  show 0<=mx 0 (n / u)/\mx 0 (n / u)<=mx 0 (n / u)
  omega
 | grow =>
  have h0:0<=x:=ok
  have h1:n / u<=(n+x) / u:=Int.ediv_le_ediv hu (by omega)
  have:=zi0 (a:=0) (b:=n / u)
  have:=zi0 (a:=0) (b:=(n+x) / u)
  show 0<=m/\m<=mx 0 ((n+x) / u)
  omega
variable {u s0 s1 m1 n1 m2 n2 x y:Int}
noncomputable def t1 (s1:Int):Option (Wd × Int)->Wd × Int->Int
 | some (.fee,x),(.fee,y)=>s1+y-x
 | _,_=>s1
end Dbt
namespace L2
open PySem PySem.Spec PyProof.Rows
def zuE (i j:Int):Prop:=0<j/\j<1152921504606846976
section
variable {X:Cx}
theorem zdi:OpR X (binaryOp .FloorDiv) (rI zuE fun i j=>.int (i / j)):=opI fun i j _ _ _ _ _ hc q=>by
 have h1:(0:Int)<j:=hc.1
 have h2:j<1152921504606846976:=hc.2
 refine floordiv_int (by omega) (by rw[Int.fdiv_eq_ediv_of_nonneg i (by omega)];exact q) (.inl (PyProof.noPylong_of_log2 ?_))
 have h0:j.natAbs≠0:=by omega
 have:j.natAbs.log2<60:=(Nat.log2_lt h0).mpr (show j.natAbs<1152921504606846976 by omega)
 omega
end
structure MkI (K:W.Frag) (C:Addr):Prop where
 makes:PySem.W.makesIn K C=true
 kp:PySem.W.keepIn K (.ref C)=true
def zw1 (C:Addr) (f:Str) (ta:TE):TE:=fun σ H Q=>ta σ H fun x H1=>∃ a dx fs v,x=.ref a/\H1 a=some (.ins C dx fs)/\fs.lookup f=some v/\Q v H1
def zwR (C:Addr) (f:Str) (ta tv:TE):TS:=fun D σ H=>tv σ H fun y H1=>ta σ H1 fun x H2=>∃ a dx fs,x=.ref a/\H2 a=some (.ins C dx fs)/\fs.length<1000/\D.nx σ (upd H2 a (.ins C dx (zaI f y fs)))
section
variable {X:Cx} {C:Addr} {x m f:Str} {p pos pos' apos:Pos} {e o value:Expr} {es:List Expr} {ta tv:TE} {t:TA} {j k:Nat} {ps:List Str} {sp:Sp}
theorem zae (hc:Cls X.K C) (hn:zab X.K C f) (he:PE X e ta) (hb:attributeBase e f X.env (eval e X.env)=eval e X.env:=by rfl):PE X (.Attribute e f pos) (zw1 C f ta):=by
 intro pins s σ H Q I h
 refine zrA hb (thn (he pins s σ H _ I h) fun u s1 ⟨x,H1,I1,rx,a,dx,fs,v,ex,ea,l,q⟩=>?_)
 subst ex
 obtain rfl:u=Value.ref a:=rx
 exact zmb I1 ea hc hn l fun u' s2 I2 ru=>⟨v,H1,I2,ru,q⟩
theorem zav (hc:Cls X.K C) (hn:zab X.K C f) (ha:PE X o ta) (hv:PE X value tv) (hs:swapsWith value (some (.Attribute o f pos')) pos.line X.env=pure false:=by rfl):PS X (.Assign [.Attribute o f pos'] value pos) (zwR C f ta tv):=by
 intro pins s σ H D I h
 refine plainObj_wpAny_Assign_Attribute (thn (hv pins s σ H _ I h) fun u s1 ⟨y,H1,I1,ry,q⟩=>thn (ha pins s1 σ H1 _ I1 q) fun ov s2 ⟨x,H2,I2,rx,a,dx,fs,ex,ea,l,q2⟩=>?_) hs
 subst ex
 obtain rfl:ov=Value.ref a:=rx
 exact zmD I2 ea hc hn l ry fun s3 I3=>⟨σ,_,I3,q2⟩
theorem zdl {pl:Sem Bool} (D:zv X.prog X.w X.K X.mg X.base j C m ps sp) (hc:Cls X.K C) (hr:Room k X.A) (he:PE X o ta) (ha:PA X (e::es) t) (hj:j<=k:=by decide)
  (hst:starEach (e::es) X.env=(false,eval e X.env)::starEach es X.env:=by rfl) (hpl:(backTo pos (starEach es X.env)).any (·.1)=false:=by rfl)
  (ht:eval (.Call (.Attribute o m apos) (e::es) [] pos) X.env=(do
   let ov <-eval o X.env
   standAt apos.atName
   let (f,first) <-holding [ov] (getMethod ov m pl)
   callWith pos f first (backTo pos (starEach (e::es) X.env)) (backToKw pos (keywordEach [] X.env))):=by rfl) :
  PE X (.Call (.Attribute o m apos) (e::es) [] pos) (zoI C m sp [] E0 ta t):=by
 obtain ⟨f,fd,F,hm,hb⟩:=D.ex
 exact zuJ (pl:=pl) he hc hm F (hr.mono hj) (.all hb) .nil zhh ha hst hpl ht
theorem zR {pl:Sem Bool} (D:zv X.prog X.w X.K X.mg X.base j C m ps sp) (hc:Cls X.K C) (hr:Room k X.A) (he:PE X o ta) (hj:j<=k:=by decide)
  (ht:eval (.Call (.Attribute o m apos) [] [] pos) X.env=(do
   let ov <-eval o X.env
   standAt apos.atName
   let (f,first) <-holding [ov] (getMethod ov m pl)
   callWith pos f first (backTo pos (starEach [] X.env)) (backToKw pos (keywordEach [] X.env))):=by rfl) :
  PE X (.Call (.Attribute o m apos) [] [] pos) (zoI C m sp [] E0 ta znn):=by
 obtain ⟨f,fd,F,hm,hb⟩:=D.ex
 exact zuq (pl:=pl) he hc hm F (hr.mono hj) (.all hb) .nil zhh ht
theorem zbm (M:MkI X.K C) (D:zv X.prog X.w X.K X.mg X.base j C "__init__" ps sp) (hr:Room k X.A) (hm:X.mg x=some (.ref C)) (ha:PA X (e::es) t) (hj:j+1<=k:=by decide) (hg:Gl X x:=by rfl)
  (hdb:(x == ("__debug__" : Str))=false:=by decide) (he:starEach (e::es) X.env=(false,eval e X.env)::starEach es X.env:=by rfl) (hpl:(backTo pos (starEach es X.env)).any (·.1)=false:=by rfl) :
  PE X (.Call (.Name x p) (e::es) [] pos) (zus C sp [] E0 t):=by
 obtain ⟨f,fd,F,hme,hb⟩:=D.ex
 exact zu0 ⟨M.makes,hme.at_,hme.fn,M.kp⟩ F (hr.mono hj) hg hm (.all hb) .nil zhh ha hdb he hpl
end
section
variable {K:W.Frag} {x:Str} {C f:Addr}
theorem zc3 (a:PySem.W.nsIn K mainGlobals x=some (some (.ref C))) (h1:PySem.W.makesIn K C=true) (h3:PySem.W.keepIn K (.ref C)=true):MkI K (cA K x):=by
 rw[zdF a];exact ⟨h1,h3⟩
end
noncomputable def zap (u m n:Int):List (Str × V):=[("cent_units", .int u),("principal_cents", .int m),("owed_units", .int n)]
abbrev Deb (K:W.Frag) (H:Hp) (p dx:Addr) (u m n:Int):Prop:=H p=some (.ins (cA K "Debt") dx (zap u m n))
theorem zrT {u m n x:Int}:zaI "owed_units" (.int x) (zap u m n)=zap u m x:=by rfl
theorem zoD {u m n x:Int}:zaI "principal_cents" (.int x) (zap u m n)=zap u x n:=by rfl
theorem zbH {u m n:Int}:(zap u m n).length<1000:=by show 3<1000;decide
theorem Deb.same {K:W.Frag} {H H':Hp} {p dx:Addr} {u m n:Int} (e:Deb K H p dx u m n) (s:Same H H'):Deb K H' p dx u m n:=s _ _ e
theorem zi8 {K:W.Frag} {H:Hp} {p q C dx:Addr} {fs:List (Str × V)} {o:HO} {xs:List V} (e:H p=some (.ins C dx fs)) (h:H q=some (.tup xs)):(upd H p o) q=some (.tup xs):=by
 rw[zp (zan h e (by intro z;cases z))];exact h
theorem zq {H:Hp} {p:Addr} (o:HO) (_h:H p=none):(upd H p o) p=some o:=zg
section
variable {H H':Hp} {xs ys zs:List V} {l r:List (Dbt.Wd × Int)} {p:Addr} {d:Dbt.Wd × Int}
end
theorem Deb.putL {K:W.Frag} {H:Hp} {p dx s:Addr} {u m n:Int} {xs:List V} {o:HO} (e:Deb K H p dx u m n) (h:H s=some (.lst xs)):Deb K (upd H s o) p dx u m n:=by
 show (upd H s o) p=_
 rw[zp (zan e h (by intro z;cases z))]
 exact e
theorem zfq {X:Cx}:zbD X (.type "int") (fun xs H Q=>∃ k,xs=[.bl k]/\∀ t:Int,t=(if k then 1 else 0)->(0<=t/\t<=1)->Q (.int t) H):=by
 intro pins s σ H xs us Q I r h
 obtain ⟨k,e,q⟩:=h
 exact zfm pins s σ H xs us Q I r (.inr ⟨k,e,q _ rfl (by cases k <;> decide)⟩)
structure zt8 (K:W.Frag) (C:Addr):Prop where
 ha:PySem.W.findIn K (.ref C) "__class__" = some (some (.builtin "object.__class__"))
 hn:PySem.W.specialIn K (.builtin "object.__class__") "__get__" = some (some (.builtin "getset_descriptor.__get__"))
 htk:PySem.W.takesIn K (.builtin "object.__class__")=some true
 hm:PySem.W.mroIn K C (.type "object")=some true
theorem zkN {K:W.Frag} {x:Str} {C:Addr} (a:PySem.W.nsIn K mainGlobals x=some (some (.ref C))) (h1:PySem.W.findIn K (.ref C) "__class__" = some (some (.builtin "object.__class__")))
  (h2:PySem.W.specialIn K (.builtin "object.__class__") "__get__" = some (some (.builtin "getset_descriptor.__get__"))) (h3:PySem.W.takesIn K (.builtin "object.__class__")=some true) (h4:PySem.W.mroIn K C (.type "object")=some true):zt8 K (cA K x):=by
 rw[zdF a];exact ⟨h1,h2,h3,h4⟩
theorem zsJ {X:Cx}:zbD X (.builtin "isinstance") (fun xs H Q=>∃ x t D b,xs=[x,.ref D]/\zdo X.K H x t/\PySem.W.kitOne X.K t (.ref D)=some b/\Q (.bl b) H):=by
 intro pins s σ H xs us Q I r h
 obtain ⟨x,t,D,b,rfl,ty,e,q⟩:=h
 obtain ⟨u,w',rfl,rx,rn⟩:=vals2 r
 cases rn
 exact znP I rx ty e fun tk=>⟨.bl b,H,I.tok tk,rfl,q⟩
theorem zw9 {s:Str} {A B:Prop} (h:A):if decide (V.str s=V.str s)=true then A else B:=by rw[if_pos (by simp)];exact h
theorem zxt {s t:Str} {A B:Prop} (ne:s≠t) (h:B):if decide (V.str s=V.str t)=true then A else B:=by rw[if_neg (by simpa using ne)];exact h
end L2
namespace L2
open PySem PySem.Spec PyProof.Rows
structure zqo (K:W.Frag) (C:Addr) (m qual:Str) (st:Stmt) (ps:List Str):Prop where
 ex:∃ (f:Addr) (fd:FuncData),Fun K m qual st f fd/\(PySem.W.specialIn K (.ref C) "__getattribute__" = some (some (.builtin "type.__getattribute__"))/\PySem.W.readsIn K C (.type "type")=true /\
  PySem.W.findCls K (.ref C) (.type "type") m=some (.val (.ref f))/\PySem.W.handedIn (.ref f)=true)/\∀ us:List Value,us.length=ps.length->bindArgs fd ⟨us,[]⟩=pure (ps.zip us)
structure zm0 (P:Program) (w:World) (K:W.Frag) (mg:Str->Option Value) (base:Heap) (k:Nat) (C:Addr) (m:Str) (ps:List Str) (sp:Sp):Prop where
 ex:∃ (f:Addr) (fd:FuncData),zcm P w K mg base CX0 k f fd ps sp/\(PySem.W.specialIn K (.ref C) "__getattribute__" = some (some (.builtin "type.__getattribute__"))/\PySem.W.readsIn K C (.type "type")=true /\
  PySem.W.findCls K (.ref C) (.type "type") m=some (.val (.ref f))/\PySem.W.handedIn (.ref f)=true)/\PySem.W.keepIn K (.ref f)=true/\∀ us:List Value,us.length=ps.length->bindArgs fd ⟨us,[]⟩=pure (ps.zip us)
theorem zqo.ok {P:Program} {w:World} {K:W.Frag} {mg:Str->Option Value} {base:Heap} {C:Addr} {m qual:Str} {st:Stmt} {N ps:List Str} {k:Nat} {sp:Sp} (S:zqo K C m qual st ps) (sc:zk N ps (zi st)) (len:∀ vs H Q E,sp vs H Q E->vs.length=ps.length)
  (hbody:∀ (f:Addr) (cdv:Value) (A:Around) (outer:List Env) (s:Shared) (H:Hp) (vs:List V) (Q:VK) (E:XK),Room k (A.deeper (envOfC qual (zi st) s.heap.objs.size f cdv))->sp vs H Q E ->
   ∃ t,PSs (zgZ CX0 P w K mg base N qual (zi st) f cdv A outer s H E).nox (zaT st) t/\t { nx:=fun _ H'=>Q .non H',rt:=Q } (start N vs) H):zm0 P w K mg base (k+1) C m ps sp:=by
 obtain ⟨f,fd,F,hm,hb⟩:=S.ex
 exact ⟨f,fd,F.ok sc len (fun cdv=>hbody f cdv),hm,F.kp,hb⟩
section
variable {X:Cx} {C:Addr} {x m:Str} {p pos apos:Pos} {e o:Expr} {es:List Expr} {t:TA} {j k:Nat} {ps:List Str} {sp:Sp}
theorem zqk {pl:Sem Bool} (D:zm0 X.prog X.w X.K X.mg X.base j C m ps sp) (he:PE X o (tC (.ref C))) (hr:Room k X.A) (ha:PA X (e::es) t) (hj:j<=k:=by decide)
  (hst:starEach (e::es) X.env=(false,eval e X.env)::starEach es X.env:=by rfl) (hpl:(backTo pos (starEach es X.env)).any (·.1)=false:=by rfl)
  (ht:eval (.Call (.Attribute o m apos) (e::es) [] pos) X.env=(do
   let ov <-eval o X.env
   standAt apos.atName
   let (f,first) <-holding [ov] (getMethod ov m pl)
   callWith pos f first (backTo pos (starEach (e::es) X.env)) (backToKw pos (keywordEach [] X.env))):=by rfl) :
  PE X (.Call (.Attribute o m apos) (e::es) [] pos) (zsf sp [] E0 t):=by
 intro pins s σ H Q I h
 obtain ⟨f,fd,F,⟨h1,h2,h3,h4⟩,kp,hb⟩:=D.ex
 refine PySem.W.methodCall_KW (pl:=pl) (thn (he pins s σ H (fun v H1=>v=.ref C/\H1=H) I ⟨rfl,rfl⟩) fun u s1 ⟨y,H1,I1,ry,e1,e2⟩=>?_) ht
 subst e1 e2
 obtain rfl:u=Value.ref C:=ry
 refine PySem.W.method_cls I1.kIn h1 (PySem.W.cls_value I1.kIn h2 h3 h4 ?_)
 have I2:=I1.tok (s1.toks+1)
 refine PySem.W.callWith_K (first:=[]) (h₀:=X.base) I.ok.mod.kin kp (thn (ha pos pins _ σ _ _ I2 h) fun us s2 ⟨vs,H2,I3,r,q2⟩=>⟨I3.kIn,?_⟩) hst hpl
 exact zgt (us:=us) (vs:=vs) (dvs:=[]) (ds:=[]) F (hr.mono hj) (.all hb) .nil zhh I3 r q2
end
inductive Ek where
 | out | fee | pay | due | turn | rate | late | still | base
noncomputable def Ek.cls:Ek->Str
 | .out => "Out"
 | .fee => "Fee"
 | .pay => "Pay"
 | .due => "Due"
 | .turn => "Turn"
 | .rate => "Rate"
 | .late => "Late"
 | .still => "Still"
 | .base => "Entry"
noncomputable def Ek.word:Ek->Str
 | .out => "out"
 | .fee => "fee"
 | .pay => "pay"
 | .due => "due"
 | .turn => "turn"
 | .rate => "rate"
 | .late => "late"
 | .still => "still"
 | .base => ""
noncomputable def zmU:Ek->Int->Int->List (Str × V)
 | .turn,d,_=>[("day", .int d)]
 | .base,d,_=>[("day", .int d)]
 | .rate,d,x=>[("day", .int d),("rate", .int x)]
 | .late,d,x=>[("day", .int d),("rate", .int x)]
 | .still,d,x=>[("day", .int d),("until", .int x)]
 | .out,d,x=>[("day", .int d),("amount", .int x)]
 | .fee,d,x=>[("day", .int d),("amount", .int x)]
 | .pay,d,x=>[("day", .int d),("amount", .int x)]
 | .due,d,x=>[("day", .int d),("amount", .int x)]
noncomputable def zxo:Ek->Int->Int->List V
 | .turn,d,_=>[.str "turn", .int d]
 | .base,d,_=>[.str "", .int d]
 | k,d,x=>[.str k.word,.int d,.int x]
abbrev zkW (K:W.Frag) (H:Hp) (a dx:Addr) (k:Ek) (d x:Int):Prop:=H a=some (.ins (cA K k.cls) dx (zmU k d x))
theorem zg1 (k:Ek) (d x:Int):yby ("day" : Str) (zmU k d x)=some (V.int d):=by cases k <;> rfl
theorem zhm (k:Ek) (d x:Int):yby ("word" : Str) (zmU k d x)=none:=by cases k <;> rfl
noncomputable def zvp:Ek->Int->Int->Prop
 | .fee,_,x => -1000000000000<=x/\x<=1000000000000
 | .rate,_,x=>0<=x/\x<=1000000
 | .late,_,x=>0<=x/\x<=1000000
 | .still,d,x=>d+1<=x/\x<=1000000
 | .turn,_,_=>True
 | .base,_,_=>False
 | .out,_,x=>1<=x/\x<=1000000000000
 | .pay,_,x=>1<=x/\x<=1000000000000
 | .due,_,x=>1<=x/\x<=1000000000000
def ztr (K:W.Frag) (m:Str) (sp:Ek->Sp) (ta:TE) (t:TA):TE:=fun σ H Q=>ta σ H fun x H1=>∃ (k:Ek) (a dx:Addr) (fs:List (Str × V)),x=.ref a/\H1 a=some (.ins (cA K k.cls) dx fs)/\fs.lookup m=none/\t σ H1 fun vs H2=>sp k (x::vs) H2 Q E0
section
variable {X:Cx} {C:Addr} {x m:Str} {p pos apos:Pos} {e o:Expr} {es:List Expr} {ta:TE} {t:TA} {j k:Nat} {ps:List Str}
theorem zs4 {pl:Sem Bool} {sp:Ek->Sp} (D:∀ k:Ek,zv X.prog X.w X.K X.mg X.base j (cA X.K k.cls) m ps (sp k)) (hc:∀ k:Ek,Cls X.K (cA X.K k.cls)) (hr:Room k X.A) (he:PE X o ta) (hj:j<=k:=by decide)
  (ht:eval (.Call (.Attribute o m apos) [] [] pos) X.env=(do
   let ov <-eval o X.env
   standAt apos.atName
   let (f,first) <-holding [ov] (getMethod ov m pl)
   callWith pos f first (backTo pos (starEach [] X.env)) (backToKw pos (keywordEach [] X.env))):=by rfl) :
  PE X (.Call (.Attribute o m apos) [] [] pos) (ztr X.K m sp ta znn):=by
 intro pins s σ H Q I h
 refine PySem.W.methodCall_KW (pl:=pl) (thn (he pins s σ H _ I h) fun u s1 ⟨x,H1,I1,rx,kd,a,dx,fs,ex,ea,l,q⟩=>?_) ht
 subst ex
 obtain rfl:u=Value.ref a:=rx
 obtain ⟨f,fd,F,hm,hb⟩:=(D kd).ex
 refine zdE I1 ea (hc kd) hm l ?_
 exact PySem.W.callWith_K0 (first:=[.ref a]) I1.kIn hm.kp (zgt (us:=[.ref a]) (vs:=[.ref a]) (dvs:=[]) (ds:=[]) F (hr.mono hj) (.all hb) .nil zhh I1 (.cons rfl .nil) q)
end
section
variable {K:W.Frag} {x:Str} {C f:Addr}
theorem zv1 {m qual:Str} {st:Stmt} {ps:List Str} {oc:Value} {od an:Option Addr} {osl:Array (Option Value)} {kV doc pm cdv ct:Value} (a:PySem.W.nsIn K mainGlobals x=some (some (.ref C))) (h1:PySem.W.specialIn K (.ref C) "__getattribute__" = some (some (.builtin "type.__getattribute__")))
  (h2:PySem.W.readsIn K C (.type "type")=true) (h3:PySem.W.findCls K (.ref C) (.type "type") m=some (.val (.ref f))) (h4:PySem.W.handedIn (.ref f)=true)
  (fk:PySem.W.keepIn K (.ref f)=true) (fl:K.lookup f=some ⟨oc,od,.func (PySem.W.fnOf m qual (zcI st) (zaT st) (zi st) .none kV doc pm an cdv ct),osl⟩) (fc:PySem.W.codeIn K cdv qual=true)
  (hb:∀ us:List Value,us.length=ps.length->bindArgs (PySem.W.fnOf m qual (zcI st) (zaT st) (zi st) .none kV doc pm an cdv ct) ⟨us,[]⟩=pure (ps.zip us)):zqo K (cA K x) m qual st ps:=by
 rw[zdF a];exact ⟨f,_,zoW fl fc fk,⟨h1,h2,h3,h4⟩,hb⟩
end
end L2
namespace L2
open PySem PySem.Spec PyProof.Rows
section
variable {X:Cx}
end
end L2
namespace L2
open PySem
end L2
namespace L2
noncomputable def eqK:Kd->Kd->Bool
 | .plain,.plain=>true
 | .bank,.bank=>true
 | .thirty,.thirty=>true
 | .exact,.exact=>true
 | _,_=>false
noncomputable def zwp (k:Kd):Kd->Bool
 | .plain=>true
 | .bank=>eqK k .bank
 | .thirty=>eqK k .thirty
 | .exact=>eqK k .exact
end L2
namespace L2
open PySem PySem.Spec PyProof.Rows
section
variable {M:Model} {A:Around} {E:Value->Shared->Prop} {s:Shared} {B:Heap} {v:Env} {out:List Env} {L e d:Addr} {Q:Unit->Shared->Prop}
end
section
variable {X:Cx} {pins:List (Addr × Obj)} {σ:St} {H:Hp} {s:Shared} {e:Addr} {φ:Heap->Prop}
end
section
variable {P:Program} {w:World} {K:W.Frag} {mg:Str->Option Value} {base:Heap} {N:List Str} {qual:Str} {scope:Scope} {f:Addr} {cd:Value} {A:Around} {outer:List Env} {s₀:Shared} {H₀:Hp} {E:XK}
end
section
variable {M:Model} {A:Around} {E:Value->Shared->Prop} {env:Env} {nm q:Str} {C N:Addr} {bs bm:List Value} {hdct:Bool} {sn:List Str} {sub:List Value} {ab:Bool} {col:Option Bool} {dd:Option Addr} {k0 k1 k2 k3 k5:Option Value} {newId:String}
end
section
variable {X:Cx} {x:Str} {np pos:Pos} {e0:Expr} {t:TA} {C f:Addr} {fd:FuncData} {ps:List Str} {name:Str} {j k:Nat}
end
section
variable {X:Cx} {x:Str} {np cpos pos:Pos} {e0:Expr} {t:TA} {name:Str} {j k:Nat} {E:XK}
end
section
variable {X:Cx} {o value:Expr} {name:Str} {pos pos':Pos} {ta tv:TE} {C:Addr}
end
end L2
namespace L2
open PySem PySem.Spec PyProof.Rows
inductive LL {α:Type} (R:V->α->Prop):List V->List α->Prop
 | nil:LL R [] []
 | cons {v:V} {e:α} {vs:List V} {es:List α}:R v e->LL R vs es->LL R (v::vs) (e::es)
section
variable {α:Type} {R S:V->α->Prop} {vs ws:List V} {es fs:List α}
theorem LL.length (h:LL R vs es):vs.length=es.length:=by
 induction h with
 | nil=>rfl
 | cons _ _ ih=>simp[ih]
theorem LL.imp (f:∀ v e,R v e->S v e) (h:LL R vs es):LL S vs es:=by
 induction h with
 | nil=>exact .nil
 | cons h _ ih=>exact .cons (f _ _ h) ih
theorem LL.append (h:LL R vs es) (k:LL R ws fs):LL R (vs++ws) (es++fs):=by
 induction h with
 | nil=>exact k
 | cons h _ ih=>exact .cons h ih
theorem LL.push {v:V} {e:α} (h:LL R vs es) (k:R v e):LL R (vs++[v]) (es++[e]):=h.append (.cons k .nil)
theorem LL.take (h:LL R vs es):∀ n,LL R (vs.take n) (es.take n):=by
 induction h with
 | nil=>intro n;simp;exact .nil
 | cons h _ ih =>
  intro n
  cases n with
  | zero=>exact .nil
  | succ n=>exact .cons h (ih n)
theorem LL.get (h:LL R vs es):∀ {i:Nat} {v:V},vs[i]?=some v->∃ e,es[i]?=some e/\R v e:=by
 induction h with
 | nil=>intro i v e;simp at e
 | cons h _ ih =>
  intro i v e
  cases i with
  | zero=>cases e;exact ⟨_,rfl,h⟩
  | succ i=>exact ih e
theorem LL.eqm {g:α->V} (h:LL (fun v e=>v=g e) vs es):vs=es.map g:=by
 induction h with
 | nil=>rfl
 | cons h _ ih=>rw[h,ih];rfl
end
theorem zgA {α:Type} {J:It} {ix:List Nat} {tt:TT} {te:TE} {σ:St} {l:Addr} {xs:List V} {H:Hp} {R:Hp->Prop} (Y:ziv J H xs) (hl:H l=none) (hz:xs.length<=sizeLine) (es:List α) (len:es.length=xs.length)
  (f:α->Bool) (P:Hp->V->α->Prop) (mono:∀ v e H1 H2,Same H1 H2->P H1 v e->P H2 v e) (put:∀ v e H1 ys zs,H1 l=some (.lst ys)->P H1 v e->P (upd H1 l (.lst zs)) v e)
  (ht:∀ (i:Nat) x e H' Q',xs[i]?=some x->es[i]?=some e->Same H H'->Q' (f e) H'->tt (some x::capts σ ix) H' Q')
  (he:∀ (i:Nat) x e H' Q',xs[i]?=some x->es[i]?=some e->f e=true->Same H H'->(∀ v H2,Same H' H2->P H2 v e->Q' v H2)->te (some x::capts σ ix) H' Q')
  (fin:∀ ys H',Same H H'->H' l=some (.lst ys)->LL (P H') ys (es.filter f)->R H') :
  ∃ W:Nat->Nat->List V->Hp->Prop,(∃ m,W 0 m [] (upd H l (.lst [])))/\zlc ix tt te σ J l R W:=by
 refine ⟨fun i m ys H'=>m=xs.length-i/\i<=xs.length/\LL (P H') ys ((es.take i).filter f)/\Same H H'/\H' l=some (.lst ys),⟨xs.length,by simp,ycy _,by simp;exact .nil,ze hl _,zg⟩,?_⟩
 rintro i m ys H' ⟨rfl,hi,hy,sH,hL⟩
 refine ⟨hL,?_⟩
 by_cases hlt:i<xs.length
 ·have yl:ys.length<=i:=by
   rw[hy.length]
   exact ycz (yaz _ _) (by rw[ybd];omega)
  have eP:es[i]?=some (es[i]'(by omega)):=yaa (by omega)
  generalize es[i]'(by omega)=e at eP
  have tk:es.take (i+1)=es.take i++[e]:=by rw[ybc,eP];rfl
  refine .inr ⟨Y.go i H' sH hlt,by omega,fun x H2 y=>?_⟩
  obtain ⟨rfl,e2⟩:=Y.yld i H' x H2 sH y
  refine ht i x e _ _ e2 eP sH ?_
  cases b:f e with
  | true =>
   rw[if_pos rfl]
   refine he i x e _ _ e2 eP b sH fun v H3 s3 pv=>?_
   have hL3:=s3 _ _ hL
   refine ⟨hL3,xs.length-(i+1),by omega,rfl,hlt,?_,zE (sH.trans s3) hl,zg⟩
   rw[tk,ybb,yat b]
   exact ((hy.imp fun v e q=>put v e H3 ys _ hL3 (mono v e _ _ s3 q)).push (put v e H3 ys _ hL3 pv))
  | false =>
   rw[if_neg Bool.false_ne_true]
   refine ⟨xs.length-(i+1),by omega,rfl,hlt,?_,sH,hL⟩
   rw[tk,ybb,yaq (by rw[b];decide)]
   simpa using hy
 ·rw[yav (by omega)] at hy
  exact .inl ⟨Y.stop i H' sH (by omega),fin ys H' sH hL hy⟩
theorem isI {P:Program} {w:World} {k:Int} {t:Tok}:(intKind P w).is k (.int k t)=true:=by first | (simp[intKind,Value.isInt];done) | exact beq_self_eq_true _
noncomputable def lkI (l:List (Int × Int)) (k:Int):Option Int:=(l.find? fun p=>p.1=k).map (·.2)
theorem KR.look {r:List (Int × Value)} {l:List (Int × Int)} {k:Int} {v:V} {u:Value} (rv:RelV v u) (h:KR r l):RelV (((lkI l k).map V.int).getD v) ((valueAt r k).getD u):=by
 induction h with
 | nil=>exact rv
 | @cons k' y t r l _ ih =>
  unfold lkI PySem.valueAt at *
  by_cases e:k'=k
  ·rw[yaw (by simpa using e),yaw (by simpa using e)]
   exact ⟨t,rfl⟩
  ·rw[yap (by simpa using e),yap (by simpa using e)]
   exact ih
section
variable {X:Cx} {pins:List (Addr × Obj)} {σ:St} {H:Hp} {s:Shared} {o i e f value:Expr} {pos pos' apos cpos:Pos} {td ty tx tv:TE}
theorem zqd {P:Program} {w:World} {H:Hp} {h:Heap} {d:Addr} {kvs:List (Int × Value)} {l:List (Int × Int)} (lo:(d == sysModules)=false) (hd:h.DictOf (intKind P w) d kvs) (hk:KR kvs l):zam P w H h d (zbM P w d l) :=
 ⟨⟨lo,kvs,hd,hk⟩,(let ⟨o,_,_,e,_⟩:=hd;⟨o,e⟩),fun h1 h2 ⟨lo',kv,x,y⟩ e=>⟨lo',kv,zbF x e,y⟩⟩
def zvR (P:Program) (w:World):TE:=fun _ H Q=>∀ p,H p=none->Q (.ref p) (upd H p (zbM P w p []))
theorem zuc:PE X (.Dict [] [] pos) (zvR X.prog X.w):=fun pins s σ H Q I h=>by
 have big:sysModules<s.heap.objs.size:=ydf (by decide) (show mainGlobals<s.heap.objs.size from (I.mod.glob.keeps I.bk).lt)
 have new:zam X.prog X.w (upd H s.heap.objs.size (zbM X.prog X.w s.heap.objs.size [])) (s.heap.push { cls:=.type "dict", data:=.dict #[] }) s.heap.objs.size (zbM X.prog X.w s.heap.objs.size []) :=
  zqd (beq_eq_false_iff_ne.mpr (Ne.symm (ycv big))) (Heap.DictOf.new s.heap) .nil
 exact wpAny_Dict_empty ⟨.ref s.heap.objs.size,_,I.laid (t':=s.toks) (fun _ _ q=>ydj _ q) (ycu _) new,rfl,h _ (I.hok.fresh (ycu _))⟩
def zuz (P:Program) (w:World) (td ty tx:TE):TE:=fun σ H Q=>td σ H fun x H1=>∃ (d:Addr) (l:List (Int × Int)),x=.ref d/\H1 d=some (zbM P w d l)/\ty σ H1 fun y H2=>tx σ H2 fun z H3=>∃ (k:Int),y=.int k/\H3 d=some (zbM P w d l)/\Q (((lkI l k).map V.int).getD z) H3
theorem zk3 (ho:PE X o td) (he:PE X e ty) (hf:PE X f tx) (hb:attributeBase o "get" X.env (eval o X.env)=eval o X.env:=by rfl)
  (few:((backTo cpos (starEach [e,f] X.env)).all (fun x=>!x.1) && (backToKw cpos (keywordEach [] X.env)).all (fun x=>x.1.isSome)
   && decide (([e,f]:List Expr).length+([]:List Keyword).length+(if ([]:List Keyword).isEmpty then 0 else 1)<30))=true:=by rfl)
  (line:(apos.endLine == cpos.line)=true:=by rfl) (trees:backTo cpos (starEach [e,f] X.env)=[(false,eval e X.env),(false,eval f X.env)]:=by rfl):PE X (.Call (.Attribute o "get" apos) [e,f] [] cpos) (zuz X.prog X.w td ty tx):=by
 intro pins s σ H Q I h
 refine wpAny_Call_method hb few line PySem.F.plainAttrs_dict PySem.F.slot_dict_get PySem.F.type_dict_get (thn (ho pins s σ H _ I h) fun u s1 ⟨x,H1,I1,rx,d,l,ex,hd,q1⟩=>?_)
 subst ex
 obtain rfl:u=Value.ref d:=rx
 obtain ⟨lo,kvs,hD,hk⟩:=(I1.hok d _ hd).1
 refine ⟨hD.typeIs,hD.mapOf.noDict,?_⟩
 rw[trees]
 refine Calls.callWith_builtin rfl (Calls.evalArgs_plain (Calls.spliced_cons (thn (he pins s1 σ H1 _ I1 q1) fun iv s2 ⟨y,H2,I2,ry,q2⟩ =>
  Calls.spliced_cons (thn (hf pins s2 σ H2 _ I2 q2) fun fv s3 ⟨z,H3,I3,rz,k,ek,hd3,q3⟩=>Calls.spliced_nil ?_))))
 subst ek
 obtain ⟨t,rfl⟩:=ry
 obtain ⟨lo3,kvs3,hD3,hk3⟩:=(I3.hok d _ hd3).1
 exact call_meetsIn PySem.F.slot_dict_get hD3.typeIs PySem.F.entry_dict_get (PySem.F.args_dict_get_3 _ _ _) (meets_dict_get_default (intKind X.prog X.w) d isI lo3 fv) ⟨_,hD3.mapOf,_,H3,I3.tok _,hk3.look rz,q3⟩
def zwH (P:Program) (w:World) (td ty tv:TE):TS:=fun D σ H=>tv σ H fun v H1=>td σ H1 fun x H2=>ty σ H2 fun y H3=>∃ (d:Addr) (l:List (Int × Int)) (k n:Int),x=.ref d/\y=.int k/\v=.int n/\H3 d=some (zbM P w d l)/\l.length<=1000/\D.nx σ (upd H3 d (zbM P w d (zao l k n)))
theorem zvx (ho:PE X o td) (hi:PE X i ty) (hv:PE X value tv) (hs:swapsWith value (some (.Subscript o i pos')) pos.line X.env=pure false:=by rfl):PS X (.Assign [.Subscript o i pos'] value pos) (zwH X.prog X.w td ty tv):=by
 intro pins s σ H D I h
 refine wpAny_Assign_Subscript (thn (hv pins s σ H _ I h) fun r s1 ⟨v,H1,I1,rv,q1⟩=>thn (ho pins s1 σ H1 _ I1 q1) fun u s2 ⟨x,H2,I2,rx,q2⟩=>thn (hi pins s2 σ H2 _ I2 q2) fun iv s3 ⟨y,H3,I3,ry,d,l,k,n,ex,ey,ev,hd,hl,q3⟩=>?_) hs
 subst ex ey ev
 obtain rfl:u=Value.ref d:=rx
 obtain ⟨t,rfl⟩:=ry
 obtain ⟨t',rfl⟩:=rv
 obtain ⟨lo,kvs,hD,hk⟩:=(I3.hok d _ hd).1
 have sz:=sizeLine_eq
 refine wpAny_setItem_pairs (knd:=intKind X.prog X.w) (k:=k) (hsz:=by rw[hk.length];omega) isI hD fun h' hD' hs'=>?_
 have he:∃ q,h'.get? d=some q:=let ⟨q,_,_,hq,_⟩:=hD';⟨q,hq⟩
 exact ⟨σ,_,I3.write (x:=d) (e:=d) (by rw[hd];exact True.intro) (.inl rfl) (fun b q hb z=>(hs'.2 b hb).trans z) he (zqd lo hD' hk.stored),q3⟩
end
section
variable {X:Cx} {m f:Str} {pos apos:Pos} {o e:Expr} {ta:TE} {j k:Nat} {ps:List Str}
theorem zcy (K:W.Frag) (he:PE X e ta) (hb:attributeBase e f X.env (eval e X.env)=eval e X.env) (hK:X.K=K:=by rfl):PE X (.Attribute e f pos) (zwq K ta f):=by
 subst hK
 exact zvW he hb
theorem zf2 (K:W.Frag) {pl:Sem Bool} {sp:Ek->Sp} (D:∀ k:Ek,zv X.prog X.w X.K X.mg X.base j (cA X.K k.cls) m ps (sp k)) (hc:∀ k:Ek,Cls X.K (cA X.K k.cls)) (hr:Room k X.A) (he:PE X o ta) (hj:j<=k:=by decide)
  (ht:eval (.Call (.Attribute o m apos) [] [] pos) X.env=(do
   let ov <-eval o X.env
   standAt apos.atName
   let (f,first) <-holding [ov] (getMethod ov m pl)
   callWith pos f first (backTo pos (starEach [] X.env)) (backToKw pos (keywordEach [] X.env))):=by rfl) (hK:X.K=K:=by rfl) :
  PE X (.Call (.Attribute o m apos) [] [] pos) (ztr K m sp ta znn):=by
 subst hK
 exact zs4 (pl:=pl) D hc hr he hj ht
end
end L2
namespace L2
open PySem PySem.Spec PyProof.Rows
noncomputable def zcD (l:List (Int × V)) (k:Int) (y:V):List (Int × V):=if l.any (fun p=>p.1=k) then l.map (fun p=>if p.1=k then (p.1,y) else p) else l++[(k,y)]
noncomputable def lkV (l:List (Int × V)) (k:Int):Option V:=(l.find? fun p=>p.1=k).map (·.2)
inductive KU:List (Int × Value)->List (Int × V)->Prop
 | nil:KU [] []
 | cons {k:Int} {v:V} {u:Value} {r:List (Int × Value)} {l:List (Int × V)}:RelV v u->KU r l->KU ((k,u)::r) ((k,v)::l)
theorem KU.length {r:List (Int × Value)} {l:List (Int × V)} (h:KU r l):r.length=l.length:=by
 induction h with
 | nil=>rfl
 | cons _ _ ih=>simp[ih]
theorem KU.any {r:List (Int × Value)} {l:List (Int × V)} {k:Int} (h:KU r l):r.any (fun kv=>kv.1=k)=l.any (fun p=>p.1=k):=by
 induction h with
 | nil=>rfl
 | cons _ _ ih=>rw[ycd,ycd,ih]
theorem KU.snoc {r:List (Int × Value)} {l:List (Int × V)} {k:Int} {v:V} {u:Value} (h:KU r l) (rv:RelV v u):KU (r++[(k,u)]) (l++[(k,v)]):=by
 induction h with
 | nil=>exact .cons rv .nil
 | cons r' _ ih=>exact .cons r' ih
theorem KU.map {r:List (Int × Value)} {l:List (Int × V)} {k:Int} {v:V} {u:Value} (h:KU r l) (rv:RelV v u):KU (r.map fun kv=>if kv.1=k then (kv.1,u) else kv) (l.map fun p=>if p.1=k then (p.1,v) else p):=by
 induction h with
 | nil=>exact .nil
 | @cons k' v' u' r l r' _ ih =>
  rw[ybk,ybk]
  by_cases e:k'=k
  ·rw[if_pos e,if_pos e];exact .cons rv ih
  ·rw[if_neg e,if_neg e];exact .cons r' ih
theorem KU.stored {r:List (Int × Value)} {l:List (Int × V)} {k:Int} {v:V} {u:Value} (h:KU r l) (rv:RelV v u):KU (stored r k u) (zcD l k v):=by
 unfold PySem.stored zcD
 rw[h.any]
 split
 ·exact h.map rv
 ·exact h.snoc rv
theorem KU.look {r:List (Int × Value)} {l:List (Int × V)} {k:Int} {v:V} {u:Value} (rv:RelV v u) (h:KU r l):RelV ((lkV l k).getD v) ((valueAt r k).getD u):=by
 induction h with
 | nil=>exact rv
 | @cons k' v' u' r l r' _ ih =>
  unfold lkV PySem.valueAt at *
  by_cases e:k'=k
  ·rw[yaw (by simpa using e),yaw (by simpa using e)]
   exact r'
  ·rw[yap (by simpa using e),yap (by simpa using e)]
   exact ih
theorem KU.zwF {r:List (Int × Value)} {l:List (Int × V)} {k:Int} {v:V} (h:KU r l) (e:lkV l k=some v):∃ u,valueAt r k=some u/\RelV v u:=by
 induction h with
 | nil=>cases e
 | @cons k' v' u' r l r' _ ih =>
  unfold lkV PySem.valueAt at *
  by_cases c:k'=k
  ·rw[yaw (by simpa using c)] at e ⊢
   cases e
   exact ⟨_,rfl,r'⟩
  ·rw[yap (by simpa using c)] at e ⊢
   exact ih e
theorem KU.zwO {r:List (Int × Value)} {l:List (Int × V)} {k:Int} (h:KU r l):(valueAt r k).isSome=(lkV l k).isSome:=by
 induction h with
 | nil=>rfl
 | @cons k' v' u' r l r' _ ih =>
  unfold lkV PySem.valueAt at *
  by_cases c:k'=k
  ·rw[yaw (by simpa using c),yaw (by simpa using c)];rfl
  ·rw[yap (by simpa using c),yap (by simpa using c)]
   exact ih
theorem zmT (l:List (Int × V)) (k:Int) (y:V):(zcD l k y).length<=l.length+1:=by
 unfold zcD
 split
 ·rw[yab];omega
 ·simp
theorem zsl (l:List (Int × V)) (k j:Int) (y:V):lkV (zcD l k y) j=if j=k then some y else lkV l j:=by
 unfold zcD lkV
 induction l with
 | nil =>
  by_cases c:j=k
  ·subst c;simp
  ·have c':¬ k=j:=fun z=>c z.symm
   simp[c,c']
 | cons p l ih =>
  by_cases a:p.1=k
  ·have h1:(p::l).any (fun p=>decide (p.1=k))=true:=by rw[ycd,decide_eq_true a];rfl
   rw[if_pos h1,ybk,if_pos a]
   by_cases c:j=k
   ·rw[if_pos c,yaw (by simp;omega)];rfl
   ·rw[if_neg c,yap (by simp;omega),yap (by simp;omega)]
    congr 1
    clear ih h1
    induction l with
    | nil=>rfl
    | cons q l ih2 =>
     rw[ybk]
     by_cases e:q.1=k
     ·rw[if_pos e,yap (by simp;omega),yap (by simp;omega)];exact ih2
     ·rw[if_neg e]
      by_cases e2:q.1=j
      ·rw[yaw (by simpa using e2),yaw (by simpa using e2)]
      ·rw[yap (by simpa using e2),yap (by simpa using e2)];exact ih2
  ·have h1:(p::l).any (fun p=>decide (p.1=k))=l.any (fun p=>decide (p.1=k)):=by rw[ycd,decide_eq_false a];rfl
   rw[h1]
   have st:(if l.any (fun p=>decide (p.1=k))=true then (p::l).map (fun p=>if p.1=k then (p.1,y) else p) else p::l++[(k,y)])=p::(if l.any (fun p=>decide (p.1=k))=true then l.map (fun p=>if p.1=k then (p.1,y) else p) else l++[(k,y)]):=by
    split
    ·rw[ybk,if_neg a]
    ·rfl
   rw[st]
   by_cases e:p.1=j
   ·rw[yaw (by simpa using e),yaw (by simpa using e),if_neg (by omega)]
   ·rw[yap (by simpa using e),yap (by simpa using e)]
    exact ih
noncomputable def zbu (P:Program) (w:World) (d:Addr) (l:List (Int × V)):HO:=.ext fun h=>(d == sysModules)=false/\∃ kvs,h.DictOf (intKind P w) d kvs/\KU kvs l
section
variable {X:Cx} {pins:List (Addr × Obj)} {σ:St} {H:Hp} {s:Shared} {o i e f value:Expr} {pos pos' apos cpos:Pos} {td ty tx tv:TE}
theorem zoP {P:Program} {w:World} {H:Hp} {h:Heap} {d:Addr} {kvs:List (Int × Value)} {l:List (Int × V)} (lo:(d == sysModules)=false) (hd:h.DictOf (intKind P w) d kvs) (hk:KU kvs l):zam P w H h d (zbu P w d l) :=
 ⟨⟨lo,kvs,hd,hk⟩,(let ⟨o,_,_,e,_⟩:=hd;⟨o,e⟩),fun h1 h2 ⟨lo',kv,x,y⟩ e=>⟨lo',kv,zbF x e,y⟩⟩
def zvZ (P:Program) (w:World):TE:=fun _ H Q=>∀ p,H p=none->Q (.ref p) (upd H p (zbu P w p []))
theorem zue:PE X (.Dict [] [] pos) (zvZ X.prog X.w):=fun pins s σ H Q I h=>by
 have big:sysModules<s.heap.objs.size:=ydf (by decide) (show mainGlobals<s.heap.objs.size from (I.mod.glob.keeps I.bk).lt)
 have new:zam X.prog X.w (upd H s.heap.objs.size (zbu X.prog X.w s.heap.objs.size [])) (s.heap.push { cls:=.type "dict", data:=.dict #[] }) s.heap.objs.size (zbu X.prog X.w s.heap.objs.size []) :=
  zoP (beq_eq_false_iff_ne.mpr (Ne.symm (ycv big))) (Heap.DictOf.new s.heap) .nil
 exact wpAny_Dict_empty ⟨.ref s.heap.objs.size,_,I.laid (t':=s.toks) (fun _ _ q=>ydj _ q) (ycu _) new,rfl,h _ (I.hok.fresh (ycu _))⟩
def zwI (P:Program) (w:World) (td ty tx:TE):TE:=fun σ H Q=>td σ H fun x H1=>∃ (d:Addr) (l:List (Int × V)),x=.ref d/\H1 d=some (zbu P w d l)/\ty σ H1 fun y H2=>tx σ H2 fun z H3=>∃ (k:Int),y=.int k/\H3 d=some (zbu P w d l)/\Q ((lkV l k).getD z) H3
theorem zrC (ho:PE X o td) (he:PE X e ty) (hf:PE X f tx) (hb:attributeBase o "get" X.env (eval o X.env)=eval o X.env:=by rfl)
  (few:((backTo cpos (starEach [e,f] X.env)).all (fun x=>!x.1) && (backToKw cpos (keywordEach [] X.env)).all (fun x=>x.1.isSome)
   && decide (([e,f]:List Expr).length+([]:List Keyword).length+(if ([]:List Keyword).isEmpty then 0 else 1)<30))=true:=by rfl)
  (line:(apos.endLine == cpos.line)=true:=by rfl) (trees:backTo cpos (starEach [e,f] X.env)=[(false,eval e X.env),(false,eval f X.env)]:=by rfl):PE X (.Call (.Attribute o "get" apos) [e,f] [] cpos) (zwI X.prog X.w td ty tx):=by
 intro pins s σ H Q I h
 refine wpAny_Call_method hb few line PySem.F.plainAttrs_dict PySem.F.slot_dict_get PySem.F.type_dict_get (thn (ho pins s σ H _ I h) fun u s1 ⟨x,H1,I1,rx,d,l,ex,hd,q1⟩=>?_)
 subst ex
 obtain rfl:u=Value.ref d:=rx
 obtain ⟨lo,kvs,hD,hk⟩:=(I1.hok d _ hd).1
 refine ⟨hD.typeIs,hD.mapOf.noDict,?_⟩
 rw[trees]
 refine Calls.callWith_builtin rfl (Calls.evalArgs_plain (Calls.spliced_cons (thn (he pins s1 σ H1 _ I1 q1) fun iv s2 ⟨y,H2,I2,ry,q2⟩ =>
  Calls.spliced_cons (thn (hf pins s2 σ H2 _ I2 q2) fun fv s3 ⟨z,H3,I3,rz,k,ek,hd3,q3⟩=>Calls.spliced_nil ?_))))
 subst ek
 obtain ⟨t,rfl⟩:=ry
 obtain ⟨lo3,kvs3,hD3,hk3⟩:=(I3.hok d _ hd3).1
 exact call_meetsIn PySem.F.slot_dict_get hD3.typeIs PySem.F.entry_dict_get (PySem.F.args_dict_get_3 _ _ _) (meets_dict_get_default (intKind X.prog X.w) d isI lo3 fv) ⟨_,hD3.mapOf,_,H3,I3.tok _,hk3.look rz,q3⟩
def zwC (P:Program) (w:World) (td ty tv:TE):TS:=fun D σ H=>tv σ H fun v H1=>td σ H1 fun x H2=>ty σ H2 fun y H3=>∃ (d:Addr) (l:List (Int × V)) (k:Int),x=.ref d/\y=.int k/\H3 d=some (zbu P w d l)/\l.length<=1000/\D.nx σ (upd H3 d (zbu P w d (zcD l k v)))
theorem zu4 (ho:PE X o td) (hi:PE X i ty) (hv:PE X value tv) (hs:swapsWith value (some (.Subscript o i pos')) pos.line X.env=pure false:=by rfl):PS X (.Assign [.Subscript o i pos'] value pos) (zwC X.prog X.w td ty tv):=by
 intro pins s σ H D I h
 refine wpAny_Assign_Subscript (thn (hv pins s σ H _ I h) fun r s1 ⟨v,H1,I1,rv,q1⟩=>thn (ho pins s1 σ H1 _ I1 q1) fun u s2 ⟨x,H2,I2,rx,q2⟩=>thn (hi pins s2 σ H2 _ I2 q2) fun iv s3 ⟨y,H3,I3,ry,d,l,k,ex,ey,hd,hl,q3⟩=>?_) hs
 subst ex ey
 obtain rfl:u=Value.ref d:=rx
 obtain ⟨t,rfl⟩:=ry
 obtain ⟨lo,kvs,hD,hk⟩:=(I3.hok d _ hd).1
 have sz:=sizeLine_eq
 refine wpAny_setItem_pairs (knd:=intKind X.prog X.w) (k:=k) (hsz:=by rw[hk.length];omega) isI hD fun h' hD' hs'=>?_
 have he:∃ q,h'.get? d=some q:=let ⟨q,_,_,hq,_⟩:=hD';⟨q,hq⟩
 exact ⟨σ,_,I3.write (x:=d) (e:=d) (by rw[hd];exact True.intro) (.inl rfl) (fun b q hb z=>(hs'.2 b hb).trans z) he (zoP lo hD' (hk.stored rv)),q3⟩
def zw8 (P:Program) (w:World):R2:=fun x y H Q=>∃ d l k v,x=.ref d/\y=.int k/\H d=some (zbu P w d l)/\lkV l k=some v/\Q v H
theorem zuf {X:Cx}:IxR X (zw8 X.prog X.w):=by
 intro value slice pins s σ H x y v u Q I rx ry h hs
 obtain ⟨d,l,k,z,rfl,rfl,hd,hl,q⟩:=h
 obtain rfl:v=Value.ref d:=rx
 obtain ⟨t,rfl⟩:=ry
 obtain ⟨lo,kvs,hD,hk⟩:=(I.hok d _ hd).1
 obtain ⟨u',e,ru⟩:=hk.zwF hl
 exact subscriptTail_builtinR (x:=u') hD.typeIs slot_dict_getitem.lookup
  (wpAny_getItem_of (Q:=fun r s'=>r=u'/\EP X pins σ Q r s') (knd:=intKind X.prog X.w) (k:=k) isI hD.mapOf e ⟨rfl,z,H,I.tok _,ru,q⟩) hs
def zxr (P:Program) (w:World):R2:=fun x y H Q=>∃ d l k,x=.int k/\y=.ref d/\H d=some (zbu P w d l)/\Q (.bl (lkV l k).isSome) H
theorem zqM {X:Cx}:OpR X (compareOp .In) (zxr X.prog X.w):=by
 intro pins s σ H x y v u Q I rx ry h
 obtain ⟨d,l,k,rfl,rfl,hd,q⟩:=h
 cases ry
 obtain ⟨t,rfl⟩:=rx
 obtain ⟨lo,kvs,hD,hk⟩:=(I.hok d _ hd).1
 refine wpAny_in_of (knd:=intKind X.prog X.w) isI lo hD.mapOf ⟨.bl _,H,I.tok _,rfl,?_⟩
 rw[hk.zwO]
 exact q
end
section
variable {prog:Program} {w:World} {A:Around} {s:Shared} {R:Result->Shared->Prop}
end
section
variable {X:Cx} {pins:List (Addr × Obj)} {σ:St} {H:Hp} {s:Shared}
end
section
variable {X:Cx} {o e f:Expr} {apos cpos:Pos} {td ty tx:TE}
theorem zjt (P:Program) (w:World) (ho:PE X o td) (he:PE X e ty) (hf:PE X f tx) (hb:attributeBase o "get" X.env (eval o X.env)=eval o X.env:=by rfl)
  (few:((backTo cpos (starEach [e,f] X.env)).all (fun x=>!x.1) && (backToKw cpos (keywordEach [] X.env)).all (fun x=>x.1.isSome)
   && decide (([e,f]:List Expr).length+([]:List Keyword).length+(if ([]:List Keyword).isEmpty then 0 else 1)<30))=true:=by rfl)
  (line:(apos.endLine == cpos.line)=true:=by rfl) (trees:backTo cpos (starEach [e,f] X.env)=[(false,eval e X.env),(false,eval f X.env)]:=by rfl) (hP:X.prog=P:=by rfl) (hw:X.w=w:=by rfl):PE X (.Call (.Attribute o "get" apos) [e,f] [] cpos) (zuz P w td ty tx):=by
 subst hP hw
 exact zk3 ho he hf hb few line trees
end
section
variable {X:Cx} {e k:Expr} {te:TE} {p2 pos:Pos} {lo hi:Option Expr} {tl th:TO}
end
theorem zt9 {X:Cx} (K:W.Frag) (hK:X.K=K:=by rfl):OpR X (binaryOp .Add) (zuy K):=by subst hK;exact zkV
end L2
namespace L2
open PySem PySem.Spec PyProof.Rows
noncomputable def zb4 (P:Program) (w:World) (d:Addr) (l:List (Int × Int)) (ep:Nat):HO:=.ext fun h=>(d == sysModules)=false/\∃ kvs,h.DictAt (intKind P w) d kvs ep/\KR kvs l
section
variable {X:Cx} {pins:List (Addr × Obj)} {σ:St} {H:Hp} {s:Shared} {o i e f value:Expr} {pos pos' apos cpos:Pos} {td ty tx tv:TE}
theorem zpR {P:Program} {w:World} {H:Hp} {h:Heap} {d:Addr} {kvs:List (Int × Value)} {l:List (Int × Int)} {ep:Nat} (lo:(d == sysModules)=false) (hd:h.DictAt (intKind P w) d kvs ep) (hk:KR kvs l):zam P w H h d (zb4 P w d l ep) :=
 ⟨⟨lo,kvs,hd,hk⟩,(let ⟨o,_,e,_⟩:=hd;⟨o,e⟩),fun h1 h2 ⟨lo',kv,x,y⟩ e=>⟨lo',kv,Heap.DictAt.at' x e,y⟩⟩
def zv7 (P:Program) (w:World):TE:=fun _ H Q=>∀ p ep,H p=none->Q (.ref p) (upd H p (zb4 P w p [] ep))
theorem ztR:PE X (.Dict [] [] pos) (zv7 X.prog X.w):=fun pins s σ H Q I h=>by
 have big:sysModules<s.heap.objs.size:=ydf (by decide) (show mainGlobals<s.heap.objs.size from (I.mod.glob.keeps I.bk).lt)
 obtain ⟨ep,hd⟩:=(Heap.DictOf.new (knd:=intKind X.prog X.w) s.heap).dictAt
 have new:zam X.prog X.w (upd H s.heap.objs.size (zb4 X.prog X.w s.heap.objs.size [] ep)) (s.heap.push { cls:=.type "dict", data:=.dict #[] }) s.heap.objs.size (zb4 X.prog X.w s.heap.objs.size [] ep) :=
  zpR (beq_eq_false_iff_ne.mpr (Ne.symm (ycv big))) hd .nil
 exact wpAny_Dict_empty ⟨.ref s.heap.objs.size,_,I.laid (t':=s.toks) (fun _ _ q=>ydj _ q) (ycu _) new,rfl,h _ _ (I.hok.fresh (ycu _))⟩
def zwD (P:Program) (w:World) (td ty tx:TE):TE:=fun σ H Q=>td σ H fun x H1=>∃ (d:Addr) (l:List (Int × Int)) (ep:Nat),x=.ref d/\H1 d=some (zb4 P w d l ep)/\ty σ H1 fun y H2=>tx σ H2 fun z H3=>∃ (k:Int),y=.int k/\H3 d=some (zb4 P w d l ep)/\Q (((lkI l k).map V.int).getD z) H3
theorem ziK (ho:PE X o td) (he:PE X e ty) (hf:PE X f tx) (hb:attributeBase o "get" X.env (eval o X.env)=eval o X.env:=by rfl)
  (few:((backTo cpos (starEach [e,f] X.env)).all (fun x=>!x.1) && (backToKw cpos (keywordEach [] X.env)).all (fun x=>x.1.isSome)
   && decide (([e,f]:List Expr).length+([]:List Keyword).length+(if ([]:List Keyword).isEmpty then 0 else 1)<30))=true:=by rfl)
  (line:(apos.endLine == cpos.line)=true:=by rfl) (trees:backTo cpos (starEach [e,f] X.env)=[(false,eval e X.env),(false,eval f X.env)]:=by rfl):PE X (.Call (.Attribute o "get" apos) [e,f] [] cpos) (zwD X.prog X.w td ty tx):=by
 intro pins s σ H Q I h
 refine wpAny_Call_method hb few line PySem.F.plainAttrs_dict PySem.F.slot_dict_get PySem.F.type_dict_get (thn (ho pins s σ H _ I h) fun u s1 ⟨x,H1,I1,rx,d,l,ep,ex,hd,q1⟩=>?_)
 subst ex
 obtain rfl:u=Value.ref d:=rx
 obtain ⟨lo,kvs,hD,hk⟩:=(I1.hok d _ hd).1
 refine ⟨hD.dictOf.typeIs,hD.dictOf.mapOf.noDict,?_⟩
 rw[trees]
 refine Calls.callWith_builtin rfl (Calls.evalArgs_plain (Calls.spliced_cons (thn (he pins s1 σ H1 _ I1 q1) fun iv s2 ⟨y,H2,I2,ry,q2⟩ =>
  Calls.spliced_cons (thn (hf pins s2 σ H2 _ I2 q2) fun fv s3 ⟨z,H3,I3,rz,k,ek,hd3,q3⟩=>Calls.spliced_nil ?_))))
 subst ek
 obtain ⟨t,rfl⟩:=ry
 obtain ⟨lo3,kvs3,hD3,hk3⟩:=(I3.hok d _ hd3).1
 exact call_meetsIn PySem.F.slot_dict_get hD3.dictOf.typeIs PySem.F.entry_dict_get (PySem.F.args_dict_get_3 _ _ _) (meets_dict_get_default (intKind X.prog X.w) d isI lo3 fv) ⟨_,hD3.dictOf.mapOf,_,H3,I3.tok _,hk3.look rz,q3⟩
def zwx (P:Program) (w:World) (td ty tv:TE):TS:=fun D σ H=>tv σ H fun v H1=>td σ H1 fun x H2=>ty σ H2 fun y H3=>∃ (d:Addr) (l:List (Int × Int)) (k n:Int) (ep:Nat),x=.ref d/\y=.int k/\v=.int n/\H3 d=some (zb4 P w d l ep)/\l.length<=1000/\∀ ep',D.nx σ (upd H3 d (zb4 P w d (zao l k n) ep'))
theorem zvg (ho:PE X o td) (hi:PE X i ty) (hv:PE X value tv) (hs:swapsWith value (some (.Subscript o i pos')) pos.line X.env=pure false:=by rfl):PS X (.Assign [.Subscript o i pos'] value pos) (zwx X.prog X.w td ty tv):=by
 intro pins s σ H D I h
 refine wpAny_Assign_Subscript (thn (hv pins s σ H _ I h) fun r s1 ⟨v,H1,I1,rv,q1⟩=>thn (ho pins s1 σ H1 _ I1 q1) fun u s2 ⟨x,H2,I2,rx,q2⟩=>thn (hi pins s2 σ H2 _ I2 q2) fun iv s3 ⟨y,H3,I3,ry,d,l,k,n,ep,ex,ey,ev,hd,hl,q3⟩=>?_) hs
 subst ex ey ev
 obtain rfl:u=Value.ref d:=rx
 obtain ⟨t,rfl⟩:=ry
 obtain ⟨t',rfl⟩:=rv
 obtain ⟨lo,kvs,hD,hk⟩:=(I3.hok d _ hd).1
 have sz:=sizeLine_eq
 refine wpAny_setItem_pairs (knd:=intKind X.prog X.w) (k:=k) (hsz:=by rw[hk.length];omega) isI hD.dictOf fun h' hD' hs'=>?_
 obtain ⟨ep',hA'⟩:=hD'.dictAt
 have he:∃ q,h'.get? d=some q:=let ⟨q,_,hq,_⟩:=hA';⟨q,hq⟩
 exact ⟨σ,_,I3.write (x:=d) (e:=d) (by rw[hd];exact True.intro) (.inl rfl) (fun b q hb z=>(hs'.2 b hb).trans z) he (zpR lo hA' hk.stored),q3 ep'⟩
end
section
variable {X:Cx}
end
end L2
namespace L2
open PySem PySem.Spec PyProof.Rows
noncomputable def Cx.zbj (X:Cx) (sc:Scope) (x y0 y1:Str) (ix:List Nat) (b:Blk):Cx where
 prog:=X.prog
 w:=X.w
 K:=X.K
 mg:=X.mg
 base:=X.base
 A:=X.A
 N:=x::y0::y1::ix.map fun i=>X.N.getD i x
 s₀:=b.s
 H₀:=b.H
 env:=compEnvC sc (zbt sc X.env) b.C X.env
 outer:=X.stack
 stack:=X.stack
 ex:=b.ex
 fn:=fun _=>false
 calm:=X.calm
 pn:=b.pn
 xe:=fun _ _=>False
structure ziO (X:Cx) (sc:Scope) (x y0 y1:Str) (ix:List Nat):Prop where
 clos:closureFor sc X.env=pure (zbt sc X.env)
 cell:∀ y∈sc.names,y.2≠.cell
 kind:sc.kind=.function
 names:∀ y∈sc.names,y.2=.local->sc.names.lookup y.1=some .local
 var:sc.names.lookup x=some .local
 var2:sc.names.lookup y0=some .local
 var3:sc.names.lookup y1=some .local
 nd:(x::y0::y1::ix.map fun i=>X.N.getD i x).Nodup
 cap:ziN X sc x ix
 sub:zk2 X.env.cells (zbt sc X.env)
 has:zk7 (zbt sc X.env) (relabel sc X.env).names
section
variable {X:Cx} {pins:List (Addr × Obj)} {σ:St} {H:Hp} {s:Shared} {sc:Scope} {x y0 y1:Str} {ix:List Nat} {fp:List Addr}
theorem zsK (I:Inv X pins σ H s) (O:ziO X sc x y0 y1 ix) (hf:∀ b∈fp,za8 X pins H b) (hx:∀ b∈fp,∃ o,s.heap.get? b=some o):(X.zbj sc x y0 y1 ix ⟨s.heap.objs.size,s,H,X.pn++pins,fp⟩).Ok where
 mod:=I.ok.mod
 kind:=O.kind
 glob:=I.ok.glob
 blt:=I.ok.blt
 above:=ycu _
 inj:=fun y z c h1 h2=>I.ok.inj y z c (O.sub.get y c h1) (O.sub.get z c h2)
 has:=fun y h=>by
  have h':(relabel sc X.env).names.lookup y=some .cell\/(relabel sc X.env).names.lookup y=some .free:=h
  rcases h' with h' | h'
  ·exact O.has.get _ (PySem.mem_of_lookup h') (.inl rfl)
  ·exact O.has.get _ (PySem.mem_of_lookup h') (.inr rfl)
 cab:=fun _ _ h=>absurd (show false=true from h) Bool.false_ne_true
 hd:=I.ok.hd
 frames:=I.ok.frames
 stk:=.inl rfl
 exf:=fun b hb=>by
  obtain ⟨o,e⟩:=hx b hb
  exact ⟨ycv (ydk e),fun y c h=>(hf b hb).2.2.2.2.1 y c (O.sub.get y c h)⟩
 bs:=I.bs
 bsz:=ycz I.ok.bsz I.sz
 noex:=fun b o e hb=>by
  rcases (hf b hb).2.2.2.1 with z | z
  ·exact I.ok.noex b o e z
  ·exact absurd (ycx (ydk e) (ycz I.ok.bsz z)) (yda _)
 exfs:=fun b hb z=>(yak.mp (I.zee b z)).elim (hf b hb).2.1 (hf b hb).2.2.1
 funs:=I.stack
 frf:=I.znd
theorem zr6 {h₁:Heap} {m:Str->Option Value} {tk:Nat} (I:Inv X pins σ H s) (O:ziO X sc x y0 y1 ix) (hf:∀ b∈fp,za8 X pins H b) (hx:∀ b∈fp,∃ o,s.heap.get? b=some o)
  (hn:h₁.Ns s.heap.objs.size m) (keep:∀ b o,s.heap.get? b=some o->h₁.get? b=some o) :
  Inv (X.zbj sc x y0 y1 ix ⟨s.heap.objs.size,s,H,X.pn++pins,fp⟩) [] (none::none::none::capts σ ix) H { s with heap:=h₁,toks:=tk }:=by
 refine ⟨zsK I O hf hx,rfl,I.bare,Un.kept keep,⟨m,hn,fun i y v e1 e2 _=>?_⟩,fun y c h=>?_,I.hok.fresh (ycu _),fun y c h=>I.freeC y c (O.sub.get y c h),fun p hp=>?_,I.hok.kept keep,?_⟩
 ·cases i with
  | zero=>cases e2
  | succ j' =>
   cases j' with
   | zero=>cases e2
   | succ j'' =>
   cases j'' with
   | zero=>cases e2
   | succ j =>
   have e1':(ix.map fun i=>X.N.getD i x)[j]?=some y:=e1
   have e2':(capts σ ix)[j]?=some (some v):=e2
   unfold capts at e2'
   rw[yaj] at e1' e2'
   cases q:ix[j]? with
   | none=>rw[q] at e1';cases e1'
   | some i =>
    rw[q] at e1' e2'
    have e3:X.N.getD i x=y:=Option.some.inj e1'
    have e4:σ.getD i none=some v:=Option.some.inj e2'
    obtain ⟨c1,c2,c3⟩:=O.cap.get i (yai q)
    rw[e3] at c1 c2 c3
    have e5:σ[i]?=some (some v):=by
     rw[yae] at e4
     cases z:σ[i]? with
     | none=>rw[z] at e4;cases e4
     | some a=>rw[z] at e4;exact congrArg some e4
    have hl:i<X.N.length:=by
     rw[<-I.len]
     exact (yad.mp e5).1
    have e6:X.N[i]?=some y:=by
     rw[yae,yaa hl] at e3
     rw[yaa hl]
     exact congrArg some e3
    obtain ⟨m0,_,l0⟩:=I.loc
    have vis:Vis X.env.scope y:=by
     rcases c1 with z | z
     ·exact .inr (.inl z)
     ·exact .inr (.inr z)
    obtain ⟨u,ru,lu⟩:=l0 i y v e6 e5 vis
    refine ⟨u,ru,?_⟩
    rcases lu with ⟨k,_⟩ | ⟨_,c,hc,o,ho,hd⟩
    ·rcases c1 with z | z
     ·rw[z] at k;cases k
     ·rw[z] at k;cases k
    ·exact .inr ⟨c2,c,c3.trans hc,o,keep c o ho,hd⟩
 ·obtain ⟨v,o,ho,hd⟩:=I.cell y c (O.sub.get y c h)
  exact ⟨v,o,keep c o ho,hd⟩
 ·have hp':p∈X.pn++pins:=by
   rcases yac.mp hp with z | z
   ·exact z
   ·cases z
  obtain ⟨e,n,ne,nf,d⟩:=I.pin p hp'
  exact ⟨keep _ _ e,n,ycv (ydk e),fun z=>(yak.mp (I.zee _ z)).elim ne nf,d⟩
 ·show (none::none::none::capts σ ix).length=(x::y0::y1::ix.map fun i=>X.N.getD i x).length
  simp[capts]
theorem zrj {pins':List (Addr × Obj)} {σ':St} {H':Hp} {s':Shared} (I:Inv X pins σ H s) (hf:∀ b∈fp,za8 X pins H b) (J:Inv (X.zbj sc x y0 y1 ix ⟨s.heap.objs.size,s,H,X.pn++pins,fp⟩) pins' σ' H' s'):Inv X pins σ H' s' :=
 I.call' J.os J.base J.hok J.bare fun b hb=>⟨(hf b hb).2.2.2.1,(hf b hb).2.1,(hf b hb).2.2.2.2.1,(hf b hb).2.2.2.2.2⟩
end
def zlL (K0:W.Frag) (ix:List Nat) (tt:TT) (te:TE) (σ:St) (J:It) (l:Addr) (R:Hp->Prop) (W:Nat->Nat->List V->Hp->Prop):Prop :=
 ∀ i m xs H',W i m xs H'->H' l=some (.lst xs)/\((J.stop i H'/\R H')\/(J.go i H'/\xs.length<sizeLine/\∀ x H2,J.yld i H' x H2->∃ p v1 v2 v3,x=.ref p/\SqT K0 H2 p [v1,v2,v3] /\
  tt (some v1::some v2::some v3::capts σ ix) H2 fun b H3=>if b=true then te (some v1::some v2::some v3::capts σ ix) H3 fun v H4=>H4 l=some (.lst xs)/\∃ m',m'<m/\W (i+1) m' (xs++[v]) (upd H4 l (.lst (xs++[v]))) else ∃ m',m'<m/\W (i+1) m' xs H3))
def zoV (K0:W.Frag) (ix:List Nat) (wi:TI) (tt:TT) (te:TE):TE:=fun σ H Q=>wi σ H fun J H1=>∀ l,H1 l=none->∃ W:Nat->Nat->List V->Hp->Prop,(∃ m,W 0 m [] (upd H1 l (.lst [])))/\zlL K0 ix tt te σ J l (Q (.ref l)) W
section
variable {X:Cx} {pins:List (Addr × Obj)} {σ:St} {H:Hp} {s:Shared} {sc:Scope} {x y0 y1:Str} {ix:List Nat} {fp:List Addr} {elt iter c:Expr} {te:TE} {tt:TT} {wi:TI} {px py0 py1 pt0 pos:Pos} {kt0:Nat}
theorem zkr {it:Addr} {tn:Nat->Heap->Prop} {J:It} {use:Option (Value->Sem Unit)} {Q:Value->Shared->Prop} {E:Value->Shared->Prop} (O:ziO X sc x y0 y1 ix) (htt:∀ b,PT (X.zbj sc x y0 y1 ix b) c tt) (hel:∀ b,PE (X.zbj sc x y0 y1 ix b) elt te) (hc:X.calm=true)
  (I:Inv X pins σ H s) (T:Turn X.prog X.w X.K (.Tuple [.Name x px,.Name y0 py0,.Name y1 py1] kt0 pt0) J fp it tn) (st:tn 0 s.heap) (hf:∀ b∈fp,za8 X pins H b) (R:Addr->Hp->Prop)
  (h:∀ l,H l=none->∃ W:Nat->Nat->List V->Hp->Prop,(∃ m,W 0 m [] (upd H l (.lst [])))/\zlL X.K ix tt te σ J l (R l) W)
  (fin:∀ l C m s' H',Inv X pins σ H' s'->s'.heap.Ns C m->za8 X pins H' C->R l H'->compPost (model X.prog X.w) X.A E use Q (.ref l) C (.ok .next) s') :
  wpAny (model X.prog X.w) X.A (newList []) (fun acc s₃=>wpAny (model X.prog X.w) X.A (newFunctionEnv sc X.env.globals (zbt sc X.env) [] X.env.qual none .none (some X.env)) (fun cenv s₄ =>
   codeAny (model X.prog X.w) X.A (.compStart (.ListComp elt [⟨.Tuple [.Name x px,.Name y0 py0,.Name y1 py1] kt0 pt0,iter,[c],0⟩] sc pos) 0 (.ref it) acc { cenv with scope:=relabel sc X.env }) (compPost (model X.prog X.w) X.A E use Q acc cenv.locals) s₄) E s₃) E s:=by
 refine wpAny_newObj_type (wpAny_newFunctionEnv O.cell (by intro y hy;simp at hy) (fun h₁ hns hsb=>?_) O.kind)
 dsimp only at hns hsb ⊢
 have hl0:H s.heap.objs.size=none:=I.hok.fresh (ycu _)
 obtain ⟨W,⟨m0,w0⟩,tr⟩:=h s.heap.objs.size hl0
 have I3:Inv X pins σ (upd H s.heap.objs.size (.lst [])) { s with heap:=s.heap.push { cls:=.type "list", dict:=none,data:=.seq ([]:List Value).toArray } } :=
  I.laid (t':=s.toks) (fun b o e=>ydj _ e) (ycu _) ⟨ycy _,[],0,.nil,ydl _ rfl⟩
 have ofp:∀ b∈fp,∃ o,s.heap.get? b=some o:=fun b hb=>by
  obtain ⟨o,e,_⟩:=T.obj 0 _ st b hb
  exact ⟨o,e⟩
 generalize e3:s.heap.push { cls:=.type "list", dict:=none,data:=.seq ([]:List Value).toArray }=G at I3 hns hsb ⊢
 have ofp3:∀ b∈fp,∃ o,G.get? b=some o:=fun b hb=>by
  obtain ⟨o,e⟩:=ofp b hb
  exact ⟨o,by rw[<-e3];exact ydj _ e⟩
 have nl:∀ b∈fp,b≠s.heap.objs.size:=fun b hb=>by
  obtain ⟨o,e⟩:=ofp b hb
  exact ycv (ydk e)
 have hf3:∀ b∈fp,za8 X pins (upd H s.heap.objs.size (.lst [])) b:=fun b hb=>⟨by rw[zp (nl b hb)];exact (hf b hb).1,(hf b hb).2⟩
 have keep3:∀ b o,G.get? b=some o->h₁.get? b=some o:=fun b o e=>hsb.extBut b o (ycv (ydk e)) (ydj _ e)
 have stk:tn 0 h₁:=T.keep _ _ _ st fun b hb o e=>keep3 b o (by rw[<-e3];exact ydj _ e)
 have J0:=zr6 (tk:=s.toks+([]:List (Str × Value)).length) I3 O hf3 ofp3 hns keep3
 have stat:∀ {H':Hp},(∀ b∈fp,H' b=none)->∀ b∈fp,za8 (X.zbj sc x y0 y1 ix ⟨G.objs.size,{ s with heap:=G },upd H s.heap.objs.size (.lst []),X.pn++pins,fp⟩) [] H' b:=fun hn b hb=>by
  obtain ⟨o,e⟩:=ofp3 b hb
  refine ⟨hn b hb,ycv (ydk e),fun z=>(yak.mp (I3.zee _ z)).elim (hf b hb).2.1 (hf b hb).2.2.1,.inl hb,fun y c q=>(hf b hb).2.2.2.2.1 y c (O.sub.get y c q),fun p hp=>?_⟩
  have hp':p∈X.pn++pins:=by
   rcases yac.mp hp with z | z
   ·exact z
   ·cases z
  exact (hf b hb).2.2.2.2.2 p hp'
 have loop:∀ s4:Shared,s4={ s with heap:=h₁,toks:=s.toks+([]:List (Str × Value)).length } ->
   codeAny (model X.prog X.w) X.A (.compLoop (.ListComp elt [⟨.Tuple [.Name x px,.Name y0 py0,.Name y1 py1] kt0 pt0,iter,[c],0⟩] sc pos) 0 (.ref it) (.ref s.heap.objs.size) (compEnvC sc (zbt sc X.env) G.objs.size X.env))
    (compPost (model X.prog X.w) X.A E use Q (.ref s.heap.objs.size) G.objs.size) s4:=by
  rintro s4 rfl
  refine zj3 (fun n s'=>∃ i xs H' z z' z'',Inv (X.zbj sc x y0 y1 ix ⟨G.objs.size,{ s with heap:=G },upd H s.heap.objs.size (.lst []),X.pn++pins,fp⟩) [] (z::z'::z''::capts σ ix) H' s'/\tn i s'.heap/\(∀ b∈fp,H' b=none)/\W i n xs H') ?_ m0
   ⟨0,[],_,none,none,none,J0,stk,fun b hb=>(hf3 b hb).1,w0⟩
  rintro n s5 ⟨i,xs,H5,z,z',z'',I5,st5,fr5,w5⟩
  obtain ⟨hl5,h5⟩:=tr i n xs H5 w5
  rcases h5 with ⟨stop,r5⟩ | ⟨go,hz,step⟩
  ·refine thn (T.done (X.zbj sc x y0 y1 ix ⟨G.objs.size,{ s with heap:=G },upd H s.heap.objs.size (.lst []),X.pn++pins,fp⟩) rfl rfl rfl hc i [] s5 _ H5 _ I5 (stat fr5) st5 stop) fun r s6 ⟨hr,I6⟩=>?_
   subst hr
   obtain ⟨m6,hn6,_⟩:=I6.loc
   refine fin _ _ m6 s6 H5 (zrj I3 hf3 I6) hn6 ?_ r5
   exact I3.zpF (ycu _) I6.free
  ·refine thn (T.item (X.zbj sc x y0 y1 ix ⟨G.objs.size,{ s with heap:=G },upd H s.heap.objs.size (.lst []),X.pn++pins,fp⟩) rfl rfl rfl hc i [] s5 _ H5 _ I5 (stat fr5) st5 go) fun r s6 ⟨u,hr,h6⟩=>?_
   subst hr
   refine thn h6 fun _ s7 ⟨y,H7,I7,r7,y7,st7,fr7⟩=>?_
   have I7':=I7.pinned (stat fr7) (T.obj _ _ st7)
   have lx:(relabel sc X.env).names.lookup x=some .local:=lookup_relabel_local O.var
   have ly:(relabel sc X.env).names.lookup y0=some .local:=lookup_relabel_local O.var2
   have lz:(relabel sc X.env).names.lookup y1=some .local:=lookup_relabel_local O.var3
   obtain ⟨tp,v1,v2,v3,ey,hT,step⟩:=step y H7 y7
   refine thn ((zdU hc (zS (zG (i:=0) O.nd rfl (Or.inl lx) (Or.inr lx)) (zS (zG (i:=1) O.nd rfl (Or.inl ly) (Or.inr ly)) (zS (zG (i:=2) O.nd rfl (Or.inl lz) (Or.inr lz)) zcJ))):PG (X.zbj sc x y0 y1 ix ⟨G.objs.size,{ s with heap:=G },upd H s.heap.objs.size (.lst []),X.pn++pins,fp⟩) (.Tuple [.Name x px,.Name y0 py0,.Name y1 py1] kt0 pt0) (zvJ X.K 3 (zoG (zcz 0) (zoG (zcz 1) (zoG (zcz 2) zvH))))) _ s7 _ H7 y u (fun σ' H'=>σ'=some v1::some v2::some v3::capts σ ix/\H'=H7) I7' r7 ⟨tp,[v1,v2,v3],ey,hT,rfl,_,_,rfl,_,_,rfl,_,_,rfl,rfl,rfl,rfl⟩) fun _ s8 ⟨σ8,H8,I8,e8,e8'⟩=>?_
   subst e8 e8'
   refine thn (htt _ _ s8 _ H8 _ I8 step) fun b s9 ⟨H9,I9,q9⟩=>?_
   have kp:∀ {σ0:St} {H0:Hp} {s0:Shared},Inv (X.zbj sc x y0 y1 ix ⟨G.objs.size,{ s with heap:=G },upd H s.heap.objs.size (.lst []),X.pn++pins,fp⟩) ([]++ziH fp s7.heap) σ0 H0 s0->tn (i+1) s0.heap/\∀ b∈fp,H0 b=none:=fun {σ0 H0 s0} I0=>by
    refine ⟨T.keep _ _ _ st7 fun b hb o e=>(I0.pin (b,o) (yah _ (yah _ (zbB hb e)))).1,fun b hb=>?_⟩
    obtain ⟨o,e,d⟩:=T.obj _ _ st7 b hb
    exact (I0.pin (b,o) (yah _ (yah _ (zbB hb e)))).2.1
   cases b with
   | false =>
    rw[if_neg Bool.false_ne_true] at q9 ⊢
    obtain ⟨m',hm,w9⟩:=q9
    exact ⟨m',hm,i+1,xs,_,some v1,some v2,some v3,I9.unpinned,(kp I9).1,(kp I9).2,w9⟩
   | true =>
    rw[if_pos rfl] at q9 ⊢
    refine thn (hel _ _ s9 _ H9 _ I9 q9) fun v9 s10 ⟨v,H10,I10,r10,hl10,m',hm,w10⟩=>?_
    refine thn (zax _ s10 _ H10 (.ref s.heap.objs.size) [v] (.ref s.heap.objs.size) [v9] (fun _ H'=>H'=upd H10 s.heap.objs.size (.lst (xs++[v]))) I10 rfl (.cons r10 .nil) ⟨_,xs,v,rfl,rfl,hl10,hz,rfl⟩) fun _ s11 ⟨_,H11,I11,_,e11⟩=>?_
    subst e11
    exact ⟨m',hm,i+1,xs++[v],_,some v1,some v2,some v3,I11.unpinned,(kp I11).1,(kp I11).2,w10⟩
 exact codeAny_compStart_list (loop _ rfl) (T.self _ 0 _ _ _ stk (loop _ rfl))
theorem zrN (O:ziO X sc x y0 y1 ix) (hi:PI X (.Tuple [.Name x px,.Name y0 py0,.Name y1 py1] kt0 pt0) iter wi) (htt:∀ b,PT (X.zbj sc x y0 y1 ix b) c tt) (hel:∀ b,PE (X.zbj sc x y0 y1 ix b) elt te) (hc:X.calm=true:=by rfl) (hs:∀ v,foldedSetIterable iter X.env v=pure v:=by intro _;rfl) :
  PE X (.ListComp elt [⟨.Tuple [.Name x px,.Name y0 py0,.Name y1 py1] kt0 pt0,iter,[c],0⟩] sc pos) (zoV X.K ix wi tt te):=by
 intro pins s σ H Q I h
 rw[eval_ListComp]
 refine wpAny_comprehension_free (use:=none) rfl hs O.clos O.kind O.names (thn (hi pins s σ H _ I h) fun xv s1 h1=>thn h1 fun itv s2 h2=>?_)
 obtain ⟨it,fp,tn,J,H2,e,I2,T,st2,f2,hq⟩:=h2
 subst e
 refine zkr O htt hel hc I2 T st2 f2 (fun l H'=>Q (.ref l) H') hq ?_
 intro l C m s' H' I' hn hf r
 refine ⟨m,hn,fun h' hb=>⟨.ref l,H',?_,rfl,r⟩⟩
 exact I'.turned (t':=s'.toks) (fun b o hne e=>hb.extBut b o hne e) hf.1 hf.2.1 hf.2.2.2.1 hf.2.2.2.2.1 hf.2.2.2.2.2
theorem zmz {y:Str} {i:Nat} {py spos:Pos} (hN:X.N.Nodup) (hiy:X.N[i]?=some y) (hy:X.env.scope.names.lookup y=some .local) (O:ziO X sc x y0 y1 ix) (hi:PI X (.Tuple [.Name x px,.Name y0 py0,.Name y1 py1] kt0 pt0) iter wi) (htt:∀ b,PT (X.zbj sc x y0 y1 ix b) c tt) (hel:∀ b,PE (X.zbj sc x y0 y1 ix b) elt te)
  (hc:X.calm=true:=by rfl) (hs:∀ v,foldedSetIterable iter X.env v=pure v:=by intro _;rfl) (hsw:swapsWith (.ListComp elt [⟨.Tuple [.Name x px,.Name y0 py0,.Name y1 py1] kt0 pt0,iter,[c],0⟩] sc pos) (some (.Name y py)) spos.line X.env=pure true:=by rfl) :
  PS X (.Assign [.Name y py] (.ListComp elt [⟨.Tuple [.Name x px,.Name y0 py0,.Name y1 py1] kt0 pt0,iter,[c],0⟩] sc pos) spos) (zo7 (zoV X.K ix wi tt te) (zcz i)):=by
 intro pins s σ H D I h
 rw[exec_Assign_Name_used _ _ _ _ hsw]
 refine wpAny_bind (wpAny_standAt (wpAny_bind ?_))
 show wpAny _ X.A (do let _ <-comprehension (.ListComp elt [⟨.Tuple [.Name x px,.Name y0 py0,.Name y1 py1] kt0 pt0,iter,[c],0⟩] sc pos) sc X.env _ (newList []) false (eval iter X.env) (some (assign (.Name y py) X.env))) _ _ s
 refine wpAny_bind (wpAny_mono (wpAny_comprehension_free (use:=some (assign (.Name y py) X.env)) (Q:=fun _ s'=>SP X pins D .next s') rfl hs O.clos O.kind O.names
  (thn (hi pins s σ H _ I h) fun xv s1 h1=>thn h1 fun itv s2 h2=>?_)) (fun _ s' hq=>wpAny_pure (wpAny_pure hq)) fun _ _ e=>e)
 obtain ⟨it,fp,tn,J,H2,e,I2,T,st2,f2,hq⟩:=h2
 subst e
 refine zkr O htt hel hc I2 T st2 f2 (fun l H'=>D.nx (σ.set i (some (.ref l))) H') hq ?_
 intro l C m s' H' I' hn hf r
 obtain ⟨o,es,ep,ho,hd,hr⟩:=id hn
 have Ip:=I'.addpin ho hf.1 hf.2.1 hf.2.2.1 (by intro v z;rw[hd] at z;cases z)
 refine thn ((zG (i:=i) hN hiy (Or.inl hy) (Or.inr hy):PG X (.Name y py) (zcz i)) _ s' σ H' (.ref l) (.ref l) (fun σ' H''=>σ'=σ.set i (some (.ref l))/\H''=H') Ip rfl ⟨rfl,rfl⟩) fun _ s'' ⟨σ'',H'',I'',e1,e2⟩=>?_
 subst e1 e2
 have pc:=(I''.pin (C,o) (yah _ (yah _ yan))).1
 refine ⟨m,⟨o,es,ep,pc,hd,hr⟩,fun h' hb=>⟨_,_,?_,r⟩⟩
 exact I''.unpinned.turned (t':=s''.toks) (fun b o hne e=>hb.extBut b o hne e) hf.1 hf.2.1 hf.2.2.2.1 hf.2.2.2.2.1 hf.2.2.2.2.2
end
theorem zkI {α:Type} {K0:W.Frag} {J:It} {ix:List Nat} {tt:TT} {te:TE} {σ:St} {l:Addr} {xs:List V} {H:Hp} {R:Hp->Prop} (Y:ziv J H xs) (hl:H l=none) (hz:xs.length<=sizeLine) (es:List α) (len:es.length=xs.length)
  (pr:α->V × V × V) (items:∀ (i:Nat) x e,xs[i]?=some x->es[i]?=some e->∃ p,x=.ref p/\H p=some (.tup [(pr e).1,(pr e).2.1,(pr e).2.2]))
  (f:α->Bool) (P:Hp->V->α->Prop) (mono:∀ v e H1 H2,Same H1 H2->P H1 v e->P H2 v e) (put:∀ v e H1 ys zs,H1 l=some (.lst ys)->P H1 v e->P (upd H1 l (.lst zs)) v e)
  (ht:∀ e H' Q',e∈es->Same H H'->(∀ H2,Same H' H2->Q' (f e) H2)->tt (some (pr e).1::some (pr e).2.1::some (pr e).2.2::capts σ ix) H' Q')
  (he:∀ e H' Q',e∈es->f e=true->Same H H'->(∀ v H2,Same H' H2->P H2 v e->Q' v H2)->te (some (pr e).1::some (pr e).2.1::some (pr e).2.2::capts σ ix) H' Q')
  (fin:∀ ys H',Same H H'->H' l=some (.lst ys)->LL (P H') ys (es.filter f)->R H') :
  ∃ W:Nat->Nat->List V->Hp->Prop,(∃ m,W 0 m [] (upd H l (.lst [])))/\zlL K0 ix tt te σ J l R W:=by
 refine ⟨fun i m ys H'=>m=xs.length-i/\i<=xs.length/\LL (P H') ys ((es.take i).filter f)/\Same H H'/\H' l=some (.lst ys),⟨xs.length,by simp,ycy _,by simp;exact .nil,ze hl _,zg⟩,?_⟩
 rintro i m ys H' ⟨rfl,hi,hy,sH,hL⟩
 refine ⟨hL,?_⟩
 by_cases hlt:i<xs.length
 ·have yl:ys.length<=i:=by
   rw[hy.length]
   exact ycz (yaz _ _) (by rw[ybd];omega)
  have eP:es[i]?=some (es[i]'(by omega)):=yaa (by omega)
  generalize es[i]'(by omega)=e at eP
  have em:e∈es:=yai eP
  have tk:es.take (i+1)=es.take i++[e]:=by rw[ybc,eP];rfl
  refine .inr ⟨Y.go i H' sH hlt,by omega,fun x H2 y=>?_⟩
  obtain ⟨rfl,e2⟩:=Y.yld i H' x H2 sH y
  obtain ⟨p,rfl,hp⟩:=items i x e e2 eP
  refine ⟨p,_,_,_,rfl,SqT.of (sH _ _ hp),?_⟩
  refine ht e _ _ em sH fun H3 s3=>?_
  cases b:f e with
  | true =>
   rw[if_pos rfl]
   refine he e _ _ em b (sH.trans s3) fun v H4 s4 pv=>?_
   have hL4:=s4 _ _ (s3 _ _ hL)
   refine ⟨hL4,xs.length-(i+1),by omega,rfl,hlt,?_,zE (sH.trans (s3.trans s4)) hl,zg⟩
   rw[tk,ybb,yat b]
   exact ((hy.imp fun v e q=>put v e H4 ys _ hL4 (mono v e _ _ (s3.trans s4) q)).push (put v e H4 ys _ hL4 pv))
  | false =>
   rw[if_neg Bool.false_ne_true]
   refine ⟨xs.length-(i+1),by omega,rfl,hlt,?_,sH.trans s3,s3 _ _ hL⟩
   rw[tk,ybb,yaq (by rw[b];decide)]
   simpa using hy.imp fun v e q=>mono v e _ _ s3 q
 ·rw[yav (by omega)] at hy
  exact .inl ⟨Y.stop i H' sH (by omega),fin ys H' sH hL hy⟩
end L2
namespace Sby
open L2
noncomputable abbrev Pl:=List (Int × Int)
noncomputable def sm (l:Pl) (k:Int):Int:=((l.filter fun p=>p.1=k).map (·.2)).sum
theorem zrp (l:Pl) (k x j:Int):sm (l++[(k,x)]) j=sm l j+if k=j then x else 0:=by
 unfold sm
 rw[ybb,yar,List.sum_append]
 by_cases e:k=j
 ·rw[if_pos e,yat (by simpa using e)];simp
 ·rw[if_neg e,yaq (by simpa using e)];simp
theorem zez {l:Pl} {k:Int} (h:k ∉ l.map (·.1)):sm l k=0:=by
 unfold sm
 rw[List.filter_eq_nil_iff.mpr]
 ·rfl
 ·intro p hp e
  exact h (yaf.mpr ⟨p,hp,by simpa using e⟩)
structure Tot (acc l:Pl):Prop where
 nd:(acc.map (·.1)).Nodup
 mem:∀ k,k∈acc.map (·.1)↔k∈l.map (·.1)
 val:∀ p∈acc,p.2=sm l p.1
theorem Tot.nil:Tot [] []:=⟨.nil,fun k=>Iff.rfl,fun p hp=>by cases hp⟩
theorem Tot.look {acc l:Pl} (T:Tot acc l) (k:Int):((lkI acc k).map V.int).getD (.int 0)=.int (sm l k):=by
 unfold lkI
 cases e:acc.find? (fun p=>p.1=k) with
 | none =>
  have:k ∉ acc.map (·.1):=fun hm=>by
   obtain ⟨p,hp,ep⟩:=yaf.mp hm
   have:=ycn.mp e p hp
   exact this (by simpa using ep)
  rw[zez (fun z=>this ((T.mem k).mpr z))]
  rfl
 | some p =>
  have hp:=ych e
  have ep:p.1=k:=by simpa using List.find?_some e
  have:=T.val p hp
  rw[ep] at this
  rw[<-this]
  rfl
theorem Tot.step {acc l:Pl} (T:Tot acc l) (k x:Int):Tot (zao acc k (sm l k+x)) (l++[(k,x)]):=by
 have keys:∀ y:Int,(acc.map (fun p=>if p.1=k then (p.1,y) else p)).map (·.1)=acc.map (·.1):=fun y=>by
  rw[ybs]
  apply ycj
  intro p _
  show (if p.1=k then (p.1,y) else p).1=p.1
  split <;> rfl
 have lk:∀ j,j∈(l++[(k,x)]).map (·.1)↔j∈l.map (·.1)\/j=k:=fun j=>by simp[eq_comm]
 unfold zao
 split
 ·rename_i ha
  have hk:k∈acc.map (·.1):=by
   obtain ⟨p,hp,e⟩:=ycm.mp ha
   exact yaf.mpr ⟨p,hp,by simpa using e⟩
  refine ⟨by rw[keys];exact T.nd,fun j=>?_,fun p hp=>?_⟩
  ·rw[keys,lk,T.mem]
   refine ⟨.inl,fun h=>h.elim id fun e=>?_⟩
   rw[e];exact (T.mem k).mp hk
  ·obtain ⟨q,hq,rfl⟩:=yaf.mp hp
   have v:=T.val q hq
   rw[zrp]
   by_cases e:q.1=k
   ·rw[if_pos e]
    show sm l k+x=sm l q.1+if k=q.1 then x else 0
    rw[if_pos e.symm,e]
   ·rw[if_neg e,if_neg (fun z=>e z.symm),v]
    omega
 ·rename_i ha
  have hk:k ∉ acc.map (·.1):=fun hm=>by
   obtain ⟨p,hp,e⟩:=yaf.mp hm
   exact ha (ycm.mpr ⟨p,hp,by simpa using e⟩)
  refine ⟨?_,fun j=>?_,fun p hp=>?_⟩
  ·rw[yar]
   refine ycq.mpr ⟨T.nd,by simp,?_⟩
   intro a ha' b hb
   have:b=k:=by simpa using hb
   intro z
   rw[z,this] at ha'
   exact hk ha'
  ·rw[lk,yar,yac,T.mem]
   simp
  ·rw[zrp]
   rcases yac.mp hp with hp | hp
   ·have ne:k≠p.1:=fun z=>hk (by rw[z];exact yaf.mpr ⟨p,hp,rfl⟩)
    rw[if_neg ne,T.val p hp]
    omega
   ·obtain rfl:p=(k,sm l k+x):=by simpa using hp
    rw[if_pos rfl]
structure Tab (r l:Pl):Prop where
 up:(r.map (·.1)).Pairwise (·<·)
 mem:∀ k,k∈r.map (·.1)↔k∈l.map (·.1)
 val:∀ p∈r,p.2=sm l p.1
theorem zut {ns:List Int} (nd:ns.Nodup) (up:ns.Pairwise (·<=·)):ns.Pairwise (·<·):=by
 induction ns with
 | nil=>exact .nil
 | cons n ns ih =>
  obtain ⟨n1,n2⟩:=ybh.mp nd
  obtain ⟨u1,u2⟩:=ybh.mp up
  refine ybh.mpr ⟨fun a ha=>?_,ih n2 u2⟩
  have:=u1 a ha
  have:=n1 a ha
  omega
theorem zdH {ns:List Int} (up:ns.Pairwise (·<·)):ns.Nodup:=up.imp fun h=>by omega
theorem zvO {as bs:List Int} (ha:as.Pairwise (·<·)) (hb:bs.Pairwise (·<·)) (h:∀ d,d∈as↔d∈bs):as=bs:=by
 induction as generalizing bs with
 | nil =>
  cases bs with
  | nil=>rfl
  | cons b bs=>exact absurd ((h b).mpr yan) (by simp)
 | cons a as ih =>
  cases bs with
  | nil=>exact absurd ((h a).mp yan) (by simp)
  | cons b bs =>
   obtain ⟨a1,a2⟩:=ybh.mp ha
   obtain ⟨b1,b2⟩:=ybh.mp hb
   have e:a=b:=by
    rcases yak.mp ((h a).mp yan) with e | e
    ·exact e
    ·rcases yak.mp ((h b).mpr yan) with e2 | e2
     ·exact e2.symm
     ·have:=b1 a e;have:=a1 b e2;omega
   subst e
   rw[ih a2 b2 fun d=>?_]
   constructor
   ·intro hd
    rcases yak.mp ((h d).mp (yam _ hd)) with e | e
    ·have:=a1 d hd;omega
    ·exact e
   ·intro hd
    rcases yak.mp ((h d).mpr (yam _ hd)) with e | e
    ·have:=b1 d hd;omega
    ·exact e
theorem Tot.tab {acc l r:Pl} (T:Tot acc l) (P:r.Perm acc) (S:r.Pairwise fun s t=>s.1<=t.1):Tab r l:=by
 have pk:=P.map (·.1)
 refine ⟨zut (pk.nodup_iff.mpr T.nd) (ybq.mpr S),fun k=>(pk.mem_iff).trans (T.mem k),fun p hp=>T.val p (P.mem_iff.mp hp)⟩
end Sby
namespace L2
open PySem
noncomputable abbrev Er:=Ek × Int × Int
def isW (w:Str) (e:Er):Bool:=decide (V.str e.1.word=V.str w)
noncomputable def prs (w:Str) (es:List Er):List (Int × Int):=(es.filter (isW w)).map (·.2)
noncomputable def dys (w:Str) (es:List Er):List Int:=(es.filter (isW w)).map (·.2.1)
noncomputable def EL (K:W.Frag) (H:Hp):List V->List Er->Prop:=LL fun v e=>∃ a dx,v=.ref a/\zkW K H a dx e.1 e.2.1 e.2.2
theorem EL.same {K:W.Frag} {H H':Hp} {vs:List V} {es:List Er} (h:EL K H vs es) (s:Same H H'):EL K H' vs es:=LL.imp (fun v e ⟨a,dx,e1,e2⟩=>⟨a,dx,e1,s _ _ e2⟩) h
def AmW (w:Str):Prop:=w = "out" \/ w = "fee" \/ w = "pay" \/ w = "due"
theorem amt {w:Str} {k:Ek} {d x:Int} (hw:AmW w) (h:isW w (k,d,x)=true):yby ("amount" : Str) (zmU k d x)=some (V.int x)/\atI (zxo k d x) 2=some (.int x):=by
 have e:k.word=w:=V.str.inj (of_decide_eq_true h)
 subst e
 rcases hw with hw | hw | hw | hw <;> (cases k <;> first | exact ⟨rfl,rfl⟩ | (exfalso;revert hw;decide))
theorem zla {K:W.Frag} {H:Hp} {ys:List V} {gs:List Er} (h:LL (fun v e=>∃ t,v=.ref t/\H t=some (.tup [.int e.2.1,.int e.2.2])) ys gs):zA K H ys (gs.map (·.2)):=by
 induction h with
 | nil=>exact .nil
 | cons h _ ih =>
  obtain ⟨t,rfl,ht⟩:=h
  exact .cons ht ih
structure Days (ns ds:List Int):Prop where
 up:ns.Pairwise (·<·)
 mem:∀ d,d∈ns↔d∈ds
theorem Days.of {ns ms ds:List Int} (nd:ms.Nodup) (mem:∀ d,d∈ms↔d∈ds) (pm:ns.Perm ms) (up:ns.Pairwise (·<=·)):Days ns ds:=⟨Sby.zut (pm.nodup_iff.mpr nd) up,fun d=>pm.mem_iff.trans (mem d)⟩
theorem zrr {es:List Er} {w:Str}:(dys w es).length<=es.length:=by
 unfold dys
 rw[yab]
 exact yaz _ _
end L2
namespace L2
open PySem
theorem zv2 {a b:Int} {r:Int} (h0:0<=r) (h1:r<2):∃ m,atI [V.int a,.int b] r=some (.int m)/\(m=a\/m=b):=by
 have:r=((0:Nat):Int)\/r=((1:Nat):Int):=by omega
 rcases this with rfl | rfl
 ·exact ⟨a,zak rfl,.inl rfl⟩
 ·exact ⟨b,zak rfl,.inr rfl⟩
end L2
namespace L2
open PySem
theorem zqf {a b c:Int} {r:Int} (h0:0<=r) (h1:r<3):∃ m,atI [V.int a,.int b,.int c] r=some (.int m)/\(m=a\/m=b\/m=c):=by
 have:r=((0:Nat):Int)\/r=((1:Nat):Int)\/r=((2:Nat):Int):=by omega
 rcases this with rfl | rfl | rfl
 ·exact ⟨a,zak rfl,.inl rfl⟩
 ·exact ⟨b,zak rfl,.inr (.inl rfl)⟩
 ·exact ⟨c,zak rfl,.inr (.inr rfl)⟩
end L2
namespace L2
open PySem
end L2
namespace L2
open PySem
end L2
namespace L2
open PySem
theorem LL.of {α:Type} {R:V->α->Prop}:∀ {vs:List V} {es:List α},vs.length=es.length->(∀ (j:Nat) v,vs[j]?=some v->∃ e,es[j]?=some e/\R v e)->LL R vs es
 | [],[],_,_=>.nil
 | [],_::_,h,_=>by simp at h
 | _::_,[],h,_=>by simp at h
 | v::vs,e::es,h,p=>by
  obtain ⟨e',he,hr⟩:=p 0 v rfl
  cases he
  exact .cons hr (LL.of (by simpa using h) fun j w hw=>p (j+1) w hw)
end L2
namespace Spans
noncomputable abbrev Sp:=List (Int × Int)
def Cov (l:Sp) (d:Int):Prop:=∃ s∈l,s.1<=d/\d<s.2
structure Joined (l:Sp):Prop where
 up:∀ s∈l,s.1<s.2
 apart:l.Pairwise fun s t=>s.2<t.1
theorem zk0 {d:Int}:¬ Cov [] d:=fun ⟨_,h,_⟩=>by cases h
theorem zpe {s:Int × Int} {l:Sp} {d:Int}:Cov (s::l) d↔(s.1<=d/\d<s.2)\/Cov l d:=by
 constructor
 ·rintro ⟨t,ht,h⟩
  rcases yak.mp ht with rfl | ht
  ·exact .inl h
  ·exact .inr ⟨t,ht,h⟩
 ·rintro (h | ⟨t,ht,h⟩)
  ·exact ⟨s,yan,h⟩
  ·exact ⟨t,yam _ ht,h⟩
theorem zb8 {a b:Sp} {d:Int}:Cov (a++b) d↔Cov a d\/Cov b d:=by
 constructor
 ·rintro ⟨t,ht,h⟩
  rcases yac.mp ht with ht | ht
  ·exact .inl ⟨t,ht,h⟩
  ·exact .inr ⟨t,ht,h⟩
 ·rintro (⟨t,ht,h⟩ | ⟨t,ht,h⟩)
  ·exact ⟨t,ybr _ ht,h⟩
  ·exact ⟨t,yah _ ht,h⟩
def isIn (l:Sp) (d:Int):Bool:=l.any fun s=>decide (s.1<=d) && decide (d<s.2)
theorem zaR {l:Sp} {d:Int}:isIn l d=true↔Cov l d:=by
 unfold isIn
 rw[ycm]
 constructor
 ·rintro ⟨s,hs,h⟩
  simp only[Bool.and_eq_true,decide_eq_true_eq] at h
  exact ⟨s,hs,h⟩
 ·rintro ⟨s,hs,h⟩
  exact ⟨s,hs,by simp only[Bool.and_eq_true,decide_eq_true_eq];exact h⟩
noncomputable def step (l:Sp) (st:Sp × Int) (e:Int):Sp × Int :=
 let f:=if isIn l e && !isIn l (e-1) then e else st.2
 (if isIn l e then st.1 else st.1++[(f,e)],f)
def least (l:Sp) (es:List Int):Sp:=(es.foldl (step l) ([],0)).1
structure Edges (l:Sp) (es:List Int):Prop where
 up:es.Pairwise (·<·)
 mem:∀ d,d∈es↔∃ s∈l,d=s.1\/d=s.2
theorem zrl {l:Sp} {a b:Int} (ab:a<=b) (h:∀ s∈l,∀ d,a<d->d<=b->d≠s.1/\d≠s.2):Cov l a↔Cov l b:=by
 constructor
 ·rintro ⟨s,hs,h1,h2⟩
  refine ⟨s,hs,by omega,?_⟩
  refine Int.not_le.mp fun le=>?_
  exact (h s hs s.2 h2 le).2 rfl
 ·rintro ⟨s,hs,h1,h2⟩
  refine ⟨s,hs,?_,by omega⟩
  refine Int.not_lt.mp fun lt=>?_
  exact (h s hs s.1 lt h1).1 rfl
structure Upto (l:Sp) (e:Int) (st:Sp × Int):Prop where
 j:Joined st.1
 out:¬ Cov l e->(∀ d,d<=e->(Cov st.1 d↔Cov l d))/\∀ s∈st.1,s.2<=e
 in_:Cov l e->(∀ d,Cov st.1 d↔Cov l d/\d<st.2)/\st.2<=e/\(∀ d,st.2<=d->d<=e->Cov l d)/\¬ Cov l (st.2-1)/\∀ s∈st.1,s.2<st.2
theorem zi1 {l:Sp} {d:Int} (h:¬ Cov l d):isIn l d=false:=by
 cases q:isIn l d with
 | false=>rfl
 | true=>exact absurd (zaR.mp q) h
theorem Upto.next {l:Sp} {e e':Int} {st:Sp × Int} (U:Upto l e st) (ok:∀ s∈l,s.1<s.2) (lt:e<e') (no:∀ s∈l,∀ d,e<d->d<e'->d≠s.1/\d≠s.2) (ed:∃ s∈l,e'=s.1\/e'=s.2):Upto l e' (step l st e'):=by
 have con:∀ d,e<=d->d<e'->(Cov l e↔Cov l d):=fun d h1 h2=>zrl h1 fun s hs d' g1 g2=>no s hs d' g1 (by omega)
 have bef:Cov l e↔Cov l (e'-1):=con _ (by omega) (by omega)
 unfold step
 dsimp only
 by_cases c':Cov l e'
 ·rw[zaR.mpr c']
  by_cases c:Cov l e
  ·rw[zaR.mpr (bef.mp c)]
   obtain ⟨h1,h2,h3,h4,h5⟩:=U.in_ c
   refine ⟨U.j,fun q=>absurd c' q,fun _=>⟨h1,by show st.2<=e';omega,fun d g1 g2=>?_,h4,h5⟩⟩
   by_cases q:d<=e
   ·exact h3 d g1 q
   ·by_cases z:d=e'
    ·rw[z];exact c'
    ·exact (con d (by omega) (by omega)).mp c
  ·rw[zi1 fun q=>c (bef.mpr q)]
   obtain ⟨h1,h2⟩:=U.out c
   refine ⟨U.j,fun q=>absurd c' q,fun _=>⟨fun d=>?_,yds _,fun d g1 g2=>?_,fun q=>c (bef.mpr q),fun s hs=>?_⟩⟩
   ·show Cov st.1 d↔Cov l d/\d<e'
    by_cases q:d<=e
    ·rw[h1 d q]
     exact ⟨fun z=>⟨z,by omega⟩,fun z=>z.1⟩
    ·constructor
     ·rintro ⟨s,hs,_,g⟩
      have:=h2 s hs
      omega
     ·rintro ⟨g1,g2⟩
      exact absurd ((con d (by omega) g2).mpr g1) c
   ·have g1':e'<=d:=g1
    have:d=e':=by omega
    rw[this];exact c'
   ·have:=h2 s hs
    show s.2<e'
    omega
 ·rw[zi1 c']
  have c:Cov l e:=by
   obtain ⟨s,hs,q | q⟩:=ed
   ·exact absurd ⟨s,hs,by omega,by have:=ok s hs;omega⟩ c'
   ·exact bef.mpr ⟨s,hs,by have:=ok s hs;omega,by omega⟩
  obtain ⟨h1,h2,h3,h4,h5⟩:=U.in_ c
  simp only[Bool.false_and,Bool.false_eq_true,if_false]
  refine ⟨⟨fun s hs=>?_,?_⟩,fun _=>⟨fun d g=>?_,fun s hs=>?_⟩,fun q=>absurd q c'⟩
  ·rcases yac.mp hs with hs | hs
   ·exact U.j.up s hs
   ·have:s=(st.2,e'):=by simpa using hs
    rw[this]
    show st.2<e'
    omega
  ·refine ybl.mpr ⟨U.j.apart,ybp _ _,fun s hs t ht=>?_⟩
   have:t=(st.2,e'):=by simpa using ht
   rw[this]
   exact h5 s hs
  ·rw[zb8,h1 d,zpe]
   constructor
   ·rintro (q | q | q)
    ·exact q.1
    ·have q1:st.2<=d:=q.1
     have q2:d<e':=q.2
     by_cases z:d<=e
     ·exact h3 d q1 z
     ·exact (con d (by omega) q2).mp c
    ·exact absurd q zk0
   ·intro q
    have ne:d≠e':=fun z=>c' (z ▸ q)
    by_cases z:d<st.2
    ·exact .inl ⟨q,z⟩
    ·exact .inr (.inl ⟨by show st.2<=d;omega,by show d<e';omega⟩)
  ·rcases yac.mp hs with hs | hs
   ·have:=h5 s hs
    omega
   ·have:s=(st.2,e'):=by simpa using hs
    rw[this]
    exact yds _
theorem znT {l:Sp} (ok:∀ s∈l,s.1<s.2):∀ (es:List Int) (e:Int) (st:Sp × Int),Upto l e st->es.Pairwise (·<·)->(∀ d∈es,e<d)->(∀ s∈l,∀ d,d=s.1\/d=s.2->e<d->d∈es)->(∀ d∈es,∃ s∈l,d=s.1\/d=s.2) ->
  ∃ e',Upto l e' (es.foldl (step l) st)/\∀ s∈l,s.1<=e'/\s.2<=e'
 | [],e,st,U,_,_,all,_=>⟨e,U,fun s hs=>⟨Int.not_lt.mp fun lt=>(by cases all s hs s.1 (.inl rfl) lt),Int.not_lt.mp fun lt=>(by cases all s hs s.2 (.inr rfl) lt)⟩⟩
 | x::es,e,st,U,up,ab,all,ed=>by
  obtain ⟨u1,u2⟩:=ybh.mp up
  refine znT ok es x _ (U.next ok (ab x yan) (fun s hs d g1 g2=>?_) (ed x yan)) u2 u1 (fun s hs d q lt=>?_) fun d hd=>ed d (yam _ hd)
  ·have key:∀ d,(d=s.1\/d=s.2)->e<d->d<x->False:=fun d q g1 g2=>by
    rcases yak.mp (all s hs d q g1) with z | z
    ·omega
    ·have:=u1 d z;omega
   exact ⟨fun z=>key d (.inl z) g1 g2,fun z=>key d (.inr z) g1 g2⟩
  ·rcases yak.mp (all s hs d q (by have:=ab x yan;omega)) with z | z
   ·omega
   ·exact z
theorem zun {l:Sp} {es:List Int} (ok:∀ s∈l,s.1<s.2) (E:Edges l es):Joined (least l es)/\∀ d,Cov (least l es) d↔Cov l d:=by
 have bot:∃ e:Int,∀ d∈es,e<d:=by
  cases es with
  | nil=>exact ⟨0,fun d hd=>by cases hd⟩
  | cons x r=>exact ⟨x-1,fun d hd=>by
    rcases yak.mp hd with rfl | hd
    ·omega
    ·have:=(ybh.mp E.up).1 d hd;omega⟩
 obtain ⟨e,he⟩:=bot
 have none_:∀ d,d<=e->¬ Cov l d:=fun d hd ⟨s,hs,h1,_⟩=>by
  have:=he s.1 ((E.mem _).mpr ⟨s,hs,.inl rfl⟩)
  omega
 have U0:Upto l e ([],0):=⟨⟨fun s hs=>(by cases hs),List.Pairwise.nil⟩,fun _=>⟨fun d hd=>⟨fun q=>absurd q zk0,fun q=>absurd q (none_ d hd)⟩,fun s hs=>by cases hs⟩,fun q=>absurd q (none_ e (yds _))⟩
 obtain ⟨e',U,top⟩:=znT ok es e ([],0) U0 E.up he (fun s hs d q _=>(E.mem d).mpr ⟨s,hs,q⟩) fun d hd=>(E.mem d).mp hd
 have nc:¬ Cov l e':=fun ⟨s,hs,_,h2⟩=>by have:=(top s hs).2;omega
 obtain ⟨h1,h2⟩:=U.out nc
 refine ⟨U.j,fun d=>?_⟩
 by_cases q:d<=e'
 ·exact h1 d q
 ·constructor
  ·rintro ⟨s,hs,_,g⟩
   have:=h2 s hs
   omega
  ·rintro ⟨s,hs,_,g⟩
   have:=(top s hs).2
   omega
end Spans
namespace Sums
noncomputable def S (f:Int->Int) (a:Int):Nat->Int
 | 0=>0
 | n+1=>S f a n+f (a+n)
noncomputable def sum (f:Int->Int) (a b:Int):Int:=S f a (b-a).toNat
theorem zvM {f:Int->Int} {a b:Int} (h:b<=a):sum f a b=0:=by
 unfold sum
 rw[show (b-a).toNat=0 by omega]
 rfl
theorem zpt (f:Int->Int) (a:Int) (n:Nat):∀ m,S f a (n+m)=S f a n+S f (a+n) m
 | 0=>by simp[S]
 | m+1=>by
  show S f a (n+m)+f (a+((n+m:Nat):Int))=S f a n+(S f (a+n) m+f (a+n+m))
  rw[zpt f a n m,show a+((n+m:Nat):Int)=a+n+m by omega]
  omega
theorem sum_add {f:Int->Int} {a b c:Int} (h1:a<=c) (h2:c<=b):sum f a b=sum f a c+sum f c b:=by
 unfold sum
 rw[show (b-a).toNat=(c-a).toNat+(b-c).toNat by omega,zpt,show a+((c-a).toNat:Int)=c by omega]
theorem zrz {f g:Int->Int} {a:Int}:∀ (n:Nat),(∀ d,a<=d->d<a+n->f d=g d)->S f a n=S g a n
 | 0,_=>rfl
 | n+1,h=>by
  show S f a n+f (a+n)=S g a n+g (a+n)
  rw[zrz n fun d h1 h2=>h d h1 (by omega),h (a+n) (by omega) (by omega)]
theorem znV {f g:Int->Int} {a b:Int} (h:∀ d,a<=d->d<b->f d=g d):sum f a b=sum g a b:=zrz _ fun d h1 h2=>h d h1 (by omega)
theorem zuv (c:Int) (f:Int->Int) (a:Int):∀ n,S (fun d=>c*f d) a n=c*S f a n
 | 0=>by simp[S]
 | n+1=>by
  show S (fun d=>c*f d) a n+c*f (a+n)=c*(S f a n+f (a+n))
  rw[zuv c f a n,Int.mul_add]
theorem zuN (c:Int) (f:Int->Int) (a b:Int):sum (fun d=>c*f d) a b=c*sum f a b:=zuv c f a _
theorem zsM (a:Int):∀ n,S (fun _=>0) a n=0
 | 0=>rfl
 | n+1=>by show S (fun _=>0) a n+0=0;rw[zsM a n];rfl
theorem zuw {U:Int->Int} {a:Int}:∀ n:Nat,S (fun d=>U (d+1)-U d) a n=U (a+n)-U a
 | 0=>by simp[S]
 | n+1=>by
  show S (fun d=>U (d+1)-U d) a n+(U (a+n+1)-U (a+n))=_
  rw[zuw n,show a+((n+1:Nat):Int)=a+n+1 by omega]
  omega
theorem zuR {U:Int->Int} {a b:Int} (h:a<=b):sum (fun d=>U (d+1)-U d) a b=U b-U a:=by
 unfold sum
 rw[zuw,show a+((b-a).toNat:Int)=b by omega]
theorem ztV {U v:Int->Int} {a b c:Int} (h:a<=b) (hv:∀ d,a<=d->d<b->v d=c):sum (fun d=>(U (d+1)-U d)*v d) a b=(U b-U a)*c:=by
 rw[znV (g:=fun d=>c*(U (d+1)-U d)) fun d h1 h2=>by rw[hv d h1 h2,Int.mul_comm],zuN,zuR h,Int.mul_comm]
noncomputable abbrev Tab:=List (Int × Int)
def Val (t:Tab) (d v:Int):Prop:=(v=0/\∀ r∈t,d<r.1)\/∃ i:Nat,∃ b:Int,t[i]?=some (b,v)/\b<=d/\∀ (j:Nat) (r:Int × Int),t[j]?=some r->r.1<=d->r.1<b\/(r.1=b/\j<=i)
theorem Val.one {t:Tab} {d v u:Int} (a:Val t d v) (b:Val t d u):v=u:=by
 rcases a with ⟨rfl,h⟩ | ⟨i,x,e,le,h⟩
 ·rcases b with ⟨rfl,_⟩ | ⟨j,y,e',le',_⟩
  ·rfl
  ·have:=h _ (yai e')
   dsimp only at this
   omega
 ·rcases b with ⟨rfl,g⟩ | ⟨j,y,e',le',g⟩
  ·have:=g _ (yai e)
   dsimp only at this
   omega
  ·have p:=h j _ e' le'
   have q:=g i _ e le
   dsimp only at p q
   have ij:i=j:=by omega
   subst ij
   rw[e] at e'
   cases e'
   rfl
noncomputable def vstep (d:Int) (st:Int × Int) (r:Int × Int):Int × Int:=if st.1<=r.1/\r.1<=d then r else st
noncomputable def valOf (t:Tab) (d:Int):Int:=(t.foldl (vstep d) (-1,0)).2
theorem zcw {t:Tab} (h0:∀ r∈t,0<=r.1) (d:Int):Val t d (valOf t d):=by
 suffices q:∀ (pre rest:Tab) (st:Int × Int),pre++rest=t->((st=(-1,0)/\∀ r∈pre,d<r.1)\/∃ i:Nat,pre[i]?=some st/\st.1<=d/\∀ (j:Nat) (r:Int × Int),pre[j]?=some r->r.1<=d->r.1<st.1\/(r.1=st.1/\j<=i)) ->
   Val t d (rest.foldl (vstep d) st).2 from q [] t (-1,0) rfl (.inl ⟨rfl,fun r hr=>by cases hr⟩)
 intro pre rest
 induction rest generalizing pre with
 | nil =>
  intro st e h
  rw[yco] at e
  subst e
  rcases h with ⟨rfl,h⟩ | ⟨i,e,le,h⟩
  ·exact .inl ⟨rfl,h⟩
  ·exact .inr ⟨i,st.1,e,le,h⟩
 | cons r rest ih =>
  intro st e h
  have hr:0<=r.1:=h0 r (by rw[<-e];simp)
  refine ih (pre++[r]) (vstep d st r) (by rw[ycp];exact e) ?_
  have last:∀ (j:Nat) (x:Int × Int),(pre++[r])[j]?=some x->pre[j]?=some x\/(j=pre.length/\x=r):=fun j x hx=>by
   by_cases hj:j<pre.length
   ·rw[ybt hj] at hx
    exact .inl hx
   ·by_cases hj2:j=pre.length
    ·subst hj2
     rw[ybj (ycu _),ydi] at hx
     exact .inr ⟨rfl,(by cases hx;rfl)⟩
    ·rw[yas (by rw[yag,yau];omega)] at hx
     cases hx
  unfold vstep
  by_cases c:st.1<=r.1/\r.1<=d
  ·rw[if_pos c]
   refine .inr ⟨pre.length,by rw[ybj (ycu _),ydi];rfl,c.2,fun j x hx hd=>?_⟩
   rcases last j x hx with hx | ⟨rfl,rfl⟩
   ·have hj:j<pre.length:=(yad.mp hx).1
    rcases h with ⟨_,h⟩ | ⟨i,_,_,h⟩
    ·have:=h x (yai hx)
     omega
    ·rcases h j x hx hd with z | z
     ·exact .inl (by omega)
     ·by_cases w:x.1=r.1
      ·exact .inr ⟨w,by omega⟩
      ·exact .inl (by omega)
   ·exact .inr ⟨rfl,ycu _⟩
  ·rw[if_neg c]
   rcases h with ⟨rfl,h⟩ | ⟨i,ei,le,h⟩
   ·refine .inl ⟨rfl,fun x hx=>?_⟩
    rcases yac.mp hx with hx | hx
    ·exact h x hx
    ·have:x=r:=by simpa using hx
     rw[this]
     exact Int.not_le.mp fun q=>c ⟨by show (-1:Int)<=r.1;omega,q⟩
   ·refine .inr ⟨i,?_,le,fun j x hx hd=>?_⟩
    ·rw[ybt (yad.mp ei).1];exact ei
    ·rcases last j x hx with hx | ⟨rfl,rfl⟩
     ·exact h j x hx hd
     ·exact .inl (Int.not_le.mp fun q=>c ⟨q,hd⟩)
end Sums
namespace Stills
open Spans Sums
theorem fold_same {x y:Int}:∀ (t:Tab) (st:Int × Int),(∀ r∈t,(r.1<=x↔r.1<=y))->t.foldl (vstep x) st=t.foldl (vstep y) st
 | [],_,_=>rfl
 | r::t,st,h=>by
  have e:vstep x st r=vstep y st r:=by
   unfold vstep
   have:=h r (yan ..)
   by_cases c:st.1<=r.1/\r.1<=x
   ·rw[if_pos c,if_pos ⟨c.1,this.mp c.2⟩]
   ·rw[if_neg c,if_neg fun z=>c ⟨z.1,this.mpr z.2⟩]
  show t.foldl (vstep x) (vstep x st r)=t.foldl (vstep y) (vstep y st r)
  rw[e]
  exact fold_same t _ fun q hq=>h q (yam _ hq)
theorem zlH {t:Tab} {x y:Int} (xy:x<=y) (h:∀ r∈t,¬ (x<r.1/\r.1<=y)):valOf t x=valOf t y:=by
 unfold valOf
 rw[fold_same (y:=y) t _ fun r hr=>by have:=h r hr;omega]
theorem zvj {l r:Sp} {x y:Int} (c:∀ d,Cov r d↔Cov l d) (xy:x<=y) (h:∀ s∈r,∀ d,x<d->d<=y->d≠s.1/\d≠s.2):isIn l x=isIn l y:=by
 have e:Cov l x↔Cov l y:=by rw[<-c,<-c];exact zrl xy h
 cases p:isIn l x with
 | true=>exact (zaR.mpr (e.mp (zaR.mp p))).symm
 | false =>
  cases q:isIn l y with
  | false=>rfl
  | true=>rw[zaR.mpr (e.mpr (zaR.mp q))] at p;cases p
structure Begun (r:Sp) (day:Int) (n:Nat):Prop where
 le:n<=r.length
 lo:∀ i s,i<n->r[i]?=some s->s.1<=day
 hi:∀ i s,n<=i->r[i]?=some s->day<s.1
structure Free (r:Sp) (day m:Int):Prop where
 from_:day<=m
 out:¬ Cov r m
 all:∀ d,day<=d->d<m->Cov r d
theorem Free.one {r:Sp} {day m n:Int} (a:Free r day m) (b:Free r day n):m=n:=by
 rcases ydt m n with h | h | h
 ·exact absurd (b.all m a.from_ h) a.out
 ·exact h
 ·exact absurd (a.all n b.from_ h) b.out
theorem Free.cov {r l:Sp} {day m:Int} (a:Free r day m) (h:∀ d,Cov r d↔Cov l d):Free l day m:=⟨a.from_,fun z=>a.out ((h _).mpr z),fun d h1 h2=>(h d).mp (a.all d h1 h2)⟩
theorem Free.here {r:Sp} {day:Int} (h:¬ Cov r day):Free r day day:=⟨yds _,h,fun d h1 h2=>by omega⟩
theorem Free.gt {r:Sp} {day m:Int} (a:Free r day m):m > day↔Cov r day:=by
 constructor
 ·intro h
  exact a.all day (yds _) h
 ·intro h
  have:=a.from_
  by_cases e:m=day
  ·rw[e] at a
   exact absurd h a.out
  ·omega
theorem zkC {r:Sp} (J:Joined r) {i j:Nat} {s t:Int × Int} (hi:r[i]?=some s) (hj:r[j]?=some t) (lt:i<j):s.2<t.1:=by
 obtain ⟨h1,rfl⟩:=yad.mp hi
 obtain ⟨h2,rfl⟩:=yad.mp hj
 exact ybe.mp J.apart i j h1 h2 lt
theorem zsd {r:Sp} {day:Int} (B:Begun r day 0):Free r day day:=Free.here fun ⟨s,hs,h1,h2⟩=>by
 obtain ⟨j,hj,rfl⟩:=yay.mp hs
 have:=B.hi j _ (ycy _) (yaa hj)
 omega
theorem zso {r:Sp} (J:Joined r) {day:Int} {n:Nat} {s:Int × Int} (B:Begun r day (n+1)) (e:r[n]?=some s):Free r day (if s.2 > day then s.2 else day):=by
 have up:=J.up s (yai e)
 have lo:=B.lo n s (ydb _) e
 have other:∀ (t:Int × Int) (d:Int),t∈r->t.1<=d->d<t.2->day<=d->d<=s.2->t=s:=fun t d ht h1 h2 h3 h4=>by
  obtain ⟨j,hj,rfl⟩:=yay.mp ht
  have ej:=yaa hj
  rcases ydc j n with h | h | h
  ·have:=zkC J ej e h
   omega
  ·subst h
   rw[e] at ej
   cases ej
   rfl
  ·have:=zkC J e ej h
   omega
 by_cases c:s.2 > day
 ·rw[if_pos c]
  refine ⟨by omega,fun ⟨t,ht,h1,h2⟩=>?_,fun d h1 h2=>⟨s,yai e,by omega,h2⟩⟩
  have:=other t s.2 ht h1 h2 (by omega) (yds _)
  rw[this] at h2
  omega
 ·rw[if_neg c]
  refine Free.here fun ⟨t,ht,h1,h2⟩=>?_
  obtain ⟨j,hj,rfl⟩:=yay.mp ht
  have ej:=yaa hj
  rcases ydc j n with h | h | h
  ·have:=zkC J ej e h
   omega
  ·subst h
   rw[e] at ej
   cases ej
   omega
  ·have:=B.hi j _ h ej
   omega
theorem zlp {l:Sp} (day:Int):∃ m,Free l day m:=by
 obtain ⟨M,hM⟩:∃ M:Int,∀ s∈l,s.2<=M:=by
  clear day
  induction l with
  | nil=>exact ⟨0,fun s h=>by cases h⟩
  | cons s l ih =>
   obtain ⟨M,h⟩:=ih
   refine ⟨if M<=s.2 then s.2 else M,fun t ht=>?_⟩
   rcases yak.mp ht with rfl | ht
   ·split <;> omega
   ·have:=h t ht
    split <;> omega
 have fin:∀ n:Nat,∀ d:Int,M-d<=n->∃ m,Free l d m:=by
  intro n
  induction n with
  | zero =>
   intro d h
   refine ⟨d,Free.here fun ⟨s,hs,h1,h2⟩=>?_⟩
   have:=hM s hs
   omega
  | succ n ih =>
   intro d h
   by_cases c:Cov l d
   ·obtain ⟨m,F⟩:=ih (d+1) (by omega)
    refine ⟨m,by have:=F.from_;omega,F.out,fun x h1 h2=>?_⟩
    by_cases e:x=d
    ·rw[e];exact c
    ·exact F.all x (by omega) h2
   ·exact ⟨d,Free.here c⟩
 exact fin (M-day).toNat day (by omega)
end Stills
namespace Stills
open Spans Sums
theorem zjO:∀ (a b:List Int),a.Nodup->(∀ x∈a,x∈b)->a.length<=b.length
 | [],b,_,_=>ycy _
 | x::a,b,nd,h=>by
  have hx:=h x (yan ..)
  have n:=ybo.mp nd
  have:=zjO a (b.erase x) n.2 fun y hy=>by
   have ne:y≠x:=fun e=>n.1 (e ▸ hy)
   exact (yci ne).mpr (h y (yam _ hy))
  rw[ybx hx] at this
  have p:0<b.length:=ycc hx
  show a.length+1<=b.length
  omega
theorem zsY {r l:Sp} (J:Joined r) (C:∀ d,Cov r d↔Cov l d):r.length<=l.length:=by
 have nd:(r.map (·.1)).Nodup:=by
  unfold List.Nodup
  rw[ybq]
  refine (List.Pairwise.and_mem.mp J.apart).imp fun {s t} h=>?_
  have:=J.up s h.1
  have:=h.2.2
  omega
 have:=zjO (r.map (·.1)) (l.map (·.1)) nd fun x hx=>by
  obtain ⟨s,hs,rfl⟩:=yaf.mp hx
  obtain ⟨t,ht,h1,h2⟩:=(C s.1).mp ⟨s,hs,yds _,J.up s hs⟩
  have no:¬ Cov r (s.1-1):=by
   rintro ⟨u,hu,q1,q2⟩
   obtain ⟨i,hi,rfl⟩:=yay.mp hs
   obtain ⟨j,hj,rfl⟩:=yay.mp hu
   have ui:=J.up _ (yck hi)
   rcases ydc i j with h | h | h
   ·have:=zkC J (yaa hi) (yaa hj) h
    omega
   ·subst h
    omega
   ·have:=zkC J (yaa hj) (yaa hi) h
    omega
  have e:t.1=s.1:=by
   by_cases lt:t.1<s.1
   ·exact absurd ((C _).mpr ⟨t,ht,by omega,by omega⟩) no
   ·omega
  exact yaf.mpr ⟨t,ht,e⟩
 simpa using this
end Stills
namespace Stills
open Spans Sums
theorem zo4 {l:Sp} (up:l.Pairwise fun s t=>s.1<t.1) {i j:Nat} {s t:Int × Int} (hi:l[i]?=some s) (hj:l[j]?=some t) (lt:i<j):s.1<t.1:=by
 obtain ⟨h1,rfl⟩:=yad.mp hi
 obtain ⟨h2,rfl⟩:=yad.mp hj
 exact ybe.mp up i j h1 h2 lt
theorem zs5 {l:Sp} (J:Joined l):l.Pairwise fun s t=>s.1<t.1:=by
 refine (List.Pairwise.and_mem.mp J.apart).imp fun {s t} h=>?_
 have:=J.up s h.1
 have:=h.2.2
 omega
theorem zuC {ns:List Int} (up:ns.Pairwise (·<·)) {i j:Nat} {x y:Int} (hi:ns[i]?=some x) (hj:ns[j]?=some y) (lt:i<j):x<y:=by
 obtain ⟨h1,rfl⟩:=yad.mp hi
 obtain ⟨h2,rfl⟩:=yad.mp hj
 exact ybe.mp up i j h1 h2 lt
end Stills
namespace Stills
open Spans Sums
theorem zui {r l:Sp} (h:∀ d,Cov r d↔Cov l d) (d:Int):isIn r d=isIn l d:=by
 by_cases c:Cov r d
 ·rw[zaR.mpr c,zaR.mpr ((h d).mp c)]
 ·rw[zi1 c,zi1 fun z=>c ((h d).mpr z)]
end Stills
namespace Stills
open Spans Sums
theorem ztH {t:Sp} {d:Int} (t0:∀ s∈t,0<=s.1) (B:Begun t d 0):valOf t d=0:=by
 refine Val.one (zcw t0 d) (.inl ⟨rfl,fun r hr=>?_⟩)
 obtain ⟨j,hj,rfl⟩:=yay.mp hr
 exact B.hi j _ (ycy _) (yaa hj)
theorem ztI {t:Sp} {d:Int} (t0:∀ s∈t,0<=s.1) (up:t.Pairwise fun s u=>s.1<u.1) {n:Nat} {s:Int × Int} (B:Begun t d (n+1)) (e:t[n]?=some s):valOf t d=s.2:=by
 refine Val.one (zcw t0 d) (.inr ⟨n,s.1,e,B.lo n s (ydb _) e,fun j r hj le=>?_⟩)
 rcases ydc j n with h | h | h
 ·exact .inl (zo4 up hj e h)
 ·subst h
  rw[e] at hj
  cases hj
  exact .inr ⟨rfl,ycu _⟩
 ·have:=B.hi j r h hj
  omega
end Stills
namespace Stills
open Spans Sums
end Stills
namespace Stills
end Stills
namespace Stills
open Spans Sums
structure TabOf (t tb:Sp):Prop where
 up:tb.Pairwise fun s u=>s.1<u.1
 val:∀ d,valOf tb d=valOf t d
 days:∀ d,(∃ s∈tb,d=s.1)↔∃ s∈t,d=s.1
theorem TabOf.nn {t tb:Sp} (T:TabOf t tb) (t0:∀ s∈t,0<=s.1):∀ s∈tb,0<=s.1:=fun s hs=>by
 obtain ⟨u,hu,e⟩:=(T.days s.1).mp ⟨s,hs,rfl⟩
 rw[e]
 exact t0 u hu
theorem tab_of {t:Sp} {ds:List Int} (t0:∀ s∈t,0<=s.1) (up:ds.Pairwise (·<·)) (mem:∀ d,d∈ds↔∃ s∈t,d=s.1):TabOf t (ds.map fun d=>(d,valOf t d)):=by
 have d0:∀ s∈ds.map fun d=>(d,valOf t d),0<=s.1:=fun s hs=>by
  obtain ⟨d,hd,rfl⟩:=yaf.mp hs
  obtain ⟨u,hu,e⟩:=(mem d).mp hd
  show 0<=d
  rw[e]
  exact t0 u hu
 refine ⟨by rw[ybq];exact up,fun d=>?_,fun d=>?_⟩
 ·refine Val.one (zcw d0 d) ?_
  rcases zcw t0 d with ⟨e,h⟩ | ⟨i,b,e,le,h⟩
  ·rw[e]
   refine .inl ⟨rfl,fun r hr=>?_⟩
   obtain ⟨x,hx,rfl⟩:=yaf.mp hr
   obtain ⟨u,hu,e'⟩:=(mem x).mp hx
   show d<x
   rw[e']
   exact h u hu
  ·have hb:b∈ds:=(mem b).mpr ⟨_,yai e,rfl⟩
   obtain ⟨j,hj,ej⟩:=yay.mp hb
   have vb:valOf t b=valOf t d:=Val.one (zcw t0 b) (.inr ⟨i,b,e,yds _,fun k r hk hr=>h k r hk (by omega)⟩)
   refine .inr ⟨j,b,?_,le,fun k r hk hr=>?_⟩
   ·rw[yaj,yaa hj,ej]
    show some (b,valOf t b)=_
    rw[vb]
   ·rw[yaj] at hk
    obtain ⟨x,hx,rfl⟩:=Option.map_eq_some_iff.mp hk
    have ej':ds[j]?=some b:=by rw[yaa hj,ej]
    obtain ⟨u,hu,eu⟩:=(mem x).mp (yai hx)
    obtain ⟨n,hn,en⟩:=yay.mp hu
    have hxb:x<=b:=by
     have:=h n u (by rw[yaa hn,en]) (by rw[<-eu];exact hr)
     rw[<-eu] at this
     omega
    rcases ydc k j with c | c | c
    ·exact .inl (zuC up hx ej' c)
    ·subst c
     rw[ej'] at hx
     cases hx
     exact .inr ⟨rfl,ycu _⟩
    ·have:=zuC up ej' hx c
     omega
 ·constructor
  ·rintro ⟨s,hs,rfl⟩
   obtain ⟨x,hx,rfl⟩:=yaf.mp hs
   exact (mem x).mp hx
  ·intro hd
   exact ⟨(d,valOf t d),yaf.mpr ⟨d,(mem d).mpr hd,rfl⟩,rfl⟩
end Stills
namespace Stills
open Spans Sums
end Stills
namespace Stills
end Stills
namespace Stills
open Spans Sums
structure JInv (P acc:Sp):Prop where
 j:Joined acc
 c:∀ d,Cov acc d↔Cov P d
 f:∀ t∈acc,∃ s∈P,t.1=s.1
theorem zne {s:Int × Int} {d:Int}:Cov [s] d↔s.1<=d/\d<s.2:=by
 rw[zpe]
 exact ⟨fun h=>h.elim id fun z=>absurd z zk0,.inl⟩
theorem JInv.nil:JInv [] []:=⟨⟨fun s h=>(by cases h),List.Pairwise.nil⟩,fun _=>Iff.rfl,fun t h=>(by cases h)⟩
theorem JInv.begin_ {P:Sp} {s:Int × Int} (J:JInv P []) (up:s.1<s.2):JInv (P++[s]) [s]:=by
 refine ⟨⟨fun t ht=>?_,ybp _ _⟩,fun d=>?_,fun t ht=>?_⟩
 ·have:t=s:=by simpa using ht
  rw[this];exact up
 ·rw[zb8,<-J.c]
  exact ⟨.inr,fun h=>h.elim (fun z=>absurd z zk0) id⟩
 ·have:t=s:=by simpa using ht
  exact ⟨s,by simp,by rw[this]⟩
theorem JInv.add {P acc:Sp} {t s:Int × Int} (J:JInv P (acc++[t])) (up:s.1<s.2) (h:t.2<s.1):JInv (P++[s]) (acc++[t]++[s]):=by
 have jt:=J.j.up t (by simp)
 refine ⟨⟨fun u hu=>?_,ybl.mpr ⟨J.j.apart,ybp _ _,fun u hu v hv=>?_⟩⟩,fun d=>?_,fun u hu=>?_⟩
 ·rcases yac.mp hu with hu | hu
  ·exact J.j.up u hu
  ·have:u=s:=by simpa using hu
   rw[this];exact up
 ·have:v=s:=by simpa using hv
  subst this
  rcases yac.mp hu with hu' | hu'
  ·have:=(ybl.mp J.j.apart).2.2 u hu' t (by simp)
   omega
  ·have:u=t:=by simpa using hu'
   rw[this];exact h
 ·rw[zb8 (a:=acc++[t]),zb8 (a:=P),J.c]
 ·rcases yac.mp hu with hu | hu
  ·obtain ⟨x,hx,e⟩:=J.f u hu
   exact ⟨x,yac.mpr (.inl hx),e⟩
  ·have:u=s:=by simpa using hu
   exact ⟨s,by simp,by rw[this]⟩
theorem JInv.grow {P acc:Sp} {t s:Int × Int} {m:Int} (J:JInv P (acc++[t])) (up:s.1<s.2) (h0:t.1<=s.1) (h:s.1<=t.2) (hm:m=if s.2 > t.2 then s.2 else t.2):JInv (P++[s]) (acc++[(t.1,m)]):=by
 have jt:=J.j.up t (by simp)
 have hm':t.2<=m/\s.2<=m/\(m=t.2\/m=s.2):=by rw[hm];split <;> omega
 obtain ⟨p1,p2,p3⟩:=ybl.mp J.j.apart
 refine ⟨⟨fun u hu=>?_,ybl.mpr ⟨p1,ybp _ _,fun u hu v hv=>?_⟩⟩,fun d=>?_,fun u hu=>?_⟩
 ·rcases yac.mp hu with hu | hu
  ·exact J.j.up u (yac.mpr (.inl hu))
  ·have:u=(t.1,m):=by simpa using hu
   rw[this]
   show t.1<m
   omega
 ·have:v=(t.1,m):=by simpa using hv
  rw[this]
  exact p3 u hu t (by simp)
 ·have a:=J.c d
  rw[zb8,zne] at a
  rw[zb8,zb8,<-a,zne,zne]
  show (Cov acc d\/(t.1<=d/\d<m))↔((Cov acc d\/(t.1<=d/\d<t.2))\/(s.1<=d/\d<s.2))
  constructor
  ·rintro (z | z)
   ·exact .inl (.inl z)
   ·by_cases c:d<t.2
    ·exact .inl (.inr ⟨z.1,c⟩)
    ·exact .inr (by omega)
  ·rintro ((z | z) | z)
   ·exact .inl z
   ·exact .inr (by omega)
   ·exact .inr (by omega)
 ·rcases yac.mp hu with hu | hu
  ·obtain ⟨x,hx,e⟩:=J.f u (yac.mpr (.inl hu))
   exact ⟨x,yac.mpr (.inl hx),e⟩
  ·have:u=(t.1,m):=by simpa using hu
   obtain ⟨x,hx,e⟩:=J.f t (by simp)
   exact ⟨x,yac.mpr (.inl hx),by rw[this];exact e⟩
theorem zvr {a b:Sp} (h:∀ s,s∈a↔s∈b) (d:Int):Cov a d↔Cov b d:=⟨fun ⟨s,hs,q⟩=>⟨s,(h s).mp hs,q⟩,fun ⟨s,hs,q⟩=>⟨s,(h s).mpr hs,q⟩⟩
end Stills
namespace Dct
open L2
def days (t:List (Int × Int)) (d:Int):Prop:=∃ s∈t,d=s.1
theorem zvC {d:Int} (h:-1<=d):∀ (t:List (Int × Int)) (st:Int × Int),st.1<=d->(t.foldl (Sums.vstep d) st).1<=d
 | [],st,hs=>hs
 | x::t,st,hs=>by
  rw[ycf]
  refine zvC h t _ ?_
  unfold Sums.vstep
  split
  ·rename_i q;exact q.2
  ·exact hs
theorem zsS {d:Int}:∀ (t:List (Int × Int)) (st:Int × Int),st.1=d->(t.foldl (Sums.vstep d) st).1=d
 | [],st,hs=>hs
 | x::t,st,hs=>by
  rw[ycf]
  refine zsS t _ ?_
  unfold Sums.vstep
  split
  ·rename_i q;omega
  ·exact hs
theorem zuI {d:Int} (h:0<=d):∀ (t:List (Int × Int)) (st:Int × Int),st.1<=d->days t d->(t.foldl (Sums.vstep d) st).1=d
 | [],st,_,hd=>by obtain ⟨s,hs,_⟩:=hd;cases hs
 | x::t,st,hs,hd=>by
  rw[ycf]
  by_cases e:x.1=d
  ·refine zsS t _ ?_
   unfold Sums.vstep
   rw[if_pos ⟨by omega,by omega⟩]
   exact e
  ·refine zuI h t _ ?_ ?_
   ·unfold Sums.vstep
    split
    ·rename_i q;exact q.2
    ·exact hs
   ·obtain ⟨s,m,q⟩:=hd
    rcases yak.mp m with rfl | m
    ·exact absurd q.symm e
    ·exact ⟨s,m,q⟩
theorem ztp (t:List (Int × Int)) (x:Int × Int):zcn (t++[x])=zao (zcn t) x.1 x.2:=by
 unfold zcn
 rw[List.foldl_append]
 rfl
theorem zm8 (l:List (Int × Int)) (k:Int):l.any (fun p=>p.1=k)=true↔days l k:=by
 rw[ycm]
 constructor
 ·rintro ⟨s,m,q⟩;exact ⟨s,m,(of_decide_eq_true q).symm⟩
 ·rintro ⟨s,m,q⟩;exact ⟨s,m,decide_eq_true q.symm⟩
theorem zmc {l:List (Int × Int)} {k y:Int} {s:Int × Int} (h:s∈zao l k y):(s.1=k/\s.2=y)\/(s∈l/\s.1≠k):=by
 unfold zao at h
 split at h
 ·obtain ⟨u,m,e⟩:=yaf.mp h
  by_cases q:u.1=k
  ·rw[if_pos q] at e;subst e;exact .inl ⟨q,rfl⟩
  ·rw[if_neg q] at e;subst e;exact .inr ⟨m,q⟩
 ·rename_i na
  rcases yac.mp h with m | m
  ·refine .inr ⟨m,fun q=>na ((zm8 l k).mpr ⟨s,m,q.symm⟩)⟩
  ·obtain rfl:s=(k,y):=by simpa using m
   exact .inl ⟨rfl,rfl⟩
theorem zrh {l:List (Int × Int)} {k y d:Int}:days (zao l k y) d↔days l d\/d=k:=by
 constructor
 ·rintro ⟨s,m,q⟩
  rcases zmc m with ⟨a,_⟩ | ⟨a,_⟩
  ·exact .inr (q.trans a)
  ·exact .inl ⟨s,a,q⟩
 ·intro h
  unfold zao
  split
  ·rename_i a
   have hd:days l d:=by
    rcases h with h | h
    ·exact h
    ·rw[h];exact (zm8 l k).mp a
   obtain ⟨s,m,q⟩:=hd
   by_cases e:s.1=k
   ·exact ⟨(s.1,y),yaf.mpr ⟨s,m,by rw[if_pos e]⟩,q⟩
   ·exact ⟨s,yaf.mpr ⟨s,m,by rw[if_neg e]⟩,q⟩
  ·rcases h with ⟨s,m,q⟩ | h
   ·exact ⟨s,ybr _ m,q⟩
   ·exact ⟨(k,y),yah _ (ybm.mpr rfl),h⟩
theorem zqW {l:List (Int × Int)} {k y:Int} (h:(l.map (·.1)).Nodup):((zao l k y).map (·.1)).Nodup:=by
 unfold zao
 split
 ·rw[ybs]
  have e:((fun x:Int × Int=>x.1) ∘ fun p:Int × Int=>if p.1=k then (p.1,y) else p)=fun x=>x.1:=by
   funext p
   show (if p.1=k then (p.1,y) else p).1=p.1
   split <;> rfl
  rw[e]
  exact h
 ·rename_i na
  rw[yar]
  refine ycq.mpr ⟨h,by simp,fun a ha b hb=>?_⟩
  have hb':b=k:=by simpa using hb
  obtain ⟨s,m,q⟩:=yaf.mp ha
  rw[hb']
  intro z
  exact na ((zm8 l k).mpr ⟨s,m,by rw[<-z];exact q.symm⟩)
structure Is (t l:List (Int × Int)):Prop where
 keys:(l.map (·.1)).Nodup
 days:∀ d,days l d↔days t d
 val:∀ s∈l,s.2=Sums.valOf t s.1
theorem dct_is:∀ (n:Nat) (t:List (Int × Int)),t.length=n->(∀ s∈t,0<=s.1)->Is t (zcn t)
 | 0,t,e,_=>by
  obtain rfl:t=[]:=List.eq_nil_of_length_eq_zero e
  exact ⟨List.nodup_nil,fun d=>Iff.rfl,fun s hs=>by cases hs⟩
 | n+1,t,e,h0=>by
  have ne:t≠[]:=fun z=>by rw[z] at e;cases e
  have et:t.dropLast++[t.getLast ne]=t:=List.dropLast_concat_getLast ne
  generalize t.dropLast=u at et
  generalize t.getLast ne=x at et
  subst et
  have ul:u.length=n:=by simpa using e
  have ih:=dct_is n u ul fun s hs=>h0 s (ybr _ hs)
  rw[ztp]
  refine ⟨zqW ih.keys,fun d=>?_,fun s hs=>?_⟩
  ·rw[zrh,ih.days]
   constructor
   ·rintro (⟨s,m,q⟩ | q)
    ·exact ⟨s,ybr _ m,q⟩
    ·exact ⟨x,yah _ (ybm.mpr rfl),q⟩
   ·rintro ⟨s,m,q⟩
    rcases yac.mp m with m | m
    ·exact .inl ⟨s,m,q⟩
    ·obtain rfl:s=x:=by simpa using m
     exact .inr q
  ·have x0:=h0 x (yah _ (ybm.mpr rfl))
   have ev:∀ d,Sums.valOf (u++[x]) d=(Sums.vstep d (u.foldl (Sums.vstep d) (-1,0)) x).2:=fun d=>by
    unfold Sums.valOf
    rw[List.foldl_append]
    rfl
   rcases zmc hs with ⟨a,b⟩ | ⟨a,b⟩
   ·rw[ev,b,a]
    unfold Sums.vstep
    rw[if_pos ⟨zvC (by omega) u (-1,0) (by show -1<=x.1;omega),yds _⟩]
   ·rw[ev,ih.val s a]
    have d0:0<=s.1:=by
     obtain ⟨r,m,q⟩:=(ih.days s.1).mp ⟨s,a,rfl⟩
     rw[q]
     exact h0 r (ybr _ m)
    have b1:=zuI d0 u (-1,0) (by show -1<=s.1;omega) ((ih.days s.1).mp ⟨s,a,rfl⟩)
    have st:Sums.vstep s.1 (u.foldl (Sums.vstep s.1) (-1,0)) x=u.foldl (Sums.vstep s.1) (-1,0):=if_neg (by rw[b1];omega)
    rw[st]
    rfl
theorem tab {t r:List (Int × Int)} (h0:∀ s∈t,0<=s.1) (p:r.Perm (zcn t)) (o:r.Pairwise fun s u=>s.1<=u.1):Stills.TabOf t r/\r=(r.map (·.1)).map fun d=>(d,Sums.valOf t d):=by
 have I:=dct_is t.length t rfl h0
 have nd:(r.map (·.1)).Nodup:=(p.map (·.1)).nodup_iff.mpr I.keys
 have up:(r.map (·.1)).Pairwise (·<·):=by
  have o':(r.map (·.1)).Pairwise (·<=·):=by
   rw[ybq]
   exact o
  refine (o'.and nd).imp fun {a b} h=>?_
  have:=h.1
  have:=h.2
  omega
 have e:r=(r.map (·.1)).map fun d=>(d,Sums.valOf t d):=by
  rw[ybs]
  conv=>lhs;rw[<-yct r]
  refine ycj fun s hs=>?_
  show s=(s.1,Sums.valOf t s.1)
  rw[<-I.val s (p.mem_iff.mp hs)]
 refine ⟨?_,e⟩
 rw[e]
 refine Stills.tab_of h0 up fun d=>?_
 constructor
 ·intro m
  obtain ⟨s,hs,rfl⟩:=yaf.mp m
  exact (I.days s.1).mp ⟨s,p.mem_iff.mp hs,rfl⟩
 ·intro m
  obtain ⟨s,hs,q⟩:=(I.days d).mpr m
  exact yaf.mpr ⟨s,p.mem_iff.mpr hs,q.symm⟩
end Dct
namespace L2
open PySem
noncomputable def bkF (c g e o f p t r l s d:V):List (Str × V):=[("own_count", c),("own_grace", g),("own_entries", e),("out_sums", o),("fee_sums", f),("pay_sums", p),("turn_days", t),("rate_rows", r),("late_rows", l),("spans", s),("due_sums", d)]
noncomputable def upto (l:List (Int × Int)) (d:Int):Int:=((l.filter fun s=>decide (s.1<=d)).map (·.2)).sum
structure BkT where
 (kd:Kd) (g:Int) (es:List Er) (outs fees pays:List (Int × Int)) (turns:List Int) (rates lates spans dues:List (Int × Int))
def LP (K:W.Frag) (H:Hp) (p:Addr) (l:List (Int × Int)):Prop:=∃ xs,H p=some (.lst xs)/\zA K H xs l/\l.length<=1000
theorem LP.same {K:W.Frag} {H H':Hp} {p:Addr} {l:List (Int × Int)} (h:LP K H p l) (s:Same H H'):LP K H' p l:=by
 obtain ⟨xs,e,r,n⟩:=h
 exact ⟨xs,s _ _ e,r.same s,n⟩
structure BkA where
 (dx c e o f p t r l s d:Addr)
noncomputable def BkA.fs (A:BkA) (g:Int):List (Str × V):=bkF (.ref A.c) (.int g) (.ref A.e) (.ref A.o) (.ref A.f) (.ref A.p) (.ref A.t) (.ref A.r) (.ref A.l) (.ref A.s) (.ref A.d)
structure zba (K:W.Frag) (H:Hp) (a:Addr) (A:BkA) (b:BkT):Prop where
 ins:H a=some (.ins (cA K "Book") A.dx (A.fs b.g))
 cnt:zcb K H A.c b.kd
 ents:∃ xs,H A.e=some (.lst xs)/\EL K H xs b.es
 outs:LP K H A.o b.outs
 fees:LP K H A.f b.fees
 pays:LP K H A.p b.pays
 turns:H A.t=some (.lst (b.turns.map V.int))
 rates:LP K H A.r b.rates
 lates:LP K H A.l b.lates
 spans:LP K H A.s b.spans
 dues:LP K H A.d b.dues
theorem zba.same {K:W.Frag} {H H':Hp} {a:Addr} {A:BkA} {b:BkT} (h:zba K H a A b) (s:Same H H'):zba K H' a A b :=
 ⟨s _ _ h.ins,h.cnt.same s,(let ⟨xs,e,r⟩:=h.ents;⟨xs,s _ _ e,r.same s⟩),h.outs.same s,h.fees.same s,h.pays.same s,s _ _ h.turns,h.rates.same s,h.lates.same s,h.spans.same s,h.dues.same s⟩
noncomputable def wo (H:Hp) (a:Addr):Hp:=fun b=>if b=a then none else H b
theorem zuA {H:Hp} {a b:Addr} (h:b≠a):wo H a b=H b:=if_neg h
theorem zch {H:Hp} {a:Addr}:Same (wo H a) H:=fun b o e=>by
 unfold wo at e
 split at e
 ·cases e
 ·exact e
theorem zuS {H H':Hp} {a:Addr} (s:Same H H'):Same (wo H a) (wo H' a):=fun b o e=>by
 unfold wo at e ⊢
 split at e
 ·cases e
 ·rename_i n
  rw[if_neg n]
  exact s _ _ e
theorem zc1 {H:Hp} {a:Addr} {o:HO}:wo (upd H a o) a=wo H a:=funext fun b=>by
 unfold wo
 split
 ·rfl
 ·rename_i n
  rw[zp n]
theorem zu1 {K:W.Frag} {H:Hp} {a C dx:Addr} {fs:List (Str × V)} {xs:List V} {l:List (Int × Int)} (h:zA K H xs l) (e:H a=some (.ins C dx fs)):zA K (wo H a) xs l:=by
 induction h with
 | nil=>exact .nil
 | cons h _ ih=>exact .cons (by rw[zuA (zan h e (by intro z;cases z))];exact h) ih
theorem zpb {H:Hp} {a p C dx:Addr} {fs:List (Str × V)} {xs:List V} (h:H p=some (.lst xs)) (e:H a=some (.ins C dx fs)):wo H a p=some (.lst xs):=by
 rw[zuA (zan h e (by intro z;cases z))];exact h
theorem LP.wo {K:W.Frag} {H:Hp} {a p C dx:Addr} {fs:List (Str × V)} {l:List (Int × Int)} (h:LP K H p l) (e:H a=some (.ins C dx fs)):LP K (L2.wo H a) p l:=by
 obtain ⟨xs,h1,h2,h3⟩:=h
 exact ⟨xs,zpb h1 e,zu1 h2 e,h3⟩
theorem zcP {H H2:Hp} {a:Addr} {o:HO} (s:Same H H2):Same (wo H a) (wo (upd H2 a o) a):=by
 rw[zc1]
 exact zuS s
noncomputable def tot (q:Int->Bool) (l:List (Int × Int)):Int:=((l.filter fun s=>q s.1).map (·.2)).sum
theorem zeL (q:Int->Bool) (s:Int × Int) (l:List (Int × Int)):tot q (s::l)=(if q s.1 then s.2 else 0)+tot q l:=by
 unfold tot
 by_cases h:q s.1=true
 ·rw[yat (by simpa using h),if_pos h];simp
 ·rw[yaq (by simpa using h),if_neg h];simp
theorem zeN (s:Int × Int) (l:List (Int × Int)) (n:Int):Sby.sm (s::l) n=(if s.1=n then s.2 else 0)+Sby.sm l n:=by
 have:=zeL (fun k=>decide (k=n)) s l
 simpa [tot,Sby.sm] using this
theorem znL (q:Int->Bool) (n:Int):∀ l:List (Int × Int),tot q l=(if q n then Sby.sm l n else 0)+tot q (l.filter fun s=>decide (s.1≠n))
 | []=>by simp[tot,Sby.sm]
 | s::l=>by
  rw[zeL,znL q n l,zeN]
  by_cases e:s.1=n
  ·rw[yaq (by simpa using e),if_pos e,e]
   split <;> omega
  ·rw[yat (by simpa using e),if_neg e,zeL]
   split <;> split <;> omega
theorem zwi {n d:Int} (h:d≠n) (l:List (Int × Int)):Sby.sm (l.filter fun s=>decide (s.1≠n)) d=Sby.sm l d:=by
 induction l with
 | nil=>rfl
 | cons s l ih =>
  by_cases e:s.1=n
  ·rw[yaq (by simpa using e),zeN,if_neg (by omega),ih];omega
  ·rw[yat (by simpa using e),zeN,zeN,ih]
theorem zp8 (q:Int->Bool):∀ (ns:List Int) (l:List (Int × Int)),ns.Nodup->(∀ p∈l,p.1∈ns)->tot q (ns.map fun d=>(d,Sby.sm l d))=tot q l
 | [],l,_,h=>by
  cases l with
  | nil=>rfl
  | cons s l=>exact absurd (h s yan) (by simp)
 | n::ns,l,nd,h=>by
  obtain ⟨n1,n2⟩:=ybo.mp nd
  rw[ybk,zeL,znL q n l,<-zp8 q ns (l.filter fun s=>decide (s.1≠n)) n2 fun p hp=>?_]
  ·congr 2
   apply ycj
   intro d hd
   rw[zwi (fun (e:d=n)=>n1 (by rw[<-e];exact hd))]
  ·obtain ⟨h1,h2⟩:=yao.mp hp
   rcases yak.mp (h p h1) with e | e
   ·exact absurd e (by simpa using h2)
   ·exact e
theorem zt5 {r l:List (Int × Int)} (T:Sby.Tab r l):r=(r.map (·.1)).map fun d=>(d,Sby.sm l d):=by
 rw[ybs]
 conv=>lhs;rw[<-yct r]
 apply ycj
 intro p hp
 show p=(p.1,Sby.sm l p.1)
 rw[<-T.val p hp]
theorem zrs {r l:List (Int × Int)} (T:Sby.Tab r l) (q:Int->Bool):tot q r=tot q l:=by
 rw[zt5 T]
 exact zp8 q _ l (Sby.zdH T.up) fun p hp=>(T.mem p.1).mpr (ybf hp)
theorem zpa {r l:List (Int × Int)} (T:Sby.Tab r l) (d:Int):upto r d=upto l d:=zrs T fun k=>decide (k<=d)
noncomputable def mvp (f:Int->Int) (l:List (Int × Int)):List (Int × Int):=l.map fun s=>(f s.1,s.2)
theorem zs0 (f:Int->Int) (l:List (Int × Int)) (k:Int):Sby.sm (mvp f l) k=tot (fun d=>decide (f d=k)) l:=by
 induction l with
 | nil=>rfl
 | cons s l ih =>
  show Sby.sm ((f s.1,s.2)::mvp f l) k=_
  rw[zeN,zeL,ih]
  by_cases e:f s.1=k
  ·rw[if_pos e,if_pos (by simpa using e)]
  ·rw[if_neg e,if_neg (by simpa using e)]
theorem zvv {r r2 l:List (Int × Int)} (f:Int->Int) (T:Sby.Tab r l) (T2:Sby.Tab r2 (mvp f r)):Sby.Tab r2 (mvp f l):=by
 have k:∀ l:List (Int × Int),(mvp f l).map (·.1)=(l.map (·.1)).map f:=fun l=>by unfold mvp;rw[ybs,ybs];rfl
 refine ⟨T2.up,fun d=>(T2.mem d).trans ?_,fun p hp=>?_⟩
 ·rw[k,k]
  constructor
  ·intro h
   obtain ⟨x,hx,e⟩:=yaf.mp h
   exact yaf.mpr ⟨x,(T.mem x).mp hx,e⟩
  ·intro h
   obtain ⟨x,hx,e⟩:=yaf.mp h
   exact yaf.mpr ⟨x,(T.mem x).mpr hx,e⟩
 ·rw[T2.val p hp,zs0,zs0,zrs T]
noncomputable def mvd (l:List (Int × Int)) (d:Int):Int:=Classical.choose (Stills.zlp (l:=l) d)
theorem zmE (l:List (Int × Int)) (d:Int):Stills.Free l d (mvd l d):=Classical.choose_spec (Stills.zlp (l:=l) d)
theorem zoQ {l:List (Int × Int)} {d m:Int} (h:Stills.Free l d m):m=mvd l d:=h.one (zmE l d)
theorem zuO {l r:List (Int × Int)} (h:∀ d,Spans.Cov l d↔Spans.Cov r d):mvd l=mvd r:=funext fun d=>zoQ ((zmE l d).cov h)
structure zc0 (b:BkT):Prop where
 outs:Sby.Tab b.outs (prs "out" b.es)
 fees:Sby.Tab b.fees (prs "fee" b.es)
 pays:Sby.Tab b.pays (prs "pay" b.es)
 turns:Days b.turns (dys "turn" b.es)
 rates:Stills.TabOf (prs "rate" b.es) b.rates/\b.rates=(b.rates.map (·.1)).map (fun d=>(d,Sums.valOf (prs "rate" b.es) d))
 lates:Stills.TabOf (prs "late" b.es) b.lates/\b.lates=(b.lates.map (·.1)).map (fun d=>(d,Sums.valOf (prs "late" b.es) d))
 spans:Spans.Joined b.spans/\∀ d,Spans.Cov b.spans d↔Spans.Cov (prs "still" b.es) d
 dues:Sby.Tab b.dues (mvp (mvd (prs "still" b.es)) (prs "due" b.es))
def RtW (w:Str):Prop:=w = "rate" \/ w = "late"
theorem rtl {w:Str} {k:Ek} {d x:Int} (hw:RtW w) (h:isW w (k,d,x)=true):yby ("rate" : Str) (zmU k d x)=some (V.int x):=by
 have e:k.word=w:=V.str.inj (of_decide_eq_true h)
 subst e
 rcases hw with hw | hw <;> (cases k <;> first | rfl | (exfalso;revert hw;decide))
theorem stl {k:Ek} {d x:Int} (h:isW "still" (k,d,x)=true):yby ("until" : Str) (zmU k d x)=some (V.int x):=by
 have e:k.word = "still" := V.str.inj (of_decide_eq_true h)
 cases k <;> first | rfl | (exfalso;revert e;decide)
theorem ztG (l:List (Int × Int)) (d:Int):Spans.Cov (l.filter fun s=>decide (s.1<s.2)) d↔Spans.Cov l d:=by
 constructor
 ·rintro ⟨s,hs,h⟩
  exact ⟨s,(yao.mp hs).1,h⟩
 ·rintro ⟨s,hs,h1,h2⟩
  exact ⟨s,yao.mpr ⟨hs,by simp;omega⟩,h1,h2⟩
theorem zgi {w:Str} {es:List Er}:(prs w es).length<=es.length:=by
 unfold prs
 rw[yab]
 exact yaz _ _
theorem tyC {K:W.Frag} {H:Hp} {a:Addr} {kd:Kd} (cl:Cls K (cA K kd.cls)) (I:zt8 K (cA K kd.cls)) (h:zcb K H a kd):zdo K H (.ref a) (.ref (cA K kd.cls)):=by
 obtain ⟨dx,e⟩:=h
 exact .ins e cl I.ha I.hn I.htk I.hm
theorem comp_map {α:Type} {J:It} {ix:List Nat} {te:TE} {σ:St} {l:Addr} {xs:List V} {H:Hp} {R:Hp->Prop} (Y:ziv J H xs) (hl:H l=none) (hz:xs.length<=sizeLine) (es:List α) (len:es.length=xs.length)
  (P:Hp->V->α->Prop) (mono:∀ v e H1 H2,Same H1 H2->P H1 v e->P H2 v e) (put:∀ v e H1 ys zs,H1 l=some (.lst ys)->P H1 v e->P (upd H1 l (.lst zs)) v e)
  (he:∀ (i:Nat) x e H' Q',xs[i]?=some x->es[i]?=some e->Same H H'->(∀ v H2,Same H' H2->P H2 v e->Q' v H2)->te (some x::capts σ ix) H' Q')
  (fin:∀ ys H',Same H H'->H' l=some (.lst ys)->LL (P H') ys es->R H') :
  ∃ W:Nat->Nat->List V->Hp->Prop,(∃ m,W 0 m [] (upd H l (.lst [])))/\Turns ix te σ J l R W:=by
 refine zuo Y hl hz (fun i v H'=>∃ e,es[i]?=some e/\P H' v e) (fun i v H1 H2 s ⟨e,e1,e2⟩=>⟨e,e1,mono v e _ _ s e2⟩) (fun i v H1 ys zs hL ⟨e,e1,e2⟩=>⟨e,e1,put v e _ _ _ hL e2⟩) ?_ ?_
 ·intro i x H' Q' hx sH hq
  have il:i<es.length:=by rw[len];exact (yad.mp hx).1
  have eP:es[i]?=some (es[i]'il):=yaa il
  exact he i x _ H' Q' hx eP sH fun v H2 s2 pv=>hq v H2 s2 ⟨_,eP,pv⟩
 ·intro ys H' sH eL yl hp
  exact fin ys H' sH eL (LL.of (by omega) hp)
theorem ztP {K:W.Frag} {H:Hp} {f:Int->Int} {ys:List V} {l:List (Int × Int)} (h:LL (fun v s=>∃ t,v=.ref t/\H t=some (.tup [.int (f s.1),.int s.2])) ys l):zA K H ys (mvp f l):=by
 induction h with
 | nil=>exact .nil
 | cons h _ ih =>
  obtain ⟨t,rfl,e⟩:=h
  exact .cons e ih
noncomputable def zcv (k:Ek) (d x:Int):List V:=[.str k.word,.int d,.int x]
noncomputable def RL3 (H:Hp):List V->List Er->Prop:=LL fun v e=>∃ t,v=.ref t/\H t=some (.tup (zcv e.1 e.2.1 e.2.2))
theorem RL3.same {H H':Hp} {vs:List V} {es:List Er} (h:RL3 H vs es) (s:Same H H'):RL3 H' vs es:=LL.imp (fun v e ⟨t,e1,e2⟩=>⟨t,e1,s _ _ e2⟩) h
theorem RL3.put {H:Hp} {vs ys zs:List V} {es:List Er} {p:Addr} (h:RL3 H vs es) (hp:H p=some (.lst ys)):RL3 (upd H p (.lst zs)) vs es:=LL.imp (fun v e ⟨t,e1,e2⟩=>⟨t,e1,by rw[zp (zan e2 hp (by intro z;cases z))];exact e2⟩) h
structure zry (fl:List Bool) (b:Int) (l:List (Int × Int)):Prop where
 len:fl.length=250
 at_:∀ k:Nat,k<250->fl[k]?=some (Spans.isIn l (b+k))
 end_:∀ s∈l,s.2<=b+249
theorem ztk (l:List (Int × Int)) (s:Int × Int) (d:Int):Spans.isIn (l++[s]) d=(Spans.isIn l d || (decide (s.1<=d) && decide (d<s.2))):=by
 unfold Spans.isIn
 rw[List.any_append]
 simp
theorem ztZ (n:Nat) (x:V):(yba n [x]).flatten=yba n x:=by
 induction n with
 | zero=>rfl
 | succ n ih=>rw[ybu,yce,ih,ybu];rfl
theorem zs3 {n:Nat} {i:Int} (h0:0<=i) (h1:i<n):ixN n i=some i.toNat:=by
 unfold ixN
 rw[if_pos h0,if_pos h1]
theorem zst (fl:List Bool) (i:Nat) (b:Bool):(fl.map V.bl).set i (.bl b)=(fl.set i b).map V.bl:=by rw[List.map_set]
def FlP (fl:List Bool) (b:Int) (l:List (Int × Int)) (lo hi:Int):Prop:=fl.length=250/\∀ k:Nat,k<250->fl[k]?=some (Spans.isIn l (b+k) || (decide (lo<=(k:Int)) && decide ((k:Int)<hi)))
theorem FlP.set {fl:List Bool} {b:Int} {l:List (Int × Int)} {lo hi:Int} (h:FlP fl b l lo hi) (h0:0<=lo) (h1:lo<=hi):FlP (fl.set hi.toNat true) b l lo (hi+1):=by
 refine ⟨by rw[List.length_set];exact h.1,fun k hk=>?_⟩
 rw[List.getElem?_set]
 by_cases e:hi.toNat=k
 ·rw[if_pos e,if_pos (by rw[h.1];omega)]
  have a1:lo<=(k:Int):=by omega
  have a2:(k:Int)<hi+1:=by omega
  simp[a1,a2]
 ·rw[if_neg e,h.2 k hk]
  have:((k:Int)<hi+1)↔((k:Int)<hi):=by omega
  simp[this]
theorem FlP.nil {fl:List Bool} {b:Int} {l:List (Int × Int)} {lo:Int} (h0:fl.length=250) (h:∀ k:Nat,k<250->fl[k]?=some (Spans.isIn l (b+k))):FlP fl b l lo lo:=by
 refine ⟨h0,fun k hk=>?_⟩
 rw[h k hk]
 have:¬ (lo<=(k:Int)/\(k:Int)<lo):=by omega
 cases Spans.isIn l (b+k) <;> simp <;> omega
theorem FlP.done {fl:List Bool} {b:Int} {l:List (Int × Int)} {s:Int × Int} (h:FlP fl b l (s.1-b) (s.2-b)):∀ k:Nat,k<250->fl[k]?=some (Spans.isIn (l++[s]) (b+k)):=fun k hk=>by
 rw[h.2 k hk,ztk]
 have e1:(s.1-b<=(k:Int))↔(s.1<=b+k):=by omega
 have e2:((k:Int)<s.2-b)↔(b+k<s.2):=by omega
 simp[e1,e2]
theorem zsj {X:Cx} (K:W.Frag) (hK:X.K=K:=by rfl):OpR X (compareOp .In) (rIn K false):=by
 subst hK
 exact zhl
theorem zuk (ns:List Int) (a b:Nat):∃ ms:List Int,ms.length<=b-a/\zdv (ns.map V.int) (some (a:Int)) (some (b:Int))=ms.map V.int:=by
 refine ⟨(ns.drop (min a (ns.map V.int).length)).take (min b (ns.map V.int).length-min a (ns.map V.int).length),?_,?_⟩
 ·rw[ybd]
  omega
 ·unfold zdv
  rw[zkZ,zkZ,List.map_take,List.map_drop]
theorem RL3.push {H:Hp} {vs:List V} {es:List Er} {t:Addr} {e:Er} (h:RL3 H vs es) (ht:H t=some (.tup (zcv e.1 e.2.1 e.2.2))):RL3 H (vs++[.ref t]) (es++[e]):=LL.push h ⟨t,rfl,ht⟩
theorem znE {α:Type} {J:It} {ix:List Nat} {tt:TT} {te:TE} {σ:St} {l:Addr} {xs:List V} {H:Hp} {R:Hp->Prop} (Y:ziv J H xs) (hl:H l=none) (hz:xs.length<=sizeLine) (es:List α) (len:es.length=xs.length)
  (f:α->Bool) (P:Hp->V->α->Prop) (mono:∀ v e H1 H2,Same H1 H2->P H1 v e->P H2 v e) (put:∀ v e H1 ys zs,H1 l=some (.lst ys)->P H1 v e->P (upd H1 l (.lst zs)) v e)
  (ht:∀ (i:Nat) x e H' Q',xs[i]?=some x->es[i]?=some e->Same H H'->(∀ H2,Same H' H2->Q' (f e) H2)->tt (some x::capts σ ix) H' Q')
  (he:∀ (i:Nat) x e H' Q',xs[i]?=some x->es[i]?=some e->f e=true->Same H H'->(∀ v H2,Same H' H2->P H2 v e->Q' v H2)->te (some x::capts σ ix) H' Q')
  (fin:∀ ys H',Same H H'->H' l=some (.lst ys)->LL (P H') ys (es.filter f)->R H') :
  ∃ W:Nat->Nat->List V->Hp->Prop,(∃ m,W 0 m [] (upd H l (.lst [])))/\zlc ix tt te σ J l R W:=by
 refine ⟨fun i m ys H'=>m=xs.length-i/\i<=xs.length/\LL (P H') ys ((es.take i).filter f)/\Same H H'/\H' l=some (.lst ys),⟨xs.length,by simp,ycy _,by simp;exact .nil,ze hl _,zg⟩,?_⟩
 rintro i m ys H' ⟨rfl,hi,hy,sH,hL⟩
 refine ⟨hL,?_⟩
 by_cases hlt:i<xs.length
 ·have eP:es[i]?=some (es[i]'(by omega)):=yaa (by omega)
  generalize es[i]'(by omega)=e at eP
  have tk:es.take (i+1)=es.take i++[e]:=by rw[ybc,eP];rfl
  refine .inr ⟨Y.go i H' sH hlt,by
   have:ys.length<=i:=by
    rw[hy.length]
    exact ycz (yaz _ _) (by rw[ybd];omega)
   omega,fun x H2 y=>?_⟩
  obtain ⟨rfl,e2⟩:=Y.yld i H' x H2 sH y
  refine ht i x e _ _ e2 eP sH fun H4 s4=>?_
  have sH4:=sH.trans s4
  have hL4:=s4 _ _ hL
  have hy4:=hy.imp fun v e q=>mono v e _ _ s4 q
  cases b:f e with
  | true =>
   rw[if_pos rfl]
   refine he i x e _ _ e2 eP b sH4 fun v H3 s3 pv=>?_
   have hL3:=s3 _ _ hL4
   refine ⟨hL3,xs.length-(i+1),by omega,rfl,hlt,?_,zE (sH4.trans s3) hl,zg⟩
   rw[tk,ybb,yat b]
   exact ((hy4.imp fun v e q=>put v e H3 ys _ hL3 (mono v e _ _ s3 q)).push (put v e H3 ys _ hL3 pv))
  | false =>
   rw[if_neg Bool.false_ne_true]
   refine ⟨xs.length-(i+1),by omega,rfl,hlt,?_,sH4,hL4⟩
   rw[tk,ybb,yaq (by rw[b];decide)]
   simpa using hy4
 ·rw[yav (by omega)] at hy
  exact .inl ⟨Y.stop i H' sH (by omega),fin ys H' sH hL hy⟩
theorem LL.zws {α:Type} {R:V->α->Prop} {vs:List V} {es:List α} (h:LL R vs es):LL R (vs.drop 1) (es.drop 1):=by
 cases h with
 | nil=>exact .nil
 | cons _ h=>exact h
theorem zsT (f:Int->Int) (w:Str) (es:List Er):prs w ((es.filter (isW w)).map fun e=>(e.1,f e.2.1,e.2.2))=mvp f (prs w es):=by
 unfold prs mvp
 rw[ybs,List.filter_map,List.filter_filter,ybs]
 have:(fun a:Er=>isW w ((fun e:Er=>((e.1,f e.2.1,e.2.2):Er)) a) && isW w a)=isW w:=funext fun a=>by
  show (isW w (a.1,f a.2.1,a.2.2) && isW w a)=isW w a
  have:isW w (a.1,f a.2.1,a.2.2)=isW w a:=rfl
  rw[this,Bool.and_self]
 first
 | rw[show ((isW w ∘ fun e:Er=>((e.1,f e.2.1,e.2.2):Er)))=isW w from rfl];simp only[Bool.and_self];rfl
 | (simp only[Function.comp_def,this];rfl)
end L2
namespace L2
open PySem
noncomputable abbrev T3:=Int × Int × Int
noncomputable def mn (a b:Int):Int:=if b<a then b else a
noncomputable def sum2 (l:List (Int × Int)):Int:=(l.map (·.2)).sum
noncomputable def zwQ (day paid t:Int) (s:Int × Int):List T3:=if s.1<=day/\mn s.2 (t+s.2-paid) > 0 then [(s.1,s.2,mn s.2 (t+s.2-paid))] else []
noncomputable def opn (day paid:Int):Int->List (Int × Int)->List T3
 | _,[]=>[]
 | t,s::l=>zwQ day paid t s++opn day paid (t+s.2) l
theorem zsE (l:List (Int × Int)) (s:Int × Int):sum2 (l++[s])=sum2 l+s.2:=by simp[sum2]
noncomputable def p0 (a:Int):Int:=if a > 0 then a else 0
theorem zkk (s:Int × Int) (l:List (Int × Int)) (x:Int):upto (s::l) x=(if s.1<=x then s.2 else 0)+upto l x:=by
 have:=zeL (fun k=>decide (k<=x)) s l
 simpa [tot,upto] using this
theorem zhq {l:List (Int × Int)} {x:Int} (h:∀ s∈l,x<s.1):upto l x=0:=by
 unfold upto
 rw[List.filter_eq_nil_iff.mpr (fun s hs=>by have:=h s hs;simp;omega)]
 rfl
end L2
namespace L2
open PySem
theorem zmN (d x:Int):∀ r:List (Int × Int),(∀ s∈r,s.1<=x->s.1<=d)\/∃ s∈r,d<s.1/\s.1<=x/\∀ u∈r,u.1<=x->u.1<=s.1
 | []=>.inl fun s hs=>by cases hs
 | a::r=>by
  by_cases c:d<a.1/\a.1<=x
  ·right
   rcases zmN d x r with h | ⟨s,hs,h1,h2,h3⟩
   ·refine ⟨a,by simp,c.1,c.2,fun u hu z=>?_⟩
    rcases yak.mp hu with rfl | hu
    ·exact yds _
    ·have:=h u hu z;omega
   ·by_cases c2:s.1<=a.1
    ·refine ⟨a,by simp,c.1,c.2,fun u hu z=>?_⟩
     rcases yak.mp hu with rfl | hu
     ·exact yds _
     ·have:=h3 u hu z;omega
    ·refine ⟨s,yam _ hs,h1,h2,fun u hu z=>?_⟩
     rcases yak.mp hu with rfl | hu
     ·omega
     ·exact h3 u hu z
  ·rcases zmN d x r with h | ⟨s,hs,h1,h2,h3⟩
   ·left
    intro u hu z
    rcases yak.mp hu with rfl | hu
    ·omega
    ·exact h u hu z
   ·right
    refine ⟨s,yam _ hs,h1,h2,fun u hu z=>?_⟩
    rcases yak.mp hu with rfl | hu
    ·omega
    ·exact h3 u hu z
theorem znh {r:List (Int × Int)} {x y:Int} (h:∀ s∈r,s.1<=x↔s.1<=y):upto r x=upto r y:=by
 unfold upto
 rw[List.filter_congr (q:=fun s=>decide (s.1<=y)) fun s hs=>decide_eq_decide.mpr (h s hs)]
noncomputable def runs:Int->List (Int × Int)->List (Int × Int)
 | _,[]=>[]
 | t,s::l=>(s.1,t+s.2)::runs (t+s.2) l
theorem znJ:∀ (l:List (Int × Int)) (t:Int) (s:Int × Int),runs t (l++[s])=runs t l++[(s.1,t+sum2 l+s.2)]
 | [],t,s=>by simp[runs,sum2]
 | u::l,t,s=>by
  simp only[List.cons_append,runs,znJ l]
  have:t+u.2+sum2 l+s.2=t+sum2 (u::l)+s.2:=by simp[sum2];omega
  rw[this]
theorem zdz:∀ (l:List (Int × Int)) (t:Int),(runs t l).map (·.1)=l.map (·.1)
 | [],t=>rfl
 | s::l,t=>by simp[runs,zdz l]
theorem ztJ (l:List (Int × Int)) (t:Int):(runs t l).length=l.length:=by
 have:=congrArg List.length (zdz l t)
 rwa [yab,yab] at this
theorem zqm:∀ {l:List (Int × Int)} (t:Int),((l.map (·.1)).Pairwise (·<·))->∀ s∈runs t l,s.2=t+upto l s.1
 | [],t,_,s,h=>by simp[runs] at h
 | a::l,t,up,s,h=>by
  rw[ybk,ybh] at up
  simp only[runs] at h
  rw[zkk]
  rcases yak.mp h with rfl | h
  ·rw[if_pos (yds _),zhq fun u hu=>up.1 u.1 (ybf hu)]
   simp
  ·have hk:s.1∈l.map (·.1):=by rw[<-zdz l (t+a.2)];exact ybf h
   have:=up.1 _ hk
   rw[zqm (t+a.2) up.2 s h,if_pos (by omega)]
   omega
theorem zs8 {l:List (Int × Int)} (h:(l.map (·.1)).Pairwise (·<·)):l.Pairwise fun s t=>s.1<t.1:=by rwa [ybq] at h
theorem zqh {r:List (Int × Int)} (up:(r.map (·.1)).Pairwise (·<·)) (nn:∀ s∈r,0<=s.1) (d:Int):Sums.valOf (runs 0 r) d=upto r d:=by
 have keys:=zdz r 0
 have upr:(runs 0 r).Pairwise fun s t=>s.1<t.1:=zs8 (by rw[keys];exact up)
 have t0:∀ s∈runs 0 r,0<=s.1:=fun s hs=>by
  have:s.1∈r.map (·.1):=by rw[<-keys];exact ybf hs
  obtain ⟨u,hu,e⟩:=yaf.mp this
  rw[<-e];exact nn u hu
 refine Sums.Val.one (Sums.zcw t0 d) ?_
 rcases zmN (-1) d r with k | ⟨s,hs,h1,h2,h3⟩
 ·have far:∀ s∈r,d<s.1:=fun s hs=>by
   have:=nn s hs
   rcases Int.lt_or_le d s.1 with c | c
   ·exact c
   ·have:=k s hs c;omega
  refine .inl ⟨zhq far,fun s hs=>?_⟩
  have:s.1∈r.map (·.1):=by rw[<-keys];exact ybf hs
  obtain ⟨u,hu,e⟩:=yaf.mp this
  rw[<-e];exact far u hu
 ·have:s.1∈(runs 0 r).map (·.1):=by rw[keys];exact ybf hs
  obtain ⟨u,hu,e⟩:=yaf.mp this
  obtain ⟨n,hn⟩:=ybi.mp hu
  have uv:=zqm 0 up u hu
  rw[znh (y:=s.1) fun v hv=>⟨h3 v hv,fun z=>by omega⟩]
  refine .inr ⟨n,s.1,by rw[hn];rw[<-e];congr 1;exact Prod.ext rfl (by rw[uv];simp),h2,fun j v hv le=>?_⟩
  have hvk:v.1∈r.map (·.1):=by rw[<-keys];exact ybf (yai hv)
  obtain ⟨w,hw,ew⟩:=yaf.mp hvk
  have:=h3 w hw (by omega)
  rcases ydc j n with c | c | c
  ·have:=Stills.zo4 upr hv hn c;left;omega
  ·subst c
   rw[hn] at hv
   cases hv
   right;exact ⟨e,ycu _⟩
  ·have:=Stills.zo4 upr hn hv c;omega
end L2
namespace L2
open PySem PySem.Spec PyProof.Rows
open AutoSeq1 (wpAny_loadPart')
theorem zlZ (l:Addr) (items:Array Value) (n:Nat) (b:Addr) (items2:Array Value) (n2:Nat) (dd:Option Addr) (ss:Array (Option Value)) (hs0:¬(!items.isEmpty && Builtin.List.listTooLong (items.size+items2.size))=true) (hs1:items.size<=sizeLine) (hs2:items.size+items2.size<=sizeLine+1) :
  Meets (Builtin.«list.extend» ⟨[.ref l,.ref b],[]⟩) (fun _ R s=>s.heap.get? l=some { cls:=.type "list", dict:=none,data:=.seq items n,slots:=#[] }/\s.heap.get? b=some { cls:=.type "tuple", dict:=dd,data:=.seq items2 n2,slots:=ss }/\R (.ok (.ret Value.none)) { s with heap:=s.heap.update l (Obj.mapSeq fun x=>x++items2),toks:=s.toks }) :=
 .of_wp fun prog w A R s h=>by
  obtain ⟨hp,g,d,tk,os⟩:=s;obtain ⟨hl,hb,h⟩:=h;have f1:=AutoSeq1.idx_int;have f2:=sub_tuple_tuple;have f3:=sub_list_list;have f4:=sub_tuple_list;have f5:=sub_list_tuple;
  have hz':(items++items2).size<=sizeLine+1:=by rw[Array.size_append];exact hs2
  wp_walk using (wpAny_updateSeq hl rfl (hz:=hs1) (_hz':=hz')),wpAny_loadPart' hl,wpAny_loadPart' hb;exact ⟨_,rfl,h⟩
noncomputable def ztU:V->List V->Hp->VK->Prop:=fun x vs H Q=>∃ l b xs zs,x=.ref l/\vs=[.ref b]/\H l=some (.lst xs)/\H b=some (.tup zs)/\xs.length+zs.length<=sizeLine/\Q .non (upd H l (.lst (xs++zs)))
theorem zrX {X:Cx}:MtM X "list.extend" ztU:=by
 intro pins s σ H x vs v us Q I rx rv h
 obtain ⟨l,b,xs,zs,rfl,rfl,hH,hB,hz,q⟩:=h
 cases rx
 obtain ⟨u,rfl,ru⟩:=rv.one
 cases ru
 obtain ⟨z,its,n,r,hl,e⟩:=I.zlA hH
 obtain ⟨z2,its2,r2,tp⟩:=(show zam X.prog X.w H s.heap b (.tup zs) from I.hok b _ hB)
 have hl2:=r2.length
 obtain ⟨⟨c,dd,dt,ss⟩,e2,oc,n2,od⟩:=(show s.heap.IsTuple b its2.toArray from tp)
 replace oc:c=.type "tuple" := oc
 replace od:dt=.seq its2.toArray n2:=od
 subst oc od
 have hsz:its.toArray.size+its2.toArray.size<=sizeLine:=by rw[yal,yal];omega
 have hlong:¬ (!its.toArray.isEmpty && Builtin.List.listTooLong (its.toArray.size+its2.toArray.size))=true:=by
  rw[zlR hsz,Bool.and_false]
  exact Bool.false_ne_true
 refine call_meets F.slot_list_extend ⟨_,e,rfl⟩ F.entry_list_extend (F.args_list_extend_2 _ _)
  (zlZ l its.toArray n b its2.toArray n2 dd ss hlong (by rw[yal];omega) (by omega)) ⟨e,e2,?_⟩
 refine ⟨.non,_,I.lset (its':=its++its2) hH e (by simp) (r.append r2) ?_,rfl,q⟩
 rw[yag]
 omega
end L2
namespace L2
open PySem
noncomputable def csum (U f:Int->Int) (a b:Int):Int:=Sums.sum (fun d=>(U (d+1)-U d)*f d) a b
theorem zlN {U f:Int->Int} {a b c:Int} (h1:a<=c) (h2:c<=b):csum U f a b=csum U f a c+csum U f c b:=Sums.sum_add h1 h2
theorem ziz {U f:Int->Int} {a b:Int} (h:b<=a):csum U f a b=0:=Sums.zvM h
theorem ztu {U f:Int->Int} {x y:Int} (xy:x<=y) (h:∀ d,x<=d->d<y->f d=f x):csum U f x y=(U y-U x)*f x:=Sums.ztV xy fun d h1 h2=>by rw[h d h1 h2]
noncomputable def zeA (b:BkT) (d:Int):Int:=if Spans.isIn b.spans d then 0 else Sums.valOf b.rates d
noncomputable def zeE (b:BkT) (d:Int):Int:=if Spans.isIn b.spans d then 0 else Sums.valOf b.lates d
noncomputable def zej (b:BkT) (d:Int):Int:=if Spans.isIn b.spans d then 0 else p0 (upto b.dues (d-b.g)-upto b.pays d)
noncomputable def zau (b:BkT) (P d:Int):Int:=zeA b d*P+zeE b d*mn P (zej b d)
def TDay (b:BkT) (t:Int):Prop:=t=0\/(∃ s∈b.rates++b.lates++b.pays,t=s.1)\/(∃ s∈b.dues,t=s.1+b.g)\/∃ s∈b.spans,t=s.1\/t=s.2
theorem stay {b:BkT} {x z:Int} (xz:x<=z) (h:∀ t,TDay b t->¬ (x<t/\t<=z)):zeA b z=zeA b x/\zeE b z=zeE b x/\zej b z=zej b x:=by
 have i1:Spans.isIn b.spans x=Spans.isIn b.spans z:=Stills.zvj (fun _=>Iff.rfl) xz fun s hs e q1 q2=>⟨fun k=>h e (.inr (.inr (.inr ⟨s,hs,.inl k⟩))) ⟨q1,q2⟩,fun k=>h e (.inr (.inr (.inr ⟨s,hs,.inr k⟩))) ⟨q1,q2⟩⟩
 have r1:Sums.valOf b.rates x=Sums.valOf b.rates z:=Stills.zlH xz fun s hs q=>h s.1 (.inr (.inl ⟨s,yac.mpr (.inl (yac.mpr (.inl hs))),rfl⟩)) q
 have l1:Sums.valOf b.lates x=Sums.valOf b.lates z:=Stills.zlH xz fun s hs q=>h s.1 (.inr (.inl ⟨s,yac.mpr (.inl (yac.mpr (.inr hs))),rfl⟩)) q
 have p1:upto b.pays z=upto b.pays x:=znh fun s hs=>by
  have:=h s.1 (.inr (.inl ⟨s,yac.mpr (.inr hs),rfl⟩))
  omega
 have d1:upto b.dues (z-b.g)=upto b.dues (x-b.g):=znh fun s hs=>by
  have:=h (s.1+b.g) (.inr (.inr (.inl ⟨s,hs,rfl⟩)))
  omega
 unfold zeA zeE zej
 rw[i1,r1,l1,p1,d1]
 exact ⟨rfl,rfl,rfl⟩
theorem zsL {b:BkT} {P x z:Int} (xz:x<=z) (h:∀ t,TDay b t->¬ (x<t/\t<=z)):zau b P z=zau b P x:=by
 obtain ⟨h1,h2,h3⟩:=stay xz h
 unfold zau
 rw[h1,h2,h3]
structure BOk (b:BkT):Prop where
 ru:b.rates.Pairwise fun s t=>s.1<t.1
 rn:∀ s∈b.rates,0<=s.1/\0<=s.2/\s.2<=1000000
 lu:b.lates.Pairwise fun s t=>s.1<t.1
 ln:∀ s∈b.lates,0<=s.1/\0<=s.2/\s.2<=1000000
 pu:(b.pays.map (·.1)).Pairwise (·<·)
 pn:∀ s∈b.pays,0<=s.1
 du:(b.dues.map (·.1)).Pairwise (·<·)
 dn:∀ s∈b.dues,0<=s.1
 jn:Spans.Joined b.spans
 sn:∀ s∈b.spans,0<=s.1
 g0:0<=b.g
 sz:b.rates.length+b.lates.length+b.pays.length+b.dues.length+2*b.spans.length<63
theorem zkJ {t:List (Int × Int)} (h:∀ s∈t,0<=s.1/\0<=s.2/\s.2<=1000000) (d:Int):0<=Sums.valOf t d/\Sums.valOf t d<=1000000:=by
 rcases Sums.zcw (fun s hs=>(h s hs).1) d with ⟨e,_⟩ | ⟨i,x,e,_⟩
 ·rw[e];exact ⟨yds _,by decide⟩
 ·exact (h _ (yai e)).2
theorem BOk.rt {b:BkT} (O:BOk b) (d:Int):0<=zeA b d/\zeA b d<=1000000:=by
 unfold zeA
 split
 ·exact ⟨yds _,by decide⟩
 ·exact zkJ O.rn d
theorem BOk.lt {b:BkT} (O:BOk b) (d:Int):0<=zeE b d/\zeE b d<=1000000:=by
 unfold zeE
 split
 ·exact ⟨yds _,by decide⟩
 ·exact zkJ O.ln d
noncomputable def shf (g:Int) (l:List (Int × Int)):List (Int × Int):=l.map fun s=>(s.1+g,s.2)
theorem zty (g:Int) (l:List (Int × Int)) (d:Int):upto (shf g l) d=upto l (d-g):=by
 unfold upto shf
 rw[List.filter_map,ybs]
 congr 1
 rw[List.filter_congr (q:=fun s=>decide (s.1<=d-g)) fun s hs=>by
  show decide (s.1+g<=d)=decide (s.1<=d-g)
  exact decide_eq_decide.mpr ⟨fun h=>by omega,fun h=>by omega⟩]
 rfl
theorem zs2 {g:Int} {l:List (Int × Int)} (h:(l.map (·.1)).Pairwise (·<·)):((shf g l).map (·.1)).Pairwise (·<·):=by
 unfold shf
 rw[ybs]
 rw[ybq] at h ⊢
 exact h.imp fun {a b} z=>by show a.1+g<b.1+g;omega
noncomputable def R4 (b:BkT) (H:Hp):List V->List Int->Prop:=LL fun v d=>∃ t,v=.ref t/\H t=some (.tup [.int d,.int (zeA b d),.int (zeE b d),.int (zej b d)])
theorem R4.same {b:BkT} {H H':Hp} {xs:List V} {l:List Int} (h:R4 b H xs l) (s:Same H H'):R4 b H' xs l:=LL.imp (fun v e ⟨t,e1,e2⟩=>⟨t,e1,s _ _ e2⟩) h
theorem R4.put {b:BkT} {H:Hp} {xs ys zs:List V} {l:List Int} {p:Addr} (h:R4 b H xs l) (hp:H p=some (.lst ys)):R4 b (upd H p (.lst zs)) xs l:=LL.imp (fun v e ⟨t,e1,e2⟩=>⟨t,e1,by rw[zp (zan e2 hp (by intro z;cases z))];exact e2⟩) h
noncomputable def RF (H:Hp):List V->List Int->Prop:=LL fun v d=>∃ t ws,v=.ref t/\H t=some (.tup (.int d::ws))
theorem R4.rf {b:BkT} {H:Hp} {xs:List V} {l:List Int} (h:R4 b H xs l):RF H xs l:=LL.imp (fun v e ⟨t,e1,e2⟩=>⟨t,_,e1,e2⟩) h
theorem zrG {K:W.Frag} {H:Hp} {xs:List V} {l:List (Int × Int)} (h:zA K H xs l):RF H xs (l.map (·.1)):=by
 induction h with
 | nil=>exact .nil
 | cons h _ ih=>exact .cons ⟨_,_,rfl,h⟩ ih
structure zm9 (ds:List Int) (d:Int) (n:Nat):Prop where
 le:n<=ds.length
 lo:∀ i x,i<n->ds[i]?=some x->x<=d
 hi:∀ i x,n<=i->ds[i]?=some x->d<x
theorem zm9.rows {l:List (Int × Int)} {d:Int} {n:Nat} (h:zm9 (l.map (·.1)) d n):Stills.Begun l d n :=
 ⟨by have:=h.le;rwa [yab] at this,fun i s hi hs=>h.lo i s.1 hi (by rw[yaj,hs];rfl),fun i s hi hs=>h.hi i s.1 hi (by rw[yaj,hs];rfl)⟩
theorem zcM {ds:List Int} (up:ds.Pairwise (·<·)) {i j:Nat} {s t:Int} (hs:ds[i]?=some s) (ht:ds[j]?=some t) (ij:i<j):s<t:=by
 obtain ⟨hi,rfl⟩:=yad.mp hs
 obtain ⟨hj,rfl⟩:=yad.mp ht
 exact ybe.mp up i j hi hj ij
theorem zsR {b:BkT} {P:Int} {U:Int->Int} {ds:List Int} (mem:∀ d,d∈ds↔TDay b d) (up:ds.Pairwise (·<·)) {st e x:Int} {n:Nat} (hx:ds[n]?=some x) (h1:x<=st) (h2:st<=e) (h3:∀ y,ds[n+1]?=some y->e<=y):csum U (zau b P) st e=(U e-U st)*zau b P x:=by
 have none:∀ z,x<=z->z<e->∀ t,TDay b t->¬ (x<t/\t<=z):=fun z h4 h5 t ht q=>by
  obtain ⟨j,hj⟩:=ybi.mp ((mem t).mpr ht)
  have jn:n<j:=by
   rcases ydc n j with c | c | c
   ·exact c
   ·subst c;rw[hx] at hj;have:=Option.some.inj hj;omega
   ·have:=zcM up hj hx c;omega
  have jl:=(yad.mp hj).1
  have hy:ds[n+1]?=some (ds[n+1]'(by omega)):=yaa (by omega)
  have hh:=h3 _ hy
  by_cases c:j=n+1
  ·subst c;rw[hj] at hy;have:=Option.some.inj hy;omega
  ·have:=zcM up hy hj (by omega);omega
 have e1:∀ z,x<=z->z<e->zau b P z=zau b P x:=fun z h4 h5=>zsL h4 (none z h4 h5)
 rcases Int.lt_or_le st e with c | c
 ·rw[ztu h2 fun d d1 d2=>by rw[e1 d (by omega) d2,e1 st h1 c],e1 st h1 c]
 ·have:st=e:=by omega
  subst this
  rw[ziz (yds _),Int.sub_self,Int.zero_mul]
theorem zjg {K:W.Frag} {H:Hp} {xs ys:List V} {l r:List (Int × Int)} (h:zA K H xs l) (k:zA K H ys r):zA K H (xs++ys) (l++r):=by
 induction h with
 | nil=>exact k
 | cons h _ ih=>exact .cons h ih
end L2
namespace L2
open PySem
theorem ziI:∀ {xs ys:List Int},xs.Nodup->(∀ x∈xs,x∈ys)->xs.length<=ys.length
 | [],_,_,_=>ycy _
 | x::xs,ys,nd,h=>by
  have hx:=h x yan
  obtain ⟨nx,nd'⟩:=ybo.mp nd
  have:=ziI (ys:=ys.erase x) nd' fun z hz=>(yci (fun (q:z=x)=>nx (by rw[<-q];exact hz))).mpr (h z (yam _ hz))
  rw[ybx hx] at this
  have:=ycc hx
  rw[ybg]
  omega
theorem zkh:∀ (l:List (Int × Int)) (d:Int),upto l d=upto l (d-1)+Sby.sm l d
 | [],d=>by simp[upto,Sby.sm]
 | s::l,d=>by
  rw[zkk,zkk,zeN,zkh l d]
  by_cases c:s.1=d
  ·rw[if_pos (by omega),if_neg (by omega),if_pos c];omega
  ·by_cases c2:s.1<=d
   ·rw[if_pos c2,if_pos (by omega),if_neg c];omega
   ·rw[if_neg c2,if_neg (by omega),if_neg c];omega
theorem zmB {l:List (Int × Int)} {b x:Int} (b0:0<=b) (h:∀ s∈l,b<=s.1) (hx:x<b):Sums.valOf l x=0 :=
 Sums.Val.one (Sums.zcw (fun s hs=>by have:=h s hs;omega) x) (.inl ⟨rfl,fun s hs=>by have:=h s hs;omega⟩)
theorem zrv {l:List (Int × Int)} (h0:∀ s∈l,0<=s.1) (d:Int):((lkI (zcn l) d).map V.int).getD (.int (Sums.valOf l (d-1)))=.int (Sums.valOf l d):=by
 have I:=Dct.dct_is _ l rfl h0
 unfold lkI
 cases e:(zcn l).find? (fun p=>p.1=d) with
 | none =>
  have nk:∀ s∈l,s.1≠d:=fun s hs z=>by
   obtain ⟨u,hu,e2⟩:=(I.days d).mpr ⟨s,hs,z.symm⟩
   have:=ycn.mp e u hu
   exact this (by simpa using e2.symm)
  show V.int (Sums.valOf l (d-1))=V.int (Sums.valOf l d)
  rw[Stills.zlH (x:=d-1) (y:=d) (by omega) fun s hs q=>nk s hs (by omega)]
 | some p =>
  have hp:=ych e
  have ep:p.1=d:=by simpa using List.find?_some e
  have:=I.val p hp
  rw[ep] at this
  rw[<-this]
  rfl
theorem znW:∀ es:List Er,(prs "rate" es).length+(prs "late" es).length+(prs "pay" es).length+(prs "due" es).length+2*(prs "still" es).length<=2*es.length
 | []=>by simp[prs]
 | e::es=>by
  have ih:=znW es
  have st:∀ w:Str,(prs w (e::es)).length=(if isW w e=true then 1 else 0)+(prs w es).length:=fun w=>by
   unfold prs
   by_cases c:isW w e=true
   ·rw[yat c,if_pos c];simp;omega
   ·rw[yaq c,if_neg c];simp
  rw[st,st,st,st,st,ybg]
  obtain ⟨k,d,x⟩:=e
  have one:(if isW "rate" (k,d,x)=true then 1 else 0)+(if isW "late" (k,d,x)=true then 1 else 0)+(if isW "pay" (k,d,x)=true then 1 else 0)+(if isW "due" (k,d,x)=true then 1 else 0)+2*(if isW "still" (k,d,x)=true then 1 else 0)<=2:=by
   have one:∀ k:Ek,(if isW "rate" (k,0,0)=true then 1 else 0)+(if isW "late" (k,0,0)=true then 1 else 0)+(if isW "pay" (k,0,0)=true then 1 else 0)+(if isW "due" (k,0,0)=true then 1 else 0)+2*(if isW "still" (k,0,0)=true then 1 else 0)<=2:=fun k=>by cases k <;> decide
   exact one k
  omega
theorem zwh {b:BkT} (I:zc0 b) {f:Int} (f0:0<=f) (g0:0<=b.g) (day:∀ e∈b.es,f<=e.2.1) (rt:∀ w:Str,(w = "rate" \/ w = "late")->∀ s∈prs w b.es,0<=s.2/\s.2<=1000000) (len:b.es.length<=31):BOk b:=by
 have pd:∀ w:Str,∀ s∈prs w b.es,f<=s.1:=fun w s hs=>by
  obtain ⟨e,he,rfl⟩:=yaf.mp hs
  exact day e (yao.mp he).1
 have tb:∀ (w:Str) (t:List (Int × Int)),(w = "rate" \/ w = "late")->Stills.TabOf (prs w b.es) t/\t=(t.map (·.1)).map (fun d=>(d,Sums.valOf (prs w b.es) d))->(∀ s∈t,0<=s.1/\0<=s.2/\s.2<=1000000)/\t.length<=(prs w b.es).length:=fun w t hw ⟨T,e⟩=>by
  have nn:∀ s∈prs w b.es,0<=s.1/\0<=s.2/\s.2<=1000000:=fun s hs=>⟨by have:=pd w s hs;omega,rt w hw s hs⟩
  refine ⟨fun s hs=>?_,?_⟩
  ·have d0:0<=s.1:=T.nn (fun s hs=>(nn s hs).1) s hs
   rw[e] at hs
   obtain ⟨d,_,rfl⟩:=yaf.mp hs
   exact ⟨d0,zkJ nn d⟩
  ·have nd:(t.map (·.1)).Nodup:=by
    have:=T.up
    rw[<-ybq (f:=fun s:Int × Int=>s.1) (R:=(·<·))] at this
    exact Sby.zdH this
   have:=ziI nd fun k hk=>by
    obtain ⟨s,hs,e2⟩:=yaf.mp hk
    obtain ⟨u,hu,e3⟩:=(T.days k).mp ⟨s,hs,e2.symm⟩
    exact yaf.mpr ⟨u,hu,e3.symm⟩
   rwa [yab,yab] at this
 have tl:∀ {r l:List (Int × Int)},Sby.Tab r l->r.length<=l.length:=fun {r l} T=>by
  have:=ziI (Sby.zdH T.up) fun k hk=>(T.mem k).mp hk
  rwa [yab,yab] at this
 obtain ⟨r1,r2⟩:=tb "rate" b.rates (.inl rfl) I.rates
 obtain ⟨l1,l2⟩:=tb "late" b.lates (.inr rfl) I.lates
 have fr:∀ d,d<=mvd (prs "still" b.es) d:=fun d=>(zmE _ d).from_
 have wl:=znW b.es
 have dl:=tl I.dues
 have pl:=tl I.pays
 have jl:=Stills.zsY I.spans.1 I.spans.2
 have ml:(mvp (mvd (prs "still" b.es)) (prs "due" b.es)).length=(prs "due" b.es).length:=yab ..
 refine ⟨I.rates.1.up,r1,I.lates.1.up,l1,I.pays.up,fun s hs=>?_,I.dues.up,fun s hs=>?_,I.spans.1,fun s hs=>?_,g0,by omega⟩
 ·obtain ⟨u,hu,e⟩:=yaf.mp ((I.pays.mem s.1).mp (ybf hs))
  have:=pd _ u hu
  omega
 ·obtain ⟨u,hu,e⟩:=yaf.mp ((I.dues.mem s.1).mp (ybf hs))
  obtain ⟨v,hv,rfl⟩:=yaf.mp hu
  have:=pd _ v hv
  have:=fr v.1
  have e':mvd (prs "still" b.es) v.1=s.1:=e
  omega
 ·have lt:s.1<s.2:=I.spans.1.up s hs
  obtain ⟨u,hu,h1,h2⟩:=(I.spans.2 s.1).mp ⟨s,hs,yds _,lt⟩
  have:=pd _ u hu
  omega
end L2
namespace L2
open PySem
noncomputable abbrev Q4:=Int × Int × Int × Int
noncomputable def ddE (es:List Er) (d:Int):Q4:=(Sby.sm (prs "out" es) d,Sby.sm (prs "fee" es) d,if d∈dys "turn" es then 1 else 0,Sby.sm (prs "pay" es) d)
noncomputable def ddo (b:BkT) (d:Int):Q4:=ddE b.es d
noncomputable def doD (u:Int) (q:Q4) (s:Int × Int):Int × Int :=
 let s1:=Dbt.step u .lend q.1 s.1 s.2
 let s2:=Dbt.step u .fee q.2.1 s1.1 s1.2
 let s3:=if q.2.2.1=1 then Dbt.step u .turn 0 s2.1 s2.2 else s2
 Dbt.step u .take q.2.2.2 s3.1 s3.2
theorem zug {u:Int} {q:Q4} {s:Int × Int} (hu:0<u) (l0:0<=q.1) (g:Dbt.Good u s.1 s.2):Dbt.Good u (doD u q s).1 (doD u q s).2:=by
 unfold doD
 have g1:=Dbt.zdD (w:=.lend) hu (show Dbt.Okd .lend q.1 from l0) g
 have g2:=Dbt.zdD (w:=.fee) (x:=q.2.1) hu True.intro g1
 dsimp only
 split
 ·exact Dbt.zdD (w:=.take) hu True.intro (Dbt.zdD (w:=.turn) (x:=0) hu True.intro g2)
 ·exact Dbt.zdD (w:=.take) hu True.intro g2
theorem clamp {u m n:Int} (g:Dbt.Good u m n):Dbt.mn m (Dbt.mx 0 (n / u))=m:=by
 have h:=g.2
 unfold Dbt.mn
 rw[if_neg (by omega)]
theorem ztY {u:Int} {s:Int × Int} (g:Dbt.Good u s.1 s.2):doD u (0,0,0,0) s=s:=by
 obtain ⟨m,n⟩:=s
 have c:Dbt.mn m (Dbt.mx 0 (n / u))=m:=clamp g
 simp[doD,Dbt.step,c]
section
variable (U:Int->Int) (u:Int) (b:BkT)
noncomputable def stB:Nat->Int × Int
 | 0=>(0,0)
 | k+1=>let s:=doD u (ddo b k) (stB k);(s.1,s.2+(U (k+1)-U k)*zau b s.1 k)
noncomputable def stA (k:Nat):Int × Int:=doD u (ddo b k) (stB U u b k)
def zl3 (d:Int):Prop:=ddo b d=(0,0,0,0)
end
structure AOk (U:Int->Int) (u:Int) (b:BkT):Prop where
 hu:0<u
 out0:∀ d,0<=Sby.sm (prs "out" b.es) d
 up:∀ d:Nat,U d<=U (d+1)
 ok:BOk b
section
variable {U:Int->Int} {u:Int} {b:BkT}
theorem lk0 (d:Int):0<=zej b d:=by
 unfold zej p0
 split
 ·exact yds _
 ·split <;> omega
theorem zwS (O:BOk b) {P:Int} (p:0<=P) (d:Int):0<=zau b P d:=by
 unfold zau
 have h1:=O.rt d
 have h2:=O.lt d
 have h3:=lk0 (b:=b) d
 have h4:0<=mn P (zej b d):=by unfold mn;split <;> omega
 have:=Int.mul_nonneg h1.1 p
 have:=Int.mul_nonneg h2.1 h4
 omega
theorem zs6 (d:Int):zau b 0 d=0:=by
 unfold zau
 have h3:=lk0 (b:=b) d
 have:mn 0 (zej b d)=0:=by unfold mn;rw[if_neg (by omega)]
 rw[this]
 simp
theorem zpZ (A:AOk U u b):∀ k,Dbt.Good u (stB U u b k).1 (stB U u b k).2
 | 0=>Dbt.good0 u
 | k+1=>by
  have g:=zug (q:=ddo b k) A.hu (A.out0 k) (zpZ A k)
  have w:0<=(U (k+1)-U k)*zau b (doD u (ddo b k) (stB U u b k)).1 k:=Int.mul_nonneg (by have:=A.up k;omega) (zwS A.ok g.1 k)
  exact Dbt.zdD (w:=.grow) A.hu (show Dbt.Okd .grow _ from w) g
theorem zpS (A:AOk U u b) {k:Nat} (h:zl3 b k):stA U u b k=stB U u b k:=by
 unfold stA
 rw[h]
 exact ztY (zpZ A k)
theorem zlC (k:Nat):stB U u b (k+1)=((stA U u b k).1,(stA U u b k).2+(U (k+1)-U k)*zau b (stA U u b k).1 k):=rfl
theorem zpD (f:Int->Int) (a:Int):csum U f a (a+1)=(U (a+1)-U a)*f a:=by
 unfold csum Sums.sum
 rw[show (a+1-a).toNat=1 by omega]
 simp[Sums.S]
theorem run (A:AOk U u b) (s:Nat):∀ n:Nat,(∀ k:Nat,s<=k->k<s+n->zl3 b k)->stB U u b (s+n)=((stB U u b s).1,(stB U u b s).2+csum U (zau b (stB U u b s).1) s (s+n:Nat))
 | 0,_=>by rw[ziz (by omega)];simp
 | n+1,h=>by
  have ih:=run A s n fun k h1 h2=>h k h1 (by omega)
  rw[show s+(n+1)=(s+n)+1 from rfl,zlC,zpS A (h (s+n) (by omega) (by omega)),ih]
  have e2:csum U (zau b (stB U u b s).1) s (((s+n)+1:Nat):Int)=csum U (zau b (stB U u b s).1) s ((s+n:Nat):Int)+(U (((s+n:Nat):Int)+1)-U ((s+n:Nat):Int))*zau b (stB U u b s).1 ((s+n:Nat):Int):=by
   rw[show (((s+n)+1:Nat):Int)=((s+n:Nat):Int)+1 by omega,zlN (a:=(s:Int)) (b:=((s+n:Nat):Int)+1) (c:=((s+n:Nat):Int)) (by omega) (by omega),zpD]
  rw[e2]
  exact Prod.ext rfl (Int.add_assoc ..)
theorem first (A:AOk U u b) {e:Int} (e0:0<=e) (h:∀ d,0<=d->d<e->zl3 b d):stB U u b e.toNat=(0,0+csum U (zau b 0) 0 e):=by
 have r:=run A 0 e.toNat fun k _ h2=>h k (by omega) (by omega)
 rw[show ((0+e.toNat:Nat):Int)=e by omega,Nat.zero_add] at r
 exact r
theorem zvA (A:AOk U u b) {e:Int} (e0:0<=e) (h:∀ d,0<=d->d<e->zl3 b d):stB U u b e.toNat=(0,0):=by
 rw[first A e0 h]
 have:csum U (zau b 0) 0 e=0:=by
  unfold csum
  rw[Sums.znV (g:=fun _=>0) fun d _ _=>by rw[zs6];exact Int.mul_zero _]
  exact Sums.zsM _ _
 rw[this]
 rfl
theorem next (A:AOk U u b) {s e:Int} (s0:0<=s) (se:s<e) (h:∀ d,s<d->d<e->zl3 b d):stB U u b e.toNat=((stA U u b s.toNat).1,(stA U u b s.toNat).2+csum U (zau b (stA U u b s.toNat).1) s e):=by
 have r:=run A (s.toNat+1) (e-s-1).toNat fun k h1 h2=>h k (by omega) (by omega)
 rw[show s.toNat+1+(e-s-1).toNat=e.toNat by omega,zlC] at r
 have e2:csum U (zau b (stA U u b s.toNat).1) s e=(U (s+1)-U s)*zau b (stA U u b s.toNat).1 s+csum U (zau b (stA U u b s.toNat).1) (s+1) e:=by
  rw[zlN (a:=s) (b:=e) (c:=s+1) (by omega) (by omega),zpD]
 rw[r,e2,show ((s.toNat:Nat):Int)=s by omega,show ((e.toNat:Nat):Int)=e by omega,show (((s.toNat+1:Nat)):Int)=s+1 by omega]
 exact Prod.ext rfl (Int.add_assoc ..)
end
theorem stored_new {l:List (Int × Int)} {k y:Int} (h:k ∉ l.map (·.1)):zao l k y=l++[(k,y)]:=by
 unfold zao
 rw[if_neg]
 intro z
 obtain ⟨p,hp,e⟩:=ycm.mp z
 exact h (yaf.mpr ⟨p,hp,by simpa using e⟩)
theorem zrB:∀ (l acc:List (Int × Int)),((acc++l).map (·.1)).Nodup->l.foldl (fun acc s=>zao acc s.1 s.2) acc=acc++l
 | [],acc,_=>by simp
 | s::l,acc,h=>by
  rw[ycf,stored_new]
  ·rw[zrB l (acc++[(s.1,s.2)]) (by simpa using h)]
   simp
  ·intro z
   rw[yar,ycq] at h
   exact h.2.2 s.1 z s.1 (by simp) rfl
theorem znR {l:List (Int × Int)} (h:(l.map (·.1)).Nodup):zcn l=l:=by
 have:=zrB l [] (by simpa using h)
 simpa [zcn] using this
theorem ztw {r l:List (Int × Int)} (T:Sby.Tab r l):Sby.Tot r l:=⟨Sby.zdH T.up,T.mem,T.val⟩
theorem znc {r l:List (Int × Int)} (T:Sby.Tab r l) (k:Int):((lkI (zcn r) k).map V.int).getD (.int 0)=.int (Sby.sm l k):=by
 rw[znR (Sby.zdH T.up)]
 exact (ztw T).look k
theorem zt4 {ns:List Int} (nd:ns.Nodup) (k:Int):((lkI (zcn (ns.map fun d=>(d,1))) k).map V.int).getD (.int 0)=.int (if k∈ns then 1 else 0):=by
 rw[znR (by rw[ybs,show ((fun x:Int × Int=>x.1) ∘ fun d:Int=>(d,(1:Int)))=id from rfl,yct];exact nd)]
 unfold lkI
 by_cases c:k∈ns
 ·rw[if_pos c]
  have:(ns.map fun d=>(d,(1:Int))).find? (fun p=>decide (p.1=k))=some (k,1):=by
   clear nd
   induction ns with
   | nil=>cases c
   | cons n ns ih =>
    rw[ybk]
    by_cases e:n=k
    ·subst e;rw[yaw (by simp)]
    ·rw[yap (by simpa using e)]
     exact ih ((yak.mp c).resolve_left fun z=>e z.symm)
  rw[this];rfl
 ·rw[if_neg c,ycn.mpr]
  ·rfl
  ·intro p hp e
   obtain ⟨d,hd,rfl⟩:=yaf.mp hp
   have:d=k:=by simpa using e
   exact c (this ▸ hd)
noncomputable def R5 (b:BkT) (H:Hp):List V->List Int->Prop:=LL fun v d=>∃ t,v=.ref t/\H t=some (.tup [.int d,.int (ddo b d).1,.int (ddo b d).2.1,.int (ddo b d).2.2.1,.int (ddo b d).2.2.2])
theorem R5.same {b:BkT} {H H':Hp} {xs:List V} {l:List Int} (h:R5 b H xs l) (s:Same H H'):R5 b H' xs l:=LL.imp (fun v e ⟨t,e1,e2⟩=>⟨t,e1,s _ _ e2⟩) h
def DDay (b:BkT) (d:Int):Prop:=d∈(b.outs++b.fees++b.pays).map (·.1)\/d∈b.turns
theorem ztj {b:BkT} (I:zc0 b) {d:Int} (h:¬ DDay b d):zl3 b d:=by
 unfold DDay at h
 rw[yar,yar,yac,yac] at h
 have h1:d ∉ b.outs.map (·.1):=fun z=>h (.inl (.inl (.inl z)))
 have h2:d ∉ b.fees.map (·.1):=fun z=>h (.inl (.inl (.inr z)))
 have h3:d ∉ b.pays.map (·.1):=fun z=>h (.inl (.inr z))
 have h4:d ∉ dys "turn" b.es:=fun z=>h (.inr ((I.turns.mem d).mpr z))
 unfold zl3 ddo ddE
 rw[if_neg h4,Sby.zez (fun z=>h1 ((I.outs.mem d).mpr z)),Sby.zez (fun z=>h2 ((I.fees.mem d).mpr z)),Sby.zez (fun z=>h3 ((I.pays.mem d).mpr z))]
noncomputable def DbL (K:W.Frag) (u:Int) (f:Int->Int × Int) (p:Addr) (G H:Hp):List V->List Int->Prop:=LL fun v d=>∃ x dx,v=.ref x/\(x≠p/\G x=none)/\Deb K H x dx u (f d).1 (f d).2
theorem DbL.same {K:W.Frag} {u:Int} {f:Int->Int × Int} {p:Addr} {G H H':Hp} {xs:List V} {l:List Int} (h:DbL K u f p G H xs l) (s:Same H H'):DbL K u f p G H' xs l:=LL.imp (fun v e ⟨x,dx,e1,e2,e3⟩=>⟨x,dx,e1,e2,s _ _ e3⟩) h
theorem DbL.put {K:W.Frag} {u:Int} {f:Int->Int × Int} {p:Addr} {G H:Hp} {o:HO} {xs:List V} {l:List Int} (h:DbL K u f p G H xs l):DbL K u f p G (upd H p o) xs l:=LL.imp (fun v e ⟨x,dx,e1,e2,e3⟩=>⟨x,dx,e1,e2,by show (upd H p o) x=_;rw[zp e2.1];exact e3⟩) h
theorem DbL.putL {K:W.Frag} {u:Int} {f:Int->Int × Int} {p q:Addr} {G H:Hp} {o:HO} {xs ys:List V} {l:List Int} (h:DbL K u f p G H xs l) (hq:H q=some (.lst ys)):DbL K u f p G (upd H q o) xs l:=LL.imp (fun v e ⟨x,dx,e1,e2,e3⟩=>⟨x,dx,e1,e2,Deb.putL e3 hq⟩) h
structure zvS (U:Int->Int) (u:Int) (b:BkT):Prop where
 is:zc0 b
 ok:AOk U u b
 sz:b.outs.length+b.fees.length+b.pays.length+b.turns.length<=40
 d0:∀ d,DDay b d->0<=d
 u1:u<1152921504606846976
def DE (es:List Er) (d:Int):Prop:=∃ e∈es,e.2.1=d/\inV (.str e.1.word) [.str "out", .str "fee", .str "turn", .str "pay"]=true
def zdq (H:Hp) (es fs:List Er) (l:List (Int × V)):Prop:=∀ k,(DE fs k/\∃ t,lkV l k=some (.ref t)/\H t=some (.tup [.int (ddE es k).1,.int (ddE es k).2.1,.int (ddE es k).2.2.1,.int (ddE es k).2.2.2]))\/(¬ DE fs k/\lkV l k=none)
theorem zdq.same {H H':Hp} {es fs:List Er} {l:List (Int × V)} (h:zdq H es fs l) (s:Same H H'):zdq H' es fs l:=fun k=>by
 rcases h k with ⟨h1,t,h2,h3⟩ | h1
 ·exact .inl ⟨h1,t,h2,s _ _ h3⟩
 ·exact .inr h1
theorem zoC {es:List Er} {d:Int} (h:¬ DE es d):ddE es d=(0,0,0,0):=by
 have n:∀ w:Str,(w = "out" \/ w = "fee" \/ w = "turn" \/ w = "pay")->∀ e∈es.filter (isW w),e.2.1≠d:=fun w hw e he z=>by
  obtain ⟨h1,h2⟩:=yao.mp he
  have ew:e.1.word=w:=V.str.inj (of_decide_eq_true h2)
  refine h ⟨e,h1,z,?_⟩
  rw[ew]
  rcases hw with rfl | rfl | rfl | rfl <;> decide
 have k:∀ w:Str,(w = "out" \/ w = "fee" \/ w = "turn" \/ w = "pay")->d ∉ (prs w es).map (·.1):=fun w hw z=>by
  obtain ⟨s,hs,e⟩:=yaf.mp z
  obtain ⟨x,hx,rfl⟩:=yaf.mp hs
  exact n w hw x hx e
 unfold ddE
 rw[Sby.zez (k "out" (.inl rfl)),Sby.zez (k "fee" (.inr (.inl rfl))),Sby.zez (k "pay" (.inr (.inr (.inr rfl)))),if_neg]
 intro z
 obtain ⟨x,hx,e⟩:=yaf.mp z
 exact n "turn" (.inr (.inr (.inl rfl))) x hx e
theorem znF {α:Type} {lo:Int} {n:Nat} {ix:List Nat} {te:TE} {σ:St} {l:Addr} {H:Hp} {R:Hp->Prop} (hl:H l=none) (hz:n<=sizeLine) (es:List α) (len:es.length=n)
  (P:Hp->V->α->Prop) (mono:∀ v e H1 H2,Same H1 H2->P H1 v e->P H2 v e) (put:∀ v e H1 ys zs,H1 l=some (.lst ys)->P H1 v e->P (upd H1 l (.lst zs)) v e)
  (he:∀ (i:Nat) e H' Q',i<n->es[i]?=some e->Same H H'->(∀ v H2,Same H' H2->P H2 v e->Q' v H2)->te (some (.int (lo+i))::capts σ ix) H' Q')
  (fin:∀ ys H',Same H H'->H' l=some (.lst ys)->LL (P H') ys es->R H') :
  ∃ W:Nat->Nat->List V->Hp->Prop,(∃ m,W 0 m [] (upd H l (.lst [])))/\Turns ix te σ (Itr lo n) l R W:=by
 refine ⟨fun i m ys H'=>m=n-i/\i<=n/\LL (P H') ys (es.take i)/\Same H H'/\H' l=some (.lst ys),⟨n,by simp,ycy _,.nil,ze hl _,zg⟩,?_⟩
 rintro i m ys H' ⟨rfl,hi,hp,sH,hL⟩
 refine ⟨hL,?_⟩
 by_cases hlt:i<n
 ·have yl:=hp.length
  rw[ybd] at yl
  refine .inr ⟨hlt,by omega,fun x H2 y=>?_⟩
  obtain ⟨rfl,rfl⟩:=y
  have eP:es[i]?=some (es[i]'(by omega)):=yaa (by omega)
  generalize es[i]'(by omega)=e at eP
  refine he i e _ _ hlt eP sH fun v H3 s3 hv=>⟨s3 _ _ hL,n-(i+1),by omega,rfl,hlt,?_,zE (sH.trans s3) hl,zg⟩
  rw[ybc,eP]
  exact (hp.imp fun v e q=>put v e H3 ys _ (s3 _ _ hL) (mono v e _ _ s3 q)).push (put v e H3 ys _ (s3 _ _ hL) hv)
 ·rw[yav (by omega)] at hp
  exact .inl ⟨by show n<=i;omega,fin ys H' sH hL hp⟩
theorem zdq.step {H:Hp} {es fs:List Er} {l:List (Int × V)} {e:Er} {t:Addr} (h:zdq H es fs l) (ht:H t=some (.tup [.int (ddE es e.2.1).1,.int (ddE es e.2.1).2.1,.int (ddE es e.2.1).2.2.1,.int (ddE es e.2.1).2.2.2])) (w:inV (.str e.1.word) [.str "out", .str "fee", .str "turn", .str "pay"]=true):zdq H es (fs++[e]) (zcD l e.2.1 (.ref t)):=fun k=>by
 rw[zsl]
 by_cases c:k=e.2.1
 ·rw[if_pos c]
  exact .inl ⟨⟨e,by simp,c.symm,w⟩,t,rfl,by rw[c];exact ht⟩
 ·rw[if_neg c]
  rcases h k with ⟨⟨x,hx,h1⟩,h2⟩ | ⟨h1,h2⟩
  ·exact .inl ⟨⟨x,yac.mpr (.inl hx),h1⟩,h2⟩
  ·refine .inr ⟨fun ⟨x,hx,h3,h4⟩=>?_,h2⟩
   rcases yac.mp hx with hx | hx
   ·exact h1 ⟨x,hx,h3,h4⟩
   ·have:x=e:=by simpa using hx
    exact c (by rw[<-h3,this])
theorem zdq.skip {H:Hp} {es fs:List Er} {l:List (Int × V)} {e:Er} (h:zdq H es fs l) (w:inV (.str e.1.word) [.str "out", .str "fee", .str "turn", .str "pay"]=false):zdq H es (fs++[e]) l:=fun k=>by
 rcases h k with ⟨⟨x,hx,h1⟩,h2⟩ | ⟨h1,h2⟩
 ·exact .inl ⟨⟨x,yac.mpr (.inl hx),h1⟩,h2⟩
 ·refine .inr ⟨fun ⟨x,hx,h3,h4⟩=>?_,h2⟩
  rcases yac.mp hx with hx | hx
  ·exact h1 ⟨x,hx,h3,h4⟩
  ·have:x=e:=by simpa using hx
   rw[this,w] at h4
   cases h4
theorem zdq.put {P:Program} {w:World} {H:Hp} {es fs:List Er} {l l0:List (Int × V)} {d:Addr} {o:HO} (h:zdq H es fs l) (hd:H d=some (zbu P w d l0)):zdq (upd H d o) es fs l:=fun k=>by
 rcases h k with ⟨h1,t,h2,h3⟩ | h1
 ·exact .inl ⟨h1,t,h2,by rw[zp (zan h3 hd (by intro z;unfold zbu at z;cases z))];exact h3⟩
 ·exact .inr h1
theorem zrk (d:Int):∀ ns:List Int,inV (.int d) (ns.map V.int)=decide (d∈ns)
 | []=>rfl
 | n::ns=>by
  have e1:inV (.int d) ((n::ns).map V.int)=(eqV (.int n) (.int d) || inV (.int d) (ns.map V.int)):=rfl
  have e2:eqV (.int n) (.int d)=decide (n=d):=by first | rfl | simp[eqV]
  rw[e1,e2,zrk d ns]
  by_cases c:n=d
  ·subst c;simp
  ·have c':¬ d=n:=fun z=>c z.symm
   simp[c,c']
theorem zud (ns:List Int):(ns.map V.int).all zgc=true:=List.all_eq_true.mpr fun v hv=>by
 obtain ⟨n,_,rfl⟩:=yaf.mp hv
 rfl
end L2
namespace L2
open PySem PySem.Spec PyProof.Rows
noncomputable def zcu (es:List Er) (f:Int->Int × Int) (d:Int):List Int:=[d,(ddE es d).1,(ddE es d).2.1,(ddE es d).2.2.1,(ddE es d).2.2.2,(f d).1,(f d).2]
noncomputable def TLx (f:Int->Int × Int) (b:Int) (H:Hp):List V->List Nat->Prop:=LL fun v k=>∃ t,v=.ref t/\H t=some (.tup [.int (f (b+k)).1,.int (f (b+k)).2])
theorem TLx.at_ {f:Int->Int × Int} {b:Int} {H:Hp} {ws:List V} {n:Nat} {j:Int} (h:TLx f b H ws (yax n)) (j0:0<=j) (j1:j<n):∃ t,atI ws j=some (.ref t)/\H t=some (.tup [.int (f (b+j)).1,.int (f (b+j)).2]):=by
 have l:=h.length
 rw[ycg] at l
 obtain ⟨k,rfl⟩:=ydu j0
 have kl:k<ws.length:=by omega
 obtain ⟨m,hm,t,et,ht⟩:=h.get (yaa kl)
 rw[ycb (by omega)] at hm
 have:k=m:=Option.some.inj hm
 subst this
 exact ⟨t,zak (by rw[yaa kl,et]),ht⟩
noncomputable def R7 (g:Int->List Int) (H:Hp):List V->List Int->Prop:=LL fun v d=>∃ t,v=.ref t/\H t=some (.tup ((g d).map V.int))
theorem R7.same {g:Int->List Int} {H H':Hp} {xs:List V} {l:List Int} (h:R7 g H xs l) (s:Same H H'):R7 g H' xs l:=LL.imp (fun v e ⟨t,e1,e2⟩=>⟨t,e1,s _ _ e2⟩) h
theorem R7.put {g:Int->List Int} {H:Hp} {xs ys zs:List V} {l:List Int} {p:Addr} (h:R7 g H xs l) (hp:H p=some (.lst ys)):R7 g (upd H p (.lst zs)) xs l:=LL.imp (fun v e ⟨t,e1,e2⟩=>⟨t,e1,by rw[zp (zan e2 hp (by intro z;cases z))];exact e2⟩) h
theorem KU.key {r:List (Int × Value)} {l:List (Int × V)} (h:KU r l):∀ {i:Nat} {k:Int} {v:Value},r[i]?=some (k,v)->∃ s,l[i]?=some s/\s.1=k:=by
 induction h with
 | nil=>intro i k v e;simp at e
 | cons _ _ ih =>
  intro i k v e
  cases i with
  | zero=>cases e;exact ⟨_,rfl,rfl⟩
  | succ i=>exact ih e
theorem ztL {P:Program} {w:World} {kvs:List (Int × Value)} {l:List (Int × V)} {vs:List Value} (hk:KU kvs l) (len:vs.length=l.length) (h:∀ (j:Nat) (v:Value),vs[j]?=some v->∃ k x,kvs[j]?=some (k,x)/\(intKind P w).is k v=true):IntsAre vs (l.map (·.1)):=by
 have e1:IntsAre vs (vs.map zaM.intOf):=zaM.znA fun v hv=>by
  obtain ⟨j,hj⟩:=ybi.mp hv
  obtain ⟨k,x,_,e2⟩:=h j v hj
  obtain ⟨t,rfl⟩:=Value.isInt_shape (show Value.isInt k v=true from e2)
  exact ⟨k,t,rfl⟩
 have e2:vs.map zaM.intOf=l.map (·.1):=by
  apply ybz
  intro j
  rw[yaj,yaj]
  cases e:vs[j]? with
  | none =>
   have:l[j]?=none:=yas (by have:=List.getElem?_eq_none_iff.mp e;omega)
   rw[this];rfl
  | some v =>
   obtain ⟨k,x,e3,e4⟩:=h j v e
   obtain ⟨s,e5,e6⟩:=hk.key e3
   obtain ⟨t,rfl⟩:=Value.isInt_shape (show Value.isInt k v=true from e4)
   rw[e5]
   show some k=some s.1
   rw[e6]
 rw[<-e2]
 exact e1
theorem zqU {X:Cx} (hc:X.calm=true) (hex:X.ex=[]:=by rfl):zbD X (.type "list") (fun xs H Q=>∃ (d:Addr) (l:List (Int × V)),xs=[.ref d]/\H d=some (zbu X.prog X.w d l)/\l.length<=1000 /\
  ∀ (q:Addr),H q=none->Q (.ref q) (upd H q (.lst ((l.map (·.1)).map V.int)))):=by
 intro pins s σ H xs us Q I r h
 obtain ⟨d,l,rfl,hd,hl,q⟩:=h
 obtain ⟨u,rfl,rx⟩:=vals1 r
 cases rx
 obtain ⟨lo,kvs,hO,hk⟩:=(I.hok d _ hd).1
 obtain ⟨ep,hD⟩:=hO.dictAt
 have kl:=hk.length
 refine PySem.W.kdl_call (PySem.W.kdl_dict (knd:=intKind X.prog X.w) (kvs:=kvs) (ep:=ep) lo) (I.ok.hd hc) hD (by rw[sizeLine_eq];omega) fun h1 tk acc c kp at_ hacc=>?_
 have al:acc.toList.length=l.length:=by rw[ydw,hacc.1,kl]
 have vi:IntsAre acc.toList (l.map (·.1)):=ztL hk al fun j v e=>hacc.2 j v (by rw[<-ydy];exact e)
 have v2:Vals ((l.map (·.1)).map V.int) acc.toList:=zhp vi
 have new:s.heap.get? s.heap.objs.size=none:=ydp (ycu _)
 have nl:((l.map (·.1)).map V.int).length<=sizeLine:=by rw[yab,yab,sizeLine_eq];omega
 exact ⟨.ref s.heap.objs.size,_,I.zlF (o:=.lst ((l.map (·.1)).map V.int)) kp new hex ⟨nl,acc.toList,c,v2,by simpa [seqObj] using at_⟩,rfl,q _ (I.hok.gone new)⟩
theorem zu7 {l:List (Int × V)} {k:Int}:(lkV l k).isSome=true↔k∈l.map (·.1):=by
 unfold lkV
 constructor
 ·intro h
  cases e:l.find? (fun p=>p.1=k) with
  | none=>rw[e] at h;cases h
  | some p=>exact yaf.mpr ⟨p,ych e,by simpa using List.find?_some e⟩
 ·intro h
  obtain ⟨p,hp,e⟩:=yaf.mp h
  cases e2:l.find? (fun p=>p.1=k) with
  | none=>exact absurd (by simpa using e) (ycn.mp e2 p hp)
  | some _=>rfl
theorem zrt {K:W.Frag} {H:Hp}:∀ l:List Int,zfD K H (l.map V.int) (l.map PyData.int)
 | []=>.nil
 | n::l=>.cons (.int _) (zrt l)
theorem zva {b:BkT} (I:zc0 b) (d:Int):DDay b d↔DE b.es d:=by
 have pm:∀ w:Str,d∈(prs w b.es).map (·.1)↔∃ e∈b.es,e.2.1=d/\isW w e=true:=fun w=>by
  constructor
  ·intro z
   obtain ⟨s,hs,e⟩:=yaf.mp z
   obtain ⟨x,hx,rfl⟩:=yaf.mp hs
   obtain ⟨h1,h2⟩:=yao.mp hx
   exact ⟨x,h1,e,h2⟩
  ·rintro ⟨e,he,e1,e2⟩
   exact yaf.mpr ⟨e.2,yaf.mpr ⟨e,yao.mpr ⟨he,e2⟩,rfl⟩,e1⟩
 have tm:d∈dys "turn" b.es↔∃ e∈b.es,e.2.1=d/\isW "turn" e=true:=by
  constructor
  ·intro z
   obtain ⟨x,hx,e⟩:=yaf.mp z
   obtain ⟨h1,h2⟩:=yao.mp hx
   exact ⟨x,h1,e,h2⟩
  ·rintro ⟨e,he,e1,e2⟩
   exact yaf.mpr ⟨e,yao.mpr ⟨he,e2⟩,e1⟩
 have iw:∀ e:Er,inV (.str e.1.word) [.str "out", .str "fee", .str "turn", .str "pay"]=true↔(isW "out" e=true\/isW "fee" e=true\/isW "turn" e=true\/isW "pay" e=true):=fun e=>by
  obtain ⟨k,x,y⟩:=e
  have:∀ k:Ek,inV (.str k.word) [.str "out", .str "fee", .str "turn", .str "pay"]=true↔(isW "out" (k,0,0)=true\/isW "fee" (k,0,0)=true\/isW "turn" (k,0,0)=true\/isW "pay" (k,0,0)=true):=fun k=>by cases k <;> decide
  exact this k
 unfold DDay DE
 rw[yar,yar,yac,yac,I.outs.mem,I.fees.mem,I.pays.mem,I.turns.mem,pm,pm,pm,tm]
 constructor
 ·rintro (((⟨e,he,h1,h2⟩ | ⟨e,he,h1,h2⟩) | ⟨e,he,h1,h2⟩) | ⟨e,he,h1,h2⟩)
  ·exact ⟨e,he,h1,(iw e).mpr (.inl h2)⟩
  ·exact ⟨e,he,h1,(iw e).mpr (.inr (.inl h2))⟩
  ·exact ⟨e,he,h1,(iw e).mpr (.inr (.inr (.inr h2)))⟩
  ·exact ⟨e,he,h1,(iw e).mpr (.inr (.inr (.inl h2)))⟩
 ·rintro ⟨e,he,h1,h2⟩
  rcases (iw e).mp h2 with h2 | h2 | h2 | h2
  ·exact .inl (.inl (.inl ⟨e,he,h1,h2⟩))
  ·exact .inl (.inl (.inr ⟨e,he,h1,h2⟩))
  ·exact .inr ⟨e,he,h1,h2⟩
  ·exact .inl (.inr ⟨e,he,h1,h2⟩)
end L2
namespace L2
open PySem
structure OkA (f:Int) (e:Er):Prop where
 day:f<=e.2.1
 rt:isW "rate" e=true->0<=e.2.2/\e.2.2<=1000000
 lt:isW "late" e=true->0<=e.2.2/\e.2.2<=1000000
 out:isW "out" e=true->0<=e.2.2
theorem ztm:∀ es:List Er,(prs "out" es).length+(prs "fee" es).length+(prs "pay" es).length+(dys "turn" es).length<=es.length
 | []=>by simp[prs,dys]
 | e::es=>by
  have ih:=ztm es
  have st:∀ w:Str,(prs w (e::es)).length=(if isW w e=true then 1 else 0)+(prs w es).length:=fun w=>by
   unfold prs
   by_cases c:isW w e=true
   ·rw[yat c,if_pos c];simp;omega
   ·rw[yaq c,if_neg c];simp
  have sd:(dys "turn" (e::es)).length=(if isW "turn" e=true then 1 else 0)+(dys "turn" es).length:=by
   unfold dys
   by_cases c:isW "turn" e=true
   ·rw[yat c,if_pos c];simp;omega
   ·rw[yaq c,if_neg c];simp
  rw[st,st,st,sd,ybg]
  obtain ⟨k,d,x⟩:=e
  have one:(if isW "out" (k,d,x)=true then 1 else 0)+(if isW "fee" (k,d,x)=true then 1 else 0)+(if isW "pay" (k,d,x)=true then 1 else 0)+(if isW "turn" (k,d,x)=true then 1 else 0)<=1:=by
   have one:∀ k:Ek,(if isW "out" (k,0,0)=true then 1 else 0)+(if isW "fee" (k,0,0)=true then 1 else 0)+(if isW "pay" (k,0,0)=true then 1 else 0)+(if isW "turn" (k,0,0)=true then 1 else 0)<=1:=fun k=>by cases k <;> decide
   exact one k
  omega
theorem zvo {l:List (Int × Int)} (h:∀ s∈l,0<=s.2) (k:Int):0<=Sby.sm l k:=by
 induction l with
 | nil=>exact yds _
 | cons s l ih =>
  rw[zeN]
  have:=ih fun s hs=>h s (yam _ hs)
  have:=h s (yan ..)
  split <;> omega
theorem zu2 {b:BkT} {U:Int->Int} {u:Int} (I:zc0 b) {f:Int} (f0:0<=f) (g0:0<=b.g) (o:∀ e∈b.es,OkA f e) (len:b.es.length<=31) (up:∀ d:Nat,U d<=U (d+1)) (hu:0<u) (u1:u<1152921504606846976):zvS U u b:=by
 have BO:=zwh I f0 g0 (fun e he=>(o e he).day) (fun w hw s hs=>by
  obtain ⟨e,he,rfl⟩:=yaf.mp hs
  obtain ⟨h1,h2⟩:=yao.mp he
  rcases hw with rfl | rfl
  ·exact (o e h1).rt h2
  ·exact (o e h1).lt h2) len
 have pd:∀ w:Str,∀ s∈prs w b.es,f<=s.1:=fun w s hs=>by
  obtain ⟨e,he,rfl⟩:=yaf.mp hs
  exact (o e (yao.mp he).1).day
 have tl:∀ {r l:List (Int × Int)},Sby.Tab r l->r.length<=l.length:=fun {r l} T=>by
  have:=ziI (Sby.zdH T.up) fun k hk=>(T.mem k).mp hk
  rwa [yab,yab] at this
 have t1:=tl I.outs
 have t2:=tl I.fees
 have t3:=tl I.pays
 have t4:=ziI (Sby.zdH I.turns.up) fun k hk=>(I.turns.mem k).mp hk
 have wl:=ztm b.es
 refine ⟨I,⟨hu,zvo fun s hs=>?_,up,BO⟩,by omega,fun d hd=>?_,u1⟩
 ·obtain ⟨e,he,rfl⟩:=yaf.mp hs
  obtain ⟨h1,h2⟩:=yao.mp he
  exact (o e h1).out h2
 ·rcases hd with hd | hd
  ·rw[yar,yar,yac,yac] at hd
   have k:∀ {r:List (Int × Int)} {w:Str},Sby.Tab r (prs w b.es)->d∈r.map (·.1)->0<=d:=fun {r w} T hr=>by
    obtain ⟨s,hs,e⟩:=yaf.mp ((T.mem d).mp hr)
    have:=pd _ s hs
    omega
   rcases hd with (hd | hd) | hd
   ·exact k I.outs hd
   ·exact k I.fees hd
   ·exact k I.pays hd
  ·obtain ⟨e,he,e1⟩:=yaf.mp ((I.turns.mem d).mp hd)
   have:=(o e (yao.mp he).1).day
   omega
end L2
namespace L2
open PySem PySem.Spec PyProof.Rows
theorem zk6 (ks:List Int):∃ ns:List Int,ns.Pairwise (·<·)/\∀ d,d∈ns↔d∈ks:=by
 induction ks with
 | nil=>exact ⟨[],.nil,fun d=>Iff.rfl⟩
 | cons k ks ih =>
  obtain ⟨ns,up,mem⟩:=ih
  refine ⟨ns.filter (fun x=>decide (x<k))++k::ns.filter (fun x=>decide (k<x)),?_,fun d=>?_⟩
  ·rw[ybl]
   refine ⟨up.filter _,ybh.mpr ⟨fun x hx=>by simpa using (yao.mp hx).2,up.filter _⟩,fun x hx y hy=>?_⟩
   have h1:x<k:=by simpa using (yao.mp hx).2
   rcases yak.mp hy with rfl | hy
   ·exact h1
   ·have h2:k<y:=by simpa using (yao.mp hy).2
    omega
  ·rw[yac,yak,yao,yao,mem,yak]
   constructor
   ·rintro (⟨h,_⟩ | rfl | ⟨h,_⟩)
    ·exact .inr h
    ·exact .inl rfl
    ·exact .inr h
   ·rintro (rfl | h)
    ·exact .inr (.inl rfl)
    ·rcases ydt d k with c | c | c
     ·exact .inl ⟨h,by simpa using c⟩
     ·exact .inr (.inl c)
     ·exact .inr (.inr ⟨h,by simpa using c⟩)
theorem zms (l:List (Int × Int)):∃ r,Sby.Tab r l:=by
 obtain ⟨ns,up,mem⟩:=zk6 (l.map (·.1))
 have e:(ns.map fun k=>(k,Sby.sm l k)).map (·.1)=ns:=by rw[ybs];exact yct ns
 refine ⟨ns.map fun k=>(k,Sby.sm l k),by rw[e];exact up,fun k=>by rw[e];exact mem k,fun p hp=>?_⟩
 obtain ⟨k,_,rfl⟩:=yaf.mp hp
 rfl
theorem zpq {t:List (Int × Int)} (t0:∀ s∈t,0<=s.1):∃ r:List (Int × Int),Stills.TabOf t r/\r=(r.map (·.1)).map (fun d=>(d,Sums.valOf t d)):=by
 obtain ⟨ns,up,mem⟩:=zk6 (t.map (·.1))
 have e:(ns.map fun k=>(k,Sums.valOf t k)).map (·.1)=ns:=by rw[ybs];exact yct ns
 refine ⟨ns.map fun k=>(k,Sums.valOf t k),Stills.tab_of t0 up fun d=>?_,by rw[e]⟩
 rw[mem,yaf]
 exact ⟨fun ⟨s,h,q⟩=>⟨s,h,q.symm⟩,fun ⟨s,h,q⟩=>⟨s,h,q.symm⟩⟩
theorem zvt (kd:Kd) (g:Int) (es:List Er) (d0:∀ e∈es,0<=e.2.1) (st:∀ s∈prs "still" es,s.1<s.2):∃ b:BkT,zc0 b/\b.kd=kd/\b.g=g/\b.es=es:=by
 have p0:∀ w:Str,∀ s∈prs w es,0<=s.1:=fun w s hs=>by
  obtain ⟨e,he,rfl⟩:=yaf.mp hs
  exact d0 e (yao.mp he).1
 obtain ⟨ro,h1⟩:=zms (prs "out" es)
 obtain ⟨rf,h2⟩:=zms (prs "fee" es)
 obtain ⟨rp,h3⟩:=zms (prs "pay" es)
 obtain ⟨rt,h4,h4'⟩:=zk6 (dys "turn" es)
 obtain ⟨rr,h5⟩:=zpq (p0 "rate")
 obtain ⟨rl,h6⟩:=zpq (p0 "late")
 obtain ⟨eg,h7,h7'⟩:=zk6 ((prs "still" es).map (·.1)++(prs "still" es).map (·.2))
 have E:Spans.Edges (prs "still" es) eg:=⟨h7,fun d=>by
  rw[h7',yac,yaf,yaf]
  constructor
  ·rintro (⟨s,hs,q⟩ | ⟨s,hs,q⟩)
   ·exact ⟨s,hs,.inl q.symm⟩
   ·exact ⟨s,hs,.inr q.symm⟩
  ·rintro ⟨s,hs,q | q⟩
   ·exact .inl ⟨s,hs,q.symm⟩
   ·exact .inr ⟨s,hs,q.symm⟩⟩
 have h8:=Spans.zun st E
 obtain ⟨rd,h9⟩:=zms (mvp (mvd (prs "still" es)) (prs "due" es))
 exact ⟨⟨kd,g,es,ro,rf,rp,rt,rr,rl,Spans.least (prs "still" es) eg,rd⟩,⟨h1,h2,h3,⟨h4,h4'⟩,h5,h6,h8,h9⟩,rfl,rfl,rfl⟩
noncomputable def RI (H:Hp):List V->List (List Int)->Prop:=LL fun v r=>∃ t,v=.ref t/\H t=some (.tup (r.map V.int))
theorem RI.same {H H':Hp} {xs:List V} {l:List (List Int)} (h:RI H xs l) (s:Same H H'):RI H' xs l:=LL.imp (fun v e ⟨t,e1,e2⟩=>⟨t,e1,s _ _ e2⟩) h
theorem R7.ri {g:Int->List Int} {H:Hp} {xs:List V} {l:List Int} (h:R7 g H xs l):RI H xs (l.map g):=by
 induction h with
 | nil=>exact .nil
 | cons h _ ih=>exact .cons h ih
noncomputable def riD (l:List (List Int)):PyData:=.list (l.map fun r=>.tuple (r.map PyData.int))
theorem RI.rd {K:W.Frag} {H:Hp} {xs:List V} {l:List (List Int)} (h:RI H xs l):zfD K H xs (l.map fun r=>PyData.tuple (r.map PyData.int)):=by
 induction h with
 | nil=>exact .nil
 | cons h _ ih =>
  obtain ⟨t,rfl,e⟩:=h
  exact .cons (.tup (SqT.of e) (zrt _)) ih
theorem znN:∀ l:List (List Int),PyData.canLayAll0 (l.map fun r=>PyData.tuple (r.map PyData.int))=true
 | []=>by simp[PyData.canLayAll0]
 | r::l=>by simp[PyData.canLayAll0,PyData.canLay0,zlx,znN l]
theorem zqc:∀ l:List (List Int),PyData.depthAll (l.map fun r=>PyData.tuple (r.map PyData.int))<=3
 | []=>by simp[PyData.depthAll]
 | r::l=>by
  have h1:=zqc l
  have h2:=zmp r
  simp only[ybk,PyData.depthAll,PyData.depth,h2]
  omega
theorem zb2 (l:List (List Int)):SeqAt.shaped (riD l)=true:=by
 have:=zqc l
 simp[SeqAt.shaped,riD,PyData.canLay0,PyData.depth,znN]
 omega
theorem znM:∀ l:List (List Int),PyData.eqvAll (l.map fun r=>PyData.tuple (r.map PyData.int)) (l.map fun r=>PyData.tuple (r.map PyData.int))=true
 | []=>by simp[PyData.eqvAll]
 | r::l=>by simp[PyData.eqvAll,PyData.eqv,zlj,znM l]
theorem zpM (l:List (List Int)):PyData.eqv (riD l) (riD l)=true:=by simp[riD,PyData.eqv,znM]
theorem zss {l:List (List Int)} (h:l≠[]):PyData.eqv (riD []) (riD l)=false:=by
 cases l with
 | nil=>exact absurd rfl h
 | cons r l=>simp[riD,PyData.eqv,PyData.eqvAll]
end L2
namespace Cal
def leap (y:Int):Bool:=decide (y % 4=0) && (!decide (y % 100=0) || decide (y % 400=0))
noncomputable def lp (y:Int):Int:=if leap y=true then 1 else 0
noncomputable def mlen (y m:Int):Int:=if m=2 then 28+lp y else 31-(m-1) % 7 % 2
noncomputable def ny (y:Int):Int:=365*(y-2000)+(y-2000+3) / 4-(y-2000+99) / 100+(y-2000+399) / 400
noncomputable def cum (y m:Int):Int :=
 if m=1 then 0 else if m=2 then 31 else
 lp y+(if m=3 then 59 else if m=4 then 90 else if m=5 then 120 else if m=6 then 151 else if m=7 then 181 else if m=8 then 212
  else if m=9 then 243 else if m=10 then 273 else if m=11 then 304 else 334)
noncomputable def num (y m d:Int):Int:=ny y+cum y m+d-1
structure zaA (y m d:Int):Prop where
 m1:1<=m
 m2:m<=12
 d1:1<=d
 d2:d<=mlen y m
theorem zvD (y:Int):(lp y=1/\y % 4=0/\(y % 100≠0\/y % 400=0))\/(lp y=0/\(y % 4≠0\/(y % 100=0/\y % 400≠0))):=by
 unfold lp leap
 by_cases h1:y % 4=0 <;> by_cases h2:y % 100=0 <;> by_cases h3:y % 400=0 <;> simp[h1,h2,h3]
theorem zje (y:Int):0<=lp y/\lp y<=1:=by
 rcases zvD y with h | h <;> omega
theorem st4 (y:Int):(y+1-2000+3) / 4=(y-2000+3) / 4+(if y % 4=0 then 1 else 0):=by split <;> omega
theorem zwB (y:Int):(y+1-2000+99) / 100=(y-2000+99) / 100+(if y % 100=0 then 1 else 0):=by split <;> omega
theorem zwA (y:Int):(y+1-2000+399) / 400=(y-2000+399) / 400+(if y % 400=0 then 1 else 0):=by split <;> omega
theorem zwa {y b d f p q r:Int}:365*(y+1-2000)+(b+p)-(d+q)+(f+r)=365*(y-2000)+b-d+f+365+(p-q+r):=by omega
theorem zwK (y:Int):lp y=(if y % 4=0 then 1 else 0)-(if y % 100=0 then 1 else 0)+(if y % 400=0 then 1 else 0):=by
 have h1:y % 100=0->y % 4=0:=by omega
 have h2:y % 400=0->y % 100=0:=by omega
 unfold lp leap
 by_cases a:y % 4=0
 ·by_cases b:y % 100=0
  ·by_cases c:y % 400=0
   ·rw[if_pos a,if_pos b,if_pos c,decide_eq_true a,decide_eq_true b,decide_eq_true c];rfl
   ·rw[if_pos a,if_pos b,if_neg c,decide_eq_true a,decide_eq_true b,decide_eq_false c];rfl
  ·rw[if_pos a,if_neg b,if_neg (fun c=>b (h2 c)),decide_eq_true a,decide_eq_false b];rfl
 ·rw[if_neg a,if_neg (fun b=>a (h1 b)),if_neg (fun c=>a (h1 (h2 c))),decide_eq_false a];rfl
theorem zbf (y:Int):ny (y+1)=ny y+365+lp y:=by
 unfold ny
 rw[st4,zwB,zwA,zwK]
 exact zwa
noncomputable def zmL (l m:Int):Int :=
 if m=1 then 0 else if m=2 then 31 else
 l+(if m=3 then 59 else if m=4 then 90 else if m=5 then 120 else if m=6 then 151 else if m=7 then 181 else if m=8 then 212
  else if m=9 then 243 else if m=10 then 273 else if m=11 then 304 else 334)
noncomputable def zkO (l m:Int):Int:=if m=2 then 28+l else 31-(m-1) % 7 % 2
theorem zrY:∀ l:Bool,∀ k:Fin 12,(28<=zkO l.toInt (k.val+1)/\zkO l.toInt (k.val+1)<=31) /\
  (0<=zmL l.toInt (k.val+1)/\zmL l.toInt (k.val+1)+zkO l.toInt (k.val+1)<=365+l.toInt) /\
  (k.val<11->zmL l.toInt (k.val+1+1)=zmL l.toInt (k.val+1)+zkO l.toInt (k.val+1))/\zmL l.toInt 12+zkO l.toInt 12=365+l.toInt:=by decide
theorem lpB (y:Int):lp y=(leap y).toInt:=by unfold lp;cases leap y <;> rfl
theorem ztT {m:Int} (h1:1<=m) (h2:m<=12):∃ k:Fin 12,m=k.val+1:=⟨⟨(m-1).toNat,by omega⟩,by show m=((m-1).toNat:Int)+1;omega⟩
theorem zr4 (y m:Int):cum y m=zmL (leap y).toInt m:=by rw[<-lpB];rfl
theorem zoF (y m:Int):mlen y m=zkO (leap y).toInt m:=by rw[<-lpB];rfl
theorem zjq {y m:Int} (h1:1<=m) (h2:m<=11):cum y (m+1)=cum y m+mlen y m:=by
 obtain ⟨k,rfl⟩:=ztT h1 (Int.le_trans h2 (by decide))
 rw[zr4,zr4,zoF]
 exact (zrY (leap y) k).2.2.1 (by omega)
theorem zdx {y m:Int} (h1:1<=m) (h2:m<=12):28<=mlen y m/\mlen y m<=31:=by
 obtain ⟨k,rfl⟩:=ztT h1 h2
 rw[zoF]
 exact (zrY (leap y) k).1
theorem ziA {y m:Int} (h1:1<=m) (h2:m<=12):0<=cum y m/\cum y m+mlen y m<=365+lp y:=by
 obtain ⟨k,rfl⟩:=ztT h1 h2
 rw[zr4,zoF,lpB]
 exact (zrY (leap y) k).2.1
theorem zmk (y:Int):cum y 12+mlen y 12=365+lp y:=by
 rw[zr4,zoF,lpB]
 exact (zrY (leap y) 0).2.2.2
noncomputable def ms (M:Int):Int:=ny (M / 12)+cum (M / 12) (M % 12+1)
noncomputable def ml (M:Int):Int:=mlen (M / 12) (M % 12+1)
theorem zmH (M:Int):28<=ml M/\ml M<=31:=zdx (by omega) (by omega)
theorem znk (M:Int):ms (M+1)=ms M+ml M:=by
 unfold ms ml
 by_cases h:M % 12=11
 ·have e1:(M+1) / 12=M / 12+1:=by omega
  have e2:(M+1) % 12=0:=by omega
  rw[e1,e2,h,zbf]
  have:=zmk (M / 12)
  simp only[show (11:Int)+1=12 by rfl]
  have e3:cum (M / 12+1) (0+1)=0:=by simp[cum]
  omega
 ·have e1:(M+1) / 12=M / 12:=by omega
  have e2:(M+1) % 12=M % 12+1:=by omega
  rw[e1,e2,zjq (by omega) (by omega)]
  omega
theorem zsH (M:Int):∀ k:Nat,ms M+k<=ms (M+k)
 | 0=>by simp
 | k+1=>by
  have h:=zsH M k
  have h2:=znk (M+k)
  have h3:=zmH (M+k)
  have e:M+((k+1:Nat):Int)=M+k+1:=by omega
  rw[e,h2];omega
theorem zuX {M N:Int} (h:M<=N):ms M+(N-M)<=ms N:=by
 have:=zsH M (N-M).toNat
 have e:M+((N-M).toNat:Int)=N:=by omega
 rw[e] at this;omega
theorem zf4 {M N:Int} (h:M<N):ms M+ml M<=ms N:=by
 have:=zuX (show M+1<=N by omega)
 rw[znk] at this;omega
theorem zdL {y m d:Int} (h1:1<=m) (h2:m<=12):num y m d=ms (12*y+m-1)+d-1:=by
 unfold num ms
 rw[show (12*y+m-1) / 12=y by omega,show (12*y+m-1) % 12+1=m by omega]
theorem zj8 {y m:Int} (h1:1<=m) (h2:m<=12):ml (12*y+m-1)=mlen y m:=by
 unfold ml
 rw[show (12*y+m-1) / 12=y by omega,show (12*y+m-1) % 12+1=m by omega]
theorem ztE {y m d y' m' d':Int} (h:zaA y m d) (h':zaA y' m' d') (e:num y m d=num y' m' d'):y=y'/\m=m'/\d=d':=by
 obtain ⟨a,b,c,f⟩:=h
 obtain ⟨a',b',c',f'⟩:=h'
 rw[zdL a b,zdL a' b'] at e
 rw[<-zj8 a b] at f
 rw[<-zj8 a' b'] at f'
 have h1:¬ (12*y+m-1<12*y'+m'-1):=fun q=>by have:=zf4 q;omega
 have h2:¬ (12*y'+m'-1<12*y+m-1):=fun q=>by have:=zf4 q;omega
 have h3:12*y+m-1=12*y'+m'-1:=by omega
 rw[h3] at e
 omega
theorem zsI (y:Int):∀ k:Nat,ny y+365*k<=ny (y+k)
 | 0=>by simp
 | k+1=>by
  have h:=zsI y k
  have h2:=zbf (y+k)
  have h3:=zje (y+k)
  have e:y+((k+1:Nat):Int)=y+k+1:=by omega
  rw[e,h2];omega
theorem ziD {y z:Int} (h:y<=z):ny y+365*(z-y)<=ny z:=by
 have:=zsI y (z-y).toNat
 have e:y+((z-y).toNat:Int)=z:=by omega
 rw[e] at this;omega
theorem zvF:ny 2000=0:=by decide
theorem zmG {y m d:Int} (h:zaA y m d) (h0:0<=num y m d):2000<=y:=by
 have hc:=@ziA y m h.m1 h.m2
 have:=h.d2
 have h1:=zbf y
 have h2:=zvF
 by_cases q:2000<=y
 ·exact q
 ·have:=ziD (show y+1<=2000 by omega)
  unfold num at h0
  omega
theorem zrR {d:Int}:ny (2000+d*400 / 146097-1)<=d:=by
 unfold ny;omega
theorem between {y1 m1 d1 y2 m2 d2 k:Int} (h1:zaA y1 m1 d1) (h2:zaA y2 m2 d2) (le:num y1 m1 d1<=num y2 m2 d2)
  (hk:k=if (if mlen y2 m2<d1 then mlen y2 m2 else d1) > d2 then 12*(y2-y1)+m2-m1-1 else 12*(y2-y1)+m2-m1) :
  0<=k/\∀ (P P' L L':Int),P=12*y1+m1-1+k->P'=P+1->(L=if ml P<d1 then ml P else d1)->(L'=if ml P'<d1 then ml P' else d1) ->
   ms P+L-1<=num y2 m2 d2/\num y2 m2 d2<ms P'+L'-1:=by
 obtain ⟨a1,b1,c1,e1⟩:=h1
 obtain ⟨a2,b2,c2,e2⟩:=h2
 rw[zdL a1 b1,zdL a2 b2] at le
 rw[zdL a2 b2]
 rw[<-zj8 a1 b1] at e1
 rw[<-zj8 a2 b2] at e2 hk
 generalize hM1:12*y1+m1-1=M1 at *
 generalize hM2:12*y2+m2-1=M2 at *
 have hk':k=if (if ml M2<d1 then ml M2 else d1) > d2 then M2-M1-1 else M2-M1:=by
  rw[hk];split <;> omega
 have hle:M1<=M2:=by
  by_cases q:M1<=M2
  ·exact q
  ·have:=zf4 (show M2<M1 by omega);omega
 have g:M1<M2\/M1=M2:=by omega
 have b2':=zmH M2
 constructor
 ·rcases g with g | g
  ·rw[hk'];split <;> omega
  ·subst g
   rw[hk',if_neg]
   ·omega
   ·split <;> omega
 ·intro P P' L L' hP hP' hL hL'
  have bP:=zmH P
  have bP':=zmH P'
  have hL1:1<=L/\L<=ml P:=by rw[hL];split <;> omega
  have hL1':1<=L'/\L'<=ml P':=by rw[hL'];split <;> omega
  by_cases q:(if ml M2<d1 then ml M2 else d1) > d2
  ·rw[if_pos q] at hk'
   have eP:P=M2-1:=by omega
   have eP':P'=M2:=by omega
   have:=zf4 (show P<M2 by omega)
   rw[eP'] at hL' ⊢
   constructor
   ·omega
   ·rw[hL'];omega
  ·rw[if_neg q] at hk'
   have eP:P=M2:=by omega
   have eP':P'=M2+1:=by omega
   have:=zf4 (show M2<P' by omega)
   rw[eP] at hL ⊢
   constructor
   ·rw[hL];omega
   ·omega
theorem zkm {y m r:Int} (D:zaA y m r):∃ y' m' r',zaA y' m' r'/\num y' m' r'=num y m r+1:=by
 obtain ⟨a,b,c,d⟩:=D
 have l1:=@zdx (y+1) 1 (by decide) (by decide)
 by_cases h:r<mlen y m
 ·exact ⟨y,m,r+1,⟨a,b,by omega,by omega⟩,by unfold num;omega⟩
 ·by_cases h2:m<=11
  ·have cs:=@zjq y m a h2
   have l2:=@zdx y (m+1) (by omega) (by omega)
   exact ⟨y,m+1,1,⟨by omega,by omega,by omega,by omega⟩,by unfold num;omega⟩
  ·have e:m=12:=by omega
   subst e
   have c12:=zmk y
   have n1:=zbf y
   have c1:cum (y+1) 1=0:=by simp[cum]
   exact ⟨y+1,1,1,⟨by omega,by omega,by omega,by omega⟩,by unfold num;omega⟩
theorem zoZ:∀ n:Nat,∃ y m r,zaA y m r/\num y m r=n
 | 0=>⟨2000,1,1,⟨by decide,by decide,by decide,by decide⟩,by decide⟩
 | n+1=>by
  obtain ⟨y,m,r,D,e⟩:=zoZ n
  obtain ⟨y',m',r',D',e'⟩:=zkm D
  exact ⟨y',m',r',D',by omega⟩
theorem zk9 {d:Int} (h:0<=d):∃ y m r,zaA y m r/\num y m r=d:=by
 obtain ⟨y,m,r,D,e⟩:=zoZ d.toNat
 exact ⟨y,m,r,D,by omega⟩
end Cal
namespace Cnt
open Cal
def zlS (d u:Int):Prop:=∃ y m r,zaA y m r/\num y m r=d/\u=30*(12*(y-2000)+m-1)+(if 30<r then 30 else r)-1
noncomputable def each (y:Int):Int:=if leap y=true then 365 else 366
def zl1 (d u:Int):Prop:=∃ y,ny y<=d/\d<ny (y+1)/\u=365*366*(y-2000)+each y*(d-ny y)
theorem zlS.one {d u v:Int} (a:zlS d u) (b:zlS d v):u=v:=by
 obtain ⟨y,m,r,D,e,rfl⟩:=a
 obtain ⟨y',m',r',D',e',rfl⟩:=b
 obtain ⟨rfl,rfl,rfl⟩:=ztE D D' (e.trans e'.symm)
 rfl
theorem zup {d y z:Int} (h1:ny y<=d) (h2:d<ny (y+1)) (h3:ny z<=d) (h4:d<ny (z+1)):y=z:=by
 rcases ydt y z with h | h | h
 ·have:=ziD (show y+1<=z by omega)
  omega
 ·exact h
 ·have:=ziD (show z+1<=y by omega)
  omega
theorem zl1.one {d u v:Int} (a:zl1 d u) (b:zl1 d v):u=v:=by
 obtain ⟨y,h1,h2,rfl⟩:=a
 obtain ⟨z,h3,h4,rfl⟩:=b
 obtain rfl:=zup h1 h2 h3 h4
 rfl
noncomputable def UT (d:Int):Int:=Classical.epsilon fun u=>zlS d u
noncomputable def UE (d:Int):Int:=Classical.epsilon fun u=>zl1 d u
theorem zkX {d u:Int} (h:zlS d u):UT d=u:=zlS.one (Classical.epsilon_spec (p:=fun u=>zlS d u) ⟨u,h⟩) h
theorem zjd {d u:Int} (h:zl1 d u):UE d=u:=zl1.one (Classical.epsilon_spec (p:=fun u=>zl1 d u) ⟨u,h⟩) h
theorem znl {d:Int} (h:0<=d):∃ y,2000<=y/\ny y<=d/\d<ny (y+1):=by
 obtain ⟨y,m,r,D,e⟩:=zk9 h
 have c:=ziA (y:=y) D.m1 D.m2
 have s:=zbf y
 have r1:=D.d1
 have r2:=D.d2
 refine ⟨y,zmG D (by omega),?_,?_⟩
 ·unfold num at e;omega
 ·unfold num at e;omega
theorem zvu {a b:Int} (h0:0<=a) (ab:a<=b):UT a<=UT b:=by
 obtain ⟨y,m,r,D,e⟩:=zk9 h0
 obtain ⟨y',m',r',D',e'⟩:=zk9 (show 0<=b by omega)
 rw[zkX ⟨y,m,r,D,e,rfl⟩,zkX ⟨y',m',r',D',e',rfl⟩]
 rw[zdL D.m1 D.m2] at e
 rw[zdL D'.m1 D'.m2] at e'
 have l:=zj8 (y:=y) D.m1 D.m2
 have l':=zj8 (y:=y') D'.m1 D'.m2
 have d1:=D.d1
 have d2:=D.d2
 have d1':=D'.d1
 have d2':=D'.d2
 rcases ydt (12*y+m-1) (12*y'+m'-1) with h | h | h
 ·split <;> split <;> omega
 ·rw[h] at e
  split <;> split <;> omega
 ·have:=zf4 h
  omega
theorem zgm (y:Int):(each y=365/\lp y=1)\/(each y=366/\lp y=0):=by
 unfold each lp
 split
 ·exact .inl ⟨rfl,rfl⟩
 ·exact .inr ⟨rfl,rfl⟩
theorem zvk {a b:Int} (h0:0<=a) (ab:a<=b):UE a<=UE b:=by
 obtain ⟨y,y0,h1,h2⟩:=znl h0
 obtain ⟨z,z0,h3,h4⟩:=znl (show 0<=b by omega)
 rw[zjd ⟨y,h1,h2,rfl⟩,zjd ⟨z,h3,h4,rfl⟩]
 have s:=zbf y
 rcases ydt y z with h | h | h
 ·rcases zgm y with ⟨e,l⟩ | ⟨e,l⟩ <;> rcases zgm z with ⟨e',l'⟩ | ⟨e',l'⟩ <;> rw[e,e'] <;> omega
 ·subst h
  rcases zgm y with ⟨e,l⟩ | ⟨e,l⟩ <;> rw[e] <;> omega
 ·have:=ziD (show z+1<=y by omega)
  omega
end Cnt
namespace Cnt
open Cal
theorem zrK {d y:Int} (h1:d<=1000000) (h2:ny y<=d):y<=4740:=by
 by_cases c:y<=4740
 ·exact c
 ·have:=ziD (show (2000:Int)<=y by omega)
  rw[zvF] at this
  omega
theorem zwr {d:Int} (h0:0<=d) (h1:d<=1000000):-1<=UT d/\UT d<=1000000000:=by
 obtain ⟨y,m,r,D,e⟩:=zk9 h0
 have y0:=zmG D (by omega)
 have m1:=D.m1
 have m2:=D.m2
 have d1:=D.d1
 have c:=ziA (y:=y) m1 m2
 have y1:y<=4740:=zrK h1 (by unfold num at e;omega)
 rw[zkX ⟨y,m,r,D,e,rfl⟩]
 split <;> omega
theorem zw0 {d:Int} (h0:0<=d) (h1:d<=1000000):-1<=UE d/\UE d<=1000000000:=by
 obtain ⟨y,y0,q1,q2⟩:=znl h0
 have y1:=zrK h1 q1
 have s:=zbf y
 have l:=zje y
 rw[zjd ⟨y,q1,q2,rfl⟩]
 rcases zgm y with ⟨e,_⟩ | ⟨e,_⟩ <;> rw[e] <;> omega
end Cnt
namespace Cnt
open Cal
theorem zvh {d y:Int} (h1:ny y<=d) (h2:d<ny (y+1)):UE (d+1)-UE d=366-lp y:=by
 have s:=zbf y
 have s2:=zbf (y+1)
 have l:=zje (y+1)
 rw[zjd ⟨y,h1,h2,rfl⟩]
 by_cases c:d+1<ny (y+1)
 ·rw[zjd ⟨y,by omega,c,rfl⟩]
  rcases zgm y with ⟨e,q⟩ | ⟨e,q⟩ <;> rw[e] <;> omega
 ·have e1:d+1=ny (y+1):=by omega
  rw[e1,zjd ⟨y+1,yds _,by omega,rfl⟩,Int.sub_self,Int.mul_zero]
  rcases zgm y with ⟨e,q⟩ | ⟨e,q⟩ <;> rw[e] <;> omega
theorem ziR {y m r y' m' r':Int} (D:zaA y m r) (D':zaA y' m' r') (e:num y' m' r'=num y m r+1):(y'=y/\m'=m/\r'=r+1)\/(12*y'+m'=12*y+m+1/\r'=1/\r=mlen y m):=by
 rw[zdL D.m1 D.m2,zdL D'.m1 D'.m2] at e
 have l:=zj8 (y:=y) D.m1 D.m2
 have l':=zj8 (y:=y') D'.m1 D'.m2
 have m1:=D.m1
 have m2:=D.m2
 have m1':=D'.m1
 have m2':=D'.m2
 have d1:=D.d1
 have d2:=D.d2
 have d1':=D'.d1
 have d2':=D'.d2
 rcases ydt (12*y+m-1) (12*y'+m'-1) with h | h | h
 ·have a:=zf4 h
  by_cases c:12*y'+m'-1=12*y+m-1+1
  ·exact .inr ⟨by omega,by omega,by omega⟩
  ·have b:=zf4 (show 12*y+m-1+1<12*y'+m'-1 by omega)
   have z:=znk (12*y+m-1)
   have w:=zmH (12*y+m-1+1)
   omega
 ·rw[h] at e
  exact .inl ⟨by omega,by omega,by omega⟩
 ·have a:=zf4 h
  omega
theorem zve {y m r y' m' r':Int} (D:zaA y m r) (D':zaA y' m' r') (e:num y' m' r'=num y m r+1):UT (num y m r+1)-UT (num y m r)=if r'=31 then 0 else if m=2/\m'=3 then 31-r else 1:=by
 rw[zkX ⟨y,m,r,D,rfl,rfl⟩,zkX ⟨y',m',r',D',e,rfl⟩]
 have m1:=D.m1
 have m2:=D.m2
 have m1':=D'.m1
 have m2':=D'.m2
 have d1:=D.d1
 have d2:=D.d2
 have d2':=D'.d2
 have li:=zdx (y:=y) m1 m2
 have li':=zdx (y:=y') m1' m2'
 rcases ziR D D' e with ⟨rfl,rfl,rfl⟩ | ⟨hm,rfl,hr⟩
 ·by_cases c:r+1=31
  ·rw[if_pos c]
   split <;> split <;> omega
  ·rw[if_neg c,if_neg (by omega)]
   split <;> split <;> omega
 ·rw[if_neg (show ¬ ((1:Int)=31) by decide)]
  have lp':=zje y
  by_cases c:m=2
  ·subst c
   have e2:mlen y 2=28+lp y:=by unfold mlen;rw[if_pos rfl]
   rw[if_pos (show (2:Int)=2/\m'=3 from ⟨rfl,by omega⟩)]
   split <;> split <;> omega
  ·have e2:mlen y m=31-(m-1) % 7 % 2:=by unfold mlen;rw[if_neg c]
   rw[if_neg (show ¬ (m=2/\m'=3) from fun z=>c z.1)]
   split <;> split <;> omega
end Cnt
namespace Cnt
open Cal
end Cnt
namespace Cnt
open Cal
end Cnt
theorem L2.us1 {α:Type} {P:List α->Prop} (h:∀ a,P [a]):∀ us:List α,us.length=1->P us
 | [a],_=>h a
theorem L2.us2 {α:Type} {P:List α->Prop} (h:∀ a b,P [a,b]):∀ us:List α,us.length=2->P us
 | [a,b],_=>h a b
theorem L2.us3 {α:Type} {P:List α->Prop} (h:∀ a b c,P [a,b,c]):∀ us:List α,us.length=3->P us
 | [a,b,c],_=>h a b c
theorem L2.us4 {α:Type} {P:List α->Prop} (h:∀ a b c d,P [a,b,c,d]):∀ us:List α,us.length=4->P us
 | [a,b,c,d],_=>h a b c d
theorem L2.us5 {α:Type} {P:List α->Prop} (h:∀ a b c d e,P [a,b,c,d,e]):∀ us:List α,us.length=5->P us
 | [a,b,c,d,e],_=>h a b c d e
theorem L2.qb {Q:L2.VK} {H:L2.Hp} {a b:Bool} (h:Q (.bl a) H) (e:a=b):Q (.bl b) H:=e ▸ h
theorem L2.qi {Q:L2.VK} {H:L2.Hp} {a b:Int} (h:Q (.int a) H) (e:a=b):Q (.int b) H:=e ▸ h
local macro_rules | `(tactic| walk_at "cap")=>`(tactic| repeat (first | exact trivial | refine ⟨⟨by first | exact Or.inl rfl | exact Or.inr rfl,by first | exact Or.inl rfl | exact Or.inr rfl,rfl⟩,?_⟩))
local macro_rules | `(tactic| walk_at "sub")=>`(tactic| repeat (first | exact trivial | refine ⟨rfl,?_⟩))
local macro_rules | `(tactic| walk_at "has")=>`(tactic| repeat (first | exact trivial | refine ⟨fun _=>⟨_,rfl⟩,?_⟩ | refine ⟨(fun z=>by (rcases z with z | z <;> first | cases (show PySem.NameKind.local=PySem.NameKind.cell from z) | cases (show PySem.NameKind.local=PySem.NameKind.free from z) | cases (show PySem.NameKind.globalImplicit=PySem.NameKind.cell from z) | cases (show PySem.NameKind.globalImplicit=PySem.NameKind.free from z))),?_⟩))
local macro_rules | `(tactic| walk_at "rd1")=>`(tactic| first
 | with_reducible refine L2.zxf ?_
 | with_reducible refine L2.zwg ?_
 | refine ⟨_,rfl,?_⟩
 | refine ⟨_,_,rfl,rfl,?_⟩
 | refine ⟨_,_,rfl,?_⟩
 | refine ⟨_,_,_,rfl,?_⟩
 | refine ⟨rfl,?_⟩
 | refine ⟨(⟨by decide,by decide⟩:L2.CDiv _ _),?_⟩
 | refine ⟨(show (0:Int)<_ by first | decide | omega),?_⟩
 | refine ⟨(⟨by decide,by decide,by decide⟩:L2.CPow _ _),?_⟩
 | refine ⟨(Or.inl ⟨by first | decide | omega,by first | decide | omega⟩:L2.CMul _ _),?_⟩
 | refine ⟨(Or.inr ⟨by first | decide | omega,by first | decide | omega⟩:L2.CMul _ _),?_⟩
 | refine ⟨_,_,rfl,.inl (by assumption),?_⟩
 | refine ⟨_,_,_,_,rfl,rfl,L2.SqT.of (by assumption),rfl,?_⟩
 | (refine ⟨_,_,_,_,rfl,(by assumption),(by first | omega | decide),(by first | omega | decide),(by first | omega | decide),?_⟩;intro r' r0' r1')
 | (refine ⟨_,_,_,rfl,(by assumption),(by omega),(by omega),?_⟩;intro r' r0' r1')
 | refine And.intro (by omega) ?_
 | refine And.intro (Nat.le_of_ble_eq_true rfl) ?_
 | with_reducible refine L2.iteNF ?_
 | with_reducible refine L2.zwM ?_
 | with_reducible refine L2.ifI (fun _=>?_) (fun _=>?_)
 | with_reducible refine L2.zxb (fun _=>?_) (fun _=>?_)
 | with_reducible refine L2.ifD (fun _=>?_) (fun _=>?_)
 | with_reducible refine L2.zxv (fun _=>?_) (fun _=>?_))
local macro_rules | `(tactic| walk_at "rd")=>`(tactic| repeat' walk_at "rd1")
seal L2.PSs L2.PS L2.PE L2.PT L2.PA L2.PI L2.PG L2.PGs L2.PW L2.PC L2.PO
local macro_rules | `(tactic| walk_at "rd1")=>`(tactic| first
 | with_reducible refine L2.zw9 ?_
 | with_reducible refine L2.zxt (by decide) ?_
 | with_reducible refine L2.ifSNT ?_
 | with_reducible refine L2.ifSNF (by decide) ?_
 | ((with_reducible refine And.intro (a:=L2.zuE _ _) ?_ ?_);(exact ⟨by first | decide | omega,by first | decide | omega⟩))
 | fail)
local macro_rules | `(tactic| walk_at "rd1")=>`(tactic| ((with_reducible refine L2.sqG ?_);(first | (with_reducible refine L2.zwX ?_) | (with_reducible refine L2.zw6 ?_) | (with_reducible refine L2.zxA ?_) | (with_reducible refine L2.zxB ?_) | (with_reducible refine L2.zxw ?_) | (with_reducible refine L2.zxh ?_) | (with_reducible refine L2.zxl ?_) | (with_reducible refine L2.zxg ?_) | (with_reducible refine L2.zxi ?_));intros))
local macro_rules | `(tactic| walk_at "s1")=>`(tactic| first | exact L2.us1 fun _=>rfl | exact L2.us2 fun _ _=>rfl | exact L2.us3 fun _ _ _=>rfl | exact L2.us4 fun _ _ _ _=>rfl | exact L2.us5 fun _ _ _ _ _=>rfl | k_is | rfl)
local macro_rules | `(tactic| walk_at "lc")=>`(tactic| first | exact Or.inl rfl | exact Or.inr rfl)
local macro_rules | `(tactic| walk_at "sp")=>`(tactic| exact ⟨rfl,rfl,rfl,by decide +kernel,rfl,by decide +kernel,by decide +kernel⟩)
local macro_rules | `(tactic| walk_at "o") => `(tactic| first | lia | omega)
local macro_rules | `(tactic| nofun)=>`(tactic| walk_at "rd")
local macro_rules | `(tactic| ac_rfl)=>`(tactic| walk_at "o")
abbrev qaa:List PySem.Str:=["self"]
abbrev qab:List PySem.Str:=["_law_script"]
abbrev qac:List PySem.Str:=["self","day"]
abbrev qad:List PySem.Str:=["self","amount"]
abbrev qae:List PySem.Str:=["entries","word"]
abbrev qaf:List PySem.Str:=["book"]
abbrev qag:List PySem.Str:=["year"]
abbrev qah:List PySem.Str:=["self","day","amount"]
abbrev qai:List PySem.Str:=["pairs"]
abbrev qaj:List PySem.Str:=["_law_rows_here","_law_word"]
abbrev qak:List PySem.Str:=["spans","day"]
abbrev qal:List PySem.Str:=["self","a","b"]
abbrev qam:List PySem.Str:=["_law_script","_law_k"]
abbrev qan:List PySem.Str:=["_law_rows_here","_law_base_here"]
abbrev qao:List PySem.Str:=["day"]
abbrev qap:List PySem.Str:=["self","day","rate"]
abbrev qaq:List PySem.Str:=["_law_year"]
abbrev qar:List PySem.Str:=["rows","day"]
abbrev qas:List PySem.Str:=["self","unit"]
abbrev qat:List PySem.Str:=["_law_cell","_law_many"]
abbrev qau:List PySem.Str:=["_law_year","_law_month"]
abbrev qav:List PySem.Str:=["self","units"]
abbrev qaw:List PySem.Str:=["year","month"]
abbrev qax:List PySem.Str:=["self","day","until"]
abbrev qay:List PySem.Str:=["thing","least","most"]
abbrev qaz:List PySem.Str:=["_law_rows_here"]
abbrev qba:List PySem.Str:=["count","grace"]
abbrev qbb:List PySem.Str:=["entries","spans"]
abbrev qbc:List PySem.Str:=["debt","deeds"]
abbrev qbd:List PySem.Str:=["self","count","grace","entries"]
abbrev qbe:List PySem.Str:=["_law_script","_law_rows_here"]
abbrev qbf:List PySem.Str:=["book","day","rows"]
abbrev qbg:List PySem.Str:=["_law_word","_law_day","_law_xs"]
abbrev qbh:List PySem.Str:=["_law_flags","_law_base_here","_law_day"]
abbrev qbi:List PySem.Str:=["_law_unit_here","_law_principal","_law_units","_law_deeds_here"]
abbrev qbj:List PySem.Str:=["_law_lines","_law_others","_law_xs"]
abbrev qbk:List PySem.Str:=["_law_lines","_law_xs"]
abbrev qbl:List PySem.Str:=["table","day"]
abbrev qbm:List PySem.Str:=["book","days"]
abbrev qbn:List PySem.Str:=["entries"]
abbrev qbo:List PySem.Str:=["_law_cell","_law_base_here","_law_wide"]
abbrev qbp:List PySem.Str:=["_law_script","_law_first","_law_last","_law_wide"]
abbrev qbq:List PySem.Str:=["_law_day"]
abbrev qbr:List PySem.Str:=["_law_rows_here","_law_told","_law_base_here","_law_day"]
abbrev qbs:List PySem.Str:=["_law_row_here"]
abbrev qbt:List PySem.Str:=["_law_kind","_law_base_here","_law_many"]
abbrev qbu:List PySem.Str:=["_law_script","_law_rows_here","_law_many"]
abbrev qbv:List PySem.Str:=["count","rows","principal","a","b"]
abbrev qbw:List PySem.Str:=["book","rows"]
abbrev qbx:List PySem.Str:=["book","day"]
abbrev qby:List PySem.Str:=["_law_book_here","_law_day","_law_lines","_law_due_here"]
namespace My
open PySem L2
noncomputable def top (i:Nat):Stmt:=PySem.Challenge.pw_loanroll_k49_statements_looked_at.main.body.getD i (.Pass ⟨0,0,0,0⟩)
structure Txt (K:W.Frag) (mg:Str->Option Value):Prop where
 zmw:mg "bool" = none
 zfr:mg "dict" = none
 zdc:mg "int" = none
 zbY:mg "isinstance" = none
 zd2:mg "len" = none
 zbl:mg "list" = none
 zc6:mg "max" = none
 zcO:mg "min" = none
 zdy:mg "range" = none
 ziZ:mg "set" = none
 zbG:mg "sorted" = none
 zkR:mg "tuple" = none
 cls:∀ kd:Kd,Cls K (cA K kd.cls)
 mk0:∀ kd:Kd,Mk0 K (cA K kd.cls)
 ikK:∀ kd:Kd,zt8 K (cA K kd.cls)
 kitK0:∀ k:Kd,PySem.W.kitOne K (.ref (cA K k.cls)) (.ref (cA K (Kd.cls .plain)))=some (zwp k .plain)
 kitS:∀ k:Kd,PySem.W.kitOne K (.ref (cA K k.cls)) (.type "str")=some false
 zpp:mg "Bank" = some (.ref (cA K "Bank"))
 zpj:mg "Book" = some (.ref (cA K "Book"))
 zk8:mg "Count" = some (.ref (cA K "Count"))
 zmn:mg "Debt" = some (.ref (cA K "Debt"))
 zsq:mg "Due" = some (.ref (cA K "Due"))
 ziM:mg "Entry" = some (.ref (cA K "Entry"))
 znb:mg "Exact" = some (.ref (cA K "Exact"))
 zsr:mg "Fee" = some (.ref (cA K "Fee"))
 zqi:mg "Late" = some (.ref (cA K "Late"))
 zsm:mg "Out" = some (.ref (cA K "Out"))
 zrM:mg "Pay" = some (.ref (cA K "Pay"))
 zqn:mg "Rate" = some (.ref (cA K "Rate"))
 znx:mg "Still" = some (.ref (cA K "Still"))
 zlW:mg "Thirty" = some (.ref (cA K "Thirty"))
 zpU:mg "Turn" = some (.ref (cA K "Turn"))
 zF:Cls K (cA K "Book")
 zmW:MkI K (cA K "Book")
 zN:Cls K (cA K "Debt")
 zkT:MkI K (cA K "Debt")
 clE:∀ k:Ek,Cls K (cA K k.cls)
 zd8:∀ k:Ek,zab K (cA K k.cls) "amount"
 zbg:∀ k:Ek,zab K (cA K k.cls) "day"
 zlJ:∀ k:Ek,zab K (cA K k.cls) "rate"
 zkG:∀ k:Ek,zab K (cA K k.cls) "until"
 zp9:MkI K (cA K "Due")
 zpW:MkI K (cA K "Fee")
 zmK:MkI K (cA K "Late")
 zoO:MkI K (cA K "Out")
 zo8:MkI K (cA K "Pay")
 zmX:MkI K (cA K "Rate")
 zlB:MkI K (cA K "Still")
 zmZ:MkI K (cA K "Turn")
 zb3:zab K (cA K "Book") "due_sums"
 zbr:zab K (cA K "Book") "fee_sums"
 zbN:zab K (cA K "Book") "late_rows"
 zbs:zab K (cA K "Book") "out_sums"
 zbL:zab K (cA K "Book") "own_count"
 zcl:zab K (cA K "Book") "own_entries"
 zbJ:zab K (cA K "Book") "own_grace"
 zbn:zab K (cA K "Book") "pay_sums"
 zbI:zab K (cA K "Book") "rate_rows"
 zce:zab K (cA K "Book") "spans"
 za6:zab K (cA K "Book") "turn_days"
 zaJ:zab K (cA K "Debt") "cent_units"
 zX:zab K (cA K "Debt") "owed_units"
 zM:zab K (cA K "Debt") "principal_cents"
 zbR:∃ t,mg "FIRST_YEAR" = some (.int 2000 t)
 zjR:∃ a,mg "LENGTHS" = some (.ref a)/\∀ H,SqT K H a [.int 31,.int 28,.int 31,.int 30,.int 31,.int 30,.int 31,.int 31,.int 30,.int 31,.int 30,.int 31]
 zeC:∃ t,mg "MOST_ENTRIES" = some (.int 500 t)
 zgx:∃ t,mg "MOST_GRACE" = some (.int 366 t)
 zgr:∃ t,mg "RATE_PARTS" = some (.int 10000 t)
 zgD:∃ t,mg "ROUND_DAYS" = some (.int 146097 t)
 zfY:∃ t,mg "ROUND_YEARS" = some (.int 400 t)
noncomputable abbrev zgf:Stmt:=top 2
noncomputable abbrev zkU:Stmt:=top 3
noncomputable abbrev zcQ:Stmt:=top 6
noncomputable abbrev zeR:Stmt:=inClass (top 9) 11
noncomputable abbrev zfj:Stmt:=inClass (top 9) 0
noncomputable abbrev zeW:Stmt:=inClass (top 9) 3
noncomputable abbrev zb5:Stmt:=inClass (top 9) 1
noncomputable abbrev zd3:Stmt:=inClass (top 9) 2
noncomputable abbrev zi7:Stmt:=top 11
noncomputable abbrev zga:Stmt:=top 33
noncomputable abbrev zhy:Stmt:=top 34
noncomputable abbrev zf1:Stmt:=top 36
noncomputable abbrev zei:Stmt:=inClass (top 41) 1
noncomputable abbrev zff:Stmt:=inClass (top 42) 1
noncomputable abbrev zc4:Stmt:=inClass (top 43) 1
noncomputable abbrev zdQ:Stmt:=inClass (top 44) 1
noncomputable abbrev zbo:Stmt:=inClass (top 46) 0
noncomputable abbrev zdX:Stmt:=inClass (top 46) 1
noncomputable abbrev zf5:Stmt:=inClass (top 49) 0
noncomputable abbrev zf3:Stmt:=inClass (top 50) 0
noncomputable abbrev zf7:Stmt:=inClass (top 51) 0
noncomputable abbrev zgg:Stmt:=inClass (top 52) 0
noncomputable abbrev zeV:Stmt:=inClass (top 53) 0
noncomputable abbrev zfh:Stmt:=inClass (top 54) 0
noncomputable abbrev zeU:Stmt:=inClass (top 55) 0
noncomputable abbrev zdG:Stmt:=inClass (top 56) 1
noncomputable abbrev zjb:Stmt:=top 58
noncomputable abbrev zeg:Stmt:=inClass (top 68) 1
noncomputable abbrev zb9:Stmt:=inClass (top 68) 12
noncomputable abbrev ze6:Stmt:=inClass (top 68) 11
noncomputable abbrev zfi:Stmt:=inClass (top 68) 5
noncomputable abbrev zd1:Stmt:=inClass (top 68) 2
noncomputable abbrev zd9:Stmt:=inClass (top 68) 9
noncomputable abbrev zeO:Stmt:=inClass (top 68) 4
noncomputable abbrev zfa:Stmt:=inClass (top 68) 6
noncomputable abbrev zdR:Stmt:=inClass (top 68) 8
noncomputable abbrev zdb:Stmt:=inClass (top 68) 10
noncomputable abbrev zdP:Stmt:=inClass (top 68) 7
noncomputable abbrev zcC:Stmt:=top 70
noncomputable abbrev zed:Stmt:=top 71
noncomputable abbrev zdY:Stmt:=top 72
noncomputable abbrev ze9:Stmt:=top 80
noncomputable abbrev zd0:Stmt:=top 84
noncomputable abbrev zdV:Stmt:=top 85
noncomputable abbrev zfc:Stmt:=top 86
noncomputable abbrev zdO:Stmt:=top 89
noncomputable abbrev zc5:Stmt:=top 91
noncomputable abbrev zc8:Stmt:=top 94
noncomputable abbrev zdg:Stmt:=top 95
noncomputable abbrev zge:Stmt:=top 4
noncomputable abbrev zfe:Stmt:=top 7
noncomputable abbrev zb6:Stmt:=inClass (top 9) 13
noncomputable abbrev zeP:Stmt:=inClass (top 9) 9
noncomputable abbrev zk1:Stmt:=top 12
noncomputable abbrev zcE:Stmt:=top 15
noncomputable abbrev zdK:Stmt:=top 18
noncomputable abbrev zdM:Stmt:=top 35
noncomputable abbrev zhr:Stmt:=top 37
noncomputable abbrev zaF:Stmt:=inClass (top 41) 2
noncomputable abbrev zac:Stmt:=inClass (top 47) 0
noncomputable abbrev zaU:Stmt:=inClass (top 48) 0
noncomputable abbrev zd7:Stmt:=inClass (top 56) 0
noncomputable abbrev ze1:Stmt:=top 57
noncomputable abbrev zjv:Stmt:=top 59
noncomputable abbrev zhv:Stmt:=top 60
noncomputable abbrev zel:Stmt:=top 65
noncomputable abbrev zdf:Stmt:=top 66
noncomputable abbrev zf9:Stmt:=top 73
noncomputable abbrev ze0:Stmt:=top 74
noncomputable abbrev zdZ:Stmt:=top 76
noncomputable abbrev zef:Stmt:=top 78
noncomputable abbrev zbP:Stmt:=top 81
noncomputable abbrev ze2:Stmt:=top 87
noncomputable abbrev ze3:Stmt:=top 88
noncomputable abbrev zcc:Stmt:=top 90
noncomputable abbrev ze5:Stmt:=inClass (top 9) 12
noncomputable abbrev zgb:Stmt:=inClass (top 9) 8
noncomputable abbrev zeZ:Stmt:=inClass (top 9) 7
noncomputable abbrev zfg:Stmt:=inClass (top 9) 10
noncomputable abbrev zjl:Stmt:=top 13
noncomputable abbrev zhg:Stmt:=top 38
noncomputable abbrev zdh:Stmt:=top 64
noncomputable abbrev zc7:Stmt:=top 67
noncomputable abbrev ze7:Stmt:=top 75
noncomputable abbrev zeX:Stmt:=top 82
noncomputable abbrev zf6:Stmt:=top 93
noncomputable abbrev zhj:Stmt:=top 16
noncomputable abbrev zf8:Stmt:=top 19
noncomputable abbrev zb0:Stmt:=inClass (top 41) 3
noncomputable abbrev zc9:Stmt:=inClass (top 43) 2
noncomputable abbrev zek:Stmt:=inClass (top 44) 2
noncomputable abbrev zeQ:Stmt:=inClass (top 68) 0
noncomputable abbrev zfb:Stmt:=top 77
noncomputable abbrev zcN:Stmt:=top 83
noncomputable abbrev zaw:Stmt:=inClass (top 41) 4
noncomputable abbrev zeS:Stmt:=top 92
noncomputable abbrev zdW:Stmt:=top 17
noncomputable abbrev zeY:Stmt:=top 79
noncomputable abbrev zcA:Stmt:=top 20
noncomputable abbrev ze8:Stmt:=top 22
noncomputable abbrev zcR:Stmt:=top 23
noncomputable abbrev zdd:Stmt:=top 96
noncomputable abbrev zmf:Stmt:=top 97
section
variable {P:Program} {w:World} {K:W.Frag} {mg:Str->Option Value} {base:Heap}
def zlk (K:W.Frag):Sp:=fun vs H Q _=>∃ (p:Addr) (xs:List V) (t:List (Int × Int)),vs=[.ref p]/\H p=some (.lst xs)/\zA K H xs t/\t.length<64/\(∀ s∈t,0<=s.1)/\∀ q H' ws (r:List (Int × Int)),H q=none->Same H H'->H' q=some (.lst ws)->zA K H' ws r->Stills.TabOf t r->r=(r.map (·.1)).map (fun d=>(d,Sums.valOf t d))->r.length<=t.length->Q (.ref q) H'
theorem zq2:zk qai qai (zi zgf):=by walk_at "sp"
theorem zr1 (S:Src K mg "table_of" zgf qai) (T:Txt K mg)  : Def P w K mg base 1 "table_of" qai (zlk K):=by
 refine S.ok zq2 (fun vs H Q E h=>?_) (fun f cdv A outer s H vs Q E hr h=>?_)
 ·obtain ⟨p,xs,t,rfl,hp,hR,hl,t0,h⟩:=h
  rfl
 obtain ⟨p,xs,t,rfl,hp,hR,hl,t0,h⟩:=h
 refine ⟨_,(zf (zl (zD (zjS rfl) rfl T.zbG PyProof.Rows.boot_sorted (za (zp7 (zH (zcS rfl) rfl T.zfr PyProof.Rows.boot_dict (za (pv 0) zd))) zd)))),?_⟩
 nofun
 refine ⟨p,xs,t,rfl,hp,hR,hl,?_⟩
 intro d H1 nd s1 e1
 nofun
 refine ⟨d,_,rfl,e1,?_⟩
 intro v H2 nv s2 e2
 nofun
 have dl:=zq3 t
 refine ⟨v,d,_,rfl,e2,s2 _ _ e1,by ac_rfl,?_⟩
 intro q H3 ws r nq s3 e3 hr' pm o
 obtain ⟨T1,e⟩:=Dct.tab t0 pm o
 exact h q H3 ws r (zJ (s1.trans s2) nq) (s1.trans (s2.trans s3)) e3 hr' T1 e (by rw[pm.length_eq];exact dl)
def ziQ (K:W.Frag):Sp:=fun vs H Q _=>L2.Ee4 fun a xs (l:List Int) d=>L2.Aa5 (vs=[.ref a,.int d]) (SqL K H a xs) (RF H xs l) ((l.Pairwise (·<·))) (∀ n:Nat,zm9 l d n->Q (.int n) H)
theorem zes:zk ["rows", "day", "low", "high", "middle"] qar (zi zkU):=by walk_at "sp"
theorem zuL (S:Src K mg "begun" zkU qar) (T:Txt K mg)  : Def P w K mg base 1 "begun" qar (ziQ K):=by
 refine S.ok zes (fun vs H Q E h=>?_) (fun f cdv A outer s H vs Q E hr h=>?_)
 ·obtain ⟨a,xs,l,d,rfl,hS,hR,up,h⟩:=h
  rfl
 obtain ⟨a,xs,l,d,rfl,hS,hR,up,h⟩:=h
 refine ⟨_,(zc (zj (i:=2) zes.nd rfl (by walk_at "lc") zb)
  (zc (zj (i:=3) zes.nd rfl (by walk_at "lc") (zD zaN rfl T.zd2 PySem.boot_len (za (pv 0) zd)))
  (zc (zdt PassesOwn.never (zw zgd (pv 2) (pv 3) (nomark _))
  (zc (zj (i:=4) zes.nd rfl (by walk_at "lc") (zh za2 (zh zy (pv 2) (pv 3)) zb))
  (zf (zV (zw zkY (zo zah (zo zt (pv 0) (pv 4) (fun _ _=>rfl)) zb (fun _ _=>rfl)) (pv 1) (nomark _))
  (zf (zj (i:=2) zes.nd rfl (by walk_at "lc") (zh zy (pv 4) zb)))
  (zf (zj (i:=3) zes.nd rfl (by walk_at "lc") (pv 4)))))))
  (zf (zl (pv 2)))))),?_⟩
 have xl:=hR.length
 nofun
 refine ⟨fun n σ H'=>H=H'/\∃ (lo hi:Nat) (z:Option V),σ=[some (.ref a),some (.int d),some (.int lo),some (.int hi),z]/\lo<=hi/\hi<=l.length/\(∀ i s,i<lo->l[i]?=some s->s<=d)/\(∀ i s,hi<=i->l[i]?=some s->d<s)/\n=hi-lo,⟨_,rfl,0,xs.length,_,rfl,ycy _,by ac_rfl,fun i s hi=>absurd hi (Nat.not_lt_zero _),fun i s hi e=>?_,rfl⟩,?_⟩
 ·have:=(yad.mp e).1
  ac_rfl
 rintro n σ H' ⟨rfl,lo,hi,z,rfl,lh,hl,below,above,rfl⟩
 nofun
 ·rename_i q
  refine ⟨_,fun σ' H' z=>z,?_⟩
  have em:((lo:Int)+hi) / 2=(((lo+hi) / 2:Nat):Int):=by ac_rfl
  have m1:lo<=(lo+hi) / 2:=by ac_rfl
  have m2:(lo+hi) / 2<hi:=by ac_rfl
  nofun
  generalize (lo+hi) / 2=m at m1 m2 em
  obtain ⟨s,es,p,ws,ex,hp⟩:=hR.get (yaa (by ac_rfl:m<xs.length))
  have at_:atI xs (((lo:Int)+hi) / 2)=some (.ref p):=em ▸ zak (by rw[yaa (by ac_rfl:m<xs.length),ex])
  refine ⟨a,_,_,_,rfl,rfl,hS,at_,?_⟩
  have at0:atI (V.int s::ws) (0:Int)=some (.int s):=(zak (by rfl):atI (V.int s::ws) ((0:Nat):Int)=some (.int s))
  nofun
  refine ⟨p,_,_,_,rfl,rfl,SqT.of hp,at0,?_⟩
  nofun
  ·rename_i q2
   refine ⟨hi-(m+1),by ac_rfl,rfl,m+1,hi,some (.int m),(by show [some (V.ref a),some (V.int d),some (V.int (((lo:Int)+hi) / 2+1)),some (V.int hi),some (V.int (((lo:Int)+hi) / 2))]=_;rw[em];rfl),by ac_rfl,hl,fun i t hi e=>?_,above,rfl⟩
   rcases Nat.lt_or_ge i m with c | c
   ·have:=zcM up e es c
    ac_rfl
   ·have:i=m:=by ac_rfl
    subst this
    rw[es] at e
    cases e
    exact q2
  ·rename_i q2
   refine ⟨m-lo,by ac_rfl,rfl,lo,m,some (.int m),(by show [some (V.ref a),some (V.int d),some (V.int lo),some (V.int (((lo:Int)+hi) / 2)),some (V.int (((lo:Int)+hi) / 2))]=_;rw[em]),by ac_rfl,by ac_rfl,below,fun i t hi e=>?_,rfl⟩
   rcases Nat.lt_or_ge m i with c | c
   ·have:=zcM up es e c
    ac_rfl
   ·have:i=m:=by ac_rfl
    subst this
    rw[es] at e
    cases e
    ac_rfl
 ·rename_i q
  have:lo=hi:=by ac_rfl
  subst this
  exact h lo ⟨hl,below,above⟩
def zeb (K:W.Frag):Sp:=fun vs H Q _=>∃ (q:Addr) (xs:List V) (l:List (Int × Int)),vs=[.ref q]/\H q=some (.lst xs)/\zA K H xs l/\l.length<=1000 /\
 ∀ p ws H',H p=none->Same H H'->H' p=some (.lst ws)->zA K H' ws (runs 0 l)->Q (.ref p) H'
theorem zbA:zk ["rows", "told", "total", "row"] ["rows"] (zi zcQ):=by walk_at "sp"
theorem zmM (S:Src K mg "running_sums" zcQ ["rows"]) (T:Txt K mg)  : Def P w K mg base 1 "running_sums" ["rows"] (zeb K):=by
 refine S.ok zbA (fun vs H Q E h=>?_) (fun f cdv A outer s H vs Q E hr h=>?_)
 ·obtain ⟨q,xs,l,rfl,hq,hR,hl,h⟩:=h
  rfl
 obtain ⟨q,xs,l,rfl,hq,hR,hl,h⟩:=h
 refine ⟨_,(zc (zj (i:=1) zbA.nd rfl (by walk_at "lc") (zU zd))
  (zc (zj (i:=2) zbA.nd rfl (by walk_at "lc") zb)
  (zc (za7 PassesOwn.never rfl (zT (pv 0)) (zG (i:=3) zbA.nd rfl (by walk_at "lc"))
  (zc (zj (i:=2) zbA.nd rfl (by walk_at "lc") (zh zy (pv 2) (zo zah (pv 3) zb (fun _ _=>rfl))))
  (zf (zY (zbK PySem.F.plainAttrs_list PySem.F.slot_list_append PySem.F.type_list_append zax (pv 1) (za (zaj (za (zo zah (pv 3) zb (fun _ _=>rfl)) (za (pv 2) zd))) zd))))))
  (zf (zl (pv 1)))))),?_⟩
 have sz:=sizeLine_eq
 have xl:=hR.length
 nofun
 intro p np
 have s1:=ze np (.lst [])
 have eP:=zq (.lst []) np
 generalize upd H p (.lst [])=H1 at s1 eP ⊢
 nofun
 refine ⟨⟨_,SqL.of (s1 _ _ hq)⟩,za5 (xs:=xs) (fun i σ H'=>∃ (ws:List V) (z1:Option V),(Same H H'/\H' p=some (.lst ws))/\zA K H' ws (runs 0 (l.take i))/\σ=[some (.ref q),some (.ref p),some (.int (sum2 (l.take i))),z1])
  ⟨[],_,⟨s1,eP⟩,.nil,rfl⟩ ?_ ?_ ?_⟩
 ·rintro i σ H' _ ⟨ws,z1,⟨sH,_⟩,_⟩
  exact SqL.of (sH _ _ hq)
 ·rintro i x σ H' hx ⟨ws,z1,⟨sH,eP'⟩,hW,rfl⟩
  obtain ⟨u,s,rfl,hs,hu⟩:=(hR.same sH).get hx
  have il:i<l.length:=(yad.mp hs).1
  have wl:=hW.length
  rw[ztJ,ybd] at wl
  have tk:l.take (i+1)=l.take i++[s]:=by rw[ybc,hs];rfl
  rw[tk,znJ,zsE,Int.zero_add]
  generalize sum2 (l.take i)=t at *
  nofun
  refine ⟨.inl ⟨rfl,_,SqL.of eP'⟩,?_⟩
  nofun
  intro v nv
  have s5:=ze nv (.tup [.int s.1,.int (t+s.2)])
  have ev:=zq (.tup [.int s.1,.int (t+s.2)]) nv
  have eP5:=s5 _ _ eP'
  refine ⟨p,_,_,rfl,rfl,eP5,by ac_rfl,?_⟩
  have ev6:(upd (upd H' v (.tup [.int s.1,.int (t+s.2)])) p (.lst (ws++[.ref v]))) v=some (.tup [.int s.1,.int (t+s.2)]):=by
   rw[zp (zan ev eP5 (by intro z;cases z))]
   exact ev
  exact ⟨ws++[.ref v],_,⟨zE (sH.trans s5) np,zg⟩,((hW.same s5).put eP5).push (s:=(s.1,t+s.2)) ev6,rfl⟩
 ·rintro σ H' ⟨ws,z1,⟨sH,eP'⟩,hW,rfl⟩
  rw[xl,ycl] at hW
  nofun
  exact h p ws H' np sH eP' hW
def zkB (K:W.Frag):Sp:=fun vs H Q _=>L2.Ee6 fun p dx u m n x=>L2.Aa3 (vs=[.ref p,.int x]) (Deb K H p dx u m n) (Q .non (upd H p (.ins (cA K "Debt") dx (zap u (Dbt.step u .grow x m n).1 (Dbt.step u .grow x m n).2))))
theorem zpc:zk qav qav (zi zeR):=by walk_at "sp"
theorem zqy (S:zr K (cA K "Debt") "grow" "Debt.grow" zeR qav) (T:Txt K mg)  : zv P w K mg base 1 (cA K "Debt") "grow" qav (zkB K):=by
 refine S.ok zpc (fun vs H Q E h=>?_) (fun f cdv A outer s H vs Q E hr h=>?_)
 ·obtain ⟨p,dx,u,m,n,x,rfl,e,h⟩:=h
  rfl
 obtain ⟨p,dx,u,m,n,x,rfl,e,h⟩:=h
 refine ⟨_,(zf (zav T.zN T.zX (pv 0) (zh zy (zae T.zN T.zX (pv 0)) (pv 1)))),?_⟩
 nofun
 refine ⟨p,dx,_,_,rfl,e,rfl,?_⟩
 nofun
 refine ⟨p,dx,_,rfl,e,zbH,?_⟩
 rw[zrT]
 exact h
def zgz (K:W.Frag):Sp:=fun vs H Q _=>∃ p dx u,vs=[.ref p,.int u]/\H p=some (.ins (cA K "Debt") dx [])/\Q .non (upd H p (.ins (cA K "Debt") dx (zap u 0 0)))
theorem zo0:zk qas qas (zi zfj):=by walk_at "sp"
theorem zqZ (S:zr K (cA K "Debt") "__init__" "Debt.__init__" zfj qas) (T:Txt K mg)  : zv P w K mg base 1 (cA K "Debt") "__init__" qas (zgz K):=by
 refine S.ok zo0 (fun vs H Q E h=>?_) (fun f cdv A outer s H vs Q E hr h=>?_)
 ·obtain ⟨p,dx,u,rfl,e,h⟩:=h
  rfl
 obtain ⟨p,dx,u,rfl,e,h⟩:=h
 refine ⟨_,(zc (zav T.zN T.zaJ (pv 0) (pv 1))
  (zc (zav T.zN T.zM (pv 0) zb)
  (zf (zav T.zN T.zX (pv 0) zb)))),?_⟩
 nofun
 refine ⟨p,dx,[],rfl,e,by decide,?_⟩
 nofun
 refine ⟨p,dx,_,rfl,zg,ycw (ycu 1) (by decide),?_⟩
 nofun
 refine ⟨p,dx,_,rfl,zg,ycw (ycu 2) (by decide),?_⟩
 rw[zag,zag]
 exact h
def zgu (K:W.Frag):Sp:=fun vs H Q _=>L2.Ee5 fun p dx u m n=>L2.Aa4 (vs=[.ref p]) (Deb K H p dx u m n) ((0<u/\u<1152921504606846976)) (Q (.int (n / u)) H)
theorem zoS:zk qaa qaa (zi zeW):=by walk_at "sp"
theorem zqv (S:zr K (cA K "Debt") "owed" "Debt.owed" zeW qaa) (T:Txt K mg)  : zv P w K mg base 1 (cA K "Debt") "owed" qaa (zgu K):=by
 refine S.ok zoS (fun vs H Q E h=>?_) (fun f cdv A outer s H vs Q E hr h=>?_)
 ·obtain ⟨p,dx,u,m,n,rfl,e,⟨u0,u1⟩,h⟩:=h
  rfl
 obtain ⟨p,dx,u,m,n,rfl,e,⟨u0,u1⟩,h⟩:=h
 refine ⟨_,(zf (zl (zh zdi (zae T.zN T.zX (pv 0)) (zae T.zN T.zaJ (pv 0))))),?_⟩
 nofun
 refine ⟨p,dx,_,_,rfl,e,rfl,?_⟩
 nofun
 refine ⟨p,dx,_,_,rfl,e,rfl,?_⟩
 nofun
 exact h
def zcV (K:W.Frag):Sp:=fun vs H Q _=>L2.Ee5 fun p dx u m n=>L2.Aa3 (vs=[.ref p]) (Deb K H p dx u m n) (Q (.int m) H)
theorem zld:zk qaa qaa (zi zb5):=by walk_at "sp"
theorem zl4 (S:zr K (cA K "Debt") "principal" "Debt.principal" zb5 qaa) (T:Txt K mg)  : zv P w K mg base 1 (cA K "Debt") "principal" qaa (zcV K):=by
 refine S.ok zld (fun vs H Q E h=>?_) (fun f cdv A outer s H vs Q E hr h=>?_)
 ·obtain ⟨p,dx,u,m,n,rfl,e,h⟩:=h
  rfl
 obtain ⟨p,dx,u,m,n,rfl,e,h⟩:=h
 refine ⟨_,(zf (zl (zae T.zN T.zM (pv 0)))),?_⟩
 nofun
 refine ⟨p,dx,_,_,rfl,e,rfl,?_⟩
 exact h
def zjz (K:W.Frag):Sp:=fun vs H Q _=>L2.Ee5 fun p dx u m n=>L2.Aa3 (vs=[.ref p]) (Deb K H p dx u m n) (Q (.int n) H)
theorem zoc:zk qaa qaa (zi zd3):=by walk_at "sp"
theorem zp6 (S:zr K (cA K "Debt") "units" "Debt.units" zd3 qaa) (T:Txt K mg)  : zv P w K mg base 1 (cA K "Debt") "units" qaa (zjz K):=by
 refine S.ok zoc (fun vs H Q E h=>?_) (fun f cdv A outer s H vs Q E hr h=>?_)
 ·obtain ⟨p,dx,u,m,n,rfl,e,h⟩:=h
  rfl
 obtain ⟨p,dx,u,m,n,rfl,e,h⟩:=h
 refine ⟨_,(zf (zl (zae T.zN T.zX (pv 0)))),?_⟩
 nofun
 refine ⟨p,dx,_,_,rfl,e,rfl,?_⟩
 exact h
def znZ (K:W.Frag):Sp:=fun vs H Q _=>∃ (a:Addr) (xs:List V) (l:List (Int × Int)),vs=[.ref a]/\SqL K H a xs/\zA K H xs l/\l.length<64/\(∀ s∈l,s.1<s.2) /\
 ∀ p ys r H',Same H H'->H p=none->H' p=some (.lst ys)->zA K H' ys r->Spans.Joined r->(∀ d,Spans.Cov r d↔Spans.Cov l d)->r.length<=l.length->Q (.ref p) H'
theorem zsk {K:W.Frag} {H:Hp} {ys:List V} {acc:List (Int × Int)} (r:zA K H ys acc) (h:0<ys.length):∃ ys' b acc' t,ys=ys'++[.ref b]/\acc=acc'++[t]/\H b=some (.tup [.int t.1,.int t.2])/\zA K H ys' acc':=by
 induction r with
 | nil=>simp at h
 | @cons p s xs l hp rr ih =>
  cases rr with
  | nil=>exact ⟨[],p,[],s,rfl,rfl,hp,.nil⟩
  | cons h2 rr2 =>
   obtain ⟨ys',b,acc',t,e1,e2,e3,e4⟩:=ih (by simp)
   exact ⟨.ref p::ys',b,s::acc',t,by rw[e1];rfl,by rw[e2];rfl,e3,.cons hp e4⟩
theorem zkK:zk ["spans", "told", "span"] ["spans"] (zi zi7):=by walk_at "sp"
theorem zub (S:Src K mg "joined" zi7 ["spans"]) (T:Txt K mg)  : Def P w K mg base 1 "joined" ["spans"] (znZ K):=by
 refine S.ok zkK (fun vs H Q E h=>?_) (fun f cdv A outer s H vs Q E hr h=>?_)
 ·obtain ⟨a,xs,l,rfl,hS,hR,hl,ok,h⟩:=h
  rfl
 obtain ⟨a,xs,l,rfl,hS,hR,hl,ok,h⟩:=h
 refine ⟨_,(zc (zj (i:=1) zkK.nd rfl (by walk_at "lc") (zU zd))
  (zc (za7 PassesOwn.never rfl (zT (zD zpI rfl T.zbG PyProof.Rows.boot_sorted (za (pv 0) zd))) (zG (i:=2) zkK.nd rfl (by walk_at "lc"))
  (zf (zV (PW.pt (zmu (zw zi6 (zD zaN rfl T.zd2 PySem.boot_len (za (pv 1) zd)) zb (nomark _)) (znz (zw zkY (zo zah (pv 2) zb (fun _ _=>rfl)) (zo zah (zo zt (pv 1) (zhf zfo zb) (fun _ _=>rfl)) zb (fun _ _=>rfl)) (nomark _)))))
  (zf (zcZ (zaj (za (zo zah (zo zt (pv 1) (zhf zfo zb) (fun _ _=>rfl)) zb (fun _ _=>rfl)) (za (zD (zbc rfl) rfl T.zc6 PyProof.Rows.boot_max (za (zo zah (zo zt (pv 1) (zhf zfo zb) (fun _ _=>rfl)) zb (fun _ _=>rfl)) (za (zo zah (pv 2) zb (fun _ _=>rfl)) zd))) zd))) (zkv (pv 1) (zhf zfo zb) set_list)))
  (zf (zY (zbK PySem.F.plainAttrs_list PySem.F.slot_list_append PySem.F.type_list_append zax (pv 1) (za (pv 2) zd)))))))
  (zf (zl (pv 1))))),?_⟩
 have sz:=sizeLine_eq
 have xl:=hR.length
 nofun
 intro p np
 have sp:=ze np (.lst [])
 nofun
 refine ⟨a,xs,l,rfl,sp.seq hS,hR.same sp,hl,?_⟩
 intro q H2 ws r nq sq eq rR pm srt
 have wl:=rR.length
 have rl:=pm.length_eq
 have s2:=sp.trans sq
 have eP2:=sq _ _ (zg (H:=H) (a:=p) (o:=.lst []))
 have npq:q≠p:=(zZ (zg (H:=H) (a:=p) (o:=.lst [])) nq).symm
 refine ⟨q,rfl,⟨_,SqL.of eq⟩,za5 (xs:=ws) (fun i σ H'=>∃ (ys:List V) (acc:List (Int × Int)) (z:Option V),(Same H H'/\H' q=some (.lst ws)/\H' p=some (.lst ys))/\(zA K H' ys acc/\zA K H' ws r)/\Stills.JInv (r.take i) acc/\acc.length<=i/\σ=[some (.ref a),some (.ref p),z])
  ⟨[],[],_,⟨s2,eq,eP2⟩,⟨.nil,rR⟩,Stills.JInv.nil,ycu _,rfl⟩ ?_ ?_ ?_⟩
 ·rintro i σ H' _ ⟨ys,acc,z,⟨_,e,_⟩,_⟩
  exact SqL.of e
 ·rintro i x σ H' hx ⟨ys,acc,z,⟨sH,eQ,eP⟩,⟨rA,rW⟩,J,al,rfl⟩
  obtain ⟨u,s,rfl,hs,ht⟩:=rW.get hx
  have il:i<r.length:=(yad.mp hs).1
  have yl:=rA.length
  have up:=ok s (pm.mem_iff.mp (yai hs))
  have tk:r.take (i+1)=r.take i++[s]:=by rw[ybc,hs];rfl
  have hP:SqL K H' p ys:=SqL.of eP
  rw[tk]
  have t1':∀ t∈acc,t.1<=s.1:=fun t htt=>by
   obtain ⟨s',hs',e⟩:=J.f t htt
   obtain ⟨j,hj,ej⟩:=yay.mp hs'
   rw[ybd] at hj
   rw[List.getElem_take] at ej
   have:=ybe.mp srt j i (by ac_rfl) il (by ac_rfl)
   rw[ej] at this
   have es:r[i]=s:=by
    have:=yaa il
    rw[hs] at this
    exact (Option.some.inj this).symm
   rw[es] at this
   ac_rfl
  nofun
  ·rename_i pos
   obtain ⟨ys',b,acc',t,e1,e2,hb,rA'⟩:=zsk rA (by ac_rfl)
   subst e1 e2
   have yl':=rA'.length
   have atl:atI (ys'++[.ref b]) (-1)=some (.ref b):=zvs (by simp) (by simp)
   have le1:=t1' t (by simp)
   refine ⟨p,_,_,_,rfl,rfl,hP,atl,?_⟩
   nofun
   ·rename_i le2
    refine ⟨p,_,_,_,rfl,rfl,hP,atl,?_⟩
    nofun
    refine ⟨p,_,_,_,rfl,rfl,hP,atl,?_⟩
    nofun
    intro u2 nu2
    obtain ⟨m,hm⟩:∃ m:Int,m=if s.2 > t.2 then s.2 else t.2:=⟨_,rfl⟩
    rw[<-hm]
    have s5:=ze nu2 (.tup [.int t.1,.int m])
    have eP':=s5 _ _ eP
    have eQ':=s5 _ _ eQ
    nofun
    have ixe:ixN (ys'++[V.ref b]).length (-1)=some (ys'.length):=by
     unfold ixN
     rw[if_neg (by decide),if_pos (by rw[yag,yau];ac_rfl),yag]
     show some ((-1:Int)+((ys'.length+1:Nat):Int)).toNat=_
     rw[show ((-1:Int)+((ys'.length+1:Nat):Int)).toNat=ys'.length by ac_rfl]
    refine ⟨p,_,_,_,rfl,rfl,eP',ixe,?_⟩
    have es:(ys'++[V.ref b]).set ys'.length (.ref u2)=ys'++[.ref u2]:=by
     rw[List.set_append_right _ _ (ycu _),ydi]
     rfl
    rw[es]
    have st2:(upd (upd H' u2 (.tup [.int t.1,.int m])) p (.lst (ys'++[.ref u2]))) u2=some (.tup [.int t.1,.int m]):=by
     rw[zp (zZ eP nu2).symm]
     exact zg
    exact ⟨ys'++[.ref u2],acc'++[(t.1,m)],_,⟨zE (sH.trans s5) np,by rw[zp npq];exact eQ',zg⟩,⟨((rA'.same s5).put eP').push (s:=(t.1,m)) st2,(rW.same s5).put eP'⟩,J.grow up le1 le2 hm,by rw[yag] at al ⊢;exact Nat.le_succ_of_le al,rfl⟩
   ·rename_i gt
    refine ⟨.inl ⟨rfl,_,SqL.of eP⟩,?_⟩
    nofun
    refine ⟨p,_,_,rfl,rfl,eP,by ac_rfl,?_⟩
    have st2:(upd H' p (.lst (ys'++[.ref b]++[.ref u]))) u=some (.tup [.int s.1,.int s.2]):=by
     rw[zp (zan ht eP (by intro z;cases z))]
     exact ht
    exact ⟨ys'++[.ref b]++[.ref u],acc'++[t]++[s],_,⟨zE sH np,by rw[zp npq];exact eQ,zg⟩,⟨(rA.put eP).push (s:=s) st2,rW.put eP⟩,J.add up (by ac_rfl),by rw[yag];exact Nat.succ_le_succ al,rfl⟩
  ·rename_i no
   have y0:ys=[]:=by cases ys with | nil=>rfl | cons _ _=>exact absurd (by simp) no
   subst y0
   have a0:acc=[]:=by cases acc with | nil=>rfl | cons _ _=>simp at yl
   subst a0
   refine ⟨.inl ⟨rfl,_,SqL.of eP⟩,?_⟩
   nofun
   refine ⟨p,_,_,rfl,rfl,eP,by simp;ac_rfl,?_⟩
   have st2:(upd H' p (.lst ([]++[.ref u]))) u=some (.tup [.int s.1,.int s.2]):=by
    rw[zp (zan ht eP (by intro z;cases z))]
    exact ht
   exact ⟨[]++[.ref u],[]++[s],_,⟨zE sH np,by rw[zp npq];exact eQ,zg⟩,⟨(zA.put .nil eP).push (s:=s) st2,rW.put eP⟩,J.begin_ up,by simp,rfl⟩
 ·rintro σ H' ⟨ys,acc,z,⟨sH,eQ,eP⟩,⟨rA,rW⟩,J,al,rfl⟩
  rw[wl,yav (ycu _)] at J
  nofun
  refine h p ys acc H' sH np eP rA J.j (fun d=>?_) (by ac_rfl)
  rw[J.c]
  exact Stills.zvr (fun s=>pm.mem_iff) d
def zln (K:W.Frag):Sp:=fun vs H Q _=>∃ x T,vs=[x]/\zvN K H x T/\Q (.bl (decide (T = "int"))) H
theorem zqD:zk ["thing"] ["thing"] (zi zga):=by walk_at "sp"
theorem zsb (S:Src K mg "is_whole" zga ["thing"]) (T:Txt K mg)  : Def P w K mg base 1 "is_whole" ["thing"] (zln K):=by
 refine S.ok zqD (fun vs H Q E h=>?_) (fun f cdv A outer s H vs Q E hr h=>?_)
 ·obtain ⟨x,Tk,rfl,hk,h⟩:=h
  rfl
 obtain ⟨x,Tk,rfl,hk,h⟩:=h
 refine ⟨_,(zf (zl (zix (zD zhR rfl T.zbY PyProof.Rows.boot_isinstance (za (pv 0) (za (zm1 (v:=.ty "int") rfl T.zdc PyProof.Rows.boot_int rfl) zd))) (zgS (zwe (zD zhR rfl T.zbY PyProof.Rows.boot_isinstance (za (pv 0) (za (zm1 (v:=.ty "bool") rfl T.zmw PyProof.Rows.boot_bool rfl) zd)))))))),?_⟩
 nofun
 refine ⟨_,_,_,_,rfl,hk.1,zu5 hk.2,?_⟩
 nofun
 ·refine ⟨_,_,_,_,rfl,hk.1,ztK hk.2,?_⟩
  nofun
  rename_i z
  exact qb h (by rcases z with rfl | rfl <;> decide)
 ·rename_i z
  exact qb h (decide_eq_false fun q=>z (.inl q))
def ziU (K:W.Frag):Sp:=fun vs H Q _=>∃ y,vs=[.int y]/\Q (.bl (Cal.leap y)) H
theorem zr7:zk qag qag (zi zhy):=by walk_at "sp"
theorem zsX (S:Src K mg "is_leap" zhy qag) (T:Txt K mg)  : Def P w K mg base 1 "is_leap" qag (ziU K):=by
 refine S.ok zr7 (fun vs H Q E h=>?_) (fun f cdv A outer s H vs Q E hr h=>?_)
 ·obtain ⟨y,rfl,h⟩:=h
  rfl
 obtain ⟨y,rfl,h⟩:=h
 refine ⟨_,(zf (zl (zix (zaK zaa (zh zI (pv 0) zb) zb (nomark _)) (zgS (zuD (zaK zwT (zh zI (pv 0) zb) zb (nomark _)) (zgS (zaK zaa (zh zI (pv 0) zb) zb (nomark _)))))))),?_⟩
 nofun
 all_goals exact qb h (by simp[Cal.leap,dI, *])
def ze4 (K:W.Frag):Sp:=fun vs H Q _=>∃ y,vs=[.int y]/\Q (.int (Cal.ny y)) H
theorem zh2:zk ["year", "years", "leaps"] qag (zi zf1):=by walk_at "sp"
theorem zr2 (S:Src K mg "new_year" zf1 qag) (T:Txt K mg)  : Def P w K mg base 1 "new_year" qag (ze4 K):=by
 refine S.ok zh2 (fun vs H Q E h=>?_) (fun f cdv A outer s H vs Q E hr h=>?_)
 ·obtain ⟨y,rfl,h⟩:=h
  rfl
 obtain ⟨y,rfl,h⟩:=h
 refine ⟨_,(zc (zj (i:=1) zh2.nd rfl (by walk_at "lc") (zh zW (pv 0) (zcL T.zbR)))
  (zc (zj (i:=2) zh2.nd rfl (by walk_at "lc") (zh zy (zh zW (zh za2 (zh zy (pv 1) zb) zb) (zh za2 (zh zy (pv 1) zb) zb)) (zh za2 (zh zy (pv 1) zb) zb)))
  (zf (zl (zh zy (zh zat zb (pv 1)) (pv 2)))))),?_⟩
 nofun
 all_goals exact qi h (by unfold Cal.ny;ac_rfl)
noncomputable def yr:Kd->Int
 | .plain=>365
 | .bank=>360
 | .thirty=>360
 | .exact=>133590
def zcs (kd:Kd) (K:W.Frag):Sp:=fun vs H Q _=>∃ a,vs=[.ref a]/\Q (.int (yr kd)) H
theorem zof:zk qaa qaa (zi zei):=by walk_at "sp"
theorem zoJ (kd:Kd) (hk:kd=.plain) (S:zr K (cA K kd.cls) "year" "Count.year" zei qaa) (T:Txt K mg)  : zv P w K mg base 1 (cA K kd.cls) "year" qaa (zcs kd K):=by
 subst hk
 refine S.ok zof (fun vs H Q E h=>?_) (fun f cdv A outer s H vs Q E hr h=>?_)
 ·obtain ⟨a,rfl,h⟩:=h
  rfl
 obtain ⟨a,rfl,h⟩:=h
 refine ⟨_,(zf (zl zb)),?_⟩
 nofun
 exact h
theorem zpg:zk qaa qaa (zi zff):=by walk_at "sp"
theorem zrf (kd:Kd) (hk:kd=.bank) (S:zr K (cA K kd.cls) "year" "Bank.year" zff qaa) (T:Txt K mg)  : zv P w K mg base 1 (cA K kd.cls) "year" qaa (zcs kd K):=by
 subst hk
 refine S.ok zpg (fun vs H Q E h=>?_) (fun f cdv A outer s H vs Q E hr h=>?_)
 ·obtain ⟨a,rfl,h⟩:=h
  rfl
 obtain ⟨a,rfl,h⟩:=h
 refine ⟨_,(zf (zl zb)),?_⟩
 nofun
 exact h
theorem znq:zk qaa qaa (zi zc4):=by walk_at "sp"
theorem zoo (kd:Kd) (hk:kd=.thirty) (S:zr K (cA K kd.cls) "year" "Thirty.year" zc4 qaa) (T:Txt K mg)  : zv P w K mg base 1 (cA K kd.cls) "year" qaa (zcs kd K):=by
 subst hk
 refine S.ok znq (fun vs H Q E h=>?_) (fun f cdv A outer s H vs Q E hr h=>?_)
 ·obtain ⟨a,rfl,h⟩:=h
  rfl
 obtain ⟨a,rfl,h⟩:=h
 refine ⟨_,(zf (zl zb)),?_⟩
 nofun
 exact h
theorem zos:zk qaa qaa (zi zdQ):=by walk_at "sp"
theorem zoT (kd:Kd) (hk:kd=.exact) (S:zr K (cA K kd.cls) "year" "Exact.year" zdQ qaa) (T:Txt K mg)  : zv P w K mg base 1 (cA K kd.cls) "year" qaa (zcs kd K):=by
 subst hk
 refine S.ok zos (fun vs H Q E h=>?_) (fun f cdv A outer s H vs Q E hr h=>?_)
 ·obtain ⟨a,rfl,h⟩:=h
  rfl
 obtain ⟨a,rfl,h⟩:=h
 refine ⟨_,(zf (zl (zh zat zb zb))),?_⟩
 nofun
 exact h
def zby (K:W.Frag):Sp:=fun vs H Q _=>L2.Ee5 fun p C dx (fs:List (Str × V)) d=>L2.Aa6 (vs=[.ref p,.int d]) (H p=some (.ins C dx fs)) (Cls K C) (zab K C "day") (fs.length<1000) (Q .non (upd H p (.ins C dx (zaI "day" (.int d) fs))))
theorem zjB:zk qac qac (zi zbo):=by walk_at "sp"
theorem zoX (x:Str) (S:zr K (cA K x) "__init__" "Entry.__init__" zbo qac) (T:Txt K mg)  : zv P w K mg base 1 (cA K x) "__init__" qac (zby K):=by
 refine S.ok zjB (fun vs H Q E h=>?_) (fun f cdv A outer s H vs Q E hr h=>?_)
 ·obtain ⟨p,C,dx,fs,d,rfl,e,hc,hn,hl,h⟩:=h
  rfl
 obtain ⟨p,C,dx,fs,d,rfl,e,hc,hn,hl,h⟩:=h
 refine ⟨_,(zf (zkp (pv 0) (pv 1) rfl)),?_⟩
 nofun
 refine ⟨p,C,dx,fs,rfl,e,hc,hn,hl,?_⟩
 exact h
theorem zn2 (S:zqo K (cA K "Entry") "__init__" "Entry.__init__" zbo qac) (T:Txt K mg)  : zm0 P w K mg base 1 (cA K "Entry") "__init__" qac (zby K):=by
 refine S.ok zjB (fun vs H Q E h=>?_) (fun f cdv A outer s H vs Q E hr h=>?_)
 ·obtain ⟨p,C,dx,fs,d,rfl,e,hc,hn,hl,h⟩:=h
  rfl
 obtain ⟨p,C,dx,fs,d,rfl,e,hc,hn,hl,h⟩:=h
 refine ⟨_,(zf (zkp (pv 0) (pv 1) rfl)),?_⟩
 nofun
 refine ⟨p,C,dx,fs,rfl,e,hc,hn,hl,?_⟩
 exact h
def zaE (k:Ek) (K:W.Frag):Sp:=fun vs H Q _=>∃ a,vs=[.ref a]/\Q (.str k.word) H
theorem zot:zk qaa qaa (zi zdX):=by walk_at "sp"
theorem zqe (kd:Ek) (hk:kd=.base) (S:zr K (cA K kd.cls) "word" "Entry.word" zdX qaa) (T:Txt K mg)  : zv P w K mg base 1 (cA K kd.cls) "word" qaa (zaE kd K):=by
 subst hk
 refine S.ok zot (fun vs H Q E h=>?_) (fun f cdv A outer s H vs Q E hr h=>?_)
 ·obtain ⟨a,rfl,h⟩:=h
  rfl
 obtain ⟨a,rfl,h⟩:=h
 refine ⟨_,(zf (zl zz)),?_⟩
 nofun
 exact h
theorem zqT:zk qaa qaa (zi zf5):=by walk_at "sp"
theorem zsi (kd:Ek) (hk:kd=.out) (S:zr K (cA K kd.cls) "word" "Out.word" zf5 qaa) (T:Txt K mg)  : zv P w K mg base 1 (cA K kd.cls) "word" qaa (zaE kd K):=by
 subst hk
 refine S.ok zqT (fun vs H Q E h=>?_) (fun f cdv A outer s H vs Q E hr h=>?_)
 ·obtain ⟨a,rfl,h⟩:=h
  rfl
 obtain ⟨a,rfl,h⟩:=h
 refine ⟨_,(zf (zl zz)),?_⟩
 nofun
 exact h
theorem zqG:zk qaa qaa (zi zf3):=by walk_at "sp"
theorem zrP (kd:Ek) (hk:kd=.fee) (S:zr K (cA K kd.cls) "word" "Fee.word" zf3 qaa) (T:Txt K mg)  : zv P w K mg base 1 (cA K kd.cls) "word" qaa (zaE kd K):=by
 subst hk
 refine S.ok zqG (fun vs H Q E h=>?_) (fun f cdv A outer s H vs Q E hr h=>?_)
 ·obtain ⟨a,rfl,h⟩:=h
  rfl
 obtain ⟨a,rfl,h⟩:=h
 refine ⟨_,(zf (zl zz)),?_⟩
 nofun
 exact h
theorem zre:zk qaa qaa (zi zf7):=by walk_at "sp"
theorem zsg (kd:Ek) (hk:kd=.pay) (S:zr K (cA K kd.cls) "word" "Pay.word" zf7 qaa) (T:Txt K mg)  : zv P w K mg base 1 (cA K kd.cls) "word" qaa (zaE kd K):=by
 subst hk
 refine S.ok zre (fun vs H Q E h=>?_) (fun f cdv A outer s H vs Q E hr h=>?_)
 ·obtain ⟨a,rfl,h⟩:=h
  rfl
 obtain ⟨a,rfl,h⟩:=h
 refine ⟨_,(zf (zl zz)),?_⟩
 nofun
 exact h
theorem zq0:zk qaa qaa (zi zgg):=by walk_at "sp"
theorem zr5 (kd:Ek) (hk:kd=.due) (S:zr K (cA K kd.cls) "word" "Due.word" zgg qaa) (T:Txt K mg)  : zv P w K mg base 1 (cA K kd.cls) "word" qaa (zaE kd K):=by
 subst hk
 refine S.ok zq0 (fun vs H Q E h=>?_) (fun f cdv A outer s H vs Q E hr h=>?_)
 ·obtain ⟨a,rfl,h⟩:=h
  rfl
 obtain ⟨a,rfl,h⟩:=h
 refine ⟨_,(zf (zl zz)),?_⟩
 nofun
 exact h
theorem zo1:zk qaa qaa (zi zeV):=by walk_at "sp"
theorem zqH (kd:Ek) (hk:kd=.turn) (S:zr K (cA K kd.cls) "word" "Turn.word" zeV qaa) (T:Txt K mg)  : zv P w K mg base 1 (cA K kd.cls) "word" qaa (zaE kd K):=by
 subst hk
 refine S.ok zo1 (fun vs H Q E h=>?_) (fun f cdv A outer s H vs Q E hr h=>?_)
 ·obtain ⟨a,rfl,h⟩:=h
  rfl
 obtain ⟨a,rfl,h⟩:=h
 refine ⟨_,(zf (zl zz)),?_⟩
 nofun
 exact h
theorem zpo:zk qaa qaa (zi zfh):=by walk_at "sp"
theorem zqE (kd:Ek) (hk:kd=.rate) (S:zr K (cA K kd.cls) "word" "Rate.word" zfh qaa) (T:Txt K mg)  : zv P w K mg base 1 (cA K kd.cls) "word" qaa (zaE kd K):=by
 subst hk
 refine S.ok zpo (fun vs H Q E h=>?_) (fun f cdv A outer s H vs Q E hr h=>?_)
 ·obtain ⟨a,rfl,h⟩:=h
  rfl
 obtain ⟨a,rfl,h⟩:=h
 refine ⟨_,(zf (zl zz)),?_⟩
 nofun
 exact h
theorem zqp:zk qaa qaa (zi zeU):=by walk_at "sp"
theorem zqV (kd:Ek) (hk:kd=.late) (S:zr K (cA K kd.cls) "word" "Late.word" zeU qaa) (T:Txt K mg)  : zv P w K mg base 1 (cA K kd.cls) "word" qaa (zaE kd K):=by
 subst hk
 refine S.ok zqp (fun vs H Q E h=>?_) (fun f cdv A outer s H vs Q E hr h=>?_)
 ·obtain ⟨a,rfl,h⟩:=h
  rfl
 obtain ⟨a,rfl,h⟩:=h
 refine ⟨_,(zf (zl zz)),?_⟩
 nofun
 exact h
theorem zoe:zk qaa qaa (zi zdG):=by walk_at "sp"
theorem zpi (kd:Ek) (hk:kd=.still) (S:zr K (cA K kd.cls) "word" "Still.word" zdG qaa) (T:Txt K mg)  : zv P w K mg base 1 (cA K kd.cls) "word" qaa (zaE kd K):=by
 subst hk
 refine S.ok zoe (fun vs H Q E h=>?_) (fun f cdv A outer s H vs Q E hr h=>?_)
 ·obtain ⟨a,rfl,h⟩:=h
  rfl
 obtain ⟨a,rfl,h⟩:=h
 refine ⟨_,(zf (zl zz)),?_⟩
 nofun
 exact h
theorem zgO:∀ {xs ys:List Int},xs.Nodup->(∀ x∈xs,x∈ys)->xs.length<=ys.length
 | [],_,_,_=>ycy _
 | x::xs,ys,nd,h=>by
  have hx:=h x yan
  obtain ⟨nx,nd'⟩:=ybo.mp nd
  have:=zgO (ys:=ys.erase x) nd' fun z hz=>(yci (fun (q:z=x)=>nx (by rw[<-q];exact hz))).mpr (h z (yam _ hz))
  rw[ybx hx] at this
  have:=ycc hx
  rw[ybg]
  omega
def zj9 (K:W.Frag):Sp:=fun vs H Q _=>∃ (p:Addr) (xs:List V) (l:List (Int × Int)),vs=[.ref p]/\H p=some (.lst xs)/\zA K H xs l/\l.length<=61 /\
 ∀ q H' ws r,H q=none->Same H H'->H' q=some (.lst ws)->zA K H' ws r->Sby.Tab r l->Q (.ref q) H'
theorem zjW:zk ["pairs", "sums", "pair"] qai (zi zjb):=by walk_at "sp"
theorem zua (S:Src K mg "summed" zjb qai) (T:Txt K mg)  : Def P w K mg base 1 "summed" qai (zj9 K):=by
 refine S.ok zjW (fun vs H Q E h=>?_) (fun f cdv A outer s H vs Q E hr h=>?_)
 ·obtain ⟨p,xs,l,rfl,ep,hR,hl,h⟩:=h
  rfl
 obtain ⟨p,xs,l,rfl,ep,hR,hl,h⟩:=h
 refine ⟨_,(zc (zj (i:=1) zjW.nd rfl (by walk_at "lc") zuc)
  (zc (za7 PassesOwn.never rfl (zT (pv 0)) (zG (i:=2) zjW.nd rfl (by walk_at "lc"))
  (zf (zvx (pv 1) (zo zah (pv 2) zb (fun _ _=>rfl)) (zh zy (zk3 (pv 1) (zo zah (pv 2) zb (fun _ _=>rfl)) zb) (zo zah (pv 2) zb (fun _ _=>rfl))))))
  (zf (zl (zD (zjS rfl) rfl T.zbG PyProof.Rows.boot_sorted (za (zp7 (pv 1)) zd)))))),?_⟩
 nofun
 intro d nd
 have sd:=ze nd (zbM P w d [])
 have ed:=zq (zbM P w d []) nd
 have small:∀ {acc:List (Int × Int)} {n:Nat},Sby.Tot acc (l.take n)->acc.length<=61:=fun {acc n} t=>by
  have:=zgO t.nd fun k hk=>(t.mem k).mp hk
  rw[yab,yab,ybd] at this
  ac_rfl
 nofun
 refine ⟨⟨_,SqL.of (sd _ _ ep)⟩,za5 (xs:=xs) (fun i σ H'=>∃ (acc:List (Int × Int)) (z:Option V),(Same H H'/\H' d=some (zbM P w d acc))/\Sby.Tot acc (l.take i)/\σ=[some (.ref p),some (.ref d),z]) ⟨[],_,⟨sd,ed⟩,by rw[List.take_zero];exact Sby.Tot.nil,rfl⟩ ?_ ?_ ?_⟩
 ·rintro i σ H' _ ⟨acc,z,⟨sH,_⟩,_⟩
  exact SqL.of (sH _ _ ep)
 ·rintro i x σ H' hx ⟨acc,z,⟨sH,eD⟩,tt,rfl⟩
  obtain ⟨t,s,rfl,hs,ht⟩:=(hR.same sH).get hx
  have al:=small tt
  nofun
  refine ⟨d,acc,rfl,eD,?_⟩
  nofun
  refine ⟨eD,?_⟩
  rw[tt.look]
  nofun
  refine ⟨d,acc,s.1,_,rfl,rfl,rfl,eD,ycz al (by decide),?_⟩
  refine ⟨zao acc s.1 (Sby.sm (l.take i) s.1+s.2),_,⟨zE sH nd,zg⟩,?_,rfl⟩
  rw[ybc,hs]
  exact tt.step s.1 s.2
 ·rintro σ H' ⟨acc,z,⟨sH,eD⟩,tt,rfl⟩
  have al:=small tt
  rw[hR.length,ycl] at tt
  nofun
  refine ⟨d,acc,rfl,eD,fun v H2 nv s2 ev=>?_⟩
  nofun
  refine ⟨v,d,acc,rfl,ev,s2 _ _ eD,by ac_rfl,fun q H3 ws r nq s3 eq hr' pm up=>?_⟩
  exact h q H3 ws r (zJ (sH.trans s2) nq) (sH.trans (s2.trans s3)) eq hr' (tt.tab pm up)
def zjE (K:W.Frag):Sp:=fun vs H Q _=>∃ (a:Addr) (A:BkA) (b:BkT),vs=[.ref a]/\zba K H a A b/\Q (.ref A.c) H
theorem zoA:zk qaa qaa (zi zeg):=by walk_at "sp"
theorem zpB (S:zr K (cA K "Book") "count" "Book.count" zeg qaa) (T:Txt K mg)  : zv P w K mg base 1 (cA K "Book") "count" qaa (zjE K):=by
 refine S.ok zoA (fun vs H Q E h=>?_) (fun f cdv A outer s H vs Q E hr h=>?_)
 ·obtain ⟨a,A,b,rfl,B,h⟩:=h
  rfl
 obtain ⟨a,A,b,rfl,B,h⟩:=h
 refine ⟨_,(zf (zl (zae T.zF T.zbL (pv 0)))),?_⟩
 nofun
 refine ⟨a,A.dx,_,_,rfl,B.ins,rfl,?_⟩
 exact h
def zf0 (K:W.Frag):Sp:=fun vs H Q _=>∃ (a:Addr) (A:BkA) (b:BkT),vs=[.ref a]/\zba K H a A b/\b.outs.length+b.fees.length+b.pays.length+b.turns.length<63 /\
 ∀ p (ns:List Int) H',H p=none->Same H H'->H' p=some (.lst (ns.map V.int))->ns.Pairwise (·<·)->(∀ d,d∈ns↔DDay b d)->ns.length<=b.outs.length+b.fees.length+b.pays.length+b.turns.length->Q (.ref p) H'
theorem zfZ:zk ["self", "days"] qaa (zi zb9):=by walk_at "sp"
theorem zl7 (S:zr K (cA K "Book") "deed_days" "Book.deed_days" zb9 qaa) (T:Txt K mg)  : zv P w K mg base 1 (cA K "Book") "deed_days" qaa (zf0 K):=by
 refine S.ok zfZ (fun vs H Q E h=>?_) (fun f cdv A outer s H vs Q E hr h=>?_)
 ·obtain ⟨a,A,b,rfl,B,osz,h⟩:=h
  rfl
 obtain ⟨a,A,b,rfl,B,osz,h⟩:=h
 refine ⟨_,(zc (zrJ (i:=1) zfZ.nd rfl rfl (ix:=[]) ⟨rfl,by decide +kernel,rfl,by decide +kernel,rfl,(show (["row"]:List Str).Nodup by decide +kernel),by walk_at "cap", by walk_at "sub", by walk_at "has"⟩ (zT (zh zbk (zh zbk (zae T.zF T.zbs (pv 0)) (zae T.zF T.zbr (pv 0))) (zae T.zF T.zbn (pv 0)))) (fun b=>(zo (zdC K) (pv 0) zb (fun _ _=>rfl))))
  (zf (zl (zD (zct rfl) rfl T.zbG PyProof.Rows.boot_sorted (za (zH (zfl rfl) rfl T.ziZ PyProof.Rows.boot_set (za (zh zbk (pv 1) (zae T.zF T.za6 (pv 0))) zd)) zd))))),?_⟩
 have sz:=sizeLine_eq
 obtain ⟨x1,e1,r1,l1⟩:=B.outs
 obtain ⟨x2,e2,r2,l2⟩:=B.fees
 obtain ⟨x3,e3,r3,l3⟩:=B.pays
 have c1:=r1.length
 have c2:=r2.length
 have c3:=r3.length
 nofun
 refine ⟨a,A.dx,_,_,rfl,B.ins,rfl,?_⟩
 nofun
 refine ⟨a,A.dx,_,_,rfl,B.ins,rfl,?_⟩
 nofun
 refine ⟨A.o,A.f,x1,x2,rfl,rfl,e1,e2,by ac_rfl,fun q3 n3=>?_⟩
 have t3:=ze n3 (.lst (x1++x2))
 have f3:=zq (.lst (x1++x2)) n3
 have B3:=B.same t3
 nofun
 refine ⟨a,A.dx,_,_,rfl,B3.ins,rfl,?_⟩
 nofun
 refine ⟨q3,A.p,x1++x2,x3,rfl,rfl,f3,t3 _ _ e3,by rw[yag];ac_rfl,fun q5 n5=>?_⟩
 have t5:=ze n5 (.lst (x1++x2++x3))
 have f5:=zq (.lst (x1++x2++x3)) n5
 have s5:=t3.trans t5
 have rX:zA K _ (x1++x2++x3) (b.outs++b.fees++b.pays):=zjg (zjg (r1.same s5) (r2.same s5)) (r3.same s5)
 have B5:=B.same s5
 generalize upd (upd H q3 (.lst (x1++x2))) q5 (.lst (x1++x2++x3))=H5 at rX s5 f5 B5 ⊢
 have xl:=rX.length
 nofun
 refine ⟨⟨_,SqL.of f5⟩,fun l6 n6=>?_⟩
 have gd:∀ (u:List (Int × Int)) (f:Int × Int->Int) (i:Nat) (s:Int × Int),u[i]?=some s->(u.map f).getD i 0=f s:=fun u f i s e=>by
  rw[yae,yaj,e];rfl
 have xl2:(x1++x2++x3).length<=63:=by rw[yag,yag];ac_rfl
 refine zkA (fun i v=>v=.int (((b.outs++b.fees++b.pays).map (·.1)).getD i 0)) (SqL.of f5) n6 (by ac_rfl) ?_ ?_
 ·intro i x H' Q' hx sH hq
  obtain ⟨p,s,rfl,e,ht⟩:=rX.get hx
  nofun
  exact ⟨p,_,_,_,rfl,rfl,SqT.of (sH _ _ ht),rfl,hq _ (by rw[gd _ _ i s e])⟩
 intro ys1 len1 hp1
 obtain rfl:=znm (ns:=(b.outs++b.fees++b.pays).map (·.1)) (by rw[len1,yab,xl]) hp1
 have s6:=ze n6 (.lst (((b.outs++b.fees++b.pays).map (·.1)).map V.int))
 have e6:=zq (.lst (((b.outs++b.fees++b.pays).map (·.1)).map V.int)) n6
 have kl:((b.outs++b.fees++b.pays).map (·.1)).length=b.outs.length+b.fees.length+b.pays.length:=by rw[yab,yag,yag]
 have B6:=B5.same s6
 generalize hD1:(b.outs++b.fees++b.pays).map (·.1)=D1 at *
 nofun
 refine ⟨a,A.dx,_,_,rfl,B6.ins,rfl,?_⟩
 nofun
 refine ⟨l6,A.t,_,_,rfl,rfl,e6,B6.turns,by rw[yab,yab];ac_rfl,fun q7 n7=>?_⟩
 have cat:D1.map V.int++b.turns.map V.int=(D1++b.turns).map V.int:=by rw[yar]
 rw[cat]
 have s7:=ze n7 (.lst ((D1++b.turns).map V.int))
 have e7:=zq (.lst ((D1++b.turns).map V.int)) n7
 have s07:=s5.trans (s6.trans s7)
 generalize upd (upd H5 l6 (.lst (D1.map V.int))) q7 (.lst ((D1++b.turns).map V.int))=H7 at s07 e7 ⊢
 have dl:(D1++b.turns).length=b.outs.length+b.fees.length+b.pays.length+b.turns.length:=by rw[yag];ac_rfl
 nofun
 refine ⟨q7,_,rfl,SqL.of e7,by ac_rfl,fun pS HS ms nPS sPS ePS2 nd mm lm=>?_⟩
 nofun
 refine ⟨pS,ms,rfl,ePS2,by ac_rfl,fun pR HR ns nPR sPR ePR pm up=>?_⟩
 refine h pR ns HR (zJ (s07.trans sPS) nPR) (s07.trans (sPS.trans sPR)) ePR (zho pm nd up) (fun d=>?_) (by rw[pm.length_eq];ac_rfl)
 rw[pm.mem_iff,mm,yac,<-hD1]
 exact Iff.rfl
def zgB (K:W.Frag):Sp:=fun vs H Q _=>∃ (a:Addr) (A:BkA) (b:BkT),vs=[.ref a]/\zba K H a A b/\∀ q xs,H q=none->zA K H xs b.dues->b.dues.length<=1000->Q (.ref q) (upd H q (.lst xs))
theorem zpm:zk qaa qaa (zi ze6):=by walk_at "sp"
theorem zrd (S:zr K (cA K "Book") "dues" "Book.dues" ze6 qaa) (T:Txt K mg)  : zv P w K mg base 1 (cA K "Book") "dues" qaa (zgB K):=by
 refine S.ok zpm (fun vs H Q E h=>?_) (fun f cdv A outer s H vs Q E hr h=>?_)
 ·obtain ⟨a,A,b,rfl,B,h⟩:=h
  rfl
 obtain ⟨a,A,b,rfl,B,h⟩:=h
 refine ⟨_,(zf (zl (zH zas rfl T.zbl PyProof.Rows.boot_list (za (zae T.zF T.zb3 (pv 0)) zd)))),?_⟩
 obtain ⟨xs,e,hR,hl⟩:=B.dues
 nofun
 refine ⟨a,A.dx,_,_,rfl,B.ins,rfl,?_⟩
 nofun
 exact ⟨A.d,xs,rfl,.inl (SqL.of e),fun q nq=>h q xs nq hR hl⟩
def zj7 (K:W.Frag):Sp:=fun vs H Q _=>∃ (a:Addr) (A:BkA) (b:BkT),vs=[.ref a]/\zba K H a A b/\∀ q xs,H q=none->zA K H xs b.fees->b.fees.length<=1000->Q (.ref q) (upd H q (.lst xs))
theorem zpy:zk qaa qaa (zi zfi):=by walk_at "sp"
theorem zq7 (S:zr K (cA K "Book") "fees" "Book.fees" zfi qaa) (T:Txt K mg)  : zv P w K mg base 1 (cA K "Book") "fees" qaa (zj7 K):=by
 refine S.ok zpy (fun vs H Q E h=>?_) (fun f cdv A outer s H vs Q E hr h=>?_)
 ·obtain ⟨a,A,b,rfl,B,h⟩:=h
  rfl
 obtain ⟨a,A,b,rfl,B,h⟩:=h
 refine ⟨_,(zf (zl (zH zas rfl T.zbl PyProof.Rows.boot_list (za (zae T.zF T.zbr (pv 0)) zd)))),?_⟩
 obtain ⟨xs,e,hR,hl⟩:=B.fees
 nofun
 refine ⟨a,A.dx,_,_,rfl,B.ins,rfl,?_⟩
 nofun
 exact ⟨A.f,xs,rfl,.inl (SqL.of e),fun q nq=>h q xs nq hR hl⟩
def zfA (K:W.Frag):Sp:=fun vs H Q _=>∃ (a:Addr) (A:BkA) (b:BkT),vs=[.ref a]/\zba K H a A b/\Q (.int b.g) H
theorem zod:zk qaa qaa (zi zd1):=by walk_at "sp"
theorem zpE (S:zr K (cA K "Book") "grace" "Book.grace" zd1 qaa) (T:Txt K mg)  : zv P w K mg base 1 (cA K "Book") "grace" qaa (zfA K):=by
 refine S.ok zod (fun vs H Q E h=>?_) (fun f cdv A outer s H vs Q E hr h=>?_)
 ·obtain ⟨a,A,b,rfl,B,h⟩:=h
  rfl
 obtain ⟨a,A,b,rfl,B,h⟩:=h
 refine ⟨_,(zf (zl (zae T.zF T.zbJ (pv 0)))),?_⟩
 nofun
 refine ⟨a,A.dx,_,_,rfl,B.ins,rfl,?_⟩
 exact h
def zfv (K:W.Frag):Sp:=fun vs H Q _=>∃ (a:Addr) (A:BkA) (b:BkT),vs=[.ref a]/\zba K H a A b/\∀ q xs,H q=none->zA K H xs b.lates->b.lates.length<=1000->Q (.ref q) (upd H q (.lst xs))
theorem zor:zk qaa qaa (zi zd9):=by walk_at "sp"
theorem zp3 (S:zr K (cA K "Book") "lates" "Book.lates" zd9 qaa) (T:Txt K mg)  : zv P w K mg base 1 (cA K "Book") "lates" qaa (zfv K):=by
 refine S.ok zor (fun vs H Q E h=>?_) (fun f cdv A outer s H vs Q E hr h=>?_)
 ·obtain ⟨a,A,b,rfl,B,h⟩:=h
  rfl
 obtain ⟨a,A,b,rfl,B,h⟩:=h
 refine ⟨_,(zf (zl (zH zas rfl T.zbl PyProof.Rows.boot_list (za (zae T.zF T.zbN (pv 0)) zd)))),?_⟩
 obtain ⟨xs,e,hR,hl⟩:=B.lates
 nofun
 refine ⟨a,A.dx,_,_,rfl,B.ins,rfl,?_⟩
 nofun
 exact ⟨A.l,xs,rfl,.inl (SqL.of e),fun q nq=>h q xs nq hR hl⟩
def zj0 (K:W.Frag):Sp:=fun vs H Q _=>∃ (a:Addr) (A:BkA) (b:BkT),vs=[.ref a]/\zba K H a A b/\∀ q xs,H q=none->zA K H xs b.outs->b.outs.length<=1000->Q (.ref q) (upd H q (.lst xs))
theorem zpX:zk qaa qaa (zi zeO):=by walk_at "sp"
theorem zqA (S:zr K (cA K "Book") "outs" "Book.outs" zeO qaa) (T:Txt K mg)  : zv P w K mg base 1 (cA K "Book") "outs" qaa (zj0 K):=by
 refine S.ok zpX (fun vs H Q E h=>?_) (fun f cdv A outer s H vs Q E hr h=>?_)
 ·obtain ⟨a,A,b,rfl,B,h⟩:=h
  rfl
 obtain ⟨a,A,b,rfl,B,h⟩:=h
 refine ⟨_,(zf (zl (zH zas rfl T.zbl PyProof.Rows.boot_list (za (zae T.zF T.zbs (pv 0)) zd)))),?_⟩
 obtain ⟨xs,e,hR,hl⟩:=B.outs
 nofun
 refine ⟨a,A.dx,_,_,rfl,B.ins,rfl,?_⟩
 nofun
 exact ⟨A.o,xs,rfl,.inl (SqL.of e),fun q nq=>h q xs nq hR hl⟩
def zdJ (K:W.Frag):Sp:=fun vs H Q _=>∃ (a:Addr) (A:BkA) (b:BkT),vs=[.ref a]/\zba K H a A b/\∀ q xs,H q=none->zA K H xs b.pays->b.pays.length<=1000->Q (.ref q) (upd H q (.lst xs))
theorem zoU:zk qaa qaa (zi zfa):=by walk_at "sp"
theorem zqC (S:zr K (cA K "Book") "pays" "Book.pays" zfa qaa) (T:Txt K mg)  : zv P w K mg base 1 (cA K "Book") "pays" qaa (zdJ K):=by
 refine S.ok zoU (fun vs H Q E h=>?_) (fun f cdv A outer s H vs Q E hr h=>?_)
 ·obtain ⟨a,A,b,rfl,B,h⟩:=h
  rfl
 obtain ⟨a,A,b,rfl,B,h⟩:=h
 refine ⟨_,(zf (zl (zH zas rfl T.zbl PyProof.Rows.boot_list (za (zae T.zF T.zbn (pv 0)) zd)))),?_⟩
 obtain ⟨xs,e,hR,hl⟩:=B.pays
 nofun
 refine ⟨a,A.dx,_,_,rfl,B.ins,rfl,?_⟩
 nofun
 exact ⟨A.p,xs,rfl,.inl (SqL.of e),fun q nq=>h q xs nq hR hl⟩
def zfX (K:W.Frag):Sp:=fun vs H Q _=>∃ (a:Addr) (A:BkA) (b:BkT),vs=[.ref a]/\zba K H a A b/\∀ q xs,H q=none->zA K H xs b.rates->b.rates.length<=1000->Q (.ref q) (upd H q (.lst xs))
theorem zog:zk qaa qaa (zi zdR):=by walk_at "sp"
theorem zp1 (S:zr K (cA K "Book") "rates" "Book.rates" zdR qaa) (T:Txt K mg)  : zv P w K mg base 1 (cA K "Book") "rates" qaa (zfX K):=by
 refine S.ok zog (fun vs H Q E h=>?_) (fun f cdv A outer s H vs Q E hr h=>?_)
 ·obtain ⟨a,A,b,rfl,B,h⟩:=h
  rfl
 obtain ⟨a,A,b,rfl,B,h⟩:=h
 refine ⟨_,(zf (zl (zH zas rfl T.zbl PyProof.Rows.boot_list (za (zae T.zF T.zbI (pv 0)) zd)))),?_⟩
 obtain ⟨xs,e,hR,hl⟩:=B.rates
 nofun
 refine ⟨a,A.dx,_,_,rfl,B.ins,rfl,?_⟩
 nofun
 exact ⟨A.r,xs,rfl,.inl (SqL.of e),fun q nq=>h q xs nq hR hl⟩
def zet (K:W.Frag):Sp:=fun vs H Q _=>∃ (a:Addr) (A:BkA) (b:BkT),vs=[.ref a]/\zba K H a A b/\∀ q xs,H q=none->zA K H xs b.spans->b.spans.length<=1000->Q (.ref q) (upd H q (.lst xs))
theorem zm2:zk qaa qaa (zi zdb):=by walk_at "sp"
theorem zoh (S:zr K (cA K "Book") "stills" "Book.stills" zdb qaa) (T:Txt K mg)  : zv P w K mg base 1 (cA K "Book") "stills" qaa (zet K):=by
 refine S.ok zm2 (fun vs H Q E h=>?_) (fun f cdv A outer s H vs Q E hr h=>?_)
 ·obtain ⟨a,A,b,rfl,B,h⟩:=h
  rfl
 obtain ⟨a,A,b,rfl,B,h⟩:=h
 refine ⟨_,(zf (zl (zH zas rfl T.zbl PyProof.Rows.boot_list (za (zae T.zF T.zce (pv 0)) zd)))),?_⟩
 obtain ⟨xs,e,hR,hl⟩:=B.spans
 nofun
 refine ⟨a,A.dx,_,_,rfl,B.ins,rfl,?_⟩
 nofun
 exact ⟨A.s,xs,rfl,.inl (SqL.of e),fun q nq=>h q xs nq hR hl⟩
def zjF (K:W.Frag):Sp:=fun vs H Q _=>∃ (a:Addr) (A:BkA) (b:BkT),vs=[.ref a]/\zba K H a A b/\∀ q,H q=none->Q (.ref q) (upd H q (.lst (b.turns.map V.int)))
theorem zn0:zk qaa qaa (zi zdP):=by walk_at "sp"
theorem zqs (S:zr K (cA K "Book") "turns" "Book.turns" zdP qaa) (T:Txt K mg)  : zv P w K mg base 1 (cA K "Book") "turns" qaa (zjF K):=by
 refine S.ok zn0 (fun vs H Q E h=>?_) (fun f cdv A outer s H vs Q E hr h=>?_)
 ·obtain ⟨a,A,b,rfl,B,h⟩:=h
  rfl
 obtain ⟨a,A,b,rfl,B,h⟩:=h
 refine ⟨_,(zf (zl (zH zas rfl T.zbl PyProof.Rows.boot_list (za (zae T.zF T.za6 (pv 0)) zd)))),?_⟩
 nofun
 refine ⟨a,A.dx,_,_,rfl,B.ins,rfl,?_⟩
 nofun
 exact ⟨A.t,_,rfl,.inl (SqL.of B.turns),fun q nq=>h q nq⟩
noncomputable def cellAt (ns:List Int) (k:Nat):Int:=ns.getD k 0
def zaD (K:W.Frag):Sp:=fun vs H Q _=>∃ (p:Addr) (ns:List Int) (k:Nat),vs=[.ref p,.int k]/\SqL K H p (ns.map V.int)/\Q (.int (cellAt ns k)) H
theorem zmq:zk qam qam (zi zcC):=by walk_at "sp"
theorem znr (S:Src K mg "_law_cell_at" zcC qam) (T:Txt K mg)  : Def P w K mg base 1 "_law_cell_at" qam (zaD K):=by
 refine S.ok zmq (fun vs H Q E h=>?_) (fun f cdv A outer s H vs Q E hr h=>?_)
 ·obtain ⟨p,ns,k,rfl,hp,h⟩:=h
  rfl
 obtain ⟨p,ns,k,rfl,hp,h⟩:=h
 refine ⟨_,(zc (zV (zw zgd (pv 1) (zD zaN rfl T.zd2 PySem.boot_len (za (pv 0) zd)) (nomark _))
  (zf (zl (zo zt (pv 0) (pv 1) (fun _ _=>rfl))))
   zO)
  (zf (zl zb))),?_⟩
 nofun
 ·rename_i q
  rw[yab] at q
  have kl:k<ns.length:=by ac_rfl
  refine ⟨p,_,_,_,rfl,rfl,hp,zak (by rw[yaj,yaa kl];rfl),?_⟩
  unfold cellAt at h
  rw[yae,yaa kl] at h
  exact h
 ·rename_i q
  rw[yab] at q
  unfold cellAt at h
  rw[yae,yas (by ac_rfl)] at h
  nofun
  exact h
def zde (K:W.Frag):Sp:=fun vs H Q _=>∃ c k,vs=[.int c,.int k]/\0<=k/\k<=20/\∀ p (ns:List Int) H',Same H H'->H p=none->H' p=some (.lst (ns.map V.int))->(ns.length:Int)=k->(∀ x∈ns,(0:Int)<=x/\x<10000000000000)->Q (.ref p) H'
theorem zaH:zk ["_law_cell", "_law_many", "_law_found", "_law_number", "_law_one", "_law_other", "_law_k"] qat (zi zed):=by walk_at "sp"
theorem zoL (S:Src K mg "_law_draws" zed qat) (T:Txt K mg)  : Def P w K mg base 1 "_law_draws" qat (zde K):=by
 refine S.ok zaH (fun vs H Q E h=>?_) (fun f cdv A outer s H vs Q E hr h=>?_)
 ·obtain ⟨c,k,rfl,k0,k1,h⟩:=h
  rfl
 obtain ⟨c,k,rfl,k0,k1,h⟩:=h
 refine ⟨_,(zc (zj (i:=2) zaH.nd rfl (by walk_at "lc") (zU zd))
  (zc (zj (i:=3) zaH.nd rfl (by walk_at "lc") (zh za2 (pv 0) zb))
  (zc (zj (i:=4) zaH.nd rfl (by walk_at "lc") (zh zy (zh zI (pv 0) zb) zb))
  (zc (zj (i:=5) zaH.nd rfl (by walk_at "lc") (zh zy (zh zI (pv 0) zb) zb))
  (zc (za7 PassesOwn.never rfl (zfn rfl T.zdy (za (pv 1) zd)) (zG (i:=6) zaH.nd rfl (by walk_at "lc"))
  (zc (zj (i:=4) zaH.nd rfl (by walk_at "lc") (zh zI (zh zat (pv 4) zb) zb))
  (zc (zj (i:=5) zaH.nd rfl (by walk_at "lc") (zh zI (zh zy (zh zat (pv 5) (pv 5)) (pv 4)) zb))
  (zf (zV (PW.pt (zmu (zw zi6 (pv 0) (zbd (v:=1000000000000000000) (by decide +kernel) ⟨by decide,by decide,by decide⟩) (nomark _)) (zmu (zw zaa (zh zI (pv 0) zb) zb (nomark _)) (znz (zw zi6 (pv 3) zb (nomark _))))))
  (zc (zY (zbK PySem.F.plainAttrs_list PySem.F.slot_list_append PySem.F.type_list_append zax (pv 2) (za (zh zI (pv 3) (zbd (v:=10000000000000) (by decide +kernel) ⟨by decide,by decide,by decide⟩)) zd)))
  (zf (zj (i:=3) zaH.nd rfl (by walk_at "lc") (zh zdi (pv 3) (zbd (v:=10000000000000) (by decide +kernel) ⟨by decide,by decide,by decide⟩)))))
  (zf (zY (zbK PySem.F.plainAttrs_list PySem.F.slot_list_append PySem.F.type_list_append zax (pv 2) (za (zh za2 (zh zI (zh zy (pv 4) (zh zat (pv 5) zb)) zb) zb) zd)))))))))
  (zf (zl (pv 2)))))))),?_⟩
 have sz:=sizeLine_eq
 nofun
 intro p np
 have sp:=ze np (.lst [])
 nofun
 have o0:0<=c % 2147483647:=ydr _ (by decide)
 have o1:c % 2147483647<2147483647:=ydq _ (by decide)
 have p0:0<=c % 998244353:=ydr _ (by decide)
 have p1:c % 998244353<998244353:=ydq _ (by decide)
 refine zhn (fun i σ H'=>∃ (ns:List Int) (a b e:Int) (z:Option V),(Same H H'/\H' p=some (.lst (ns.map V.int)))/\ns.length=i/\(∀ x∈ns,(0:Int)<=x/\x<10000000000000)/\(0<=a/\a<4294967296/\0<=b/\b<4294967296)/\σ=[some (.int c),some (.int k),some (.ref p),some (.int e),some (.int a),some (.int b),z])
  ⟨[],_,_,_,_,⟨sp,zg⟩,rfl,fun x hx=>(by cases hx),⟨by ac_rfl,by ac_rfl,by ac_rfl,by ac_rfl⟩,rfl⟩ ?_ ?_
 ·rintro i σ H' hi ⟨ns,a,b,e,z,⟨sH,eP⟩,nl,nn,⟨a0,a1,b0,b1⟩,rfl⟩
  have ab:=ydr (a*48271) (show (2147483647:Int)≠0 by decide)
  have ab1:=ydq (a*48271) (show (0:Int)<2147483647 by decide)
  have bb:=ydr (b*b+a*48271 % 2147483647) (show (998244353:Int)≠0 by decide)
  have bb1:=ydq (b*b+a*48271 % 2147483647) (show (0:Int)<998244353 by decide)
  have snoc:∀ y:Int,(0<=y/\y<10000000000000)->∀ x∈ns++[y],(0:Int)<=x/\x<10000000000000:=fun y hy x hx=>by
   rcases yac.mp hx with hx | hx
   ·exact nn x hx
   ·obtain rfl:x=y:=by simpa using hx
    exact hy
  have eP':∀ y:Int,(upd H' p (.lst (ns.map V.int++[.int y]))) p=some (.lst ((ns++[y]).map V.int)):=fun y=>by rw[yar];exact zg
  have small:∀ z:Int,(0:Int)<=z % 2147483647 / 7/\z % 2147483647 / 7<10000000000000:=fun z=>by
   have:=ydr z (show (2147483647:Int)≠0 by decide)
   have:=ydq z (show (0:Int)<2147483647 by decide)
   ac_rfl
  have i20:i<20:=by ac_rfl
  nofun
  ·refine ⟨.inl ⟨rfl,_,SqL.of eP⟩,?_⟩
   nofun
   refine ⟨p,_,_,rfl,rfl,eP,by rw[yab];ac_rfl,?_⟩
   nofun
   exact ⟨ns++[_],_,_,_,_,⟨zE sH np,eP' _⟩,by rw[yag,nl];rfl,snoc _ ⟨ydr _ (by decide),ydq _ (by decide)⟩,⟨ab,by ac_rfl,bb,by ac_rfl⟩,rfl⟩
  all_goals
   refine ⟨.inl ⟨rfl,_,SqL.of eP⟩,?_⟩
   nofun
   refine ⟨p,_,_,rfl,rfl,eP,by rw[yab];ac_rfl,?_⟩
   exact ⟨ns++[_],_,_,_,_,⟨zE sH np,eP' _⟩,by rw[yag,nl];rfl,snoc _ (small _),⟨ab,by ac_rfl,bb,by ac_rfl⟩,rfl⟩
 ·rintro σ H' ⟨ns,a,b,e,z,⟨sH,eP⟩,nl,nn,_,rfl⟩
  nofun
  exact h p ns H' sH np eP (by ac_rfl) nn
theorem ztd {ns:List Int} (h:ns.length=8):∃ a b c d e f g i,ns=[a,b,c,d,e,f,g,i]:=by
 match ns,h with
 | [a,b,c,d,e,f,g,i],_=>exact ⟨a,b,c,d,e,f,g,i,rfl⟩
def zt7 (k:Ek) (d x:Int):Prop:=zvp k d x/\(k=.still->x<=d+40)
def zjK (K:W.Frag):Sp:=fun vs H Q _=>L2.Ee4 fun (k:Ek) d p (ns:List Int)=>L2.Aa7 (vs=[.str k.word,.int d,.ref p]) (SqL K H p (ns.map V.int)) (ns.length=8) ((∀ x∈ns,(0:Int)<=x/\x<10000000000000)) ((0<=d/\d<=999999)) (k≠.base) (∀ x,zt7 k d x->Q (.int x) H)
theorem zfB:zk ["_law_word", "_law_day", "_law_xs", "_law_value_here"] qbg (zi zdY):=by walk_at "sp"
theorem zps (S:Src K mg "_law_value" zdY qbg) (T:Txt K mg)  : Def P w K mg base 1 "_law_value" qbg (zjK K):=by
 refine S.okF zfB (fun vs H Q E h=>?_) (fun f cdv A outer s H vs Q E hr h=>?_)
 ·obtain ⟨k,d,p,ns,rfl,hp,nl,nn,⟨d0,d1⟩,hk,h⟩:=h
  rfl
 obtain ⟨k,d,p,ns,rfl,hp,nl,nn,⟨d0,d1⟩,hk,h⟩:=h
 refine ⟨_,(zc (zj (i:=3) zfB.nd rfl (by walk_at "lc") (zh zy zb (zh zI (zo zt (pv 2) zb (fun _ _=>rfl)) (zo zt (zU (za zb (za zb (za (zbd (v:=1000000000) (by decide +kernel) ⟨by decide,by decide,by decide⟩) zd)))) (zh zI (zo zt (pv 2) zb (fun _ _=>rfl)) zb) (fun _ _=>rfl)))))
  (zc (zmt (zV (zw zaa (zh zI (zh za2 (zo zt (pv 2) zb (fun _ _=>rfl)) zb) zb) zb (nomark _))
  (zf (zj (i:=3) zfB.nd rfl (by walk_at "lc") (zh zy zb (zh zI (zh zat (zo zt (pv 2) zb (fun _ _=>rfl)) (zo zt (pv 2) zb (fun _ _=>rfl))) (zbd (v:=1000000000000) (by decide +kernel) ⟨by decide,by decide,by decide⟩)))))
   zO))
  (zc (zV (zw zaa (pv 0) zz (nomark _))
  (zf (zl (zo zt (zU (za (pv 3) (za (pv 3) (za (zh zW zb (pv 3)) (za zb zd))))) (zh zI (zo zt (pv 2) zb (fun _ _=>rfl)) zb) (fun _ _=>rfl))))
   zO)
  (zc (zV (zw zhl (pv 0) (zaj (za zz (za zz zd))) (by with_unfolding_all rfl))
  (zf (zl (zo zt (zU (za zb (za (zh zI (zo zt (pv 2) zb (fun _ _=>rfl)) zb) (za (zh zI (zo zt (pv 2) zb (fun _ _=>rfl)) zb) (za (zh zI (zo zt (pv 2) zb (fun _ _=>rfl)) (zh zy (zbd (v:=1000000) (by decide +kernel) ⟨by decide,by decide,by decide⟩) zb)) zd))))) (zh zI (zo zt (pv 2) zb (fun _ _=>rfl)) zb) (fun _ _=>rfl))))
   zO)
  (zc (zV (zw zaa (pv 0) zz (nomark _))
  (zf (zl (zD (za1 rfl) rfl T.zcO PyProof.Rows.boot_min (za (zbd (v:=1000000) (by decide +kernel) ⟨by decide,by decide,by decide⟩) (za (zh zy (zh zy (pv 1) zb) (zh zI (zo zt (pv 2) zb (fun _ _=>rfl)) (zo zt (zU (za zb (za zb zd))) (zh zI (zo zt (pv 2) zb (fun _ _=>rfl)) zb) (fun _ _=>rfl)))) zd)))))
   zO)
  (zf (zl (pv 3)))))))),?_⟩
 have sz:=sizeLine_eq
 obtain ⟨n0,n1,n2,n3,n4,n5,n6,n7,rfl⟩:=ztd nl
 have p3:=nn n3 (by simp)
 have p4:=nn n4 (by simp)
 have p5:=nn n5 (by simp)
 have p6:=nn n6 (by simp)
 nofun
 refine ⟨p,_,_,_,rfl,rfl,hp,rfl,?_⟩
 nofun
 intro l1 m1
 have s1:=ze m1 (.lst [.int 9,.int 5000,.int 1000000000])
 have hp1:=s1.seq hp
 have z1:SqL K (upd H l1 (.lst [.int 9,.int 5000,.int 1000000000])) l1 [.int 9,.int 5000,.int 1000000000]:=SqL.of zg
 generalize upd H l1 (.lst [.int 9,.int 5000,.int 1000000000])=H1 at s1 hp1 z1 ⊢
 have a40:=ydr n4 (show (3:Int)≠0 by decide)
 have a41:=ydq n4 (show (0:Int)<3 by decide)
 nofun
 refine ⟨p,_,_,_,rfl,rfl,hp1,rfl,?_⟩
 nofun
 obtain ⟨m,am,hm⟩:=zqf (a:=9) (b:=5000) (c:=1000000000) a40 a41
 refine ⟨l1,_,_,_,rfl,rfl,z1,am,?_⟩
 have mp:0<m:=by ac_rfl
 have b0:=ydr n3 (show m≠0 by ac_rfl)
 have b1:=ydq n3 mp
 nofun
 have t0:∀ z:Int,1<=1+z % 1000000000000/\1+z % 1000000000000<=1000000000000:=fun z=>by
  have:=ydr z (show (1000000000000:Int)≠0 by decide)
  have:=ydq z (show (0:Int)<1000000000000 by decide)
  ac_rfl
 refine ⟨fun σ' H'=>∃ w:Int,(1<=w/\w<=1000000000000)/\H'=H1/\σ'=[some (.str k.word),some (.int d),some (.ref p),some (.int w)],?_,?_⟩
 ·nofun
  refine ⟨p,_,_,_,rfl,rfl,hp1,rfl,?_⟩
  nofun
  ·refine ⟨p,_,_,_,rfl,rfl,hp1,rfl,?_⟩
   nofun
   refine ⟨p,_,_,_,rfl,rfl,hp1,rfl,?_⟩
   nofun
   exact ⟨_,t0 _,rfl,rfl⟩
  ·exact ⟨_,⟨by ac_rfl,by ac_rfl⟩,rfl,rfl⟩
 rintro σ' H' ⟨w,⟨w0,w1⟩,rfl,rfl⟩
 cases k
 all_goals first | exact absurd rfl hk | skip
 all_goals dsimp only [Ek.word]
 all_goals nofun
 case out =>
  intro t nt
  have st:=ze nt (.tup [.str "rate", .str "late"])
  nofun
  refine ⟨t,_,rfl,.inr (SqT.of zg),rfl,rfl,_,rfl,?_⟩
  nofun
  exact ⟨s1.trans st,h _ ⟨⟨w0,w1⟩,fun z=>by cases z⟩⟩
 case pay =>
  intro t nt
  have st:=ze nt (.tup [.str "rate", .str "late"])
  nofun
  refine ⟨t,_,rfl,.inr (SqT.of zg),rfl,rfl,_,rfl,?_⟩
  nofun
  exact ⟨s1.trans st,h _ ⟨⟨w0,w1⟩,fun z=>by cases z⟩⟩
 case due =>
  intro t nt
  have st:=ze nt (.tup [.str "rate", .str "late"])
  nofun
  refine ⟨t,_,rfl,.inr (SqT.of zg),rfl,rfl,_,rfl,?_⟩
  nofun
  exact ⟨s1.trans st,h _ ⟨⟨w0,w1⟩,fun z=>by cases z⟩⟩
 case turn =>
  intro t nt
  have st:=ze nt (.tup [.str "rate", .str "late"])
  nofun
  refine ⟨t,_,rfl,.inr (SqT.of zg),rfl,rfl,_,rfl,?_⟩
  nofun
  exact ⟨s1.trans st,h _ ⟨trivial,fun z=>by cases z⟩⟩
 case fee =>
  intro l2 n2
  have s2:=ze n2 (.lst [.int w,.int w,.int (0-w),.int 0])
  have hp2:=s2.seq hp1
  have z2:SqL K (upd H' l2 (.lst [.int w,.int w,.int (0-w),.int 0])) l2 [.int w,.int w,.int (0-w),.int 0]:=SqL.of zg
  generalize upd H' l2 (.lst [.int w,.int w,.int (0-w),.int 0])=H2 at s2 hp2 z2 ⊢
  have a0:=ydr n6 (show (4:Int)≠0 by decide)
  have a1:=ydq n6 (show (0:Int)<4 by decide)
  nofun
  refine ⟨p,_,_,_,rfl,rfl,hp2,rfl,?_⟩
  nofun
  obtain ⟨v,hv,hm⟩:=zfk (xs:=[.int w,.int w,.int (0-w),.int 0]) a0 (by simpa using a1)
  obtain ⟨y,rfl,y0,y1⟩:=(zaz ⟨_,rfl,by ac_rfl,by ac_rfl⟩ (zaz ⟨_,rfl,by ac_rfl,by ac_rfl⟩ (zaz ⟨_,rfl,by ac_rfl,by ac_rfl⟩ (zaz ⟨_,rfl,by ac_rfl,by ac_rfl⟩ zlY))):∀ v∈([.int w,.int w,.int (0-w),.int 0]:List V),∃ w:Int,v=.int w /\ -1000000000000<=w/\w<=1000000000000) v hm
  refine ⟨l2,_,_,_,rfl,rfl,z2,hv,?_⟩
  exact ⟨s1.trans s2,h _ ⟨⟨y0,y1⟩,fun z=>by cases z⟩⟩
 case rate =>
  intro t nt
  have st:=ze nt (.tup [.str "rate", .str "late"])
  nofun
  refine ⟨t,_,rfl,.inr (SqT.of zg),rfl,rfl,_,rfl,?_⟩
  have hpt:=st.seq hp1
  generalize upd H' t (.tup [.str "rate", .str "late"])=H3 at st hpt ⊢
  nofun
  refine ⟨p,_,_,_,rfl,rfl,hpt,rfl,?_⟩
  nofun
  refine ⟨p,_,_,_,rfl,rfl,hpt,rfl,?_⟩
  nofun
  refine ⟨p,_,_,_,rfl,rfl,hpt,rfl,?_⟩
  nofun
  intro l2 n2
  have s2:=ze n2 (.lst [.int 0,.int (n3 % 100),.int (n3 % 2000),.int (n3 % 1000001)])
  have hp2:=s2.seq hpt
  have z2:SqL K (upd H3 l2 (.lst [.int 0,.int (n3 % 100),.int (n3 % 2000),.int (n3 % 1000001)])) l2 [.int 0,.int (n3 % 100),.int (n3 % 2000),.int (n3 % 1000001)]:=SqL.of zg
  have a0:=ydr n4 (show (4:Int)≠0 by decide)
  have a1:=ydq n4 (show (0:Int)<4 by decide)
  nofun
  refine ⟨p,_,_,_,rfl,rfl,hp2,rfl,?_⟩
  nofun
  obtain ⟨v,hv,hm⟩:=zfk (xs:=[.int 0,.int (n3 % 100),.int (n3 % 2000),.int (n3 % 1000001)]) a0 (by simpa using a1)
  obtain ⟨y,rfl,y0,y1⟩:=(zaz ⟨_,rfl,by ac_rfl,by ac_rfl⟩ (zaz ⟨_,rfl,by ac_rfl,by ac_rfl⟩ (zaz ⟨_,rfl,by ac_rfl,by ac_rfl⟩ (zaz ⟨_,rfl,by ac_rfl,by ac_rfl⟩ zlY))):∀ v∈([.int 0,.int (n3 % 100),.int (n3 % 2000),.int (n3 % 1000001)]:List V),∃ w:Int,v=.int w/\0<=w/\w<=1000000) v hm
  refine ⟨l2,_,_,_,rfl,rfl,z2,hv,?_⟩
  exact ⟨s1.trans (st.trans s2),h _ ⟨⟨y0,y1⟩,fun z=>by cases z⟩⟩
 case late =>
  intro t nt
  have st:=ze nt (.tup [.str "rate", .str "late"])
  nofun
  refine ⟨t,_,rfl,.inr (SqT.of zg),rfl,rfl,_,rfl,?_⟩
  have hpt:=st.seq hp1
  generalize upd H' t (.tup [.str "rate", .str "late"])=H3 at st hpt ⊢
  nofun
  refine ⟨p,_,_,_,rfl,rfl,hpt,rfl,?_⟩
  nofun
  refine ⟨p,_,_,_,rfl,rfl,hpt,rfl,?_⟩
  nofun
  refine ⟨p,_,_,_,rfl,rfl,hpt,rfl,?_⟩
  nofun
  intro l2 n2
  have s2:=ze n2 (.lst [.int 0,.int (n3 % 100),.int (n3 % 2000),.int (n3 % 1000001)])
  have hp2:=s2.seq hpt
  have z2:SqL K (upd H3 l2 (.lst [.int 0,.int (n3 % 100),.int (n3 % 2000),.int (n3 % 1000001)])) l2 [.int 0,.int (n3 % 100),.int (n3 % 2000),.int (n3 % 1000001)]:=SqL.of zg
  have a0:=ydr n4 (show (4:Int)≠0 by decide)
  have a1:=ydq n4 (show (0:Int)<4 by decide)
  nofun
  refine ⟨p,_,_,_,rfl,rfl,hp2,rfl,?_⟩
  nofun
  obtain ⟨v,hv,hm⟩:=zfk (xs:=[.int 0,.int (n3 % 100),.int (n3 % 2000),.int (n3 % 1000001)]) a0 (by simpa using a1)
  obtain ⟨y,rfl,y0,y1⟩:=(zaz ⟨_,rfl,by ac_rfl,by ac_rfl⟩ (zaz ⟨_,rfl,by ac_rfl,by ac_rfl⟩ (zaz ⟨_,rfl,by ac_rfl,by ac_rfl⟩ (zaz ⟨_,rfl,by ac_rfl,by ac_rfl⟩ zlY))):∀ v∈([.int 0,.int (n3 % 100),.int (n3 % 2000),.int (n3 % 1000001)]:List V),∃ w:Int,v=.int w/\0<=w/\w<=1000000) v hm
  refine ⟨l2,_,_,_,rfl,rfl,z2,hv,?_⟩
  exact ⟨s1.trans (st.trans s2),h _ ⟨⟨y0,y1⟩,fun z=>by cases z⟩⟩
 case still =>
  intro t nt
  have st:=ze nt (.tup [.str "rate", .str "late"])
  nofun
  refine ⟨t,_,rfl,.inr (SqT.of zg),rfl,rfl,_,rfl,?_⟩
  have hpt:=st.seq hp1
  generalize upd H' t (.tup [.str "rate", .str "late"])=H3 at st hpt ⊢
  nofun
  refine ⟨p,_,_,_,rfl,rfl,hpt,rfl,?_⟩
  nofun
  intro l2 n2
  have s2:=ze n2 (.lst [.int 3,.int 40])
  have hp2:=s2.seq hpt
  have z2:SqL K (upd H3 l2 (.lst [.int 3,.int 40])) l2 [.int 3,.int 40]:=SqL.of zg
  generalize upd H3 l2 (.lst [.int 3,.int 40])=H2 at s2 hp2 z2 ⊢
  have a0:=ydr n4 (show (2:Int)≠0 by decide)
  have a1:=ydq n4 (show (0:Int)<2 by decide)
  nofun
  refine ⟨p,_,_,_,rfl,rfl,hp2,rfl,?_⟩
  nofun
  obtain ⟨m2,am2,hm2⟩:=zv2 (a:=3) (b:=40) a0 a1
  refine ⟨l2,_,_,_,rfl,rfl,z2,am2,?_⟩
  have c0:=ydr n3 (show m2≠0 by ac_rfl)
  have c1:=ydq n3 (show 0<m2 by ac_rfl)
  nofun
  refine ⟨s1.trans (st.trans s2),h _ ⟨⟨?_,?_⟩,fun _=>?_⟩⟩ <;> split <;> ac_rfl
def zdT (K:W.Frag):Sp:=fun vs H Q _=>∃ y,vs=[.int y]/\Q (.bl (Cal.leap y)) H
theorem zqa:zk qaq qaq (zi ze9):=by walk_at "sp"
theorem zqB (S:Src K mg "_law_leap" ze9 qaq) (T:Txt K mg)  : Def P w K mg base 1 "_law_leap" qaq (zdT K):=by
 refine S.ok zqa (fun vs H Q E h=>?_) (fun f cdv A outer s H vs Q E hr h=>?_)
 ·obtain ⟨y,rfl,h⟩:=h
  rfl
 obtain ⟨y,rfl,h⟩:=h
 refine ⟨_,(zf (zl (zix (zaK zaa (zh zI (pv 0) zb) zb (nomark _)) (zgS (zuD (zaK zi6 (zh zI (pv 0) zb) zb (nomark _)) (zgS (zaK zaa (zh zI (pv 0) zb) zb (nomark _)))))))),?_⟩
 nofun
 ·exact qb h (by have:¬ y % 100=0:=by ac_rfl
                 simp[Cal.leap,dI, *])
 ·exact qb h (by have:y % 100=0:=by ac_rfl
                 simp[Cal.leap,dI, *])
 ·exact qb h (by simp[Cal.leap,dI, *])
def zfO (K:W.Frag):Sp:=fun vs H Q _=>L2.Ee4 fun q rs (es:List Er) b=>L2.Aa6 (vs=[.ref q,.int b]) (SqL K H q rs) (RL3 H rs es) ((∀ e∈es,isW "still" e=true->b<=e.2.1/\e.2.1<=e.2.2/\e.2.2<=b+249)) (es.length<=1000) (∀ p (fl:List Bool) H',H p=none->Same H H'->H' p=some (.lst (fl.map V.bl))->zry fl b (prs "still" es)->Q (.ref p) H')
theorem zbx:zk ["_law_rows_here", "_law_base_here", "_law_flags", "_law_word", "_law_day", "_law_value_here", "_law_k"] qan (zi zd0):=by walk_at "sp"
theorem zqb (S:Src K mg "_law_still" zd0 qan) (T:Txt K mg)  : Def P w K mg base 1 "_law_still" qan (zfO K):=by
 refine S.ok zbx (fun vs H Q E h=>?_) (fun f cdv A outer s H vs Q E hr h=>?_)
 ·obtain ⟨q,rs,es,b,rfl,hq,hR,ok,hl,h⟩:=h
  rfl
 obtain ⟨q,rs,es,b,rfl,hq,hR,ok,hl,h⟩:=h
 refine ⟨_,(zc (zj (i:=2) zbx.nd rfl (by walk_at "lc") (zh zv6 (zU (za zgh zd)) zb))
  (zc (za7 PassesOwn.never rfl (zT (pv 0)) (zdU rfl (zS (zG (i:=3) zbx.nd rfl (by walk_at "lc")) (zS (zG (i:=4) zbx.nd rfl (by walk_at "lc")) (zS (zG (i:=5) zbx.nd rfl (by walk_at "lc")) zcJ))))
  (zf (zV (zw zaa (pv 3) zz (nomark _))
  (zf (za7 PassesOwn.never rfl (zsx rfl T.zdy (za (zh zW (pv 4) (pv 1)) (za (zh zW (pv 5) (pv 1)) zd))) (zG (i:=6) zbx.nd rfl (by walk_at "lc"))
  (zf (zcZ zgh (zkv (pv 2) (pv 6) set_list)))))
   zO)))
  (zf (zl (pv 2))))),?_⟩
 have sz:=sizeLine_eq
 have xl:=hR.length
 nofun
 intro p0 np0
 have s0:=ze np0 (.lst [.bl false])
 nofun
 refine ⟨p0,250,_,rfl,rfl,zg,by decide,by decide,by rw[sz];decide,fun p np=>?_⟩
 rw[ztZ,show yba ((250:Int).toNat) (V.bl false)=(yba 250 false).map V.bl from (List.map_replicate ..).symm]
 have s1:=s0.trans (ze np (.lst ((yba 250 false).map V.bl)))
 have npH:=zJ s0 np
 have eP0:=zq (.lst ((yba 250 false).map V.bl)) np
 generalize upd (upd H p0 (.lst [.bl false])) p (.lst ((yba 250 false).map V.bl))=H1 at s1 eP0 ⊢
 nofun
 refine ⟨⟨_,s1.seq hq⟩,za5 (xs:=rs) (fun i σ H'=>∃ (fl:List Bool) (y1 y2 y3 y4:Option V),(Same H H'/\H' p=some (.lst (fl.map V.bl)))/\(fl.length=250/\∀ k:Nat,k<250->fl[k]?=some (Spans.isIn (prs "still" (es.take i)) (b+k)))/\σ=[some (.ref q),some (.int b),some (.ref p),y1,y2,y3,y4])
  ⟨yba 250 false,_,_,_,_,⟨s1,eP0⟩,⟨List.length_replicate ..,fun k hk=>by rw[List.getElem?_replicate,if_pos hk];rfl⟩,rfl⟩ ?_ ?_ ?_⟩
 ·rintro i σ H' _ ⟨fl,_,_,_,_,⟨sH,_⟩,_⟩
  exact sH.seq hq
 ·rintro i x σ H' hx ⟨fl,y1,y2,y3,y4,⟨sH,eP⟩,⟨fl0,fl1⟩,rfl⟩
  obtain ⟨e,he,t,rfl,ht⟩:=(hR.same sH).get hx
  have tk:es.take (i+1)=es.take i++[e]:=by rw[ybc,he];rfl
  have em:=yai he
  nofun
  refine ⟨t,_,rfl,SqT.of ht,rfl,?_⟩
  nofun
  ·rename_i c
   have isS:isW "still" e=true:=decide_eq_true c
   obtain ⟨o1,o3,o2⟩:=ok e em isS
   have pr:prs "still" (es.take (i+1))=prs "still" (es.take i)++[e.2]:=by
    unfold prs
    rw[tk,ybb,yar,yat isS]
    rfl
   rw[pr]
   refine ⟨⟨by ac_rfl,by ac_rfl,by ac_rfl,by ac_rfl⟩,zhn (fun j σ H2=>∃ (fl':List Bool) (z:Option V),(Same H H2/\H2 p=some (.lst (fl'.map V.bl)))/\FlP fl' b (prs "still" (es.take i)) (e.2.1-b) (e.2.1-b+j)/\σ=[some (.ref q),some (.int b),some (.ref p),some (.str e.1.word),some (.int e.2.1),some (.int e.2.2),z])
    ⟨fl,_,⟨sH,eP⟩,by rw[show e.2.1-b+((0:Nat):Int)=e.2.1-b by ac_rfl];exact FlP.nil fl0 fl1,rfl⟩ ?_ ?_⟩
   ·rintro j σ H2 hj ⟨fl',z,⟨sH2,eP2⟩,F,rfl⟩
    have hj':e.2.1-b+(j:Int)<249:=by ac_rfl
    nofun
    refine ⟨p,_,_,_,rfl,rfl,eP2,zs3 (by ac_rfl) (by rw[yab,F.1];ac_rfl),?_⟩
    rw[zst]
    refine ⟨fl'.set (e.2.1-b+j).toNat true,_,⟨zE sH2 npH,zg⟩,?_,rfl⟩
    have:=F.set (by ac_rfl) (by ac_rfl)
    rw[show e.2.1-b+((j+1:Nat):Int)=e.2.1-b+j+1 by ac_rfl]
    exact this
   ·rintro σ H2 ⟨fl',z,⟨sH2,eP2⟩,F,rfl⟩
    rw[show e.2.1-b+(((e.2.2-b-(e.2.1-b)).toNat:Nat):Int)=e.2.2-b by ac_rfl] at F
    exact ⟨fl',_,_,_,_,⟨sH2,eP2⟩,⟨F.1,FlP.done F⟩,rfl⟩
  ·rename_i c
   have isS:¬ isW "still" e=true:=fun z=>c (of_decide_eq_true z)
   have pr:prs "still" (es.take (i+1))=prs "still" (es.take i):=by
    unfold prs
    rw[tk,ybb,yar,yaq isS]
    simp
   rw[pr]
   nofun
   exact ⟨fl,_,_,_,_,⟨sH,eP⟩,⟨fl0,fl1⟩,rfl⟩
 ·rintro σ H' ⟨fl,y1,y2,y3,y4,⟨sH,eP⟩,⟨fl0,fl1⟩,rfl⟩
  rw[xl,yav (ycu _)] at fl1
  nofun
  refine h p fl H' npH sH eP ⟨fl0,fl1,fun s hs=>?_⟩
  obtain ⟨e,he,rfl⟩:=yaf.mp hs
  obtain ⟨h1,h2⟩:=yao.mp he
  exact (ok e h1 h2).2.2
def zjM (K:W.Frag):Sp:=fun vs H Q _=>L2.Ee5 fun p (fl:List Bool) b d l=>L2.Aa5 (vs=[.ref p,.int b,.int d]) (SqL K H p (fl.map V.bl)) (zry fl b l) ((b<=d/\d<b+250)) (Q (.int (mvd l d)) H)
theorem zfT:zk ["_law_flags", "_law_base_here", "_law_day", "_law_k"] qbh (zi zdV):=by walk_at "sp"
theorem zp0 (S:Src K mg "_law_falls" zdV qbh) (T:Txt K mg)  : Def P w K mg base 1 "_law_falls" qbh (zjM K):=by
 refine S.ok zfT (fun vs H Q E h=>?_) (fun f cdv A outer s H vs Q E hr h=>?_)
 ·obtain ⟨p,fl,b,d,l,rfl,hS,F,⟨d0,d1⟩,h⟩:=h
  rfl
 obtain ⟨p,fl,b,d,l,rfl,hS,F,⟨d0,d1⟩,h⟩:=h
 refine ⟨_,(zc (zj (i:=3) zfT.nd rfl (by walk_at "lc") (zh zW (pv 2) (pv 1)))
  (zc (zdt PassesOwn.never (zcd (zo zt (pv 0) (pv 3) (fun _ _=>rfl)))
  (zf (zj (i:=3) zfT.nd rfl (by walk_at "lc") (zh zy (pv 3) zb))))
  (zf (zl (zh zy (pv 1) (pv 3)))))),?_⟩
 nofun
 refine ⟨fun n σ H'=>H=H'/\∃ k:Nat,σ=[some (.ref p),some (.int b),some (.int d),some (.int k)]/\d<=b+k/\k<250/\(∀ e,d<=e->e<b+k->Spans.Cov l e)/\n=250-k,⟨_,rfl,(d-b).toNat,?_,by ac_rfl,by ac_rfl,fun e h1 h2=>by ac_rfl,rfl⟩,?_⟩
 ·show [some (V.ref p),some (V.int b),some (V.int d),some (V.int (d-b))]=_
  rw[show ((d-b).toNat:Int)=d-b by ac_rfl]
 rintro n σ H' ⟨rfl,k,rfl,k0,k1,cv,rfl⟩
 nofun
 refine ⟨p,_,_,_,rfl,rfl,hS,zak (by rw[yaj,F.at_ k k1];rfl),?_⟩
 cases c:Spans.isIn l (b+k) with
 | true =>
  have hc:=Spans.zaR.mp c
  have kk:k+1<250:=by
   obtain ⟨s,hs,h1,h2⟩:=hc
   have:=F.end_ s hs
   ac_rfl
  nofun
  refine ⟨_,fun σ' H' z=>z,?_⟩
  nofun
  refine ⟨250-(k+1),by ac_rfl,rfl,k+1,rfl,by ac_rfl,kk,fun e h1 h2=>?_,rfl⟩
  rcases Int.lt_or_le e (b+k) with g | g
  ·exact cv e h1 g
  ·obtain rfl:e=b+k:=by ac_rfl
   exact hc
 | false =>
  have hc:¬ Spans.Cov l (b+k):=fun z=>by rw[Spans.zaR.mpr z] at c;cases c
  nofun
  rw[<-zoQ (m:=b+k) ⟨k0,hc,cv⟩] at h
  exact h
theorem znU:∀ {xs ys:List Int},xs.Nodup->(∀ x∈xs,x∈ys)->xs.length<=ys.length
 | [],_,_,_=>ycy _
 | x::xs,ys,nd,h=>by
  have hx:=h x yan
  obtain ⟨nx,nd'⟩:=ybo.mp nd
  have:=znU (ys:=ys.erase x) nd' fun z hz=>(yci (fun (q:z=x)=>nx (by rw[<-q];exact hz))).mpr (h z (yam _ hz))
  rw[ybx hx] at this
  have:=ycc hx
  rw[ybg]
  omega
theorem zsQ {acc l:List (Int × Int)} (t:Sby.Tot acc l):acc.length<=l.length:=by
 have:=znU t.nd fun k hk=>(t.mem k).mp hk
 rw[yab,yab] at this
 exact this
def zhd (P:Program) (w:World) (K:W.Frag):Sp:=fun vs H Q _=>L2.Ee4 fun q rs (es:List Er) ww=>L2.Aa5 (vs=[.ref q,.str ww]) (SqL K H q rs) (RL3 H rs es) (es.length<=100) (∀ d acc (ep:Nat) H',H d=none->Same H H'->H' d=some (zb4 P w d acc ep)->Sby.Tot acc (prs ww es)->Q (.ref d) H')
theorem zcx:zk ["_law_rows_here", "_law_word", "_law_sums_here", "_law_other", "_law_day", "_law_value_here"] qaj (zi zfc):=by walk_at "sp"
theorem zqF (S:Src K mg "_law_sums" zfc qaj) (T:Txt K mg)  : Def P w K mg base 1 "_law_sums" qaj (zhd P w K):=by
 refine S.ok zcx (fun vs H Q E h=>?_) (fun f cdv A outer s H vs Q E hr h=>?_)
 ·obtain ⟨q,rs,es,ww,rfl,hq,hR,hl,h⟩:=h
  rfl
 obtain ⟨q,rs,es,ww,rfl,hq,hR,hl,h⟩:=h
 refine ⟨_,(zc (zj (i:=2) zcx.nd rfl (by walk_at "lc") ztR)
  (zc (za7 PassesOwn.never rfl (zT (pv 0)) (zdU rfl (zS (zG (i:=3) zcx.nd rfl (by walk_at "lc")) (zS (zG (i:=4) zcx.nd rfl (by walk_at "lc")) (zS (zG (i:=5) zcx.nd rfl (by walk_at "lc")) zcJ))))
  (zf (zV (zw zaa (pv 3) (pv 1) (nomark _))
  (zf (zvg (pv 2) (pv 4) (zh zy (ziK (pv 2) (pv 4) zb) (pv 5))))
   zO)))
  (zf (zl (pv 2))))),?_⟩
 have sz:=sizeLine_eq
 have xl:=hR.length
 nofun
 intro d ep0 nd
 have sd:=ze nd (zb4 P w d [] ep0)
 have ed:=zq (zb4 P w d [] ep0) nd
 nofun
 refine ⟨⟨_,sd.seq hq⟩,za5 (xs:=rs) (fun i σ H'=>∃ (acc:List (Int × Int)) (ep:Nat) (z1 z2 z3:Option V),(Same H H'/\H' d=some (zb4 P w d acc ep))/\Sby.Tot acc (prs ww (es.take i))/\σ=[some (.ref q),some (.str ww),some (.ref d),z1,z2,z3])
  ⟨[],ep0,_,_,_,⟨sd,ed⟩,Sby.Tot.nil,rfl⟩ ?_ ?_ ?_⟩
 ·rintro i σ H' _ ⟨acc,ep,z1,z2,z3,⟨sH,_⟩,_⟩
  exact sH.seq hq
 ·rintro i x σ H' hx ⟨acc,ep,z1,z2,z3,⟨sH,eD⟩,tt,rfl⟩
  obtain ⟨e,he,t,rfl,ht⟩:=(hR.same sH).get hx
  have tk:es.take (i+1)=es.take i++[e]:=by rw[ybc,he];rfl
  have il:i<es.length:=(yad.mp he).1
  have al:=zsQ tt
  have pl:=zgi (w:=ww) (es:=es.take i)
  rw[ybd] at pl
  refine ⟨t,_,rfl,SqT.of ht,rfl,?_⟩
  nofun
  ·rename_i c
   have isS:isW ww e=true:=decide_eq_true c
   have pr:prs ww (es.take (i+1))=prs ww (es.take i)++[e.2]:=by
    unfold prs
    rw[tk,ybb,yar,yat isS]
    rfl
   rw[pr]
   refine ⟨d,acc,ep,rfl,eD,?_⟩
   nofun
   refine ⟨eD,?_⟩
   rw[tt.look]
   nofun
   refine ⟨d,acc,e.2.1,_,ep,rfl,rfl,rfl,eD,by ac_rfl,fun ep'=>?_⟩
   exact ⟨_,ep',_,_,_,⟨zE sH nd,zg⟩,tt.step e.2.1 e.2.2,rfl⟩
  ·rename_i c
   have isS:¬ isW ww e=true:=fun z=>c (of_decide_eq_true z)
   have pr:prs ww (es.take (i+1))=prs ww (es.take i):=by
    unfold prs
    rw[tk,ybb,yar,yaq isS]
    simp
   rw[pr]
   exact ⟨acc,ep,_,_,_,⟨sH,eD⟩,tt,rfl⟩
 ·rintro σ H' ⟨acc,ep,z1,z2,z3,⟨sH,eD⟩,tt,rfl⟩
  rw[xl,yav (ycu _)] at tt
  nofun
  exact h d acc ep H' nd sH eD tt
def zjD (K:W.Frag):Sp:=fun vs H Q _=>L2.Ee5 fun t u m n (q:Q4)=>L2.Aa4 (vs=[.int u,.int m,.int n,.ref t]) ((0<u/\u<1152921504606846976)) (SqT K H t [.int q.1,.int q.2.1,.int q.2.2.1,.int q.2.2.2]) (∀ a,H a=none->Q (.ref a) (upd H a (.tup [.int (doD u q (m,n)).1,.int (doD u q (m,n)).2])))
theorem zar:zk ["_law_unit_here", "_law_principal", "_law_units", "_law_deeds_here", "_law_lent", "_law_fees", "_law_turned", "_law_paid"] qbi (zi zdO):=by walk_at "sp"
theorem zqr (S:Src K mg "_law_deeds" zdO qbi) (T:Txt K mg)  : Def P w K mg base 1 "_law_deeds" qbi (zjD K):=by
 refine S.ok zar (fun vs H Q E h=>?_) (fun f cdv A outer s H vs Q E hr h=>?_)
 ·obtain ⟨t,u,m,n,q,rfl,⟨u0,u1⟩,ht,h⟩:=h
  rfl
 obtain ⟨t,u,m,n,q,rfl,⟨u0,u1⟩,ht,h⟩:=h
 refine ⟨_,(zc (zcZ (pv 3) (zdU rfl (zS (zG (i:=4) zar.nd rfl (by walk_at "lc")) (zS (zG (i:=5) zar.nd rfl (by walk_at "lc")) (zS (zG (i:=6) zar.nd rfl (by walk_at "lc")) (zS (zG (i:=7) zar.nd rfl (by walk_at "lc")) zcJ))))))
  (zc (zj (i:=2) zar.nd rfl (by walk_at "lc") (zh zy (pv 2) (zh zat (pv 0) (pv 4))))
  (zc (zj (i:=1) zar.nd rfl (by walk_at "lc") (zD (za1 rfl) rfl T.zcO PyProof.Rows.boot_min (za (zh zy (pv 1) (pv 4)) (za (zD (zbc rfl) rfl T.zc6 PyProof.Rows.boot_max (za zb (za (zh zdi (pv 2) (pv 0)) zd))) zd))))
  (zc (zj (i:=2) zar.nd rfl (by walk_at "lc") (zh zy (pv 2) (zh zat (pv 0) (pv 5))))
  (zc (zj (i:=1) zar.nd rfl (by walk_at "lc") (zD (za1 rfl) rfl T.zcO PyProof.Rows.boot_min (za (pv 1) (za (zD (zbc rfl) rfl T.zc6 PyProof.Rows.boot_max (za zb (za (zh zdi (pv 2) (pv 0)) zd))) zd))))
  (zc (zV (zw zaa (pv 6) zb (nomark _))
  (zf (zj (i:=1) zar.nd rfl (by walk_at "lc") (zD (zbc rfl) rfl T.zc6 PyProof.Rows.boot_max (za zb (za (zh zdi (pv 2) (pv 0)) zd)))))
   zO)
  (zc (zj (i:=2) zar.nd rfl (by walk_at "lc") (zh zW (pv 2) (zh zat (pv 0) (pv 7))))
  (zf (zl (zaj (za (zD (za1 rfl) rfl T.zcO PyProof.Rows.boot_min (za (pv 1) (za (zD (zbc rfl) rfl T.zc6 PyProof.Rows.boot_max (za zb (za (zh zdi (pv 2) (pv 0)) zd))) zd))) (za (pv 2) zd)))))))))))),?_⟩
 obtain ⟨x,f,w,y⟩:=q
 change SqT K H t [.int x,.int f,.int w,.int y] at ht
 unfold doD at h
 dsimp only at h
 nofun
 refine ⟨t,_,rfl,ht,rfl,?_⟩
 nofun
 ·rename_i c
  rw[if_pos c] at h
  unfold Dbt.step at h
  dsimp only at h
  rw[Int.mul_neg,<-Int.sub_eq_add_neg] at h
  intro a na
  exact h a na
 ·rename_i c
  rw[if_neg c] at h
  unfold Dbt.step at h
  dsimp only at h
  rw[Int.mul_neg,<-Int.sub_eq_add_neg] at h
  intro a na
  exact h a na
def ziF (P:Program) (w:World) (K:W.Frag):Sp:=fun vs H Q _=>L2.Ee4 fun q rs (es:List Er) ww=>L2.Aa5 (vs=[.ref q,.str ww]) (H q=some (.lst rs)) (RL3 H rs es) (es.length<=61) (∀ d H',H d=none->Same H H'->H' d=some (zbM P w d (zcn (prs ww es)))->Q (.ref d) H')
theorem zm6:zk qaj qaj (zi zc5):=by walk_at "sp"
theorem zoq (S:Src K mg "_law_by_day" zc5 qaj) (T:Txt K mg)  : Def P w K mg base 1 "_law_by_day" qaj (ziF P w K):=by
 refine S.ok zm6 (fun vs H Q E h=>?_) (fun f cdv A outer s H vs Q E hr h=>?_)
 ·obtain ⟨q,rs,es,ww,rfl,hq,hR,hl,h⟩:=h
  rfl
 obtain ⟨q,rs,es,ww,rfl,hq,hR,hl,h⟩:=h
 refine ⟨_,(zf (zl (zH (zcS rfl) rfl T.zfr PyProof.Rows.boot_dict (za (zrN (ix:=[1]) ⟨rfl,by decide +kernel,rfl,by decide +kernel,rfl,rfl,rfl,  (show (["_law_other", "_law_day", "_law_value_here", "_law_word"]:List Str).Nodup by decide +kernel),by walk_at "cap", by walk_at "sub", by walk_at "has"⟩ (zT (pv 0)) (fun b=>(zw zaa (pv 0) (pv 3) (nomark _))) (fun b=>(zaj (za (pv 1) (za (pv 2) zd))))) zd)))),?_⟩
 have sz:=sizeLine_eq
 have xl:=hR.length
 nofun
 refine ⟨⟨_,SqL.of hq⟩,fun l nl=>?_⟩
 refine zkI (zay (SqL.of hq)) nl (by ac_rfl) es xl.symm (fun e=>(V.str e.1.word,V.int e.2.1,V.int e.2.2)) (fun i x e hx he=>?_) (isW ww) (fun H' v e=>∃ t,v=.ref t/\H' t=some (.tup [.int e.2.1,.int e.2.2])) (fun v e H1 H2 s ⟨t,e1,e2⟩=>⟨t,e1,s _ _ e2⟩) (fun v e H1 ys zs hL ⟨t,e1,e2⟩=>⟨t,e1,by rw[zp (zan e2 hL (by intro z;cases z))];exact e2⟩) ?_ ?_ ?_
 ·obtain ⟨e',he',t,rfl,ht⟩:=hR.get hx
  obtain rfl:e'=e:=Option.some.inj (he'.symm.trans he)
  exact ⟨t,rfl,ht⟩
 ·rintro e H' Q' em sH hq'
  nofun
  exact hq' _ (Same.refl _)
 ·rintro e H' Q' em fe sH hq'
  nofun
  intro t nt
  exact hq' _ _ (ze nt _) ⟨t,rfl,zg⟩
 rintro ys H' sH eL hL
 have hP:zA K H' ys (prs ww es):=zla hL
 have pl:=zgi (w:=ww) (es:=es)
 nofun
 refine ⟨l,ys,prs ww es,rfl,eL,hP,by ac_rfl,fun d H2 nd s2 eD=>?_⟩
 exact h d H2 (zJ sH nd) (sH.trans s2) eD
theorem zmO {n k:Nat} (h:k<n):ixN n (k:Int)=some k:=by
 rw[zs3 (by omega) (by omega)]
 rfl
theorem zkL {α:Type} {R:V->α->Prop} {vs:List V} {es:List α} (h:LL R vs es):∀ n,LL R (vs.drop n) (es.drop n):=by
 induction h with
 | nil=>intro n;simp;exact .nil
 | cons h t ih =>
  intro n
  cases n with
  | zero=>exact .cons h t
  | succ n=>exact ih n
theorem ztl {α:Type} {R:V->α->Prop} {vs:List V} {es:List α} (h:LL R vs es) {v:V} {e:α} (r:R v e):∀ n,LL R (vs.set n v) (es.set n e):=by
 induction h with
 | nil=>intro n;exact .nil
 | cons h t ih =>
  intro n
  cases n with
  | zero=>exact .cons r t
  | succ n=>exact .cons h (ih n)
def ziw (K:W.Frag):Sp:=fun vs H Q _=>∃ (p po px:Addr) (ws wo:List V) (rows others:List (List Int)) (x0 x1 x2 x3 x4 x5 x6 x7:Int),vs=[.ref p,.ref po,.ref px]/\H p=some (.lst ws)/\RI H ws rows/\rows≠[]/\rows.length<=100/\(∀ r∈rows,r.length=7)/\H po=some (.lst wo)/\RI H wo others/\H px=some (.lst ([x0,x1,x2,x3,x4,x5,x6,x7].map V.int))/\(0<=x0/\0<=x1/\0<=x2/\0<=x3) /\
 ∀ q us rows' H',Same H H'->H' q=some (.lst us)->RI H' us rows'->Q (.ref q) H'
theorem zaV:zk ["_law_lines", "_law_others", "_law_xs", "_law_at", "_law_row_here", "_law_way", "_law_place", "_law_other", "_law_found"] qbj (zi zc8):=by walk_at "sp"
theorem zoj (S:Src K mg "_law_spoilt" zc8 qbj) (T:Txt K mg)  : Def P w K mg base 1 "_law_spoilt" qbj (ziw K):=by
 refine S.ok zaV (fun vs H Q E h=>?_) (fun f cdv A outer s H vs Q E hr h=>?_)
 ·obtain ⟨p,po,px,ws,wo,rows,others,x0,x1,x2,x3,x4,x5,x6,x7,rfl,ep,hR,rn,rl,r7,eo,hO,ex,⟨n0,n1,n2,n3⟩,h⟩:=h
  rfl
 obtain ⟨p,po,px,ws,wo,rows,others,x0,x1,x2,x3,x4,x5,x6,x7,rfl,ep,hR,rn,rl,r7,eo,hO,ex,⟨n0,n1,n2,n3⟩,h⟩:=h
 refine ⟨_,(zc (zj (i:=3) zaV.nd rfl (by walk_at "lc") (zh zI (zo zt (pv 2) zb (fun _ _=>rfl)) (zD zaN rfl T.zd2 PySem.boot_len (za (pv 0) zd))))
  (zc (zj (i:=4) zaV.nd rfl (by walk_at "lc") (zH zas rfl T.zbl PyProof.Rows.boot_list (za (zo zt (pv 0) (pv 3) (fun _ _=>rfl)) zd)))
  (zc (zj (i:=5) zaV.nd rfl (by walk_at "lc") (zh zI (zo zt (pv 2) zb (fun _ _=>rfl)) zb))
  (zc (zj (i:=6) zaV.nd rfl (by walk_at "lc") (zo zt (zU (za zb (za zb (za (zh zI (zo zt (pv 2) zb (fun _ _=>rfl)) zb) zd)))) (zh zI (zo zt (pv 2) zb (fun _ _=>rfl)) zb) (fun _ _=>rfl)))
  (zc (zV (zw zgd (pv 5) zb (nomark _))
  (zc (zcZ (zh zy (zo zt (pv 4) (pv 6) (fun _ _=>rfl)) (zo zt (zU (za zb (za (zhf zfo zb) (za (zbd (v:=1000000000000000000000000000000) (by decide +kernel) ⟨by decide,by decide,by decide⟩) (za (zh zW (zhf zfo zb) (zh zI (zo zt (pv 2) zb (fun _ _=>rfl)) (zbd (v:=1000000000) (by decide +kernel) ⟨by decide,by decide,by decide⟩))) zd))))) (pv 5) (fun _ _=>rfl))) (zkv (pv 4) (pv 6) set_list))
  (zf (zl (zh zbk (zh zbk (zbp zbZ (pv 0) zcf (zbv (pv 3))) (zU (za (zH zjN rfl T.zkR PyProof.Rows.boot_tuple (za (pv 4) zd)) zd))) (zbp zbZ (pv 0) (zbv (zh zy (pv 3) zb)) zcf)))))
   zO)
  (zc (zV (zw zaa (pv 5) zb (nomark _))
  (zf (zl (zh zbk (zbp zbZ (pv 0) zcf (zbv (pv 3))) (zbp zbZ (pv 0) (zbv (zh zy (pv 3) zb)) zcf))))
   zO)
  (zc (zV (zw zaa (pv 5) zb (nomark _))
  (zf (zl (zh zbk (zh zbk (zbp zbZ (pv 0) zcf (zbv (pv 3))) (zU (za (zo zt (pv 0) (pv 3) (fun _ _=>rfl)) zd))) (zbp zbZ (pv 0) (zbv (pv 3)) zcf))))
   zO)
  (zc (zV (zw zaa (pv 5) zb (nomark _))
  (zf (zl (zh zbk (zh zbk (zbp zbZ (pv 0) zcf (zbv (pv 3))) (zU (za (zh zkV (zaj (za (zh zW (zo zt (pv 4) zb (fun _ _=>rfl)) zb) (za zb (za zb (za zb (za zb zd)))))) (zH zjN rfl T.zkR PyProof.Rows.boot_tuple (za (zbp zbZ (pv 4) (zbv zb) zcf) zd))) zd))) (zbp zbZ (pv 0) (zbv (pv 3)) zcf))))
   zO)
  (zc (zV (zw zaa (pv 5) zb (nomark _))
  (zc (zj (i:=7) zaV.nd rfl (by walk_at "lc") (zh zI (zo zt (pv 2) zb (fun _ _=>rfl)) (zD zaN rfl T.zd2 PySem.boot_len (za (pv 0) zd))))
  (zc (zj (i:=8) zaV.nd rfl (by walk_at "lc") (zH zas rfl T.zbl PyProof.Rows.boot_list (za (pv 0) zd)))
  (zc (zcZ (zo zt (pv 0) (pv 7) (fun _ _=>rfl)) (zkv (pv 8) (pv 3) set_list))
  (zc (zcZ (zo zt (pv 0) (pv 3) (fun _ _=>rfl)) (zkv (pv 8) (pv 7) set_list))
  (zf (zl (pv 8)))))))
   zO)
  (zf (zl (pv 1)))))))))))),?_⟩
 have wl:=hR.length
 have rp:0<rows.length:=List.length_pos_iff.mpr rn
 have sz:=sizeLine_eq
 nofun
 refine ⟨px,_,_,_,rfl,rfl,SqL.of ex,rfl,?_⟩
 nofun
 refine ⟨p,ws,rfl,.inl (SqL.of ep),?_⟩
 nofun
 have c0:=ydr x0 (show (ws.length:Int)≠0 by ac_rfl)
 have c1:=ydq x0 (show 0<(ws.length:Int) by ac_rfl)
 obtain ⟨k,hk⟩:=ydu c0
 rw[hk] at c1
 have kl:k<ws.length:=by ac_rfl
 obtain ⟨r,hr0,t,ev,ht⟩:=hR.get (yaa kl)
 have atk:atI ws (x0 % (ws.length:Int))=some (.ref t):=by rw[hk];exact zak (by rw[yaa kl,ev])
 have rm:=yai hr0
 have l7:=r7 r rm
 refine ⟨p,_,_,_,rfl,rfl,SqL.of ep,atk,?_⟩
 nofun
 refine ⟨t,_,rfl,.inr (SqT.of ht),fun lr nlr=>?_⟩
 have s1:=ze nlr (.lst (r.map V.int))
 have e1:=zq (.lst (r.map V.int)) nlr
 have ex1:=s1 _ _ ex
 have ep1:=s1 _ _ ep
 have hR1:=hR.same s1
 have ht1:=s1 _ _ ht
 nofun
 refine ⟨px,_,_,_,rfl,rfl,SqL.of ex1,rfl,?_⟩
 nofun
 refine ⟨px,_,_,_,rfl,rfl,SqL.of ex1,rfl,?_⟩
 nofun
 intro l2 nl2
 have s2:=ze nl2 (.lst [.int 5,.int 6,.int (x2 % 7)])
 have e2:=zq (.lst [.int 5,.int 6,.int (x2 % 7)]) nl2
 have ex2:=s2 _ _ ex1
 have er2:=s2 _ _ e1
 have s12:=s1.trans s2
 have ep2:=s12 _ _ ep
 have hR2:=hR.same s12
 have ht2:=s12 _ _ ht
 have eo2:=s12 _ _ eo
 have hO2:=hO.same s12
 nofun
 refine ⟨px,_,_,_,rfl,rfl,SqL.of ex2,rfl,?_⟩
 have d0:=ydr x3 (show (3:Int)≠0 by decide)
 have d1:=ydq x3 (show (0:Int)<3 by decide)
 have f0:=ydr x2 (show (7:Int)≠0 by decide)
 have f1:=ydq x2 (show (0:Int)<7 by decide)
 obtain ⟨v2,hv2,hm2⟩:=zfk (xs:=[.int 5,.int 6,.int (x2 % 7)]) d0 (by simpa using d1)
 obtain ⟨pl,rfl,pl0,pl1⟩:=(zaz ⟨_,rfl,by ac_rfl,by ac_rfl⟩ (zaz ⟨_,rfl,by ac_rfl,by ac_rfl⟩ (zaz ⟨_,rfl,by ac_rfl,by ac_rfl⟩ zlY)):∀ v∈([.int 5,.int 6,.int (x2 % 7)]:List V),∃ w:Int,v=.int w/\0<=w/\w<7) v2 hm2
 nofun
 refine ⟨l2,_,_,_,rfl,rfl,SqL.of e2,hv2,?_⟩
 clear hv2 hm2
 obtain ⟨kp,hkp⟩:=ydu pl0
 have hi:zdv ws none (some (x0 % (ws.length:Int)))=ws.take k:=by rw[hk];exact zuQ ws k
 have lo1:zdv ws (some (x0 % (ws.length:Int)+1)) none=ws.drop (k+1):=by
  rw[hk,show ((k:Int)+1)=((k+1:Nat):Int) by ac_rfl]
  exact zkM ws (k+1)
 have lo0:zdv ws (some (x0 % (ws.length:Int))) none=ws.drop k:=by rw[hk];exact zkM ws k
 have lt:=List.length_take_le k ws
 have ld:=ybv (i:=k) (l:=ws)
 have ld1:=ybv (i:=k+1) (l:=ws)
 obtain ⟨u,hu⟩:∃ u:Int,atI (r.map V.int) pl=some (.int u):=by
  have:kp<(r.map V.int).length:=by rw[yab];ac_rfl
  rw[hkp]
  refine ⟨r.getD kp 0,zak ?_⟩
  rw[yaj,yaa (by ac_rfl)]
  simp[List.getD,show kp<r.length by ac_rfl]
 nofun
 ·rename_i wy _
  refine ⟨lr,_,_,_,rfl,rfl,SqL.of er2,hu,?_⟩
  nofun
  refine ⟨px,_,_,_,rfl,rfl,SqL.of ex2,rfl,?_⟩
  nofun
  intro l3 nl3
  have s3:=ze nl3 (.lst [.int 1,.int (-1),.int 1000000000000000000000000000000,.int (-1-x2 % 1000000000)])
  have e3:=zq (.lst [.int 1,.int (-1),.int 1000000000000000000000000000000,.int (-1-x2 % 1000000000)]) nl3
  have w0:=ydr x1 (show (9:Int)≠0 by decide)
  have wy':x1 % 9<4:=wy
  obtain ⟨v3,hv3,hm3⟩:=zfk (xs:=[.int 1,.int (-1),.int 1000000000000000000000000000000,.int (-1-x2 % 1000000000)]) w0 (by simpa using wy')
  obtain ⟨w3,rfl⟩:=(zaz ⟨_,rfl⟩ (zaz ⟨_,rfl⟩ (zaz ⟨_,rfl⟩ (zaz ⟨_,rfl⟩ zlY))):∀ v∈([.int 1,.int (-1),.int 1000000000000000000000000000000,.int (-1-x2 % 1000000000)]:List V),∃ w:Int,v=.int w) v3 hm3
  nofun
  refine ⟨l3,_,_,_,rfl,rfl,SqL.of e3,hv3,?_⟩
  clear hv3 hm3
  have er3:=s3 _ _ er2
  nofun
  refine ⟨lr,_,pl,kp,rfl,rfl,er3,(show ixN (r.map V.int).length pl=some kp by rw[yab,hkp];exact zmO (by ac_rfl)),?_⟩
  nofun
  have s4:=zE (s12.trans s3) nlr (o:=.lst ((r.map V.int).set kp (.int (u+w3))))
  have ep4:=s4 _ _ ep
  refine ⟨p,_,rfl,SqL.of ep4,fun c1 nc1=>?_⟩
  rw[hi]
  have s5:=ze nc1 (.lst (ws.take k))
  have e5:=zq (.lst (ws.take k)) nc1
  have er5:=s5 _ _ (zg (o:=.lst ((r.map V.int).set kp (.int (u+w3)))))
  nofun
  refine ⟨lr,_,rfl,.inl ⟨SqL.of er5,fun t1 nt1=>?_⟩⟩
  have s6:=ze nt1 (.tup ((r.map V.int).set kp (.int (u+w3))))
  have e6:=zq (.tup ((r.map V.int).set kp (.int (u+w3)))) nt1
  nofun
  intro c2 nc2
  have s7:=ze nc2 (.lst [.ref t1])
  have e7:=zq (.lst [.ref t1]) nc2
  nofun
  refine ⟨c1,c2,_,_,rfl,rfl,s7 _ _ (s6 _ _ e5),e7,by rw[yau];ac_rfl,fun c3 nc3=>?_⟩
  have s8:=ze nc3 (.lst (ws.take k++[.ref t1]))
  have e8:=zq (.lst (ws.take k++[.ref t1])) nc3
  have s58:=s5.trans (s6.trans (s7.trans s8))
  nofun
  refine ⟨p,_,rfl,SqL.of (s58 _ _ ep4),fun c4 nc4=>?_⟩
  rw[lo1]
  have s9:=ze nc4 (.lst (ws.drop (k+1)))
  have e9:=zq (.lst (ws.drop (k+1))) nc4
  nofun
  refine ⟨c3,c4,_,_,rfl,rfl,s9 _ _ e8,e9,by rw[yag,yau];ac_rfl,fun q nq=>?_⟩
  have s10:=ze nq (.lst (ws.take k++[.ref t1]++ws.drop (k+1)))
  have sz:=s4.trans (s58.trans (s9.trans s10))
  exact h q _ _ _ sz zg ((((hR.same sz).take k).push (e:=r.set kp (u+w3)) ⟨t1,rfl,by rw[List.map_set];exact s10 _ _ (s9 _ _ (s8 _ _ (s7 _ _ e6)))⟩).append (zkL (hR.same sz) (k+1)))
 ·refine ⟨p,_,rfl,SqL.of ep2,fun c1 nc1=>?_⟩
  rw[hi]
  have s3:=ze nc1 (.lst (ws.take k))
  have e3:=zq (.lst (ws.take k)) nc1
  have ep3:=s3 _ _ ep2
  nofun
  refine ⟨p,_,rfl,SqL.of ep3,fun c2 nc2=>?_⟩
  rw[lo1]
  have s4:=ze nc2 (.lst (ws.drop (k+1)))
  have e4:=zq (.lst (ws.drop (k+1))) nc2
  nofun
  refine ⟨c1,c2,_,_,rfl,rfl,s4 _ _ e3,e4,by ac_rfl,fun q nq=>?_⟩
  have s5:=ze nq (.lst (ws.take k++ws.drop (k+1)))
  have s25:=s3.trans (s4.trans s5)
  exact h q _ _ _ (s12.trans s25) zg (((hR2.same s25).take k).append (zkL (hR2.same s25) (k+1)))
 ·refine ⟨p,_,rfl,SqL.of ep2,fun c1 nc1=>?_⟩
  rw[hi]
  have s3:=ze nc1 (.lst (ws.take k))
  have e3:=zq (.lst (ws.take k)) nc1
  have ep3:=s3 _ _ ep2
  nofun
  refine ⟨p,_,_,_,rfl,rfl,SqL.of ep3,atk,?_⟩
  nofun
  intro c2 nc2
  have s4:=ze nc2 (.lst [.ref t])
  have e4:=zq (.lst [.ref t]) nc2
  nofun
  refine ⟨c1,c2,_,_,rfl,rfl,s4 _ _ e3,e4,by rw[yau];ac_rfl,fun c3 nc3=>?_⟩
  have s5:=ze nc3 (.lst (ws.take k++[.ref t]))
  have e5:=zq (.lst (ws.take k++[.ref t])) nc3
  have s35:=s3.trans (s4.trans s5)
  nofun
  refine ⟨p,_,rfl,SqL.of (s35 _ _ ep2),fun c4 nc4=>?_⟩
  rw[lo0]
  have s6:=ze nc4 (.lst (ws.drop k))
  have e6:=zq (.lst (ws.drop k)) nc4
  nofun
  refine ⟨c3,c4,_,_,rfl,rfl,s6 _ _ e5,e6,by rw[yag,yau];ac_rfl,fun q nq=>?_⟩
  have s7:=ze nq (.lst (ws.take k++[.ref t]++ws.drop k))
  have s27:=s35.trans (s6.trans s7)
  exact h q _ _ _ (s12.trans s27) zg ((((hR2.same s27).take k).push ⟨t,rfl,s27 _ _ ht2⟩).append (zkL (hR2.same s27) k))
 ·refine ⟨p,_,rfl,SqL.of ep2,fun c1 nc1=>?_⟩
  rw[hi]
  have s3:=ze nc1 (.lst (ws.take k))
  have e3:=zq (.lst (ws.take k)) nc1
  have ep3:=s3 _ _ ep2
  have er3:=s3 _ _ er2
  obtain ⟨a0,r1,er⟩:=List.exists_cons_of_length_pos (l:=r) (by ac_rfl)
  have at0:atI (r.map V.int) 0=some (.int a0):=by rw[er];exact zak (j:=0) rfl
  nofun
  refine ⟨lr,_,_,_,rfl,rfl,SqL.of er3,at0,?_⟩
  nofun
  intro tq ntq
  have s4:=ze ntq (.tup [.int (a0-1),.int 0,.int 0,.int 0,.int 0])
  have er4:=s4 _ _ er3
  nofun
  refine ⟨lr,_,rfl,SqL.of er4,fun c2 nc2=>?_⟩
  rw[show zdv (r.map V.int) (some 5) none=(r.map V.int).drop 5 from zkM _ 5]
  have s5:=ze nc2 (.lst ((r.map V.int).drop 5))
  have e5:=zq (.lst ((r.map V.int).drop 5)) nc2
  nofun
  refine ⟨c2,_,rfl,.inl ⟨SqL.of e5,fun t5 nt5=>?_⟩⟩
  have s6:=ze nt5 (.tup ((r.map V.int).drop 5))
  have e6:=zq (.tup ((r.map V.int).drop 5)) nt5
  nofun
  refine ⟨tq,t5,_,_,rfl,rfl,SqT.of (s6 _ _ (s5 _ _ (zq (.tup [.int (a0-1),.int 0,.int 0,.int 0,.int 0]) ntq))),SqT.of e6,by simp,by rw[ybv,yab];simp;ac_rfl,fun z=>absurd (congrArg List.length z) (by simp;ac_rfl),fun _ t6 nt6=>?_⟩
  have s7:=ze nt6 (.tup ([.int (a0-1),.int 0,.int 0,.int 0,.int 0]++(r.map V.int).drop 5))
  have e7:=zq (.tup ([.int (a0-1),.int 0,.int 0,.int 0,.int 0]++(r.map V.int).drop 5)) nt6
  nofun
  intro c3 nc3
  have s8:=ze nc3 (.lst [.ref t6])
  have e8:=zq (.lst [.ref t6]) nc3
  have s48:=s4.trans (s5.trans (s6.trans (s7.trans s8)))
  nofun
  refine ⟨c1,c3,_,_,rfl,rfl,s48 _ _ e3,e8,by rw[yau];ac_rfl,fun c4 nc4=>?_⟩
  have s9:=ze nc4 (.lst (ws.take k++[.ref t6]))
  have e9:=zq (.lst (ws.take k++[.ref t6])) nc4
  have s39:=s3.trans (s48.trans s9)
  nofun
  refine ⟨p,_,rfl,SqL.of (s39 _ _ ep2),fun c5 nc5=>?_⟩
  rw[lo0]
  have s10:=ze nc5 (.lst (ws.drop k))
  have e10:=zq (.lst (ws.drop k)) nc5
  nofun
  refine ⟨c4,c5,_,_,rfl,rfl,s10 _ _ e9,e10,by rw[yag,yau];ac_rfl,fun q nq=>?_⟩
  have s11:=ze nq (.lst (ws.take k++[.ref t6]++ws.drop k))
  have sz:=s39.trans (s10.trans s11)
  exact h q _ _ _ (s12.trans sz) zg ((((hR2.same sz).take k).push (e:=[a0-1,0,0,0,0]++r.drop 5) ⟨t6,rfl,by rw[yar,List.map_drop];exact s11 _ _ (s10 _ _ (s9 _ _ (s8 _ _ e7)))⟩).append (zkL (hR2.same sz) k))
 ·refine ⟨px,_,_,_,rfl,rfl,SqL.of ex2,rfl,?_⟩
  nofun
  refine ⟨p,ws,rfl,.inl (SqL.of ep2),?_⟩
  nofun
  have g0:=ydr x2 (show (ws.length:Int)≠0 by ac_rfl)
  have g1:=ydq x2 (show 0<(ws.length:Int) by ac_rfl)
  obtain ⟨j,hj⟩:=ydu g0
  rw[hj] at g1
  have jl:j<ws.length:=by ac_rfl
  obtain ⟨rj,hrj,tj,evj,htj⟩:=hR2.get (yaa jl)
  have atj:atI ws (x2 % (ws.length:Int))=some (.ref tj):=by rw[hj];exact zak (by rw[yaa jl,evj])
  refine ⟨p,ws,rfl,.inl (SqL.of ep2),fun c1 nc1=>?_⟩
  have s3:=ze nc1 (.lst ws)
  have e3:=zq (.lst ws) nc1
  have ep3:=s3 _ _ ep2
  nofun
  refine ⟨p,_,_,_,rfl,rfl,SqL.of ep3,atj,?_⟩
  nofun
  refine ⟨c1,ws,_,k,rfl,rfl,e3,(show ixN ws.length (x0 % (ws.length:Int))=some k by rw[hk];exact zmO kl),?_⟩
  have s4:Same _ (upd (upd _ c1 (.lst ws)) c1 (.lst (ws.set k (.ref tj)))):=zE s3 nc1
  have e4:(upd (upd (upd (upd H lr (.lst (r.map V.int))) l2 (.lst [.int 5,.int 6,.int (x2 % 7)])) c1 (.lst ws)) c1 (.lst (ws.set k (.ref tj)))) c1=some (.lst (ws.set k (.ref tj))):=zg
  have ep4:=s4 _ _ ep2
  nofun
  refine ⟨p,_,_,_,rfl,rfl,SqL.of ep4,atk,?_⟩
  nofun
  refine ⟨c1,_,_,j,rfl,rfl,e4,(show ixN (ws.set k (.ref tj)).length (x2 % (ws.length:Int))=some j by rw[List.length_set,hj];exact zmO jl),?_⟩
  nofun
  have s5:=zE s4 nc1 (o:=.lst ((ws.set k (.ref tj)).set j (.ref t)))
  exact h c1 _ ((rows.set k rj).set j r) _ (s12.trans s5) zg (ztl (ztl (hR2.same s5) ⟨tj,rfl,s5 _ _ htj⟩ k) ⟨t,rfl,s5 _ _ ht2⟩ j)
 ·exact h po wo others _ s12 eo2 hO2
def ziB (K:W.Frag):Sp:=fun vs H Q _=>L2.zvL fun p px ws rows x0 x1 x2 x3 x4 x5 x6 x7=>L2.Aa8 (vs=[.ref p,.ref px]) (H p=some (.lst ws)) (RI H ws rows) (rows≠[]) ((∀ r∈rows,r.length=7)) (H px=some (.lst ([x0,x1,x2,x3,x4,x5,x6,x7].map V.int))) ((0<=x6/\0<=x7)) (∀ t (e:Er) (r:List Int) H',Same H H'->H' t=some (.tup (zcv e.1 e.2.1 e.2.2))->r∈rows->e.2.1=r.headD 0->e.1≠.base/\e.1≠.still/\OkA e.2.1 e->Q (.ref t) H')
theorem zcT:zk ["_law_lines", "_law_xs", "_law_at", "_law_number", "_law_word"] qbk (zi zdg):=by walk_at "sp"
theorem zou (S:Src K mg "_law_forged" zdg qbk) (T:Txt K mg)  : Def P w K mg base 1 "_law_forged" qbk (ziB K):=by
 refine S.ok zcT (fun vs H Q E h=>?_) (fun f cdv A outer s H vs Q E hr h=>?_)
 ·obtain ⟨p,px,ws,rows,x0,x1,x2,x3,x4,x5,x6,x7,rfl,ep,hR,rn,r7,ex,⟨n6,n7⟩,h⟩:=h
  rfl
 obtain ⟨p,px,ws,rows,x0,x1,x2,x3,x4,x5,x6,x7,rfl,ep,hR,rn,r7,ex,⟨n6,n7⟩,h⟩:=h
 refine ⟨_,(zc (zj (i:=2) zcT.nd rfl (by walk_at "lc") (zo zah (zo zt (pv 0) (zh zI (zo zt (pv 1) zb (fun _ _=>rfl)) (zD zaN rfl T.zd2 PySem.boot_len (za (pv 0) zd))) (fun _ _=>rfl)) zb (fun _ _=>rfl)))
  (zc (zj (i:=3) zcT.nd rfl (by walk_at "lc") (zh zy zb (zh zI (zh za2 (zo zt (pv 1) zb (fun _ _=>rfl)) zb) (zo zt (zU (za zb (za (zbd (v:=1000000000) (by decide +kernel) ⟨by decide,by decide,by decide⟩) zd))) (zh zI (zh za2 (zo zt (pv 1) zb (fun _ _=>rfl)) zb) zb) (fun _ _=>rfl)))))
  (zc (zj (i:=4) zcT.nd rfl (by walk_at "lc") (zo zt (zU (za zz (za zz (za zz (za zz (za zz zd)))))) (zh zI (zo zt (pv 1) zb (fun _ _=>rfl)) zb) (fun _ _=>rfl)))
  (zf (zl (zaj (za (pv 4) (za (pv 2) (za (zo zt (zU (za (pv 3) (za (zh zW zb (pv 3)) (za (pv 3) (za (pv 3) (za zb zd)))))) (zh zI (zo zt (pv 1) zb (fun _ _=>rfl)) zb) (fun _ _=>rfl)) zd))))))))),?_⟩
 have wl:=hR.length
 have rl:0<rows.length:=List.length_pos_iff.mpr rn
 nofun
 refine ⟨px,_,_,_,rfl,rfl,SqL.of ex,rfl,?_⟩
 nofun
 refine ⟨p,ws,rfl,.inl (SqL.of ep),?_⟩
 nofun
 have c0:=ydr x6 (show (ws.length:Int)≠0 by ac_rfl)
 have c1:=ydq x6 (show 0<(ws.length:Int) by ac_rfl)
 obtain ⟨v,hv,hvm⟩:=zfk (xs:=ws) c0 c1
 obtain ⟨j,hj⟩:=ybi.mp hvm
 obtain ⟨r,hr0,t,rfl,ht⟩:=hR.get hj
 have rm:=yai hr0
 have l7:=r7 r rm
 obtain ⟨at_,r1,rfl⟩:=List.exists_cons_of_length_pos (l:=r) (by ac_rfl)
 refine ⟨p,_,_,_,rfl,rfl,SqL.of ep,hv,?_⟩
 refine ⟨t,_,_,_,rfl,rfl,SqT.of ht,(show atI ((at_::r1).map V.int) 0=some (.int at_) from zak (j:=0) rfl),?_⟩
 nofun
 refine ⟨px,_,_,_,rfl,rfl,SqL.of ex,rfl,?_⟩
 nofun
 intro l1 nl1
 have s1:=ze nl1 (.lst [.int 9,.int 1000000000])
 have e1:=zq (.lst [.int 9,.int 1000000000]) nl1
 have ex1:=s1 _ _ ex
 nofun
 refine ⟨px,_,_,_,rfl,rfl,SqL.of ex1,rfl,?_⟩
 have d0:=ydr (x7 / 5) (show (2:Int)≠0 by decide)
 have d1:=ydq (x7 / 5) (show (0:Int)<2 by decide)
 obtain ⟨v2,hv2,hm2⟩:=zfk (xs:=[.int 9,.int 1000000000]) d0 (by simpa using d1)
 obtain ⟨w2,rfl,wp⟩:=(zaz ⟨_,rfl,by ac_rfl⟩ (zaz ⟨_,rfl,by ac_rfl⟩ zlY):∀ v∈([.int 9,.int 1000000000]:List V),∃ w:Int,v=.int w/\0<w) v2 hm2
 nofun
 refine ⟨l1,_,_,_,rfl,rfl,SqL.of e1,hv2,?_⟩
 have m0:=ydr (x7 / 8) (show w2≠0 by ac_rfl)
 nofun
 generalize x7 / 8 % w2=nb at m0 ⊢
 intro l3 nl3
 have s3:=ze nl3 (.lst [.str "fee", .str "fee", .str "out", .str "pay", .str "turn"])
 have e3:=zq (.lst [.str "fee", .str "fee", .str "out", .str "pay", .str "turn"]) nl3
 have ex3:=s3 _ _ ex1
 nofun
 refine ⟨px,_,_,_,rfl,rfl,SqL.of ex3,rfl,?_⟩
 nofun
 have h5:x7 % 5=0\/x7 % 5=1\/x7 % 5=2\/x7 % 5=3\/x7 % 5=4:=by ac_rfl
 rcases h5 with e | e | e | e | e
 ·refine ⟨l3,_,_,_,rfl,rfl,SqL.of e3,(show atI ([.str "fee", .str "fee", .str "out", .str "pay", .str "turn"]:List V) (x7 % 5)=some (.str "fee") by rw[e];rfl),?_⟩
  nofun
  intro l4 nl4
  have s4:=ze nl4 (.lst [.int (1+nb),.int (0-(1+nb)),.int (1+nb),.int (1+nb),.int 0])
  have e4:=zq (.lst [.int (1+nb),.int (0-(1+nb)),.int (1+nb),.int (1+nb),.int 0]) nl4
  have ex4:=s4 _ _ ex3
  nofun
  refine ⟨px,_,_,_,rfl,rfl,SqL.of ex4,rfl,?_⟩
  nofun
  refine ⟨l4,_,_,_,rfl,rfl,SqL.of e4,(show atI ([.int (1+nb),.int (0-(1+nb)),.int (1+nb),.int (1+nb),.int 0]:List V) (x7 % 5)=some (.int (1+nb)) by rw[e];rfl),?_⟩
  nofun
  intro tt ntt
  have s5:=ze ntt (.tup [.str "fee", .int at_,.int (1+nb)])
  exact h tt (.fee,at_,1+nb) (at_::r1) _ (s1.trans (s3.trans (s4.trans s5))) zg rm rfl ⟨(by intro z;cases z),(by intro z;cases z),⟨yds _,fun z=>absurd (show isW "rate" (.fee,0,0)=true from z) (by decide),fun z=>absurd (show isW "late" (.fee,0,0)=true from z) (by decide),fun z=>absurd (show isW "out" (.fee,0,0)=true from z) (by decide)⟩⟩
 ·refine ⟨l3,_,_,_,rfl,rfl,SqL.of e3,(show atI ([.str "fee", .str "fee", .str "out", .str "pay", .str "turn"]:List V) (x7 % 5)=some (.str "fee") by rw[e];rfl),?_⟩
  nofun
  intro l4 nl4
  have s4:=ze nl4 (.lst [.int (1+nb),.int (0-(1+nb)),.int (1+nb),.int (1+nb),.int 0])
  have e4:=zq (.lst [.int (1+nb),.int (0-(1+nb)),.int (1+nb),.int (1+nb),.int 0]) nl4
  have ex4:=s4 _ _ ex3
  nofun
  refine ⟨px,_,_,_,rfl,rfl,SqL.of ex4,rfl,?_⟩
  nofun
  refine ⟨l4,_,_,_,rfl,rfl,SqL.of e4,(show atI ([.int (1+nb),.int (0-(1+nb)),.int (1+nb),.int (1+nb),.int 0]:List V) (x7 % 5)=some (.int (0-(1+nb))) by rw[e];rfl),?_⟩
  nofun
  intro tt ntt
  have s5:=ze ntt (.tup [.str "fee", .int at_,.int (0-(1+nb))])
  exact h tt (.fee,at_,0-(1+nb)) (at_::r1) _ (s1.trans (s3.trans (s4.trans s5))) zg rm rfl ⟨(by intro z;cases z),(by intro z;cases z),⟨yds _,fun z=>absurd (show isW "rate" (.fee,0,0)=true from z) (by decide),fun z=>absurd (show isW "late" (.fee,0,0)=true from z) (by decide),fun z=>absurd (show isW "out" (.fee,0,0)=true from z) (by decide)⟩⟩
 ·refine ⟨l3,_,_,_,rfl,rfl,SqL.of e3,(show atI ([.str "fee", .str "fee", .str "out", .str "pay", .str "turn"]:List V) (x7 % 5)=some (.str "out") by rw[e];rfl),?_⟩
  nofun
  intro l4 nl4
  have s4:=ze nl4 (.lst [.int (1+nb),.int (0-(1+nb)),.int (1+nb),.int (1+nb),.int 0])
  have e4:=zq (.lst [.int (1+nb),.int (0-(1+nb)),.int (1+nb),.int (1+nb),.int 0]) nl4
  have ex4:=s4 _ _ ex3
  nofun
  refine ⟨px,_,_,_,rfl,rfl,SqL.of ex4,rfl,?_⟩
  nofun
  refine ⟨l4,_,_,_,rfl,rfl,SqL.of e4,(show atI ([.int (1+nb),.int (0-(1+nb)),.int (1+nb),.int (1+nb),.int 0]:List V) (x7 % 5)=some (.int (1+nb)) by rw[e];rfl),?_⟩
  nofun
  intro tt ntt
  have s5:=ze ntt (.tup [.str "out", .int at_,.int (1+nb)])
  exact h tt (.out,at_,1+nb) (at_::r1) _ (s1.trans (s3.trans (s4.trans s5))) zg rm rfl ⟨(by intro z;cases z),(by intro z;cases z),⟨yds _,fun z=>absurd (show isW "rate" (.out,0,0)=true from z) (by decide),fun z=>absurd (show isW "late" (.out,0,0)=true from z) (by decide),fun z=>by show 0<=1+nb;ac_rfl⟩⟩
 ·refine ⟨l3,_,_,_,rfl,rfl,SqL.of e3,(show atI ([.str "fee", .str "fee", .str "out", .str "pay", .str "turn"]:List V) (x7 % 5)=some (.str "pay") by rw[e];rfl),?_⟩
  nofun
  intro l4 nl4
  have s4:=ze nl4 (.lst [.int (1+nb),.int (0-(1+nb)),.int (1+nb),.int (1+nb),.int 0])
  have e4:=zq (.lst [.int (1+nb),.int (0-(1+nb)),.int (1+nb),.int (1+nb),.int 0]) nl4
  have ex4:=s4 _ _ ex3
  nofun
  refine ⟨px,_,_,_,rfl,rfl,SqL.of ex4,rfl,?_⟩
  nofun
  refine ⟨l4,_,_,_,rfl,rfl,SqL.of e4,(show atI ([.int (1+nb),.int (0-(1+nb)),.int (1+nb),.int (1+nb),.int 0]:List V) (x7 % 5)=some (.int (1+nb)) by rw[e];rfl),?_⟩
  nofun
  intro tt ntt
  have s5:=ze ntt (.tup [.str "pay", .int at_,.int (1+nb)])
  exact h tt (.pay,at_,1+nb) (at_::r1) _ (s1.trans (s3.trans (s4.trans s5))) zg rm rfl ⟨(by intro z;cases z),(by intro z;cases z),⟨yds _,fun z=>absurd (show isW "rate" (.pay,0,0)=true from z) (by decide),fun z=>absurd (show isW "late" (.pay,0,0)=true from z) (by decide),fun z=>absurd (show isW "out" (.pay,0,0)=true from z) (by decide)⟩⟩
 ·refine ⟨l3,_,_,_,rfl,rfl,SqL.of e3,(show atI ([.str "fee", .str "fee", .str "out", .str "pay", .str "turn"]:List V) (x7 % 5)=some (.str "turn") by rw[e];rfl),?_⟩
  nofun
  intro l4 nl4
  have s4:=ze nl4 (.lst [.int (1+nb),.int (0-(1+nb)),.int (1+nb),.int (1+nb),.int 0])
  have e4:=zq (.lst [.int (1+nb),.int (0-(1+nb)),.int (1+nb),.int (1+nb),.int 0]) nl4
  have ex4:=s4 _ _ ex3
  nofun
  refine ⟨px,_,_,_,rfl,rfl,SqL.of ex4,rfl,?_⟩
  nofun
  refine ⟨l4,_,_,_,rfl,rfl,SqL.of e4,(show atI ([.int (1+nb),.int (0-(1+nb)),.int (1+nb),.int (1+nb),.int 0]:List V) (x7 % 5)=some (.int (0)) by rw[e];rfl),?_⟩
  nofun
  intro tt ntt
  have s5:=ze ntt (.tup [.str "turn", .int at_,.int (0)])
  exact h tt (.turn,at_,0) (at_::r1) _ (s1.trans (s3.trans (s4.trans s5))) zg rm rfl ⟨(by intro z;cases z),(by intro z;cases z),⟨yds _,fun z=>absurd (show isW "rate" (.turn,0,0)=true from z) (by decide),fun z=>absurd (show isW "late" (.turn,0,0)=true from z) (by decide),fun z=>absurd (show isW "out" (.turn,0,0)=true from z) (by decide)⟩⟩
def zlt (K:W.Frag):Sp:=fun vs H Q _=>L2.Ee4 fun a xs (t:List (Int × Int)) d=>L2.Aa6 (vs=[.ref a,.int d]) (SqL K H a xs) (zA K H xs t) ((t.Pairwise fun s u=>s.1<u.1)) ((∀ s∈t,0<=s.1)) (Q (.int (Sums.valOf t d)) H)
theorem zls:zk ["table", "day", "many"] qbl (zi zge):=by walk_at "sp"
theorem zrS (S:Src K mg "value_at" zge qbl) (T:Txt K mg) (zcH:Def P w K mg base 1 "begun" qar (ziQ K)):Def P w K mg base 2 "value_at" qbl (zlt K):=by
 refine S.ok zls (fun vs H Q E h=>?_) (fun f cdv A outer s H vs Q E hr h=>?_)
 ·obtain ⟨a,xs,t,d,rfl,hS,hR,up,t0,h⟩:=h
  rfl
 obtain ⟨a,xs,t,d,rfl,hS,hR,up,t0,h⟩:=h
 refine ⟨_,(zc (zj (i:=2) zls.nd rfl (by walk_at "lc") (zu zcH hr (za (pv 0) (za (pv 1) zd))))
  (zc (zV (zw zaa (pv 2) zb (nomark _))
  (zf (zl zb))
   zO)
  (zf (zl (zo zah (zo zt (pv 0) (zh zW (pv 2) zb) (fun _ _=>rfl)) zb (fun _ _=>rfl)))))),?_⟩
 have xl:=hR.length
 nofun
 refine ⟨a,xs,t.map (·.1),d,rfl,hS,zrG hR,by rw[ybq];exact up,?_⟩
 intro n B'
 have B:=B'.rows
 nofun
 ·rename_i q
  have:n=0:=by ac_rfl
  subst this
  rw[Stills.ztH t0 B] at h
  exact h
 ·rename_i q
  obtain ⟨k,rfl⟩:∃ k,n=k+1:=⟨n-1,by ac_rfl⟩
  have kl:=B.le
  obtain ⟨p,s,ex,es,hp⟩:=hR.get (yaa (by ac_rfl:k<xs.length))
  have ek:((k+1:Nat):Int)-1=(k:Int):=by ac_rfl
  have at_:atI xs (((k+1:Nat):Int)-1)=some (.ref p):=by
   rw[ek]
   exact zak (by rw[yaa (by ac_rfl:k<xs.length),ex])
  refine ⟨a,_,_,_,rfl,rfl,hS,at_,?_⟩
  nofun
  rw[Stills.ztI t0 up B es] at h
  exact h
def zkg (K:W.Frag):Sp:=fun vs H Q _=>∃ (a:Addr) (A:BkA) (b:BkT),vs=[.ref a]/\zba K H a A b /\
 ∀ p ws H',H p=none->Same H H'->H' p=some (.lst ws)->zA K H' ws (runs 0 (shf b.g b.dues))->Q (.ref p) H'
theorem zpw:zk qaf qaf (zi zfe):=by walk_at "sp"
theorem zqw (S:Src K mg "late_sums" zfe qaf) (T:Txt K mg) (zbe:Def P w K mg base 1 "running_sums" ["rows"] (zeb K)) (zck:zv P w K mg base 1 (cA K "Book") "dues" qaa (zgB K)) (zbT:zv P w K mg base 1 (cA K "Book") "grace" qaa (zfA K)):Def P w K mg base 2 "late_sums" qaf (zkg K):=by
 refine S.ok zpw (fun vs H Q E h=>?_) (fun f cdv A outer s H vs Q E hr h=>?_)
 ·obtain ⟨a,A,b,rfl,B,h⟩:=h
  rfl
 obtain ⟨a,A,b,rfl,B,h⟩:=h
 refine ⟨_,(zf (zl (zu zbe hr (za (zcG (ix:=[0]) ⟨rfl,by decide +kernel,rfl,by decide +kernel,rfl,(show (["due", "book"]:List Str).Nodup by decide +kernel),by walk_at "cap", by walk_at "sub", by walk_at "has"⟩ (zT (zR zck T.zF hr (pv 0))) (fun b=>(zaj (za (zh zy (zo (zdC K) (pv 0) zb (fun _ _=>rfl)) (zR zbT T.zF hr (pv 1))) (za (zo (zdC K) (pv 0) zb (fun _ _=>rfl)) zd))))) zd)))),?_⟩
 have sz:=sizeLine_eq
 nofun
 refine ⟨a,A.dx,_,rfl,B.ins,rfl,a,A,b,rfl,B,fun q xs nq hR hl=>?_⟩
 have s1:=ze nq (.lst xs)
 have eQ:=zq (.lst xs) nq
 have hR1:=hR.same s1
 have xl:=hR.length
 generalize upd H q (.lst xs)=H1 at s1 eQ hR1 ⊢
 have B1:=B.same s1
 nofun
 refine ⟨⟨_,SqL.of eQ⟩,fun l nl=>?_⟩
 refine comp_map (zay (SqL.of eQ)) nl (by ac_rfl) b.dues xl.symm (fun H' v s=>∃ t,v=.ref t/\H' t=some (.tup [.int (s.1+b.g),.int s.2])) (fun v e H1 H2 s ⟨t,e1,e2⟩=>⟨t,e1,s _ _ e2⟩) (fun v e H1 ys zs hL ⟨t,e1,e2⟩=>⟨t,e1,by rw[zp (zan e2 hL (by intro z;cases z))];exact e2⟩) ?_ ?_
 ·rintro i x s H' Q' hx hs sH hq
  obtain ⟨u,s',rfl,hs',hu⟩:=(hR1.same sH).get hx
  obtain rfl:s'=s:=Option.some.inj (hs'.symm.trans hs)
  have B':=B1.same sH
  nofun
  refine ⟨a,A.dx,_,rfl,B'.ins,rfl,a,A,b,rfl,B',?_⟩
  nofun
  intro t nt
  exact hq _ _ (ze nt _) ⟨t,rfl,zg⟩
 rintro ys H2 s2 eL hL
 have hS:zA K H2 ys (shf b.g b.dues):=by
  unfold shf
  clear eL
  revert hL
  generalize b.dues=l
  intro hL
  induction hL with
  | nil=>exact .nil
  | cons h _ ih =>
   obtain ⟨t,rfl,e⟩:=h
   exact .cons e ih
 have sl:(shf b.g b.dues).length<=1000:=by unfold shf;rw[yab];exact hl
 nofun
 rename_i p ws H3
 intro np s3 eP rP
 exact h p ws H3 (zJ (s1.trans s2) np) (s1.trans (s2.trans s3)) eP rP
def zbO (K:W.Frag):Sp:=fun vs H Q _=>L2.Ee6 fun p dx u m n x=>L2.Aa4 (vs=[.ref p,.int x]) (Deb K H p dx u m n) ((0<u/\u<1152921504606846976)) (Q .non (upd H p (.ins (cA K "Debt") dx (zap u (Dbt.mn m (Dbt.mx 0 ((n+u*x) / u))) (n+u*x)))))
theorem zlg:zk qad qad (zi zb6):=by walk_at "sp"
theorem zlM (S:zr K (cA K "Debt") "add_cents" "Debt.add_cents" zb6 qad) (T:Txt K mg) (zci:zv P w K mg base 1 (cA K "Debt") "owed" qaa (zgu K)):zv P w K mg base 2 (cA K "Debt") "add_cents" qad (zbO K):=by
 refine S.ok zlg (fun vs H Q E h=>?_) (fun f cdv A outer s H vs Q E hr h=>?_)
 ·obtain ⟨p,dx,u,m,n,x,rfl,e,⟨u0,u1⟩,h⟩:=h
  rfl
 obtain ⟨p,dx,u,m,n,x,rfl,e,⟨u0,u1⟩,h⟩:=h
 refine ⟨_,(zc (zav T.zN T.zX (pv 0) (zh zy (zae T.zN T.zX (pv 0)) (zh zat (zae T.zN T.zaJ (pv 0)) (pv 1))))
  (zf (zav T.zN T.zM (pv 0) (zD (za1 rfl) rfl T.zcO PyProof.Rows.boot_min (za (zae T.zN T.zM (pv 0)) (za (zD (zbc rfl) rfl T.zc6 PyProof.Rows.boot_max (za zb (za (zR zci T.zN hr (pv 0)) zd))) zd)))))),?_⟩
 nofun
 refine ⟨p,dx,_,_,rfl,e,rfl,?_⟩
 nofun
 refine ⟨p,dx,_,_,rfl,e,rfl,?_⟩
 nofun
 refine ⟨p,dx,_,rfl,e,zbH,?_⟩
 rw[zrT]
 have e1:Deb K (upd H p (.ins (cA K "Debt") dx (zap u m (n+u*x)))) p dx u m (n+u*x):=zg
 nofun
 refine ⟨p,dx,_,_,rfl,e1,rfl,?_⟩
 nofun
 refine ⟨p,dx,_,rfl,e1,rfl,p,dx,u,m,_,rfl,e1,⟨u0,u1⟩,?_⟩
 nofun
 refine ⟨p,dx,_,rfl,e1,zbH,?_⟩
 rw[zoD,zag]
 exact h
def zkf (K:W.Frag):Sp:=fun vs H Q _=>L2.Ee5 fun p dx u m n=>L2.Aa4 (vs=[.ref p]) (Deb K H p dx u m n) ((0<u/\u<1152921504606846976)) (Q .non (upd H p (.ins (cA K "Debt") dx (zap u (Dbt.step u .turn 0 m n).1 (Dbt.step u .turn 0 m n).2))))
theorem zpr:zk qaa qaa (zi zeP):=by walk_at "sp"
theorem zqX (S:zr K (cA K "Debt") "turn" "Debt.turn" zeP qaa) (T:Txt K mg) (zci:zv P w K mg base 1 (cA K "Debt") "owed" qaa (zgu K)):zv P w K mg base 2 (cA K "Debt") "turn" qaa (zkf K):=by
 refine S.ok zpr (fun vs H Q E h=>?_) (fun f cdv A outer s H vs Q E hr h=>?_)
 ·obtain ⟨p,dx,u,m,n,rfl,e,hu,h⟩:=h
  rfl
 obtain ⟨p,dx,u,m,n,rfl,e,hu,h⟩:=h
 refine ⟨_,(zf (zav T.zN T.zM (pv 0) (zD (zbc rfl) rfl T.zc6 PyProof.Rows.boot_max (za zb (za (zR zci T.zN hr (pv 0)) zd))))),?_⟩
 nofun
 refine ⟨p,dx,_,rfl,e,rfl,p,dx,u,m,n,rfl,e,hu,?_⟩
 nofun
 refine ⟨p,dx,_,rfl,e,zbH,?_⟩
 rw[zoD]
 exact h
def zl6 (K:W.Frag):Sp:=fun vs H Q _=>L2.Ee4 fun a xs l d=>L2.Aa5 (vs=[.ref a,.int d]) (SqL K H a xs) (zA K H xs l) (Spans.Joined l) (∀ m,Stills.Free l d m->Q (.int m) H)
theorem zpC:zk ["spans", "day", "many"] qak (zi zk1):=by walk_at "sp"
theorem zu6 (S:Src K mg "moved" zk1 qak) (T:Txt K mg) (zcH:Def P w K mg base 1 "begun" qar (ziQ K)):Def P w K mg base 2 "moved" qak (zl6 K):=by
 refine S.ok zpC (fun vs H Q E h=>?_) (fun f cdv A outer s H vs Q E hr h=>?_)
 ·obtain ⟨a,xs,l,d,rfl,hS,hR,J,h⟩:=h
  rfl
 obtain ⟨a,xs,l,d,rfl,hS,hR,J,h⟩:=h
 refine ⟨_,(zc (zj (i:=2) zpC.nd rfl (by walk_at "lc") (zu zcH hr (za (pv 0) (za (pv 1) zd))))
  (zc (zV (zw zaa (pv 2) zb (nomark _))
  (zf (zl (pv 1)))
   zO)
  (zf (zl (zD (zbc rfl) rfl T.zc6 PyProof.Rows.boot_max (za (pv 1) (za (zo zah (zo zt (pv 0) (zh zW (pv 2) zb) (fun _ _=>rfl)) zb (fun _ _=>rfl)) zd))))))),?_⟩
 have xl:=hR.length
 nofun
 refine ⟨a,xs,l.map (·.1),d,rfl,hS,zrG hR,ybq.mpr (Stills.zs5 J),?_⟩
 intro n B0
 have B:=B0.rows
 nofun
 ·rename_i q
  have:n=0:=by ac_rfl
  subst this
  exact h _ (Stills.zsd B)
 ·rename_i q
  obtain ⟨k,rfl⟩:∃ k,n=k+1:=⟨n-1,by ac_rfl⟩
  have kl:=B.le
  obtain ⟨p,s,ex,es,hp⟩:=hR.get (yaa (by ac_rfl:k<xs.length))
  have ek:((k+1:Nat):Int)-1=(k:Int):=by ac_rfl
  have at_:atI xs (((k+1:Nat):Int)-1)=some (.ref p):=by
   rw[ek]
   exact zak (by rw[yaa (by ac_rfl:k<xs.length),ex])
  refine ⟨a,_,_,_,rfl,rfl,hS,at_,?_⟩
  nofun
  exact h _ (Stills.zso J B es)
def zhw (K:W.Frag):Sp:=fun vs H Q _=>∃ a A b,vs=[.ref a]/\zba K H a A b/\BOk b /\
 ∀ p (ns:List Int) H',H p=none->Same H H'->H' p=some (.lst (ns.map V.int))->ns.Pairwise (·<·)->(∀ d,d∈ns↔TDay b d)->ns.length<64->Q (.ref p) H'
theorem zd5:zk ["book", "days", "span"] qaf (zi zcE):=by walk_at "sp"
theorem zmY (S:Src K mg "turning_days" zcE qaf) (T:Txt K mg) (zbV:zv P w K mg base 1 (cA K "Book") "rates" qaa (zfX K)) (zbU:zv P w K mg base 1 (cA K "Book") "lates" qaa (zfv K)) (zaY:zv P w K mg base 1 (cA K "Book") "pays" qaa (zdJ K)) (zck:zv P w K mg base 1 (cA K "Book") "dues" qaa (zgB K)) (zbT:zv P w K mg base 1 (cA K "Book") "grace" qaa (zfA K)) (zbz:zv P w K mg base 1 (cA K "Book") "stills" qaa (zet K)):Def P w K mg base 2 "turning_days" qaf (zhw K):=by
 refine S.ok zd5 (fun vs H Q E h=>?_) (fun f cdv A outer s H vs Q E hr h=>?_)
 ·obtain ⟨a,A,b,rfl,B,O,h⟩:=h
  rfl
 obtain ⟨a,A,b,rfl,B,O,h⟩:=h
 refine ⟨_,(zc (zj (i:=1) zd5.nd rfl (by walk_at "lc") (zU (za zb zd)))
  (zc (zY (zbK PySem.F.plainAttrs_list PySem.F.slot_list_extend PySem.F.type_list_extend znX (pv 1) (za (zcG (ix:=[]) ⟨rfl,by decide +kernel,rfl,by decide +kernel,rfl,(show (["row"]:List Str).Nodup by decide +kernel),by walk_at "cap", by walk_at "sub", by walk_at "has"⟩ (zT (zh zbk (zh zbk (zR zbV T.zF hr (pv 0)) (zR zbU T.zF hr (pv 0))) (zR zaY T.zF hr (pv 0)))) (fun b=>(zo (zdC K) (pv 0) zb (fun _ _=>rfl)))) zd)))
  (zc (zY (zbK PySem.F.plainAttrs_list PySem.F.slot_list_extend PySem.F.type_list_extend znX (pv 1) (za (zcG (ix:=[0]) ⟨rfl,by decide +kernel,rfl,by decide +kernel,rfl,(show (["row", "book"]:List Str).Nodup by decide +kernel),by walk_at "cap", by walk_at "sub", by walk_at "has"⟩ (zT (zR zck T.zF hr (pv 0))) (fun b=>(zh zy (zo (zdC K) (pv 0) zb (fun _ _=>rfl)) (zR zbT T.zF hr (pv 1))))) zd)))
  (zc (za7 PassesOwn.never rfl (zT (zR zbz T.zF hr (pv 0))) (zG (i:=2) zd5.nd rfl (by walk_at "lc"))
  (zf (zY (zbK PySem.F.plainAttrs_list PySem.F.slot_list_extend PySem.F.type_list_extend zrX (pv 1) (za (pv 2) zd)))))
  (zf (zl (zD (zct rfl) rfl T.zbG PyProof.Rows.boot_sorted (za (zH (zfl rfl) rfl T.ziZ PyProof.Rows.boot_set (za (pv 1) zd)) zd)))))))),?_⟩
 have sz:=sizeLine_eq
 have osz:=O.sz
 nofun
 intro p np
 have s1:=ze np (.lst [.int 0])
 have eP:=zq (.lst [.int 0]) np
 generalize upd H p (.lst [.int 0])=H1 at s1 eP ⊢
 have B1:=B.same s1
 nofun
 refine ⟨.inl ⟨rfl,_,SqL.of eP⟩,?_⟩
 nofun
 refine ⟨a,A.dx,_,rfl,B1.ins,rfl,a,A,b,rfl,B1,fun q1 x1 n1 r1 l1=>?_⟩
 have t1:=ze n1 (.lst x1)
 have e1:=zq (.lst x1) n1
 have B2:=B1.same t1
 nofun
 refine ⟨a,A.dx,_,rfl,B2.ins,rfl,a,A,b,rfl,B2,fun q2 x2 n2 r2 l2=>?_⟩
 have t2:=ze n2 (.lst x2)
 have e2:=zq (.lst x2) n2
 have c1:=r1.length
 have c2:=r2.length
 refine ⟨q1,q2,x1,x2,rfl,rfl,t2 _ _ e1,e2,by ac_rfl,fun q3 n3=>?_⟩
 have t3:=ze n3 (.lst (x1++x2))
 have e3:=zq (.lst (x1++x2)) n3
 have B4:=B2.same (t2.trans t3)
 nofun
 refine ⟨a,A.dx,_,rfl,B4.ins,rfl,a,A,b,rfl,B4,fun q4 x4 n4 r4 l4=>?_⟩
 have t4:=ze n4 (.lst x4)
 have e4:=zq (.lst x4) n4
 have c4:=r4.length
 refine ⟨q3,q4,x1++x2,x4,rfl,rfl,t4 _ _ e3,e4,by rw[yag];ac_rfl,fun q5 n5=>?_⟩
 have t5:=ze n5 (.lst (x1++x2++x4))
 have e5:=zq (.lst (x1++x2++x4)) n5
 have t15:=t1.trans (t2.trans (t3.trans (t4.trans t5)))
 have rX:zA K _ (x1++x2++x4) (b.rates++b.lates++b.pays):=zjg (zjg (r1.same t15) (r2.same (t2.trans (t3.trans (t4.trans t5))))) (r4.same (t4.trans t5))
 have eP5:=t15 _ _ eP
 have s15:=s1.trans t15
 generalize upd (upd (upd (upd (upd H1 q1 (.lst x1)) q2 (.lst x2)) q3 (.lst (x1++x2))) q4 (.lst x4)) q5 (.lst (x1++x2++x4))=H5 at rX eP5 s15 e5 ⊢
 have xl:=rX.length
 clear t15 t1 t2 t3 t4 t5 e1 e2 e3 e4 B2 B4 r1 r2 r4
 nofun
 refine ⟨⟨_,SqL.of e5⟩,fun l6 n6=>?_⟩
 have gd:∀ (u:List (Int × Int)) (f:Int × Int->Int) (i:Nat) (s:Int × Int),u[i]?=some s->(u.map f).getD i 0=f s:=fun u f i s e=>by
  rw[yae,yaj,e];rfl
 have xl2:(x1++x2++x4).length<=63:=by rw[yag,yag];ac_rfl
 refine zkA (fun i v=>v=.int (((b.rates++b.lates++b.pays).map (·.1)).getD i 0)) (SqL.of e5) n6 (by ac_rfl) ?_ ?_
 ·intro i x H' Q' hx sH hq
  obtain ⟨p,s,rfl,e,ht⟩:=rX.get hx
  nofun
  exact ⟨p,_,_,_,rfl,rfl,SqT.of (sH _ _ ht),rfl,hq _ (by rw[gd _ _ i s e])⟩
 intro ys1 len1 hp1
 obtain rfl:=znm (ns:=(b.rates++b.lates++b.pays).map (·.1)) (by rw[len1,yab,xl]) hp1
 have s6:=ze n6 (.lst (((b.rates++b.lates++b.pays).map (·.1)).map V.int))
 have e6:=zq (.lst (((b.rates++b.lates++b.pays).map (·.1)).map V.int)) n6
 have eP6:=s6 _ _ eP5
 have kl:((b.rates++b.lates++b.pays).map (·.1)).length=b.rates.length+b.lates.length+b.pays.length:=by rw[yab,yag,yag]
 nofun
 refine ⟨p,l6,_,_,rfl,rfl,eP6,e6,by rw[yab];show 1+_<=_;ac_rfl,?_⟩
 generalize hD1:(b.rates++b.lates++b.pays).map (·.1)=D1 at *
 have s7:Same H (upd (upd H5 l6 (.lst (D1.map V.int))) p (.lst ([.int 0]++D1.map V.int))):=zE (s15.trans s6) np
 have eP7:(upd (upd H5 l6 (.lst (D1.map V.int))) p (.lst ([.int 0]++D1.map V.int))) p=some (.lst ((0::D1).map V.int)):=zg
 generalize upd (upd H5 l6 (.lst (D1.map V.int))) p (.lst ([.int 0]++D1.map V.int))=H7 at s7 eP7 ⊢
 have B7:=B.same s7
 nofun
 refine ⟨.inl ⟨rfl,_,SqL.of eP7⟩,?_⟩
 nofun
 refine ⟨a,A.dx,_,rfl,B7.ins,rfl,a,A,b,rfl,B7,fun q8 x8 n8 r8 l8=>?_⟩
 have s8:=ze n8 (.lst x8)
 have e8:=zq (.lst x8) n8
 have r8':=r8.same s8
 have c8:=r8.length
 have eP8:=s8 _ _ eP7
 have s78:=s7.trans s8
 generalize upd H7 q8 (.lst x8)=H8 at s8 e8 r8' eP8 s78 ⊢
 have B8:=B.same s78
 nofun
 refine ⟨⟨_,SqL.of e8⟩,fun l9 n9=>?_⟩
 refine zkA (fun i v=>v=.int ((b.dues.map fun s=>s.1+b.g).getD i 0)) (SqL.of e8) n9 (by ac_rfl) ?_ ?_
 ·intro i x H' Q' hx sH hq
  obtain ⟨u,s,rfl,e,ht⟩:=r8'.get hx
  have hu:=sH _ _ ht
  nofun
  refine ⟨a,A.dx,_,rfl,(B8.same sH).ins,rfl,a,A,b,rfl,B8.same sH,?_⟩
  nofun
  exact hq _ (by rw[gd _ _ i s e])
 intro ys2 len2 hp2
 obtain rfl:=znm (ns:=b.dues.map fun s=>s.1+b.g) (by rw[len2,yab,c8]) hp2
 have s9:=ze n9 (.lst ((b.dues.map fun s=>s.1+b.g).map V.int))
 have e9:=zq (.lst ((b.dues.map fun s=>s.1+b.g).map V.int)) n9
 have eP9:=s9 _ _ eP8
 have kl2:(b.dues.map fun s=>s.1+b.g).length=b.dues.length:=yab ..
 nofun
 refine ⟨p,l9,_,_,rfl,rfl,eP9,e9,by rw[yab,yab];show D1.length+1+_<=_;ac_rfl,?_⟩
 generalize hD2:(b.dues.map fun s=>s.1+b.g)=D2 at *
 have cat:(0::D1).map V.int++D2.map V.int=(0::D1++D2).map V.int:=by rw[yar]
 rw[cat]
 have sA:Same H (upd (upd H8 l9 (.lst (D2.map V.int))) p (.lst ((0::D1++D2).map V.int))):=zE (s78.trans s9) np
 have ePA:(upd (upd H8 l9 (.lst (D2.map V.int))) p (.lst ((0::D1++D2).map V.int))) p=some (.lst ((0::D1++D2).map V.int)):=zg
 generalize upd (upd H8 l9 (.lst (D2.map V.int))) p (.lst ((0::D1++D2).map V.int))=HA at sA ePA ⊢
 have BA:=B.same sA
 nofun
 refine ⟨a,A.dx,_,rfl,BA.ins,rfl,a,A,b,rfl,BA,fun qS xS nS rS lS=>?_⟩
 have sS:=ze nS (.lst xS)
 have eS:=zq (.lst xS) nS
 have rS':=rS.same sS
 have cS:=rS.length
 have ePS:=sS _ _ ePA
 have sB:=sA.trans sS
 have nqp:qS≠p:=(zZ ePA nS).symm
 generalize upd HA qS (.lst xS)=HB at sS eS rS' ePS sB ⊢
 nofun
 refine ⟨⟨_,SqL.of eS⟩,za5 (xs:=xS) (fun i σ H'=>∃ (D3:List Int) (z:Option V),(Same H H'/\H' p=some (.lst ((0::D1++D2++D3).map V.int))/\H' qS=some (.lst xS)/\zA K H' xS b.spans)/\D3.length=2*i/\(∀ d,d∈D3↔∃ s∈b.spans.take i,d=s.1\/d=s.2)/\σ=[some (.ref a),some (.ref p),z])
  ⟨[],_,⟨sB,by rw[yco];exact ePS,eS,rS'⟩,rfl,fun d=>by simp,rfl⟩ ?_ ?_ ?_⟩
 ·rintro i σ H' _ ⟨D3,z,⟨_,_,e,_⟩,_⟩
  exact SqL.of e
 ·rintro i x σ H' hx ⟨D3,z,⟨sH,eP',eS',rS''⟩,dl,mem,rfl⟩
  obtain ⟨u,s,rfl,hs,hu⟩:=rS''.get hx
  have il:i<b.spans.length:=(yad.mp hs).1
  have tk:b.spans.take (i+1)=b.spans.take i++[s]:=by rw[ybc,hs];rfl
  nofun
  refine ⟨.inl ⟨rfl,_,SqL.of eP'⟩,?_⟩
  nofun
  refine ⟨p,u,_,_,rfl,rfl,eP',hu,by simp;ac_rfl,?_⟩
  refine ⟨D3++[s.1,s.2],_,⟨zE sH np,by rw[<-ycp,yar (l₂:=[s.1,s.2])];exact zg,by rw[zp nqp];exact eS',rS''.put eP'⟩,by rw[yag];show D3.length+2=_;ac_rfl,fun d=>?_,rfl⟩
  rw[yac,mem,tk]
  constructor
  ·rintro (⟨u,hu,e⟩ | e)
   ·exact ⟨u,yac.mpr (.inl hu),e⟩
   ·exact ⟨s,yac.mpr (.inr (by simp)),by simpa using e⟩
  ·rintro ⟨u,hu,e⟩
   rcases yac.mp hu with hu | hu
   ·exact .inl ⟨u,hu,e⟩
   ·obtain rfl:u=s:=by simpa using hu
    exact .inr (by simpa using e)
 ·rintro σ H' ⟨D3,z,⟨sH,eP',eS',rS''⟩,dl,mem,rfl⟩
  rw[cS,ycl] at mem
  rw[cS] at dl
  nofun
  refine ⟨p,_,rfl,SqL.of eP',by simp;ac_rfl,fun pS HS ms nPS sPS ePS2 nd mm lm=>?_⟩
  nofun
  refine ⟨pS,ms,rfl,ePS2,ycw lm (by simp;ac_rfl),fun pR HR ns nPR sPR ePR pm up=>?_⟩
  refine h pR ns HR (zJ (sH.trans sPS) nPR) (sH.trans (sPS.trans sPR)) ePR (zho pm nd up) (fun d=>?_) (by rw[pm.length_eq];exact ycw lm (by simp;ac_rfl))
  rw[pm.mem_iff,mm,yac,yac,yak,mem,<-hD1,<-hD2]
  unfold TDay
  constructor
  ·rintro (((h1 | h1) | h1) | h1)
   ·exact .inl h1
   ·obtain ⟨s,hs,e⟩:=yaf.mp h1
    exact .inr (.inl ⟨s,hs,e.symm⟩)
   ·obtain ⟨s,hs,e⟩:=yaf.mp h1
    exact .inr (.inr (.inl ⟨s,hs,e.symm⟩))
   ·exact .inr (.inr (.inr h1))
  ·rintro (h1 | ⟨s,hs,e⟩ | ⟨s,hs,e⟩ | h1)
   ·exact .inl (.inl (.inl h1))
   ·exact .inl (.inl (.inr (yaf.mpr ⟨s,hs,e.symm⟩)))
   ·exact .inl (.inr (yaf.mpr ⟨s,hs,e.symm⟩))
   ·exact .inr h1
def zjC (P:Program) (w:World) (K:W.Frag):Sp:=fun vs H Q _=>L2.Ee6 fun a p A (b:BkT) (ms:List Int) z=>L2.Aa6 (vs=[.ref a,.ref p]) (zba K H a A b) (zc0 b) (H p=some (.lst ((ms++[z]).map V.int))) (b.outs.length+b.fees.length+b.pays.length+b.turns.length+ms.length<=60) (∀ q ws (ds:List Int) H',H q=none->Same H H'->H' q=some (.lst ws)->R5 b H' ws ds->ds.Pairwise (·<·)->(∀ d,d∈ds↔(DDay b d/\d<z)\/d∈ms++[z])->ds.length<=62->Q (.ref q) H')
theorem zbw:zk ["book", "days", "outs", "fees", "turns", "pays", "all_days"] qbm (zi zdK):=by walk_at "sp"
theorem zpu (S:Src K mg "deeds_upto" zdK qbm) (T:Txt K mg) (zh3:zv P w K mg base 1 (cA K "Book") "outs" qaa (zj0 K)) (zhG:zv P w K mg base 1 (cA K "Book") "fees" qaa (zj7 K)) (zg2:zv P w K mg base 1 (cA K "Book") "turns" qaa (zjF K)) (zaY:zv P w K mg base 1 (cA K "Book") "pays" qaa (zdJ K)) (zdn:zv P w K mg base 1 (cA K "Book") "deed_days" qaa (zf0 K)):Def P w K mg base 2 "deeds_upto" qbm (zjC P w K):=by
 refine S.ok zbw (fun vs H Q E h=>?_) (fun f cdv A outer s H vs Q E hr h=>?_)
 ·obtain ⟨a,p,A,b,ms,z,rfl,B,I,hp,osz,h⟩:=h
  rfl
 obtain ⟨a,p,A,b,ms,z,rfl,B,I,hp,osz,h⟩:=h
 refine ⟨_,(zc (zj (i:=2) zbw.nd rfl (by walk_at "lc") (zH (zcS rfl) rfl T.zfr PyProof.Rows.boot_dict (za (zR zh3 T.zF hr (pv 0)) zd)))
  (zc (zj (i:=3) zbw.nd rfl (by walk_at "lc") (zH (zcS rfl) rfl T.zfr PyProof.Rows.boot_dict (za (zR zhG T.zF hr (pv 0)) zd)))
  (zc (zj (i:=4) zbw.nd rfl (by walk_at "lc") (zH (zcS rfl) rfl T.zfr PyProof.Rows.boot_dict (za (zcG (ix:=[]) ⟨rfl,by decide +kernel,rfl,by decide +kernel,rfl,(show (["turn"]:List Str).Nodup by decide +kernel),by walk_at "cap", by walk_at "sub", by walk_at "has"⟩ (zT (zR zg2 T.zF hr (pv 0))) (fun b=>(zaj (za (pv 0) (za zb zd))))) zd)))
  (zc (zj (i:=5) zbw.nd rfl (by walk_at "lc") (zH (zcS rfl) rfl T.zfr PyProof.Rows.boot_dict (za (zR zaY T.zF hr (pv 0)) zd)))
  (zc (zj (i:=6) zbw.nd rfl (by walk_at "lc") (zD (zct rfl) rfl T.zbG PyProof.Rows.boot_sorted (za (zH (zfl rfl) rfl T.ziZ PyProof.Rows.boot_set (za (zh zbk (zdB (ix:=[1]) ⟨rfl,by decide +kernel,rfl,by decide +kernel,rfl,(show (["deed", "days"]:List Str).Nodup by decide +kernel),by walk_at "cap", by walk_at "sub", by walk_at "has"⟩ (zT (zR zdn T.zF hr (pv 0))) (fun b=>(zw zgd (pv 0) (zo (zi3 K) (pv 1) (zhf zfo zb) (fun _ _=>rfl)) (nomark _))) (fun b=>(pv 0))) (pv 1)) zd)) zd)))
  (zf (zl (zcG (ix:=[3,2,5,4]) ⟨rfl,by decide +kernel,rfl,by decide +kernel,rfl,(show (["deed", "fees", "outs", "pays", "turns"]:List Str).Nodup by decide +kernel),by walk_at "cap", by walk_at "sub", by walk_at "has"⟩ (zT (pv 6)) (fun b=>(zaj (za (pv 0) (za (zjt P w (pv 2) (pv 0) zb) (za (zjt P w (pv 1) (pv 0) zb) (za (zjt P w (pv 4) (pv 0) zb) (za (zjt P w (pv 3) (pv 0) zb) zd))))))))))))))),?_⟩
 have sz:=sizeLine_eq
 nofun
 refine ⟨a,A.dx,_,rfl,B.ins,rfl,a,A,b,rfl,B,fun q1 x1 n1 r1 l1=>?_⟩
 have s1:=ze n1 (.lst x1)
 have e1:=zq (.lst x1) n1
 have r1':=r1.same s1
 generalize upd H q1 (.lst x1)=G1 at s1 e1 r1' ⊢
 nofun
 refine ⟨q1,x1,b.outs,rfl,e1,r1',by ac_rfl,fun d1 H1 nd1 t1 ed1=>?_⟩
 have u1:=s1.trans t1
 have B1:=B.same u1
 nofun
 refine ⟨a,A.dx,_,rfl,B1.ins,rfl,a,A,b,rfl,B1,fun q2 x2 n2 r2 l2=>?_⟩
 have s2:=ze n2 (.lst x2)
 have e2:=zq (.lst x2) n2
 have r2':=r2.same s2
 generalize upd H1 q2 (.lst x2)=G2 at s2 e2 r2' ⊢
 nofun
 refine ⟨q2,x2,b.fees,rfl,e2,r2',by ac_rfl,fun d2 H2 nd2 t2 ed2=>?_⟩
 have u2:=s2.trans t2
 have u12:=u1.trans u2
 have B2:=B.same u12
 have tnd:b.turns.Nodup:=Sby.zdH I.turns.up
 nofun
 refine ⟨a,A.dx,_,rfl,B2.ins,rfl,a,A,b,rfl,B2,fun q3 n3=>?_⟩
 have s3:=ze n3 (.lst (b.turns.map V.int))
 have e3:=zq (.lst (b.turns.map V.int)) n3
 generalize upd H2 q3 (.lst (b.turns.map V.int))=G3 at s3 e3 ⊢
 nofun
 refine ⟨⟨_,SqL.of e3⟩,fun l4 nl4=>?_⟩
 refine comp_map (zay (SqL.of e3)) nl4 (by rw[yab];ac_rfl) b.turns (by rw[yab]) (fun H' v d=>∃ t,v=.ref t/\H' t=some (.tup [.int d,.int 1])) (fun v e H1 H2 s ⟨t,e1,e2⟩=>⟨t,e1,s _ _ e2⟩) (fun v e H1 ys zs hL ⟨t,e1,e2⟩=>⟨t,e1,by rw[zp (zan e2 hL (by intro z;cases z))];exact e2⟩) ?_ ?_
 ·rintro i x d H' Q' hx hd sH hq
  rw[yaj,hd] at hx
  cases hx
  nofun
  intro t nt
  exact hq _ _ (ze nt _) ⟨t,rfl,zg⟩
 rintro y4 H4 t4 e4 hL4
 have r4:zA K H4 y4 (b.turns.map fun d=>(d,1)):=by
  clear e4 tnd
  revert hL4
  generalize b.turns=l
  intro hL
  induction hL with
  | nil=>exact .nil
  | cons h _ ih =>
   obtain ⟨t,rfl,e⟩:=h
   exact .cons e ih
 have u34:=s3.trans t4
 nofun
 refine ⟨l4,y4,b.turns.map fun d=>(d,1),rfl,e4,r4,by rw[yab];ac_rfl,fun d3 H5 nd3 t5 ed3=>?_⟩
 have u35:=u34.trans t5
 have u15:=u12.trans u35
 have B5:=B.same u15
 nofun
 refine ⟨a,A.dx,_,rfl,B5.ins,rfl,a,A,b,rfl,B5,fun q6 x6 n6 r6 l6=>?_⟩
 have s6:=ze n6 (.lst x6)
 have e6:=zq (.lst x6) n6
 have r6':=r6.same s6
 generalize upd H5 q6 (.lst x6)=G6 at s6 e6 r6' ⊢
 nofun
 refine ⟨q6,x6,b.pays,rfl,e6,r6',by ac_rfl,fun d6 H6 nd6 t6 ed6=>?_⟩
 have u6:=s6.trans t6
 have u16:=u15.trans u6
 have B6:=B.same u16
 nofun
 refine ⟨a,A.dx,_,rfl,B6.ins,rfl,a,A,b,rfl,B6,by ac_rfl,fun q7 ns H7 n7 t7 e7 up7 mem7 len7=>?_⟩
 have hp7:=(u16.trans t7) _ _ hp
 have atz:∀ xs:List Int,atI ((xs++[z]).map V.int) (-1)=some (.int z):=fun xs=>by
  unfold atI ixN
  simp
  rw[if_pos (by ac_rfl),Option.bind_some,show (-1+((xs.length:Int)+1)).toNat=xs.length by ac_rfl,ybj (by simp)]
  simp
 nofun
 refine ⟨⟨_,SqL.of e7⟩,fun l8 nl8=>?_⟩
 refine znE (zay (SqL.of e7)) nl8 (by rw[yab];ac_rfl) ns (by rw[yab]) (fun d=>decide (d<z)) (fun H' v d=>v=.int d) (fun v e H1 H2 s e1=>e1) (fun v e H1 ys zs hL e1=>e1) ?_ ?_ ?_
 ·rintro i x d H' Q' hx hd sH hq
  rw[yaj,hd] at hx
  cases hx
  nofun
  refine ⟨p,_,_,_,rfl,rfl,SqL.of (sH _ _ hp7),atz ms,?_⟩
  nofun
  exact hq _ (Same.refl _)
 ·rintro i x d H' Q' hx hd fd sH hq
  rw[yaj,hd] at hx
  cases hx
  nofun
  exact hq _ _ (Same.refl _) rfl
 rintro y8 H8 t8 e8 hL8
 obtain rfl:y8=(ns.filter fun d=>decide (d<z)).map V.int:=by
  clear e8
  revert hL8
  generalize ns.filter (fun d=>decide (d<z))=l
  intro hL
  induction hL with
  | nil=>rfl
  | cons h _ ih=>rw[h,ih];rfl
 have fl:=yaz (fun d=>decide (d<z)) ns
 have hp8:=t8 _ _ hp7
 have ml:(ms++[z]).length=ms.length+1:=by simp
 nofun
 refine ⟨l8,p,_,_,rfl,rfl,e8,hp8,by rw[yab,yab];ac_rfl,fun q9 n9=>?_⟩
 rw[<-yar]
 have s9:=ze n9 (.lst (((ns.filter fun d=>decide (d<z))++(ms++[z])).map V.int))
 have e9:=zq (.lst (((ns.filter fun d=>decide (d<z))++(ms++[z])).map V.int)) n9
 have u19:=u16.trans (t7.trans (t8.trans s9))
 have u29:=u2.trans (u35.trans (u6.trans (t7.trans (t8.trans s9))))
 have u39:=u35.trans (u6.trans (t7.trans (t8.trans s9)))
 have u59:=u6.trans (t7.trans (t8.trans s9))
 have u69:=t7.trans (t8.trans s9)
 generalize upd H8 q9 (.lst (((ns.filter fun d=>decide (d<z))++(ms++[z])).map V.int))=H9 at s9 e9 u19 u29 u39 u59 u69 ⊢
 have dl:((ns.filter fun d=>decide (d<z))++(ms++[z])).length<=61:=by rw[yag];ac_rfl
 nofun
 refine ⟨q9,_,rfl,SqL.of e9,by ac_rfl,fun pS HS ks nPS sPS ePS nd mm lm=>?_⟩
 nofun
 refine ⟨pS,ks,rfl,ePS,by ac_rfl,fun pR HR ds nPR sPR ePR pm up=>?_⟩
 have v1:=(u29.trans (sPS.trans sPR)) _ _ ed1
 have v2:=(u39.trans (sPS.trans sPR)) _ _ ed2
 have v3:=(u59.trans (sPS.trans sPR)) _ _ ed3
 have v4:=(u69.trans (sPS.trans sPR)) _ _ ed6
 have vH:=u19.trans (sPS.trans sPR)
 have dsl:ds.length<=62:=by rw[pm.length_eq];ac_rfl
 nofun
 refine ⟨⟨_,SqL.of ePR⟩,fun lZ nlZ=>?_⟩
 refine comp_map (zay (SqL.of ePR)) nlZ (by rw[yab];ac_rfl) ds (by rw[yab]) (fun H' v d=>∃ t,v=.ref t/\H' t=some (.tup [.int d,.int (ddo b d).1,.int (ddo b d).2.1,.int (ddo b d).2.2.1,.int (ddo b d).2.2.2])) (fun v e H1 H2 s ⟨t,e1,e2⟩=>⟨t,e1,s _ _ e2⟩) (fun v e H1 ys zs hL ⟨t,e1,e2⟩=>⟨t,e1,by rw[zp (zan e2 hL (by intro z;cases z))];exact e2⟩) ?_ ?_
 ·rintro i x d H' Q' hx hd sH hq
  rw[yaj,hd] at hx
  cases hx
  have w1:=sH _ _ v1
  have w2:=sH _ _ v2
  have w3:=sH _ _ v3
  have w4:=sH _ _ v4
  have tE:(if d∈b.turns then (1:Int) else 0)=if d∈dys "turn" b.es then 1 else 0:=by
   by_cases c:d∈b.turns
   ·rw[if_pos c,if_pos ((I.turns.mem d).mp c)]
   ·rw[if_neg c,if_neg fun z=>c ((I.turns.mem d).mpr z)]
  nofun
  refine ⟨d1,_,rfl,w1,?_⟩
  nofun
  refine ⟨w1,?_⟩
  rw[znc I.outs]
  nofun
  refine ⟨d2,_,rfl,w2,?_⟩
  nofun
  refine ⟨w2,?_⟩
  rw[znc I.fees]
  nofun
  refine ⟨d3,_,rfl,w3,?_⟩
  nofun
  refine ⟨w3,?_⟩
  rw[zt4 tnd,tE]
  nofun
  refine ⟨d6,_,rfl,w4,?_⟩
  nofun
  refine ⟨w4,?_⟩
  rw[znc I.pays]
  nofun
  intro t nt
  exact hq _ _ (ze nt _) ⟨t,rfl,zg⟩
 rintro yZ HZ tZ eZ hZ
 refine h lZ yZ ds HZ (zJ vH nlZ) (vH.trans tZ) eZ hZ (zho pm nd up) (fun d=>?_) dsl
 rw[pm.mem_iff,mm,yac,yao,mem7]
 simp
def zjA (K:W.Frag):Sp:=fun vs H Q _=>∃ y m,vs=[.int y,.int m]/\1<=m/\m<=12/\Q (.int (Cal.mlen y m)) H
theorem zoi:zk qaw qaw (zi zdM):=by walk_at "sp"
theorem zo6 (S:Src K mg "month_days" zdM qaw) (T:Txt K mg) (zdA:Def P w K mg base 1 "is_leap" qag (ziU K)):Def P w K mg base 2 "month_days" qaw (zjA K):=by
 refine S.ok zoi (fun vs H Q E h=>?_) (fun f cdv A outer s H vs Q E hr h=>?_)
 ·obtain ⟨y,m,rfl,h1,h2,h⟩:=h
  rfl
 obtain ⟨y,m,rfl,h1,h2,h⟩:=h
 refine ⟨_,(zc (zV (PW.pt (zmu (zw zaa (pv 1) zb (nomark _)) (znz (zcd (zu zdA hr (za (pv 0) zd))))))
  (zf (zl zb))
   zO)
  (zf (zl (zo zah (zvm T.zjR) (zh zW (pv 1) zb) (fun _ _=>rfl))))),?_⟩
 have tab:∀ a:Addr,(∀ H,SqT K H a [.int 31,.int 28,.int 31,.int 30,.int 31,.int 30,.int 31,.int 31,.int 30,.int 31,.int 30,.int 31])->(m=2->Cal.leap y=false) ->
   ∃ p xs i v,V.ref a=.ref p/\V.int (m-1)=.int i/\SqT K H p xs/\atI xs i=some v/\Q v H:=fun a ha hb=>by
  have q:m=1\/m=2\/m=3\/m=4\/m=5\/m=6\/m=7\/m=8\/m=9\/m=10\/m=11\/m=12:=by ac_rfl
  rcases q with rfl | rfl | rfl | rfl | rfl | rfl | rfl | rfl | rfl | rfl | rfl | rfl
  all_goals refine ⟨_,_,_,_,rfl,rfl,ha H,rfl,qi h (by simp[Cal.mlen,Cal.lp, *])⟩
 nofun
 ·refine ifB (fun hb=>?_) (fun hb=>?_)
  ·exact qi h (by simp[Cal.mlen,Cal.lp, *])
  ·intro a ha
   nofun
   exact tab a ha (fun _=>hb)
 ·intro a ha
  nofun
  exact tab a ha (fun z=>absurd z (by assumption))
def zjp (K:W.Frag):Sp:=fun vs H Q _=>∃ d,vs=[.int d]/\∀ y,Cal.ny y<=d->d<Cal.ny (y+1)->Q (.int y) H
theorem ziS:zk ["day", "year"] qao (zi zhr):=by walk_at "sp"
theorem zsV (S:Src K mg "year_of" zhr qao) (T:Txt K mg) (zbb:Def P w K mg base 1 "new_year" qag (ze4 K)):Def P w K mg base 2 "year_of" qao (zjp K):=by
 refine S.ok ziS (fun vs H Q E h=>?_) (fun f cdv A outer s H vs Q E hr h=>?_)
 ·obtain ⟨d,rfl,h⟩:=h
  rfl
 obtain ⟨d,rfl,h⟩:=h
 refine ⟨_,(zc (zj (i:=1) ziS.nd rfl (by walk_at "lc") (zh zW (zh zy (zcL T.zbR) (zh zdi (zh zat (pv 0) (zcL T.zfY)) (zcL T.zgD))) zb))
  (zc (zdt PassesOwn.never (zw zkY (zu zbb hr (za (zh zy (pv 1) zb) zd)) (pv 0) (nomark _))
  (zf (zj (i:=1) ziS.nd rfl (by walk_at "lc") (zh zy (pv 1) zb))))
  (zf (zl (pv 1))))),?_⟩
 nofun
 refine ⟨fun n σ H'=>H=H'/\∃ y,σ=[some (.int d),some (.int y)]/\Cal.ny y<=d/\n=(d-Cal.ny y).toNat,⟨_,rfl,_,rfl,Cal.zrR,rfl⟩,?_⟩
 rintro n σ H' ⟨rfl,y,rfl,hy,rfl⟩
 nofun
 ·refine ⟨_,fun σ' H' z=>z,?_⟩
  nofun
  have e:=Cal.zbf y
  have l:=Cal.zje y
  exact ⟨_,by ac_rfl,rfl,_,rfl,by assumption,rfl⟩
 ·exact h y hy (by ac_rfl)
def zku (kd:Kd) (K:W.Frag):Sp:=fun vs H Q _=>∃ a,vs=[.ref a]/\zcb K H a kd/\Q (.int (10000*yr kd)) H
theorem zn9:zk qaa qaa (zi zaF):=by walk_at "sp"
theorem zec (kd:Kd) (hk:kd=.plain\/kd=.bank\/kd=.thirty\/kd=.exact) (S:zr K (cA K kd.cls) "unit" "Count.unit" zaF qaa) (T:Txt K mg) (zca:∀ kd:Kd,zv P w K mg base 1 (cA K kd.cls) "year" qaa (zcs kd K)):zv P w K mg base 2 (cA K kd.cls) "unit" qaa (zku kd K):=by
 refine S.ok zn9 (fun vs H Q E h=>?_) (fun f cdv A outer s H vs Q E hr h=>?_)
 ·obtain ⟨a,rfl,hc,h⟩:=h
  rfl
 obtain ⟨a,rfl,hc,h⟩:=h
 refine ⟨_,(zf (zl (zh zat (zcL T.zgr) (zjZ zca T.cls hr (pv 0))))),?_⟩
 nofun
 refine ⟨kd,a,rfl,hc,?_⟩
 nofun
 exact h
def zaQ (K:W.Frag):Sp:=fun vs H Q _=>L2.Ee5 fun p C dx d x=>L2.Aa6 (vs=[.ref p,.int d,.int x]) (H p=some (.ins C dx [])) (Cls K C) (zab K C "day") (zab K C "amount") (Q .non (upd H p (.ins C dx [("day", .int d),("amount", .int x)])))
theorem zjP:zk qah qah (zi zac):=by walk_at "sp"
theorem zbE (x:Str) (S:zr K (cA K x) "__init__" "AmountEntry.__init__" zac qah) (T:Txt K mg) (zad:zm0 P w K mg base 1 (cA K "Entry") "__init__" qac (zby K)):zv P w K mg base 2 (cA K x) "__init__" qah (zaQ K):=by
 refine S.ok zjP (fun vs H Q E h=>?_) (fun f cdv A outer s H vs Q E hr h=>?_)
 ·obtain ⟨p,C,dx,d,x,rfl,e,hc,n1,n2,h⟩:=h
  rfl
 obtain ⟨p,C,dx,d,x,rfl,e,hc,n1,n2,h⟩:=h
 refine ⟨_,(zc (zY (zqk zad (zgj (v:=.ref (cA K "Entry")) rfl T.ziM rfl) hr (za (pv 0) (za (pv 1) zd))))
  (zf (zkp (pv 0) (pv 2) rfl))),?_⟩
 nofun
 refine ⟨p,C,dx,[],d,rfl,e,hc,n1,by decide,?_⟩
 nofun
 refine ⟨p,C,dx,_,rfl,zg,hc,n2,ycw (ycu 1) (by decide),?_⟩
 rw[zag]
 exact h
def zcX (K:W.Frag):Sp:=fun vs H Q _=>L2.Ee5 fun p C dx d x=>L2.Aa6 (vs=[.ref p,.int d,.int x]) (H p=some (.ins C dx [])) (Cls K C) (zab K C "day") (zab K C "rate") (Q .non (upd H p (.ins C dx [("day", .int d),("rate", .int x)])))
theorem zle:zk qap qap (zi zaU):=by walk_at "sp"
theorem zgw (x:Str) (S:zr K (cA K x) "__init__" "RateEntry.__init__" zaU qap) (T:Txt K mg) (zad:zm0 P w K mg base 1 (cA K "Entry") "__init__" qac (zby K)):zv P w K mg base 2 (cA K x) "__init__" qap (zcX K):=by
 refine S.ok zle (fun vs H Q E h=>?_) (fun f cdv A outer s H vs Q E hr h=>?_)
 ·obtain ⟨p,C,dx,d,x,rfl,e,hc,n1,n2,h⟩:=h
  rfl
 obtain ⟨p,C,dx,d,x,rfl,e,hc,n1,n2,h⟩:=h
 refine ⟨_,(zc (zY (zqk zad (zgj (v:=.ref (cA K "Entry")) rfl T.ziM rfl) hr (za (pv 0) (za (pv 1) zd))))
  (zf (zkp (pv 0) (pv 2) rfl))),?_⟩
 nofun
 refine ⟨p,C,dx,[],d,rfl,e,hc,n1,by decide,?_⟩
 nofun
 refine ⟨p,C,dx,_,rfl,zg,hc,n2,ycw (ycu 1) (by decide),?_⟩
 rw[zag]
 exact h
def zjG (K:W.Frag):Sp:=fun vs H Q _=>L2.Ee5 fun p C dx d x=>L2.Aa6 (vs=[.ref p,.int d,.int x]) (H p=some (.ins C dx [])) (Cls K C) (zab K C "day") (zab K C "until") (Q .non (upd H p (.ins C dx [("day", .int d),("until", .int x)])))
theorem zoz:zk qax qax (zi zd7):=by walk_at "sp"
theorem zpx (x:Str) (S:zr K (cA K x) "__init__" "Still.__init__" zd7 qax) (T:Txt K mg) (zad:zm0 P w K mg base 1 (cA K "Entry") "__init__" qac (zby K)):zv P w K mg base 2 (cA K x) "__init__" qax (zjG K):=by
 refine S.ok zoz (fun vs H Q E h=>?_) (fun f cdv A outer s H vs Q E hr h=>?_)
 ·obtain ⟨p,C,dx,d,x,rfl,e,hc,n1,n2,h⟩:=h
  rfl
 obtain ⟨p,C,dx,d,x,rfl,e,hc,n1,n2,h⟩:=h
 refine ⟨_,(zc (zY (zqk zad (zgj (v:=.ref (cA K "Entry")) rfl T.ziM rfl) hr (za (pv 0) (za (pv 1) zd))))
  (zf (zkp (pv 0) (pv 2) rfl))),?_⟩
 nofun
 refine ⟨p,C,dx,[],d,rfl,e,hc,n1,by decide,?_⟩
 nofun
 refine ⟨p,C,dx,_,rfl,zg,hc,n2,ycw (ycu 1) (by decide),?_⟩
 rw[zag]
 exact h
def zkw (K:W.Frag):Sp:=fun vs H Q _=>∃ i a b,vs=[.int i,.int a,.int b]/\(a<=i/\i<=b)/\Q (.bl true) H
theorem zoR:zk qay qay (zi ze1):=by walk_at "sp"
theorem zq4 (S:Src K mg "is_within" ze1 qay) (T:Txt K mg) (ziV:Def P w K mg base 1 "is_whole" ["thing"] (zln K)):Def P w K mg base 2 "is_within" qay (zkw K):=by
 refine S.ok zoR (fun vs H Q E h=>?_) (fun f cdv A outer s H vs Q E hr h=>?_)
 ·obtain ⟨i,a,b,rfl,⟨h1,h2⟩,h⟩:=h
  rfl
 obtain ⟨i,a,b,rfl,⟨h1,h2⟩,h⟩:=h
 refine ⟨_,(zf (zl (zix (zu ziV hr (za (pv 0) zd)) (zgS (ztS zkY zkY (pv 1) (pv 0) (pv 2)))))),?_⟩
 nofun
 refine ⟨_, "int", rfl,⟨.int i,by simp[kinds]⟩,?_⟩
 nofun
 all_goals first
  | exact absurd rfl (by assumption)
  | (exfalso;ac_rfl)
  | (refine qb h ?_;simp[h1,h2])
def zka (K:W.Frag):Sp:=fun vs H Q _=>L2.Ee4 fun p xs (es:List Er) w=>L2.Aa6 (vs=[.ref p,.str w]) (SqL K H p xs) (EL K H xs es) (es.length<=61) (AmW w) (∀ q H' ws r,H q=none->Same H H'->H' q=some (.lst ws)->zA K H' ws r->Sby.Tab r (prs w es)->Q (.ref q) H')
theorem zto:zk qae qae (zi zjv):=by walk_at "sp"
theorem zum (S:Src K mg "sum_by" zjv qae) (T:Txt K mg) (zeK:Def P w K mg base 1 "summed" qai (zj9 K)) (za3:∀ k:Ek,zv P w K mg base 1 (cA K k.cls) "word" qaa (zaE k K)):Def P w K mg base 2 "sum_by" qae (zka K):=by
 refine S.ok zto (fun vs H Q E h=>?_) (fun f cdv A outer s H vs Q E hr h=>?_)
 ·obtain ⟨p,xs,es,ww,rfl,ep,hE,hl,hw,h⟩:=h
  rfl
 obtain ⟨p,xs,es,ww,rfl,ep,hE,hl,hw,h⟩:=h
 refine ⟨_,(zf (zl (zu zeK hr (za (zdB (ix:=[1]) ⟨rfl,by decide +kernel,rfl,by decide +kernel,rfl,(show (["entry", "word"]:List Str).Nodup by decide +kernel),by walk_at "cap", by walk_at "sub", by walk_at "has"⟩ (zT (pv 0)) (fun b=>(zw zaa (zf2 K za3 T.clE hr (pv 0)) (pv 1) (nomark _))) (fun b=>(zaj (za (zcy K (pv 0) rfl) (za (zcy K (pv 0) rfl) zd))))) zd)))),?_⟩
 have sz:=sizeLine_eq
 nofun
 have xl:=hE.length
 refine ⟨⟨_,ep⟩,fun l nl=>?_⟩
 refine zgA (zay ep) nl (by ac_rfl) es xl.symm (isW ww) (fun H' v e=>∃ t,v=.ref t/\H' t=some (.tup [.int e.2.1,.int e.2.2])) (fun v e H1 H2 s ⟨t,e1,e2⟩=>⟨t,e1,s _ _ e2⟩) (fun v e H1 ys zs hL ⟨t,e1,e2⟩=>⟨t,e1,by rw[zp (zan e2 hL (by intro z;cases z))];exact e2⟩) ?_ ?_ ?_
 ·rintro i x e H' Q' hx he sH hq
  obtain ⟨e',he',a,dx,rfl,hi⟩:=(hE.same sH).get hx
  obtain rfl:e'=e:=Option.some.inj (he'.symm.trans he)
  nofun
  refine ⟨e'.1,a,dx,_,rfl,hi,zhm _ _ _,a,rfl,?_⟩
  nofun
  exact hq
 ·rintro i x e H' Q' hx he fe sH hq
  obtain ⟨e',he',a,dx,rfl,hi⟩:=(hE.same sH).get hx
  obtain rfl:e'=e:=Option.some.inj (he'.symm.trans he)
  nofun
  refine ⟨a,_,dx,_,_,rfl,hi,T.clE _,T.zbg _,zg1 _ _ _,?_⟩
  nofun
  refine ⟨a,_,dx,_,_,rfl,hi,T.clE _,T.zd8 _,(amt hw fe).1,?_⟩
  nofun
  intro t nt
  exact hq _ _ (ze nt _) ⟨t,rfl,zg⟩
 ·rintro ys H' sH eL hL
  have hR:zA K H' ys (prs ww es):=zla hL
  nofun
  refine ⟨l,ys,prs ww es,rfl,eL,hR,?_,fun q H2 ws r nq s2 eq hr' tb=>?_⟩
  ·unfold prs
   rw[yab]
   exact ycz (yaz _ _) hl
  ·exact h q H2 ws r (zJ sH nq) (sH.trans s2) eq hr' tb
def zmi (K:W.Frag):Sp:=fun vs H Q _=>L2.Ee4 fun p xs (es:List Er) w=>L2.Aa5 (vs=[.ref p,.str w]) (SqL K H p xs) (EL K H xs es) (es.length<=61) (∀ q H' (ns:List Int),H q=none->Same H H'->H' q=some (.lst (ns.map V.int))->Days ns (dys w es)->Q (.ref q) H')
theorem zsa:zk qae qae (zi zhv):=by walk_at "sp"
theorem zsG (S:Src K mg "days_of" zhv qae) (T:Txt K mg) (za3:∀ k:Ek,zv P w K mg base 1 (cA K k.cls) "word" qaa (zaE k K)):Def P w K mg base 2 "days_of" qae (zmi K):=by
 refine S.ok zsa (fun vs H Q E h=>?_) (fun f cdv A outer s H vs Q E hr h=>?_)
 ·obtain ⟨p,xs,es,ww,rfl,ep,hE,hl,h⟩:=h
  rfl
 obtain ⟨p,xs,es,ww,rfl,ep,hE,hl,h⟩:=h
 refine ⟨_,(zf (zl (zD (zct rfl) rfl T.zbG PyProof.Rows.boot_sorted (za (zH (zfl rfl) rfl T.ziZ PyProof.Rows.boot_set (za (zdB (ix:=[1]) ⟨rfl,by decide +kernel,rfl,by decide +kernel,rfl,(show (["entry", "word"]:List Str).Nodup by decide +kernel),by walk_at "cap", by walk_at "sub", by walk_at "has"⟩ (zT (pv 0)) (fun b=>(zw zaa (zf2 K za3 T.clE hr (pv 0)) (pv 1) (nomark _))) (fun b=>(zcy K (pv 0) rfl))) zd)) zd)))),?_⟩
 have sz:=sizeLine_eq
 have xl:=hE.length
 nofun
 refine ⟨⟨_,ep⟩,fun l nl=>?_⟩
 refine zgA (zay ep) nl (by ac_rfl) es xl.symm (isW ww) (fun _ v e=>v=.int e.2.1) (fun v e H1 H2 s q=>q) (fun v e H1 ys zs hL q=>q) ?_ ?_ ?_
 ·rintro i x e H' Q' hx he sH hq
  obtain ⟨e',he',a,dx,rfl,hi⟩:=(hE.same sH).get hx
  obtain rfl:e'=e:=Option.some.inj (he'.symm.trans he)
  nofun
  refine ⟨e'.1,a,dx,_,rfl,hi,zhm _ _ _,a,rfl,?_⟩
  nofun
  exact hq
 ·rintro i x e H' Q' hx he fe sH hq
  obtain ⟨e',he',a,dx,rfl,hi⟩:=(hE.same sH).get hx
  obtain rfl:e'=e:=Option.some.inj (he'.symm.trans he)
  nofun
  refine ⟨a,_,dx,_,_,rfl,hi,T.clE _,T.zbg _,zg1 _ _ _,?_⟩
  exact hq _ _ (Same.refl _) rfl
 ·rintro ys H' sH eL hL
  have ey:ys=(dys ww es).map V.int:=by
   have:=hL.eqm (g:=fun e:Er=>V.int e.2.1)
   rw[this]
   unfold dys
   rw[ybs]
   rfl
  subst ey
  nofun
  refine ⟨l,dys ww es,rfl,SqL.of eL,ycw zrr (by ac_rfl),fun p1 H1 ms np1 s1 e1 nd mm ml=>?_⟩
  nofun
  refine ⟨p1,ms,rfl,e1,?_,fun q H2 ns nq s2 eq pm up=>?_⟩
  ·exact ycw (ycz (zgO nd fun d hd=>(mm d).mp hd) zrr) (by ac_rfl)
  ·exact h q H2 ns (zJ (sH.trans s1) nq) (sH.trans (s1.trans s2)) eq (Days.of nd mm pm up)
def zjJ (K:W.Frag):Sp:=fun vs H Q _=>L2.Ee4 fun p xs (es:List Er) w=>L2.Aa7 (vs=[.ref p,.str w]) (SqL K H p xs) (EL K H xs es) (es.length<=61) (RtW w) ((∀ e∈es,0<=e.2.1)) (∀ q H' ws (r:List (Int × Int)),H q=none->Same H H'->H' q=some (.lst ws)->zA K H' ws r->Stills.TabOf (prs w es) r->r=(r.map (·.1)).map (fun d=>(d,Sums.valOf (prs w es) d))->r.length<=61->Q (.ref q) H')
theorem zow:zk qae qae (zi zel):=by walk_at "sp"
theorem zpv (S:Src K mg "rate_table" zel qae) (T:Txt K mg) (zji:Def P w K mg base 1 "table_of" qai (zlk K)) (za3:∀ k:Ek,zv P w K mg base 1 (cA K k.cls) "word" qaa (zaE k K)):Def P w K mg base 2 "rate_table" qae (zjJ K):=by
 refine S.ok zow (fun vs H Q E h=>?_) (fun f cdv A outer s H vs Q E hr h=>?_)
 ·obtain ⟨p,xs,es,ww,rfl,ep,hE,hl,hw,e0,h⟩:=h
  rfl
 obtain ⟨p,xs,es,ww,rfl,ep,hE,hl,hw,e0,h⟩:=h
 refine ⟨_,(zf (zl (zu zji hr (za (zdB (ix:=[1]) ⟨rfl,by decide +kernel,rfl,by decide +kernel,rfl,(show (["entry", "word"]:List Str).Nodup by decide +kernel),by walk_at "cap", by walk_at "sub", by walk_at "has"⟩ (zT (pv 0)) (fun b=>(zw zaa (zf2 K za3 T.clE hr (pv 0)) (pv 1) (nomark _))) (fun b=>(zaj (za (zcy K (pv 0) rfl) (za (zcy K (pv 0) rfl) zd))))) zd)))),?_⟩
 have sz:=sizeLine_eq
 nofun
 have xl:=hE.length
 have pl:=ycz (zgi (w:=ww) (es:=es)) hl
 refine ⟨⟨_,ep⟩,fun l nl=>?_⟩
 refine zgA (zay ep) nl (by ac_rfl) es xl.symm (isW ww) (fun H' v e=>∃ t,v=.ref t/\H' t=some (.tup [.int e.2.1,.int e.2.2])) (fun v e H1 H2 s ⟨t,e1,e2⟩=>⟨t,e1,s _ _ e2⟩) (fun v e H1 ys zs hL ⟨t,e1,e2⟩=>⟨t,e1,by rw[zp (zan e2 hL (by intro z;cases z))];exact e2⟩) ?_ ?_ ?_
 ·rintro i x e H' Q' hx he sH hq
  obtain ⟨e',he',a,dx,rfl,hi⟩:=(hE.same sH).get hx
  obtain rfl:e'=e:=Option.some.inj (he'.symm.trans he)
  nofun
  refine ⟨e'.1,a,dx,_,rfl,hi,zhm _ _ _,a,rfl,?_⟩
  nofun
  exact hq
 ·rintro i x e H' Q' hx he fe sH hq
  obtain ⟨e',he',a,dx,rfl,hi⟩:=(hE.same sH).get hx
  obtain rfl:e'=e:=Option.some.inj (he'.symm.trans he)
  nofun
  refine ⟨a,_,dx,_,_,rfl,hi,T.clE _,T.zbg _,zg1 _ _ _,?_⟩
  nofun
  refine ⟨a,_,dx,_,_,rfl,hi,T.clE _,T.zlJ _,rtl hw fe,?_⟩
  nofun
  intro t nt
  exact hq _ _ (ze nt _) ⟨t,rfl,zg⟩
 ·rintro ys H' sH eL hL
  have hR:zA K H' ys (prs ww es):=zla hL
  nofun
  refine ⟨l,ys,prs ww es,rfl,eL,hR,by ac_rfl,?_,fun q H2 ws r nq s2 eq hr' tb er rl=>?_⟩
  ·intro s hs
   obtain ⟨e,he,rfl⟩:=yaf.mp hs
   exact e0 e (yao.mp he).1
  ·exact h q H2 ws r (zJ sH nq) (sH.trans s2) eq hr' tb er (by ac_rfl)
def ziC (K:W.Frag):Sp:=fun vs H Q _=>∃ (p:Addr) (xs:List V) (es:List Er),vs=[.ref p]/\SqL K H p xs/\EL K H xs es/\es.length<=61 /\
 ∀ q H' ws (r:List (Int × Int)),H q=none->Same H H'->H' q=some (.lst ws)->zA K H' ws r->Spans.Joined r->(∀ d,Spans.Cov r d↔Spans.Cov (prs "still" es) d)->r.length<=61->Q (.ref q) H'
theorem ziL:zk ["entries", "stills"] qbn (zi zdf):=by walk_at "sp"
theorem zoa (S:Src K mg "still_spans" zdf qbn) (T:Txt K mg) (za3:∀ k:Ek,zv P w K mg base 1 (cA K k.cls) "word" qaa (zaE k K)) (zlT:Def P w K mg base 1 "joined" ["spans"] (znZ K)):Def P w K mg base 2 "still_spans" qbn (ziC K):=by
 refine S.ok ziL (fun vs H Q E h=>?_) (fun f cdv A outer s H vs Q E hr h=>?_)
 ·obtain ⟨p,xs,es,rfl,ep,hE,hl,h⟩:=h
  rfl
 obtain ⟨p,xs,es,rfl,ep,hE,hl,h⟩:=h
 refine ⟨_,(zc (zs1 (i:=1) ziL.nd rfl rfl (ix:=[]) ⟨rfl,by decide +kernel,rfl,by decide +kernel,rfl,(show (["entry"]:List Str).Nodup by decide +kernel),by walk_at "cap", by walk_at "sub", by walk_at "has"⟩ (zT (pv 0)) (fun b=>(zw zaa (zf2 K za3 T.clE hr (pv 0)) zz (nomark _))) (fun b=>(pv 0)))
  (zf (zl (zu zlT hr (za (zdB (ix:=[]) ⟨rfl,by decide +kernel,rfl,by decide +kernel,rfl,(show (["entry"]:List Str).Nodup by decide +kernel),by walk_at "cap", by walk_at "sub", by walk_at "has"⟩ (zT (pv 1)) (fun b=>(zw zgd (zcy K (pv 0) rfl) (zcy K (pv 0) rfl) (nomark _))) (fun b=>(zaj (za (zcy K (pv 0) rfl) (za (zcy K (pv 0) rfl) zd))))) zd))))),?_⟩
 have sz:=sizeLine_eq
 nofun
 have xl:=hE.length
 refine ⟨⟨_,ep⟩,fun l nl=>?_⟩
 refine zgA (zay ep) nl (by ac_rfl) es xl.symm (isW "still") (fun H' v e=>∃ a dx,v=.ref a/\zkW K H' a dx e.1 e.2.1 e.2.2) (fun v e H1 H2 s ⟨t,dx,e1,e2⟩=>⟨t,dx,e1,s _ _ e2⟩) (fun v e H1 ys zs hL ⟨t,dx,e1,e2⟩=>⟨t,dx,e1,by rw[zkW,zp (zan e2 hL (by intro z;cases z))];exact e2⟩) ?_ ?_ ?_
 ·rintro i x e H' Q' hx he sH hq
  obtain ⟨e',he',a,dx,rfl,hi⟩:=(hE.same sH).get hx
  obtain rfl:e'=e:=Option.some.inj (he'.symm.trans he)
  nofun
  refine ⟨e'.1,a,dx,_,rfl,hi,zhm _ _ _,a,rfl,?_⟩
  nofun
  exact hq
 ·rintro i x e H' Q' hx he fe sH hq
  obtain ⟨e',he',a,dx,rfl,hi⟩:=(hE.same sH).get hx
  obtain rfl:e'=e:=Option.some.inj (he'.symm.trans he)
  nofun
  exact hq _ _ (Same.refl _) ⟨a,dx,rfl,hi⟩
 ·rintro ys H1 s1 eL hL
  have hE1:EL K H1 ys (es.filter (isW "still")):=hL
  have yl:=hE1.length
  have fl:=yaz (isW "still") es
  nofun
  refine ⟨⟨_,SqL.of eL⟩,fun l2 nl2=>?_⟩
  have isS:∀ {i:Nat} {e:Er},(es.filter (isW "still"))[i]?=some e->isW "still" e=true:=fun {i e} he=>(yao.mp (yai he)).2
  refine zgA (zay (SqL.of eL)) nl2 (by ac_rfl) (es.filter (isW "still")) yl.symm (fun e:Er=>decide (e.2.1<e.2.2)) (fun H' v e=>∃ t,v=.ref t/\H' t=some (.tup [.int e.2.1,.int e.2.2])) (fun v e H1 H2 s ⟨t,e1,e2⟩=>⟨t,e1,s _ _ e2⟩) (fun v e H1 ys zs hL ⟨t,e1,e2⟩=>⟨t,e1,by rw[zp (zan e2 hL (by intro z;cases z))];exact e2⟩) ?_ ?_ ?_
  ·rintro i x e H' Q' hx he sH hq
   obtain ⟨e',he',a,dx,rfl,hi⟩:=(hE1.same sH).get hx
   obtain rfl:e'=e:=Option.some.inj (he'.symm.trans he)
   nofun
   refine ⟨a,_,dx,_,_,rfl,hi,T.clE _,T.zbg _,zg1 _ _ _,?_⟩
   nofun
   refine ⟨a,_,dx,_,_,rfl,hi,T.clE _,T.zkG _,stl (isS he),?_⟩
   nofun
   exact hq
  ·rintro i x e H' Q' hx he fe sH hq
   obtain ⟨e',he',a,dx,rfl,hi⟩:=(hE1.same sH).get hx
   obtain rfl:e'=e:=Option.some.inj (he'.symm.trans he)
   nofun
   refine ⟨a,_,dx,_,_,rfl,hi,T.clE _,T.zbg _,zg1 _ _ _,?_⟩
   nofun
   refine ⟨a,_,dx,_,_,rfl,hi,T.clE _,T.zkG _,stl (isS he),?_⟩
   nofun
   intro t nt
   exact hq _ _ (ze nt _) ⟨t,rfl,zg⟩
  ·rintro zs H2 s2 eL2 hL2
   have hR:zA K H2 zs (((es.filter (isW "still")).filter fun e:Er=>decide (e.2.1<e.2.2)).map (·.2)):=zla hL2
   have em:((es.filter (isW "still")).filter fun e:Er=>decide (e.2.1<e.2.2)).map (·.2)=(prs "still" es).filter fun s=>decide (s.1<s.2):=by
    unfold prs
    rw[List.filter_map]
    rfl
   rw[em] at hR
   have pl:=yaz (fun s:Int × Int=>decide (s.1<s.2)) (prs "still" es)
   have pl2:=zgi (w:="still") (es:=es)
   nofun
   refine ⟨l2,zs,_,rfl,SqL.of eL2,hR,by ac_rfl,fun s hs=>?_,fun q ws r H3 s3 nq eq rR J cv rl=>?_⟩
   ·simpa using (yao.mp hs).2
   ·exact h q H3 ws r (zJ (s1.trans s2) nq) (s1.trans (s2.trans s3)) eq rR J (fun d=>(cv d).trans (ztG _ d)) (by ac_rfl)
def zlo (K:W.Frag):Sp:=fun vs H Q _=>∃ c b wd,vs=[.int c,.int b,.int wd]/\(0<=b/\b<=999800)/\(1<=wd/\wd<=200)/\∀ r k d x H',Same H H'->H r=none->H' r=some (.tup (zcv k d x))->k≠.base->(b<=d/\d<b+200)->zt7 k d x->Q (.ref r) H'
theorem zc2:zk ["_law_cell", "_law_base_here", "_law_wide", "_law_xs", "_law_day", "_law_words", "_law_word"] qbo (zi zf9):=by walk_at "sp"
theorem zsc (S:Src K mg "_law_row" zf9 qbo) (T:Txt K mg) (zaP:Def P w K mg base 1 "_law_draws" qat (zde K)) (zgL:Def P w K mg base 1 "_law_value" qbg (zjK K)):Def P w K mg base 2 "_law_row" qbo (zlo K):=by
 refine S.ok zc2 (fun vs H Q E h=>?_) (fun f cdv A outer s H vs Q E hr h=>?_)
 ·obtain ⟨c,b,wd,rfl,⟨b0,b1⟩,⟨w0,w1⟩,h⟩:=h
  rfl
 obtain ⟨c,b,wd,rfl,⟨b0,b1⟩,⟨w0,w1⟩,h⟩:=h
 refine ⟨_,(zc (zj (i:=3) zc2.nd rfl (by walk_at "lc") (zu zaP hr (za (pv 0) (za zb zd))))
  (zc (zj (i:=4) zc2.nd rfl (by walk_at "lc") (zh zy (pv 1) (zh zI (zo zt (pv 3) zb (fun _ _=>rfl)) (zo zt (zU (za zb (za zb (za (pv 2) zd)))) (zh zI (zo zt (pv 3) zb (fun _ _=>rfl)) zb) (fun _ _=>rfl)))))
  (zc (zj (i:=5) zc2.nd rfl (by walk_at "lc") (zU (za zz (za zz (za zz (za zz (za zz (za zz (za zz (za zz (za zz (za zz (za zz (za zz (za zz zd)))))))))))))))
  (zc (zj (i:=6) zc2.nd rfl (by walk_at "lc") (zo zt (pv 5) (zh zI (zo zt (pv 3) zb (fun _ _=>rfl)) zb) (fun _ _=>rfl)))
  (zf (zl (zaj (za (pv 6) (za (pv 4) (za (zu zgL hr (za (pv 6) (za (pv 4) (za (pv 3) zd)))) zd)))))))))),?_⟩
 have sz:=sizeLine_eq
 nofun
 intro p ns H1 s1 np ep nl nn
 have nl8:ns.length=8:=by ac_rfl
 obtain ⟨n0,n1,n2,n3,n4,n5,n6,n7,rfl⟩:=ztd nl8
 have p0:=nn n0 (by simp)
 have p1:=nn n1 (by simp)
 have p2:=nn n2 (by simp)
 have hp:SqL K H1 p (List.map V.int [n0,n1,n2,n3,n4,n5,n6,n7]):=SqL.of ep
 nofun
 refine ⟨p,_,_,_,rfl,rfl,hp,rfl,?_⟩
 nofun
 intro l2 m2
 have s2:=ze m2 (.lst [.int 4,.int 30,.int wd])
 have hp2:=s2.seq hp
 have z2:SqL K (upd H1 l2 (.lst [.int 4,.int 30,.int wd])) l2 [.int 4,.int 30,.int wd]:=SqL.of zg
 generalize upd H1 l2 (.lst [.int 4,.int 30,.int wd])=H2 at s2 hp2 z2 ⊢
 have a0:=ydr n1 (show (3:Int)≠0 by decide)
 have a1:=ydq n1 (show (0:Int)<3 by decide)
 nofun
 refine ⟨p,_,_,_,rfl,rfl,hp2,rfl,?_⟩
 nofun
 obtain ⟨m,am,hm⟩:=zqf (a:=4) (b:=30) (c:=wd) a0 a1
 refine ⟨l2,_,_,_,rfl,rfl,z2,am,?_⟩
 have c0:=ydr n0 (show m≠0 by ac_rfl)
 have c1:=ydq n0 (show 0<m by ac_rfl)
 nofun
 intro l3 m3
 have s3:=ze m3 (.lst [.str "out", .str "pay", .str "due", .str "rate", .str "fee", .str "pay", .str "out", .str "late", .str "turn", .str "due", .str "still", .str "pay", .str "rate"])
 have hp3:=s3.seq hp2
 have z3:SqL K (upd H2 l3 (.lst [.str "out", .str "pay", .str "due", .str "rate", .str "fee", .str "pay", .str "out", .str "late", .str "turn", .str "due", .str "still", .str "pay", .str "rate"])) l3 [.str "out", .str "pay", .str "due", .str "rate", .str "fee", .str "pay", .str "out", .str "late", .str "turn", .str "due", .str "still", .str "pay", .str "rate"]:=SqL.of zg
 generalize upd H2 l3 (.lst [.str "out", .str "pay", .str "due", .str "rate", .str "fee", .str "pay", .str "out", .str "late", .str "turn", .str "due", .str "still", .str "pay", .str "rate"])=H3 at s3 hp3 z3 ⊢
 have e0:=ydr n2 (show (13:Int)≠0 by decide)
 have e1:=ydq n2 (show (0:Int)<13 by decide)
 nofun
 refine ⟨p,_,_,_,rfl,rfl,hp3,rfl,?_⟩
 nofun
 obtain ⟨v,hv,hw⟩:=zfk (xs:=[.str "out", .str "pay", .str "due", .str "rate", .str "fee", .str "pay", .str "out", .str "late", .str "turn", .str "due", .str "still", .str "pay", .str "rate"]) e0 (by simpa using e1)
 obtain ⟨k,rfl,hk⟩:=((zaz ⟨.out,rfl,by intro z;cases z⟩ (zaz ⟨.pay,rfl,by intro z;cases z⟩ (zaz ⟨.due,rfl,by intro z;cases z⟩ (zaz ⟨.rate,rfl,by intro z;cases z⟩ (zaz ⟨.fee,rfl,by intro z;cases z⟩ (zaz ⟨.pay,rfl,by intro z;cases z⟩ (zaz ⟨.out,rfl,by intro z;cases z⟩ (zaz ⟨.late,rfl,by intro z;cases z⟩ (zaz ⟨.turn,rfl,by intro z;cases z⟩ (zaz ⟨.due,rfl,by intro z;cases z⟩ (zaz ⟨.still,rfl,by intro z;cases z⟩ (zaz ⟨.pay,rfl,by intro z;cases z⟩ (zaz ⟨.rate,rfl,by intro z;cases z⟩ zlY))))))))))))):∀ v∈([.str "out", .str "pay", .str "due", .str "rate", .str "fee", .str "pay", .str "out", .str "late", .str "turn", .str "due", .str "still", .str "pay", .str "rate"]:List V),∃ k:Ek,v=.str k.word/\k≠.base) v hw
 refine ⟨l3,_,_,_,rfl,rfl,z3,hv,?_⟩
 nofun
 refine ⟨k,_,p,_,rfl,hp3,nl8,nn,⟨by ac_rfl,by ac_rfl⟩,hk,fun x hx=>?_⟩
 nofun
 intro r nr
 exact h r k _ x _ (s1.trans (s2.trans (s3.trans (ze nr _)))) (zJ (s1.trans (s2.trans s3)) nr) zg hk ⟨by ac_rfl,by ac_rfl⟩ hx
noncomputable def baseOf (ns:List Int):Int:=cellAt ns 1 % 999801
theorem zj6 (ns:List Int):0<=baseOf ns/\baseOf ns<=999800:=by
 unfold baseOf
 omega
def zd6 (K:W.Frag):Sp:=fun vs H Q _=>∃ (p:Addr) (ns:List Int),vs=[.ref p]/\SqL K H p (ns.map V.int)/\Q (.int (baseOf ns)) H
theorem zo2:zk qab qab (zi ze0):=by walk_at "sp"
theorem zqY (S:Src K mg "_law_base" ze0 qab) (T:Txt K mg) (zK:Def P w K mg base 1 "_law_cell_at" qam (zaD K)):Def P w K mg base 2 "_law_base" qab (zd6 K):=by
 refine S.ok zo2 (fun vs H Q E h=>?_) (fun f cdv A outer s H vs Q E hr h=>?_)
 ·obtain ⟨p,ns,rfl,hp,h⟩:=h
  rfl
 obtain ⟨p,ns,rfl,hp,h⟩:=h
 refine ⟨_,(zf (zl (zh zI (zu zK hr (za (pv 0) (za zb zd))) zb))),?_⟩
 nofun
 refine ⟨p,ns,1,rfl,hp,?_⟩
 nofun
 exact h
noncomputable def zbW (ns:List Int):Int:=(fun c:Int=>if c % 5=4 then c / 5 % 367 else if c % 5=3 then 30 else if c % 5=2 then 3 else 0) (cellAt ns 0 / 4)
theorem zjh (ns:List Int):0<=zbW ns/\zbW ns<=366:=by
 unfold zbW
 generalize cellAt ns 0 / 4=c
 dsimp only
 split
 ·omega
 ·split
  ·omega
  ·split <;> omega
def zfQ (K:W.Frag):Sp:=fun vs H Q _=>∃ (p:Addr) (ns:List Int),vs=[.ref p]/\SqL K H p (ns.map V.int)/\Q (.int (zbW ns)) H
theorem zjL:zk ["_law_script", "_law_cell"] qab (zi zdZ):=by walk_at "sp"
theorem zpG (S:Src K mg "_law_grace" zdZ qab) (T:Txt K mg) (zK:Def P w K mg base 1 "_law_cell_at" qam (zaD K)):Def P w K mg base 2 "_law_grace" qab (zfQ K):=by
 refine S.okF zjL (fun vs H Q E h=>?_) (fun f cdv A outer s H vs Q E hr h=>?_)
 ·obtain ⟨p,ns,rfl,hp,h⟩:=h
  rfl
 obtain ⟨p,ns,rfl,hp,h⟩:=h
 refine ⟨_,(zc (zj (i:=1) zjL.nd rfl (by walk_at "lc") (zh za2 (zu zK hr (za (pv 0) (za zb zd))) zb))
  (zf (zl (zo zt (zU (za zb (za zb (za zb (za zb (za (zh zI (zh za2 (pv 1) zb) zb) zd)))))) (zh zI (pv 1) zb) (fun _ _=>rfl))))),?_⟩
 nofun
 refine ⟨p,ns,0,rfl,hp,?_⟩
 nofun
 intro q nq
 have c0:=ydr (cellAt ns 0 / 4) (show (5:Int)≠0 by decide)
 have c1:=ydq (cellAt ns 0 / 4) (show (0:Int)<5 by decide)
 nofun
 have at_:atI [V.int 0,V.int 0,V.int 3,V.int 30,V.int (cellAt ns 0 / 4 / 5 % 367)] (cellAt ns 0 / 4 % 5)=some (.int (zbW ns)):=by
  unfold zbW
  generalize cellAt ns 0 / 4=c at c0 c1 ⊢
  dsimp only
  rcases (show c % 5=0\/c % 5=1\/c % 5=2\/c % 5=3\/c % 5=4 by ac_rfl) with e | e | e | e | e <;> rw[e] <;> rfl
 refine ⟨q,_,_,_,rfl,rfl,SqL.of zg,at_,?_⟩
 exact ⟨ze nq _,h⟩
noncomputable def kindOf (ns:List Int):Kd:=(fun c:Int=>if c=0 then .plain else if c=1 then .bank else if c=2 then .thirty else .exact) (cellAt ns 0 % 4)
def zjH (K:W.Frag):Sp:=fun vs H Q _=>∃ (p:Addr) (ns:List Int),vs=[.ref p]/\SqL K H p (ns.map V.int)/\∀ c H',H c=none->Same H H'->zcb K H' c (kindOf ns)->Q (.ref c) H'
theorem zn5:zk qab qab (zi zef):=by walk_at "sp"
theorem zoM (S:Src K mg "_law_count" zef qab) (T:Txt K mg) (zK:Def P w K mg base 1 "_law_cell_at" qam (zaD K)):Def P w K mg base 2 "_law_count" qab (zjH K):=by
 refine S.ok zn5 (fun vs H Q E h=>?_) (fun f cdv A outer s H vs Q E hr h=>?_)
 ·obtain ⟨p,ns,rfl,hp,h⟩:=h
  rfl
 obtain ⟨p,ns,rfl,hp,h⟩:=h
 refine ⟨_,(zf (zl (zo zt (zU (za (zkP (T.mk0 .plain) T.zk8) (za (zkP (T.mk0 .bank) T.zpp) (za (zkP (T.mk0 .thirty) T.zlW) (za (zkP (T.mk0 .exact) T.znb) zd))))) (zh zI (zu zK hr (za (pv 0) (za zb zd))) zb) (fun _ _=>rfl)))),?_⟩
 have c0:=ydr (cellAt ns 0) (show (4:Int)≠0 by decide)
 have c1:=ydq (cellAt ns 0) (show (0:Int)<4 by decide)
 have new:∀ (kd:Kd) (H1:Hp) (x dx:Addr),H1 x=none->H1 dx=none->dx≠x->Same H1 (upd (upd H1 dx (.own x)) x (.ins (cA K kd.cls) dx []))/\zcb K (upd (upd H1 dx (.own x)) x (.ins (cA K kd.cls) dx [])) x kd:=fun kd H1 x dx nx nd ne =>
  ⟨(ze nd _).trans (ze (by rw[zp ne.symm];exact nx) _),dx,zg⟩
 nofun
 intro x1 d1 nx1 nd1 ne1
 obtain ⟨s1,i1⟩:=new .plain _ x1 d1 nx1 nd1 ne1
 generalize upd (upd H d1 (.own x1)) x1 (.ins (cA K Kd.plain.cls) d1 [])=H1 at s1 i1 ⊢
 nofun
 intro x2 d2 nx2 nd2 ne2
 obtain ⟨s2,i2⟩:=new .bank _ x2 d2 nx2 nd2 ne2
 generalize upd (upd H1 d2 (.own x2)) x2 (.ins (cA K Kd.bank.cls) d2 [])=H2 at s2 i2 ⊢
 nofun
 intro x3 d3 nx3 nd3 ne3
 obtain ⟨s3,i3⟩:=new .thirty _ x3 d3 nx3 nd3 ne3
 generalize upd (upd H2 d3 (.own x3)) x3 (.ins (cA K Kd.thirty.cls) d3 [])=H3 at s3 i3 ⊢
 nofun
 intro x4 d4 nx4 nd4 ne4
 obtain ⟨s4,i4⟩:=new .exact _ x4 d4 nx4 nd4 ne4
 generalize upd (upd H3 d4 (.own x4)) x4 (.ins (cA K Kd.exact.cls) d4 [])=H4 at s4 i4 ⊢
 nofun
 intro q nq
 have s5:=ze nq (.lst [.ref x1,.ref x2,.ref x3,.ref x4])
 have sA:=s1.trans (s2.trans (s3.trans (s4.trans s5)))
 nofun
 refine ⟨p,ns,0,rfl,sA.seq hp,?_⟩
 nofun
 have:∃ x,atI [V.ref x1,V.ref x2,V.ref x3,V.ref x4] (cellAt ns 0 % 4)=some (.ref x)/\zcb K H4 x (kindOf ns)/\H x=none:=by
  unfold kindOf
  dsimp only
  rcases (show cellAt ns 0 % 4=0\/cellAt ns 0 % 4=1\/cellAt ns 0 % 4=2\/cellAt ns 0 % 4=3 by ac_rfl) with e | e | e | e <;> rw[e]
  ·exact ⟨x1,rfl,i1.same (s2.trans (s3.trans s4)),nx1⟩
  ·exact ⟨x2,rfl,i2.same (s3.trans s4),zJ s1 nx2⟩
  ·exact ⟨x3,rfl,i3.same s4,zJ (s1.trans s2) nx3⟩
  ·exact ⟨x4,rfl,i4,zJ (s1.trans (s2.trans s3)) nx4⟩
 obtain ⟨x,ax,ix,nx⟩:=this
 refine ⟨q,_,_,_,rfl,rfl,SqL.of zg,ax,?_⟩
 exact h x _ nx sA (ix.same s5)
theorem zv9 {y m:Int} (h1:1<=m) (h2:m<=12):atI [V.int 31,.int (28+Cal.lp y),.int 31,.int 30,.int 31,.int 30,.int 31,.int 31,.int 30,.int 31,.int 30,.int 31] (m-1)=some (.int (Cal.mlen y m)):=by
 rcases (show m=1\/m=2\/m=3\/m=4\/m=5\/m=6\/m=7\/m=8\/m=9\/m=10\/m=11\/m=12 by omega) with e | e | e | e | e | e | e | e | e | e | e | e <;> subst e <;> rfl
def zcp (K:W.Frag):Sp:=fun vs H Q _=>∃ y m,vs=[.int y,.int m]/\1<=m/\m<=12/\Q (.int (Cal.mlen y m)) H
theorem zkz:zk qau qau (zi zbP):=by walk_at "sp"
theorem zlf (S:Src K mg "_law_month_size" zbP qau) (T:Txt K mg) (zaL:Def P w K mg base 1 "_law_leap" qaq (zdT K)):Def P w K mg base 2 "_law_month_size" qau (zcp K):=by
 refine S.okF zkz (fun vs H Q E h=>?_) (fun f cdv A outer s H vs Q E hr h=>?_)
 ·obtain ⟨y,m,rfl,h1,h2,h⟩:=h
  rfl
 obtain ⟨y,m,rfl,h1,h2,h⟩:=h
 refine ⟨_,(zf (zl (zo zt (zU (za zb (za (zh zy zb (zH zfm rfl T.zdc PyProof.Rows.boot_int (za (zu zaL hr (za (pv 0) zd)) zd))) (za zb (za zb (za zb (za zb (za zb (za zb (za zb (za zb (za zb (za zb zd))))))))))))) (zh zW (pv 1) zb) (fun _ _=>rfl)))),?_⟩
 nofun
 refine .inr ⟨_,rfl,?_⟩
 nofun
 intro p np
 nofun
 refine ⟨p,_,_,_,rfl,rfl,SqL.of zg,zv9 (y:=y) h1 h2,?_⟩
 exact ⟨ze np _,h⟩
def zkD (P:Program) (w:World) (K:W.Frag):Sp:=fun vs H Q _=>L2.Ee4 fun q rs (es:List Er) b=>L2.Aa7 (vs=[.ref q,.int b]) (H q=some (.lst rs)) (RL3 H rs es) (es.length<=100) ((∀ e∈es,isW "still" e=true->b<=e.2.1/\e.2.1<=e.2.2/\e.2.2<=b+249)) ((∀ e∈es,b<=e.2.1/\e.2.1<b+250)) (∀ d acc (ep:Nat) H',H d=none->Same H H'->H' d=some (zb4 P w d acc ep)->Sby.Tot acc (mvp (mvd (prs "still" es)) (prs "due" es))->Q (.ref d) H')
theorem zgC:zk ["_law_rows_here", "_law_base_here", "_law_flags", "_law_falls_here"] qan (zi ze2):=by walk_at "sp"
theorem zqP (S:Src K mg "_law_dues" ze2 qan) (T:Txt K mg) (zb1:Def P w K mg base 1 "_law_still" qan (zfO K)) (zgp:Def P w K mg base 1 "_law_falls" qbh (zjM K)) (zcj:Def P w K mg base 1 "_law_sums" qaj (zhd P w K)):Def P w K mg base 2 "_law_dues" qan (zkD P w K):=by
 refine S.ok zgC (fun vs H Q E h=>?_) (fun f cdv A outer s H vs Q E hr h=>?_)
 ·obtain ⟨q,rs,es,b,rfl,hq,hR,hl,o1,o2,h⟩:=h
  rfl
 obtain ⟨q,rs,es,b,rfl,hq,hR,hl,o1,o2,h⟩:=h
 refine ⟨_,(zc (zj (i:=2) zgC.nd rfl (by walk_at "lc") (zu zb1 hr (za (pv 0) (za (pv 1) zd))))
  (zc (zmz (i:=3) zgC.nd rfl rfl (ix:=[1,2]) ⟨rfl,by decide +kernel,rfl,by decide +kernel,rfl,rfl,rfl,  (show (["_law_word", "_law_day", "_law_value_here", "_law_base_here", "_law_flags"]:List Str).Nodup by decide +kernel),by walk_at "cap", by walk_at "sub", by walk_at "has"⟩ (zT (pv 0)) (fun b=>(zw zaa (pv 0) zz (nomark _))) (fun b=>(zaj (za (pv 0) (za (zu zgp hr (za (pv 4) (za (pv 3) (za (pv 1) zd)))) (za (pv 2) zd))))))
  (zf (zl (zu zcj hr (za (pv 3) (za zz zd))))))),?_⟩
 have sz:=sizeLine_eq
 have xl:=hR.length
 nofun
 refine ⟨q,rs,es,b,rfl,SqL.of hq,hR,o1,by ac_rfl,fun p fl H1 np s1 eP F=>?_⟩
 nofun
 refine ⟨⟨_,SqL.of (s1 _ _ hq)⟩,fun l nl=>?_⟩
 refine zkI (zay (SqL.of (s1 _ _ hq))) nl (by ac_rfl) es xl.symm (fun e=>(V.str e.1.word,V.int e.2.1,V.int e.2.2)) (fun i x e hx he=>?_) (isW "due") (fun H' v e=>∃ t,v=.ref t/\H' t=some (.tup (zcv e.1 (mvd (prs "still" es) e.2.1) e.2.2))) (fun v e H1 H2 s ⟨t,e1,e2⟩=>⟨t,e1,s _ _ e2⟩) (fun v e H1 ys zs hL ⟨t,e1,e2⟩=>⟨t,e1,by rw[zp (zan e2 hL (by intro z;cases z))];exact e2⟩) ?_ ?_ ?_
 ·obtain ⟨e',he',t,rfl,ht⟩:=(hR.same s1).get hx
  obtain rfl:e'=e:=Option.some.inj (he'.symm.trans he)
  exact ⟨t,rfl,ht⟩
 ·rintro e H' Q' em sH hq'
  nofun
  exact hq' _ (Same.refl _)
 ·rintro e H' Q' em fe sH hq'
  nofun
  refine ⟨p,fl,b,e.2.1,prs "still" es,rfl,SqL.of (sH _ _ eP),F,o2 e em,?_⟩
  nofun
  intro t nt
  exact hq' _ _ (ze nt _) ⟨t,rfl,zg⟩
 ·rintro ys H' sH eL hL
  have hR':RL3 H' ys ((es.filter (isW "due")).map fun e=>(e.1,mvd (prs "still" es) e.2.1,e.2.2)):=by
   clear eL
   revert hL
   generalize es.filter (isW "due")=fs
   intro hL
   induction hL with
   | nil=>exact .nil
   | cons h _ ih=>exact .cons h ih
  nofun
  refine ⟨l,ys,_, "due", rfl,SqL.of eL,hR',by rw[yab];exact ycz (yaz _ _) hl,fun d acc ep H2 nd2 s2 eD tt=>?_⟩
  rw[zsT] at tt
  exact h d acc ep H2 (zJ (s1.trans sH) nd2) (s1.trans (sH.trans s2)) eD tt
def zj4 (K:W.Frag):Sp:=fun vs H Q _=>∃ (p:Addr) (ns:List Int),vs=[.ref p]/\SqL K H p (ns.map V.int)/\Q (.int (10000*yr (kindOf ns))) H
theorem zpO:zk qab qab (zi ze3):=by walk_at "sp"
theorem zqJ (S:Src K mg "_law_unit" ze3 qab) (T:Txt K mg) (zK:Def P w K mg base 1 "_law_cell_at" qam (zaD K)):Def P w K mg base 2 "_law_unit" qab (zj4 K):=by
 refine S.okF zpO (fun vs H Q E h=>?_) (fun f cdv A outer s H vs Q E hr h=>?_)
 ·obtain ⟨p,ns,rfl,hp,h⟩:=h
  rfl
 obtain ⟨p,ns,rfl,hp,h⟩:=h
 refine ⟨_,(zf (zl (zh zat (zbd (v:=10000) (by decide +kernel) ⟨by decide,by decide,by decide⟩) (zo zt (zU (za zb (za zb (za zb (za zb zd))))) (zh zI (zu zK hr (za (pv 0) (za zb zd))) zb) (fun _ _=>rfl))))),?_⟩
 have c0:=ydr (cellAt ns 0) (show (4:Int)≠0 by decide)
 have c1:=ydq (cellAt ns 0) (show (0:Int)<4 by decide)
 have y0:0<=yr (kindOf ns)/\yr (kindOf ns)<=133590:=by cases kindOf ns <;> decide
 nofun
 intro q nq
 have s1:=ze nq (.lst [.int 365,.int 360,.int 360,.int 133590])
 nofun
 refine ⟨p,ns,0,rfl,s1.seq hp,?_⟩
 nofun
 have at_:atI [V.int 365,V.int 360,V.int 360,V.int 133590] (cellAt ns 0 % 4)=some (.int (yr (kindOf ns))):=by
  unfold kindOf
  dsimp only
  rcases (show cellAt ns 0 % 4=0\/cellAt ns 0 % 4=1\/cellAt ns 0 % 4=2\/cellAt ns 0 % 4=3 by ac_rfl) with e | e | e | e <;> rw[e] <;> rfl
 refine ⟨q,_,_,_,rfl,rfl,SqL.of zg,at_,?_⟩
 nofun
 first | exact ⟨s1,h⟩ | exact h
def zcW (P:Program) (w:World) (K:W.Frag):Sp:=fun vs H Q _=>∃ (q:Addr) (rs:List V) (es:List Er),vs=[.ref q]/\H q=some (.lst rs)/\RL3 H rs es/\es.length<=61 /\
 ∀ d (l:List (Int × V)) H',H d=none->Same H H'->H' d=some (zbu P w d l)->zdq H' es es l/\l.length<=es.length->Q (.ref d) H'
theorem zaB:zk ["_law_rows_here", "_law_sums_here", "_law_word", "_law_turns", "_law_day", "_law_value_here", "_law_found"] qaz (zi zcc):=by walk_at "sp"
theorem zl2 (S:Src K mg "_law_all_deeds" zcc qaz) (T:Txt K mg) (zcj:Def P w K mg base 1 "_law_sums" qaj (zhd P w K)):Def P w K mg base 2 "_law_all_deeds" qaz (zcW P w K):=by
 refine S.ok zaB (fun vs H Q E h=>?_) (fun f cdv A outer s H vs Q E hr h=>?_)
 ·obtain ⟨q,rs,es,rfl,hq,hR,hl,h⟩:=h
  rfl
 obtain ⟨q,rs,es,rfl,hq,hR,hl,h⟩:=h
 refine ⟨_,(zc (zrJ (i:=1) zaB.nd rfl rfl (ix:=[0]) ⟨rfl,by decide +kernel,rfl,by decide +kernel,rfl,(show (["_law_word", "_law_rows_here"]:List Str).Nodup by decide +kernel),by walk_at "cap", by walk_at "sub", by walk_at "has"⟩ (zT (zU (za zz (za zz (za zz zd))))) (fun b=>(zu zcj hr (za (pv 1) (za (pv 0) zd)))))
  (zc (zmz (i:=3) zaB.nd rfl rfl (ix:=[]) ⟨rfl,by decide +kernel,rfl,by decide +kernel,rfl,rfl,rfl,  (show (["_law_word", "_law_day", "_law_value_here"]:List Str).Nodup by decide +kernel),by walk_at "cap", by walk_at "sub", by walk_at "has"⟩ (zT (pv 0)) (fun b=>(zw zaa (pv 0) zz (nomark _))) (fun b=>(pv 1)))
  (zc (zj (i:=6) zaB.nd rfl (by walk_at "lc") zue)
  (zc (za7 PassesOwn.never rfl (zT (pv 0)) (zdU rfl (zS (zG (i:=2) zaB.nd rfl (by walk_at "lc")) (zS (zG (i:=4) zaB.nd rfl (by walk_at "lc")) (zS (zG (i:=5) zaB.nd rfl (by walk_at "lc")) zcJ))))
  (zf (zV (zw zhl (pv 2) (zaj (za zz (za zz (za zz (za zz zd))))) (by with_unfolding_all rfl))
  (zf (zu4 (pv 6) (pv 4) (zaj (za (ziK (zo zt (pv 1) zb (fun _ _=>rfl)) (pv 4) zb) (za (ziK (zo zt (pv 1) zb (fun _ _=>rfl)) (pv 4) zb) (za (zH zfq rfl T.zdc PyProof.Rows.boot_int (za (zaK zhl (pv 4) (pv 3) (by with_unfolding_all rfl)) zd)) (za (ziK (zo zt (pv 1) zb (fun _ _=>rfl)) (pv 4) zb) zd)))))))
   zO)))
  (zf (zl (pv 6))))))),?_⟩
 have sz:=sizeLine_eq
 have xl:=hR.length
 nofun
 intro pw npw
 have s1:=ze npw (.lst [.str "out", .str "fee", .str "pay"])
 have e1:=zq (.lst [.str "out", .str "fee", .str "pay"]) npw
 generalize upd H pw (.lst [.str "out", .str "fee", .str "pay"])=H1 at s1 e1 ⊢
 refine ⟨pw,rfl,⟨_,SqL.of e1⟩,fun l1 nl=>?_⟩
 refine comp_map (zay (SqL.of e1)) nl (by rw[sz];decide) ([("out" : Str), "fee", "pay"]:List Str) rfl (fun H' v ww=>∃ (d:Addr) (acc:List (Int × Int)) (ep:Nat),v=.ref d/\H' d=some (zb4 P w d acc ep)/\Sby.Tot acc (prs ww es)) (fun v e H1 H2 s ⟨d,acc,ep,a1,a2,a3⟩=>⟨d,acc,ep,a1,s _ _ a2,a3⟩) (fun v e H1 ys zs hL ⟨d,acc,ep,a1,a2,a3⟩=>⟨d,acc,ep,a1,by rw[zp (zan a2 hL (by intro z;unfold zb4 at z;cases z))];exact a2,a3⟩) ?_ ?_
 ·rintro i x ww H' Q' hx hd sH hq'
  have ex:x=.str ww:=by
   have:([V.str "out", V.str "fee", V.str "pay"]:List V)=([("out" : Str), "fee", "pay"]:List Str).map V.str:=rfl
   rw[this,yaj,hd] at hx
   exact (Option.some.inj hx).symm
  subst ex
  have s1H:=s1.trans sH
  nofun
  refine ⟨q,rs,es,ww,rfl,SqL.of (s1H _ _ hq),hR.same s1H,by ac_rfl,fun d acc ep H2 nd s2 ed tt=>?_⟩
  exact hq' _ _ s2 ⟨d,acc,ep,rfl,ed,tt⟩
 rintro ys H2 s2 eS hL
 cases hL with
 | cons k1 hL =>
 cases hL with
 | cons k2 hL =>
 cases hL with
 | cons k3 hL =>
 cases hL
 obtain ⟨da,aa,ea,rfl,ga,ta⟩:=k1
 obtain ⟨db,ab,eb,rfl,gb,tb⟩:=k2
 obtain ⟨dc,ac,ec,rfl,gc,tc⟩:=k3
 have s12:=s1.trans s2
 have hR2:=hR.same s12
 have hq2:=s12 _ _ hq
 nofun
 refine ⟨⟨_,SqL.of hq2⟩,fun lt nlt=>?_⟩
 refine zkI (zay (SqL.of hq2)) nlt (by ac_rfl) es xl.symm (fun e=>(V.str e.1.word,V.int e.2.1,V.int e.2.2)) (fun i x e hx he=>?_) (isW "turn") (fun H' v e=>v=.int e.2.1) (fun v e H1 H2 s z=>z) (fun v e H1 ys zs hL z=>z) ?_ ?_ ?_
 ·obtain ⟨e',he',t,rfl,ht⟩:=hR2.get hx
  obtain rfl:e'=e:=Option.some.inj (he'.symm.trans he)
  exact ⟨t,rfl,ht⟩
 ·rintro e H' Q' em sH hq'
  nofun
  exact hq' _ (Same.refl _)
 ·rintro e H' Q' em fe sH hq'
  nofun
  exact hq' _ _ (Same.refl _) rfl
 rintro yt H3 s3 eT hT
 obtain rfl:yt=(dys "turn" es).map V.int:=by
  unfold dys
  clear eT
  revert hT
  generalize es.filter (isW "turn")=fs
  intro hT
  induction hT with
  | nil=>rfl
  | cons h _ ih=>rw[h,ih];rfl
 nofun
 intro d nd
 have s4:=ze nd (zbu P w d [])
 have ed:=zq (zbu P w d []) nd
 have s14:=s12.trans (s3.trans s4)
 have ndH:=zJ (s12.trans s3) nd
 have eS4:=(s3.trans s4) _ _ eS
 have ga4:=(s3.trans s4) _ _ ga
 have gb4:=(s3.trans s4) _ _ gb
 have gc4:=(s3.trans s4) _ _ gc
 have eT4:=s4 _ _ eT
 have hq4:=s14 _ _ hq
 have nd4:H3 d=none:=nd
 nofun
 refine ⟨⟨_,SqL.of hq4⟩,za5 (xs:=rs) (fun i σ H'=>∃ (l:List (Int × V)) (z1 z2 z3:Option V),(Same H3 H'/\H' d=some (zbu P w d l)/\l.length<=i)/\zdq H' es (es.take i) l/\σ=[some (.ref q),some (.ref l1),z1,some (.ref lt),z2,z3,some (.ref d)])
  ⟨[],_,_,_,⟨s4,ed,ycu _⟩,fun k=>.inr ⟨fun ⟨e,he,_⟩=>by simp at he,rfl⟩,rfl⟩ ?_ ?_ ?_⟩
 ·rintro i σ H' _ ⟨l,z1,z2,z3,⟨sH,_⟩,_⟩
  exact SqL.of (sH _ _ (s3 _ _ hq2))
 ·rintro i v σ H' hv ⟨l,z1,z2,z3,⟨sH,eD,ll⟩,al,rfl⟩
  have s2H:=s3.trans sH
  obtain ⟨e,he,t,rfl,ht⟩:=(hR2.same s2H).get hv
  have tk:es.take (i+1)=es.take i++[e]:=by rw[ybc,he];rfl
  have il:i<es.length:=(yad.mp he).1
  refine ⟨t,_,rfl,SqT.of ht,rfl,?_⟩
  nofun
  intro u nu
  have su:=ze nu (.tup [.str "out", .str "fee", .str "turn", .str "pay"])
  have eu:=zq (.tup [.str "out", .str "fee", .str "turn", .str "pay"]) nu
  generalize upd H' u (.tup [.str "out", .str "fee", .str "turn", .str "pay"])=H5 at su eu ⊢
  refine ⟨u,_,rfl,.inr (SqT.of eu),rfl,rfl,?_⟩
  refine ⟨inV (.str e.1.word) [.str "out", .str "fee", .str "turn", .str "pay"],rfl,?_⟩
  have sA:=sH.trans su
  cases c:inV (.str e.1.word) [.str "out", .str "fee", .str "turn", .str "pay"] with
  | false =>
   nofun
   exact ⟨l,_,_,_,⟨sA,su _ _ eD,by ac_rfl⟩,by rw[tk];exact (al.same su).skip c,rfl⟩
  | true =>
   have eS5:=(s3.trans sA) _ _ eS
   have ga5:=(s3.trans sA) _ _ ga
   have gb5:=(s3.trans sA) _ _ gb
   have gc5:=(s3.trans sA) _ _ gc
   have eT5:=sA _ _ eT
   have eD5:=su _ _ eD
   nofun
   refine ⟨l1,_,_,_,rfl,rfl,SqL.of eS5,rfl,?_⟩
   refine ⟨da,aa,ea,rfl,ga5,?_⟩
   nofun
   refine ⟨ga5,?_⟩
   rw[ta.look]
   nofun
   refine ⟨l1,_,_,_,rfl,rfl,SqL.of eS5,rfl,?_⟩
   refine ⟨db,ab,eb,rfl,gb5,?_⟩
   nofun
   refine ⟨gb5,?_⟩
   rw[tb.look]
   nofun
   refine ⟨lt,_,rfl,.inl (SqL.of eT5),rfl,zud _,?_⟩
   nofun
   intro tn tn1 tn2
   have etn:tn=if e.2.1∈dys "turn" es then 1 else 0:=by
    rw[tn1]
    show (if inV (.int e.2.1) ((dys "turn" es).map V.int)=true then (1:Int) else 0)=_
    rw[zrk]
    by_cases z:e.2.1∈dys "turn" es
    ·rw[if_pos z,if_pos (decide_eq_true z)]
    ·rw[if_neg z,if_neg (by simpa using z)]
   nofun
   refine ⟨l1,_,_,_,rfl,rfl,SqL.of eS5,rfl,?_⟩
   refine ⟨dc,ac,ec,rfl,gc5,?_⟩
   nofun
   refine ⟨gc5,?_⟩
   rw[tc.look]
   nofun
   intro r nr
   have er:H5 r=none:=nr
   have sr:=ze nr (.tup [.int (Sby.sm (prs "out" es) e.2.1),.int (Sby.sm (prs "fee" es) e.2.1),.int tn,.int (Sby.sm (prs "pay" es) e.2.1)])
   have err:=zq (.tup [.int (Sby.sm (prs "out" es) e.2.1),.int (Sby.sm (prs "fee" es) e.2.1),.int tn,.int (Sby.sm (prs "pay" es) e.2.1)]) nr
   generalize upd H5 r (.tup [.int (Sby.sm (prs "out" es) e.2.1),.int (Sby.sm (prs "fee" es) e.2.1),.int tn,.int (Sby.sm (prs "pay" es) e.2.1)])=H6 at sr err ⊢
   have eD6:=sr _ _ eD5
   nofun
   refine ⟨d,l,e.2.1,rfl,rfl,eD6,by ac_rfl,?_⟩
   have sl:=zmT l e.2.1 (.ref r)
   refine ⟨zcD l e.2.1 (.ref r),_,_,_,⟨zE (sA.trans sr) nd4,zg,by ac_rfl⟩,?_,rfl⟩
   rw[tk]
   refine zdq.step ((al.same (su.trans sr)).put eD6) ?_ c
   rw[zp (zan err eD6 (by intro z;unfold zbu at z;cases z)),err,etn]
   rfl
 ·rintro σ H' ⟨l,z1,z2,z3,⟨sH,eD,ll⟩,al,rfl⟩
  rw[xl,yav (ycu _)] at al
  nofun
  exact h d l H' ndH (s12.trans (s3.trans sH)) eD ⟨al,by ac_rfl⟩
def zj1 (K:W.Frag):Sp:=fun vs H Q _=>L2.Ee5 fun p dx u m n=>L2.Aa3 (vs=[.ref p]) (Deb K H p dx u m n) (∀ x dy,H x=none->H dy=none->dy≠x->Q (.ref x) (upd (upd H dy (.own x)) x (.ins (cA K "Debt") dy (zap u m n))))
theorem zki:zk ["self", "other"] qaa (zi ze5):=by walk_at "sp"
theorem zri (S:zr K (cA K "Debt") "copy" "Debt.copy" ze5 qaa) (T:Txt K mg) (zcg:zv P w K mg base 1 (cA K "Debt") "__init__" qas (zgz K)):zv P w K mg base 3 (cA K "Debt") "copy" qaa (zj1 K):=by
 refine S.ok zki (fun vs H Q E h=>?_) (fun f cdv A outer s H vs Q E hr h=>?_)
 ·obtain ⟨p,dx,u,m,n,rfl,e,h⟩:=h
  rfl
 obtain ⟨p,dx,u,m,n,rfl,e,h⟩:=h
 refine ⟨_,(zc (zj (i:=1) zki.nd rfl (by walk_at "lc") (zbm T.zkT zcg hr T.zmn (za (zae T.zN T.zaJ (pv 0)) zd)))
  (zc (zav T.zN T.zM (pv 1) (zae T.zN T.zM (pv 0)))
  (zc (zav T.zN T.zX (pv 1) (zae T.zN T.zX (pv 0)))
  (zf (zl (pv 1)))))),?_⟩
 nofun
 refine ⟨p,dx,_,_,rfl,e,rfl,?_⟩
 nofun
 intro x dy nx ndy ney
 refine ⟨x,dy,u,rfl,zg,rfl,?_⟩
 rw[zag]
 have sD:Same H (upd (upd H dy (.own x)) x (.ins (cA K "Debt") dy (zap u 0 0))):=(ze ndy _).trans (ze (by rw[zp ney.symm];exact nx) _)
 have e1:=Deb.same e sD
 have f1:Deb K (upd (upd H dy (.own x)) x (.ins (cA K "Debt") dy (zap u 0 0))) x dy u 0 0:=zg
 have nex:p≠x:=zZ e nx
 nofun
 refine ⟨p,dx,_,_,rfl,e1,rfl,?_⟩
 nofun
 refine ⟨x,dy,_,rfl,f1,zbH,?_⟩
 rw[zoD,zag]
 have e2:=(Deb.same e ((ze ndy (.own x)).trans (ze (o:=.ins (cA K "Debt") dy (zap u m 0)) (by rw[zp ney.symm];exact nx))))
 have f2:Deb K (upd (upd H dy (.own x)) x (.ins (cA K "Debt") dy (zap u m 0))) x dy u m 0:=zg
 nofun
 refine ⟨p,dx,_,_,rfl,e2,rfl,?_⟩
 nofun
 refine ⟨x,dy,_,rfl,f2,zbH,?_⟩
 rw[zrT,zag]
 nofun
 exact h x dy nx ndy ney
def zlm (K:W.Frag):Sp:=fun vs H Q _=>L2.Ee6 fun p dx u m n x=>L2.Aa4 (vs=[.ref p,.int x]) (Deb K H p dx u m n) ((0<u/\u<1152921504606846976)) (Q .non (upd H p (.ins (cA K "Debt") dx (zap u (Dbt.step u .fee x m n).1 (Dbt.step u .fee x m n).2))))
theorem zq9:zk qad qad (zi zgb):=by walk_at "sp"
theorem zr0 (S:zr K (cA K "Debt") "fee" "Debt.fee" zgb qad) (T:Txt K mg) (zaq:zv P w K mg base 2 (cA K "Debt") "add_cents" qad (zbO K)):zv P w K mg base 3 (cA K "Debt") "fee" qad (zlm K):=by
 refine S.ok zq9 (fun vs H Q E h=>?_) (fun f cdv A outer s H vs Q E hr h=>?_)
 ·obtain ⟨p,dx,u,m,n,x,rfl,e,hu,h⟩:=h
  rfl
 obtain ⟨p,dx,u,m,n,x,rfl,e,hu,h⟩:=h
 refine ⟨_,(zf (zY (zdl zaq T.zN hr (pv 0) (za (pv 1) zd)))),?_⟩
 nofun
 refine ⟨p,dx,_,rfl,e,rfl,?_⟩
 nofun
 refine ⟨p,dx,u,m,n,x,rfl,e,hu,?_⟩
 exact h
def zke (K:W.Frag):Sp:=fun vs H Q _=>L2.Ee6 fun p dx u m n x=>L2.Aa4 (vs=[.ref p,.int x]) (Deb K H p dx u m n) ((0<u/\u<1152921504606846976)) (Q .non (upd H p (.ins (cA K "Debt") dx (zap u (Dbt.step u .lend x m n).1 (Dbt.step u .lend x m n).2))))
theorem zql:zk qad qad (zi zeZ):=by walk_at "sp"
theorem zqO (S:zr K (cA K "Debt") "lend" "Debt.lend" zeZ qad) (T:Txt K mg) (zaq:zv P w K mg base 2 (cA K "Debt") "add_cents" qad (zbO K)):zv P w K mg base 3 (cA K "Debt") "lend" qad (zke K):=by
 refine S.ok zql (fun vs H Q E h=>?_) (fun f cdv A outer s H vs Q E hr h=>?_)
 ·obtain ⟨p,dx,u,m,n,x,rfl,e,hu,h⟩:=h
  rfl
 obtain ⟨p,dx,u,m,n,x,rfl,e,hu,h⟩:=h
 refine ⟨_,(zc (zav T.zN T.zM (pv 0) (zh zy (zae T.zN T.zM (pv 0)) (pv 1)))
  (zf (zY (zdl zaq T.zN hr (pv 0) (za (pv 1) zd))))),?_⟩
 nofun
 refine ⟨p,dx,_,_,rfl,e,rfl,?_⟩
 nofun
 refine ⟨p,dx,_,rfl,e,zbH,?_⟩
 rw[zoD]
 have e1:Deb K (upd H p (.ins (cA K "Debt") dx (zap u (m+x) n))) p dx u (m+x) n:=zg
 nofun
 refine ⟨p,dx,_,rfl,e1,rfl,?_⟩
 nofun
 refine ⟨p,dx,u,m+x,n,x,rfl,e1,hu,?_⟩
 rw[zag]
 exact h
def zjQ (K:W.Frag):Sp:=fun vs H Q _=>L2.Ee6 fun p dx u m n x=>L2.Aa4 (vs=[.ref p,.int x]) (Deb K H p dx u m n) ((0<u/\u<1152921504606846976)) (Q .non (upd H p (.ins (cA K "Debt") dx (zap u (Dbt.step u .take x m n).1 (Dbt.step u .take x m n).2))))
theorem zpH:zk qad qad (zi zfg):=by walk_at "sp"
theorem zqS (S:zr K (cA K "Debt") "take" "Debt.take" zfg qad) (T:Txt K mg) (zaq:zv P w K mg base 2 (cA K "Debt") "add_cents" qad (zbO K)):zv P w K mg base 3 (cA K "Debt") "take" qad (zjQ K):=by
 refine S.ok zpH (fun vs H Q E h=>?_) (fun f cdv A outer s H vs Q E hr h=>?_)
 ·obtain ⟨p,dx,u,m,n,x,rfl,e,hu,h⟩:=h
  rfl
 obtain ⟨p,dx,u,m,n,x,rfl,e,hu,h⟩:=h
 refine ⟨_,(zf (zY (zdl zaq T.zN hr (pv 0) (za (zhf zfo (pv 1)) zd)))),?_⟩
 nofun
 refine ⟨p,dx,_,rfl,e,rfl,?_⟩
 nofun
 refine ⟨p,dx,u,m,n,-x,rfl,e,hu,?_⟩
 exact h
def znB (K:W.Frag):Sp:=fun vs H Q _=>L2.Ee4 fun a xs l d=>L2.Aa5 (vs=[.ref a,.int d]) (SqL K H a xs) (zA K H xs l) (Spans.Joined l) (Q (.bl (Spans.isIn l d)) H)
theorem ztf:zk qak qak (zi zjl):=by walk_at "sp"
theorem zt2 (S:Src K mg "stands" zjl qak) (T:Txt K mg) (zgn:Def P w K mg base 2 "moved" qak (zl6 K)):Def P w K mg base 3 "stands" qak (znB K):=by
 refine S.ok ztf (fun vs H Q E h=>?_) (fun f cdv A outer s H vs Q E hr h=>?_)
 ·obtain ⟨a,xs,l,d,rfl,hS,hR,J,h⟩:=h
  rfl
 obtain ⟨a,xs,l,d,rfl,hS,hR,J,h⟩:=h
 refine ⟨_,(zf (zl (zaK zi6 (zu zgn hr (za (pv 0) (za (pv 1) zd))) (pv 1) (nomark _)))),?_⟩
 nofun
 refine ⟨a,xs,l,d,rfl,hS,hR,J,?_⟩
 intro m F
 nofun
 refine qb h ?_
 cases b:Spans.isIn l d with
 | true=>exact (decide_eq_true (F.gt.mpr (Spans.zaR.mp b))).symm
 | false=>exact (decide_eq_false fun z=>by rw[Spans.zaR.mpr (F.gt.mp z)] at b;cases b).symm
def zmv (K:W.Frag):Sp:=fun vs H Q _=>∃ d,vs=[.int d]/\∀ y m r p,Cal.zaA y m r->Cal.num y m r=d->H p=none->Q (.ref p) (upd H p (.tup [.int y,.int m,.int r]))
theorem zcB:zk ["day", "year", "month", "rest"] qao (zi zhg):=by walk_at "sp"
theorem zsF (S:Src K mg "date_of" zhg qao) (T:Txt K mg) (zdw:Def P w K mg base 2 "year_of" qao (zjp K)) (zbb:Def P w K mg base 1 "new_year" qag (ze4 K)) (zdS:Def P w K mg base 2 "month_days" qaw (zjA K)):Def P w K mg base 3 "date_of" qao (zmv K):=by
 refine S.ok zcB (fun vs H Q E h=>?_) (fun f cdv A outer s H vs Q E hr h=>?_)
 ·obtain ⟨d,rfl,h⟩:=h
  rfl
 obtain ⟨d,rfl,h⟩:=h
 refine ⟨_,(zc (zj (i:=1) zcB.nd rfl (by walk_at "lc") (zu zdw hr (za (pv 0) zd)))
  (zc (zj (i:=2) zcB.nd rfl (by walk_at "lc") zb)
  (zc (zj (i:=3) zcB.nd rfl (by walk_at "lc") (zh zW (pv 0) (zu zbb hr (za (pv 1) zd))))
  (zc (zdt PassesOwn.never (zw zr9 (pv 3) (zu zdS hr (za (pv 1) (za (pv 2) zd))) (nomark _))
  (zc (zj (i:=3) zcB.nd rfl (by walk_at "lc") (zh zW (pv 3) (zu zdS hr (za (pv 1) (za (pv 2) zd)))))
  (zf (zj (i:=2) zcB.nd rfl (by walk_at "lc") (zh zy (pv 2) zb)))))
  (zf (zl (zaj (za (pv 1) (za (pv 2) (za (zh zy (pv 3) zb) zd)))))))))),?_⟩
 nofun
 intro y hy1 hy2
 nofun
 have e:=Cal.zbf y
 refine ⟨fun n σ H'=>H=H'/\∃ m r,σ=[some (.int d),some (.int y),some (.int m),some (.int r)]/\1<=m/\m<=12/\r=d-Cal.ny y-Cal.cum y m/\0<=r/\n=r.toNat,⟨_,rfl,_,_,rfl,by decide,by decide,(by simp[Cal.cum]),by ac_rfl,rfl⟩,?_⟩
 rintro n σ H' ⟨rfl,m,r,rfl,m1,m2,hr,r0,rfl⟩
 have b:=@Cal.zdx y m m1 m2
 nofun
 ·refine ⟨_,fun σ' H' z=>z,?_⟩
  nofun
  have c:=@Cal.ziA y m m1 m2
  have c12:=Cal.zmk y
  have m3:m<=11:=by
   by_cases q:m=12
   ·subst q;ac_rfl
   ·ac_rfl
  have cs:=@Cal.zjq y m m1 m3
  exact ⟨_,by ac_rfl,rfl,_,_,rfl,by ac_rfl,by ac_rfl,by ac_rfl,by ac_rfl,rfl⟩
 ·intro p hp
  exact h _ _ _ p ⟨m1,m2,by ac_rfl,by ac_rfl⟩ (by unfold Cal.num;ac_rfl) hp
def ziy (K:W.Frag):Sp:=fun vs H Q _=>∃ c kd g,vs=[.ref c,.int g]/\zcb K H c kd/\(0<=g/\g<=366)/\Q .non H
theorem zns:zk qba qba (zi zdh):=by walk_at "sp"
theorem zol (S:Src K mg "check_terms" zdh qba) (T:Txt K mg) (zij:Def P w K mg base 2 "is_within" qay (zkw K)):Def P w K mg base 3 "check_terms" qba (ziy K):=by
 refine S.ok zns (fun vs H Q E h=>?_) (fun f cdv A outer s H vs Q E hr h=>?_)
 ·obtain ⟨c,kd,g,rfl,hc,⟨g0,g1⟩,h⟩:=h
  rfl
 obtain ⟨c,kd,g,rfl,hc,⟨g0,g1⟩,h⟩:=h
 refine ⟨_,(zc (zV (zfp (zcd (zD zsJ rfl T.zbY PyProof.Rows.boot_isinstance (za (pv 0) (za (zgj (v:=.ref (cA K "Count")) rfl T.zk8 rfl) zd)))))
   zjT
   zO)
  (zf (zV (zfp (zcd (zu zij hr (za (pv 1) (za zb (za (zcL T.zgx) zd))))))
   zjT
   zO))),?_⟩
 have ty:=tyC (T.cls kd) (T.ikK kd) hc
 nofun
 refine ⟨_,_,_,_,rfl,ty,T.kitK0 kd,?_⟩
 rw[show zwp kd .plain=true from rfl]
 nofun
 exact h
def ziG (K:W.Frag):Sp:=fun vs H Q _=>L2.Ee6 fun p sp xs ys (es:List Er) l=>L2.Aa6 (vs=[.ref p,.ref sp]) (SqL K H p xs) (EL K H xs es) (es.length<=61) ((SqL K H sp ys/\zA K H ys l/\Spans.Joined l)) (∀ q H' ws r,H q=none->Same H H'->H' q=some (.lst ws)->zA K H' ws r->Sby.Tab r (mvp (mvd l) (prs "due" es))->Q (.ref q) H')
theorem znu:zk qbb qbb (zi zc7):=by walk_at "sp"
theorem zn6 (S:Src K mg "fallen_dues" zc7 qbb) (T:Txt K mg) (zeK:Def P w K mg base 1 "summed" qai (zj9 K)) (zcr:Def P w K mg base 2 "sum_by" qae (zka K)) (zgn:Def P w K mg base 2 "moved" qak (zl6 K)):Def P w K mg base 3 "fallen_dues" qbb (ziG K):=by
 refine S.ok znu (fun vs H Q E h=>?_) (fun f cdv A outer s H vs Q E hr h=>?_)
 ·obtain ⟨p,sp,xs,ys,es,l,rfl,ep,hE,hl,⟨eS,rS,J⟩,h⟩:=h
  rfl
 obtain ⟨p,sp,xs,ys,es,l,rfl,ep,hE,hl,⟨eS,rS,J⟩,h⟩:=h
 refine ⟨_,(zf (zl (zu zeK hr (za (zcG (ix:=[1]) ⟨rfl,by decide +kernel,rfl,by decide +kernel,rfl,(show (["row", "spans"]:List Str).Nodup by decide +kernel),by walk_at "cap", by walk_at "sub", by walk_at "has"⟩ (zT (zu zcr hr (za (pv 0) (za zz zd)))) (fun b=>(zaj (za (zu zgn hr (za (pv 1) (za (zo (zdC K) (pv 0) zb (fun _ _=>rfl)) zd))) (za (zo (zdC K) (pv 0) zb (fun _ _=>rfl)) zd))))) zd)))),?_⟩
 have sz:=sizeLine_eq
 nofun
 refine ⟨p,xs,es, "due", rfl,ep,hE,hl,.inr (.inr (.inr rfl)),fun q1 H1 ws1 r1 nq1 s1 e1 R1 T1=>?_⟩
 have eS1:=s1.seq eS
 have rS1:=rS.same s1
 have l1:=R1.length
 have pl:=zgi (w:="due") (es:=es)
 have rl:r1.length<=(prs "due" es).length:=by
  have:=zgO (Sby.zdH T1.up) fun k hk=>(T1.mem k).mp hk
  rw[yab,yab] at this
  exact this
 refine ⟨q1,rfl,⟨_,SqL.of e1⟩,fun lt nlt=>?_⟩
 refine comp_map (zay (SqL.of e1)) nlt (by ac_rfl) r1 l1.symm (fun H' v s=>∃ t,v=.ref t/\H' t=some (.tup [.int (mvd l s.1),.int s.2])) (fun v e H1 H2 s ⟨t,e1,e2⟩=>⟨t,e1,s _ _ e2⟩) (fun v e H1 ys zs hL ⟨t,e1,e2⟩=>⟨t,e1,by rw[zp (zan e2 hL (by intro z;cases z))];exact e2⟩) ?_ ?_
 ·rintro i x s H' Q' hx hs sH hq
  obtain ⟨u,s',rfl,hs',hu⟩:=(R1.same sH).get hx
  obtain rfl:s'=s:=Option.some.inj (hs'.symm.trans hs)
  nofun
  refine ⟨sp,ys,l,s'.1,rfl,sH.seq eS1,rS1.same sH,J,fun m F=>?_⟩
  obtain rfl:=zoQ F
  nofun
  intro t nt
  exact hq _ _ (ze nt _) ⟨t,rfl,zg⟩
 ·rintro zs H2 s2 eL hL
  have ml:(mvp (mvd l) r1).length=r1.length:=yab ..
  nofun
  refine ⟨lt,zs,mvp (mvd l) r1,rfl,eL,ztP hL,by ac_rfl,fun q H3 ws r nq s3 eq hr' tb=>?_⟩
  exact h q H3 ws r (zJ (s1.trans s2) nq) (s1.trans (s2.trans s3)) eq hr' (zvv _ T1 tb)
def OkE (b:Int) (e:Er):Prop:=e.1≠.base/\(b<=e.2.1/\e.2.1<b+200)/\zt7 e.1 e.2.1 e.2.2
theorem zvQ {ns:List Int} (h:ns.length=3):∃ a b c,ns=[a,b,c]:=by
 match ns,h with
 | [a,b,c],_=>exact ⟨a,b,c,rfl⟩
def zkj (K:W.Frag):Sp:=fun vs H Q _=>L2.Ee5 fun p (ns:List Int) (lo hi:Nat) wd=>L2.Aa5 (vs=[.ref p,.int lo,.int hi,.int wd]) (SqL K H p (ns.map V.int)) (hi<=lo+60) ((1<=wd/\wd<=200)) (∀ q rs (es:List Er) H',H q=none->Same H H'->H' q=some (.lst rs)->RL3 H' rs es->es.length<=hi-lo+1->(∀ e∈es,OkE (baseOf ns) e)->Q (.ref q) H')
theorem zcq:zk ["_law_script", "_law_first", "_law_last", "_law_wide", "_law_base_here", "_law_xs", "_law_rows_here", "_law_cell"] qbp (zi ze7):=by walk_at "sp"
theorem zqz (S:Src K mg "_law_rows" ze7 qbp) (T:Txt K mg) (zaX:Def P w K mg base 2 "_law_base" qab (zd6 K)) (zaP:Def P w K mg base 1 "_law_draws" qat (zde K)) (zK:Def P w K mg base 1 "_law_cell_at" qam (zaD K)) (zi4:Def P w K mg base 2 "_law_row" qbo (zlo K)):Def P w K mg base 3 "_law_rows" qbp (zkj K):=by
 refine S.ok zcq (fun vs H Q E h=>?_) (fun f cdv A outer s H vs Q E hr h=>?_)
 ·obtain ⟨p,ns,lo,hi,wd,rfl,hp,l2,⟨w0,w1⟩,h⟩:=h
  rfl
 obtain ⟨p,ns,lo,hi,wd,rfl,hp,l2,⟨w0,w1⟩,h⟩:=h
 refine ⟨_,(zc (zj (i:=4) zcq.nd rfl (by walk_at "lc") (zu zaX hr (za (pv 0) zd)))
  (zc (zj (i:=5) zcq.nd rfl (by walk_at "lc") (zu zaP hr (za (zu zK hr (za (pv 0) (za zb zd))) (za zb zd))))
  (zc (zj (i:=6) zcq.nd rfl (by walk_at "lc") (zU (za (zaj (za zz (za (zh zy (pv 4) (zh zat (zh zI (zo zt (pv 5) zb (fun _ _=>rfl)) zb) (zH zfq rfl T.zdc PyProof.Rows.boot_int (za (zaK zaa (zh zI (zo zt (pv 5) zb (fun _ _=>rfl)) zb) zb (nomark _)) zd)))) (za (zh zy zb (zh zI (zo zt (pv 5) zb (fun _ _=>rfl)) (zbd (v:=10000000) (by decide +kernel) ⟨by decide,by decide,by decide⟩))) zd)))) zd)))
  (zc (za7 PassesOwn.never rfl (zT (zbp zbZ (pv 0) (zbv (pv 1)) (zbv (pv 2)))) (zG (i:=7) zcq.nd rfl (by walk_at "lc"))
  (zf (zY (zbK PySem.F.plainAttrs_list PySem.F.slot_list_append PySem.F.type_list_append zax (pv 6) (za (zu zi4 hr (za (pv 7) (za (pv 4) (za (pv 3) zd)))) zd)))))
  (zc (zV (zw zaa (zh zI (zh za2 (zo zt (pv 5) zb (fun _ _=>rfl)) zb) zb) zb (nomark _))
  (zf (zl (zbp zbZ (pv 6) (zbv zb) zcf)))
   zO)
  (zc (zV (zw zaa (zh zI (zh za2 (zo zt (pv 5) zb (fun _ _=>rfl)) zb) zb) zb (nomark _))
  (zf (zl (zdB (ix:=[]) ⟨rfl,by decide +kernel,rfl,by decide +kernel,rfl,(show (["_law_row_here"]:List Str).Nodup by decide +kernel),by walk_at "cap", by walk_at "sub", by walk_at "has"⟩ (zT (pv 6)) (fun b=>(zw (zsj K) (zo (zdC K) (pv 0) zb (fun _ _=>rfl)) (zaj (za zz (za zz (za zz (za zz zd))))) (by with_unfolding_all rfl))) (fun b=>(pv 0)))))
   zO)
  (zf (zl (pv 6))))))))),?_⟩
 have sz:=sizeLine_eq
 obtain ⟨b0,b1⟩:=zj6 ns
 nofun
 refine ⟨p,ns,rfl,hp,?_⟩
 nofun
 refine ⟨p,ns,2,rfl,hp,?_⟩
 nofun
 intro px ms H1 s1 npx ep nl nn
 obtain ⟨n0,n1,n2,rfl⟩:=zvQ (ns:=ms) (by ac_rfl)
 have hx:SqL K H1 px (List.map V.int [n0,n1,n2]):=SqL.of ep
 have p0:=nn n0 (by simp)
 have p1:=nn n1 (by simp)
 have p2:=nn n2 (by simp)
 nofun
 refine ⟨px,_,_,_,rfl,rfl,hx,rfl,?_⟩
 nofun
 refine ⟨px,_,_,_,rfl,rfl,hx,rfl,?_⟩
 nofun
 intro i01 i0 i1
 have y0:=ydr n0 (show (40:Int)≠0 by decide)
 have y1:=ydq n0 (show (0:Int)<40 by decide)
 nofun
 have y2:0<=n0 % 40*i01/\n0 % 40*i01<=39:=by
  rcases (show i01=0\/i01=1 by ac_rfl) with z | z <;> rw[z] <;> ac_rfl
 clear i0
 generalize n0 % 40*i01=dd at y2 ⊢
 refine ⟨px,_,_,_,rfl,rfl,hx,rfl,?_⟩
 have z0:=ydr n2 (show (10000000:Int)≠0 by decide)
 have z1:=ydq n2 (show (0:Int)<10000000 by decide)
 nofun
 intro t nt
 have s2:=ze nt (.tup [.str "out", .int (baseOf ns+dd),.int (1+n2 % 10000000)])
 have et:=zq (.tup [.str "out", .int (baseOf ns+dd),.int (1+n2 % 10000000)]) nt
 have s12:=s1.trans s2
 generalize upd H1 t (.tup [.str "out", .int (baseOf ns+dd),.int (1+n2 % 10000000)])=H2 at s2 et s12 ⊢
 nofun
 intro q nq
 have s3:=ze nq (.lst [.ref t])
 have nqH:=zJ s12 nq
 have eq:=zq (.lst [.ref t]) nq
 have et3:=s3 _ _ et
 have s13:=s12.trans s3
 generalize upd H2 q (.lst [.ref t])=H3 at s3 eq et3 s13 ⊢
 have hp3:=s13.seq hp
 nofun
 refine ⟨p,_,rfl,hp3,fun c nc=>?_⟩
 obtain ⟨ms,ml,ec⟩:=zuk ns lo hi
 rw[ec]
 have s4:=ze nc (.lst (ms.map V.int))
 have eC:=zq (.lst (ms.map V.int)) nc
 have eQ4:=s4 _ _ eq
 have et4:=s4 _ _ et3
 have s14:=s13.trans s4
 have s14':=s2.trans (s3.trans s4)
 have nq1:=zJ s2 nq
 have ncq:c≠q:=(zZ eq nc).symm
 generalize upd H3 c (.lst (ms.map V.int))=H4 at s4 eC eQ4 et4 s14 s14' ⊢
 nofun
 refine ⟨⟨_,SqL.of eC⟩,za5 (xs:=ms.map V.int) (fun i σ H'=>∃ (rs:List V) (es:List Er) (z:Option V),(Same H1 H'/\H' q=some (.lst rs)/\H' c=some (.lst (ms.map V.int))/\RL3 H' rs es)/\es.length=i+1/\(∀ e∈es,OkE (baseOf ns) e)/\σ=[some (.ref p),some (.int lo),some (.int hi),some (.int wd),some (.int (baseOf ns)),some (.ref px),some (.ref q),z])
  ⟨[.ref t],[(.out,baseOf ns+dd,1+n2 % 10000000)],_,⟨s14',eQ4,eC,.cons ⟨t,rfl,et4⟩ .nil⟩,rfl,fun e he=>?_,rfl⟩ ?_ ?_ ?_⟩
 ·obtain rfl:e=(.out,baseOf ns+dd,1+n2 % 10000000):=by simpa using he
  exact ⟨(by intro z;cases z),⟨by show baseOf ns<=baseOf ns+dd;ac_rfl,by show baseOf ns+dd<baseOf ns+200;ac_rfl⟩,⟨by show 1<=1+n2 % 10000000;ac_rfl,by show 1+n2 % 10000000<=1000000000000;ac_rfl⟩,fun z=>by cases z⟩
 ·rintro i σ H' _ ⟨rs,es,z,⟨_,_,e,_⟩,_⟩
  exact SqL.of e
 ·rintro i x σ H' hx' ⟨rs,es,z,⟨sH,eQ,eC',hR⟩,el,oe,rfl⟩
  rw[yaj] at hx'
  obtain ⟨m,hm,rfl⟩:=Option.map_eq_some_iff.mp hx'
  have il:i<ms.length:=(yad.mp hm).1
  have rl:=hR.length
  nofun
  refine ⟨.inl ⟨rfl,_,SqL.of eQ⟩,?_⟩
  nofun
  intro r k d x H5 s5 nr er hk hd hv
  nofun
  have eQ5:=s5 _ _ eQ
  refine ⟨q,_,_,rfl,rfl,eQ5,by ac_rfl,?_⟩
  have er5:(upd H5 q (.lst (rs++[.ref r]))) r=some (.tup (zcv k d x)):=by
   rw[zp (zan er eQ5 (by intro z;cases z))]
   exact er
  refine ⟨rs++[.ref r],es++[(k,d,x)],_,⟨zE (sH.trans s5) nq1,zg,by rw[zp ncq];exact s5 _ _ eC',((hR.same s5).put eQ5).push (e:=(k,d,x)) er5⟩,by rw[yag,el];rfl,fun e he=>?_,rfl⟩
  rcases yac.mp he with he | he
  ·exact oe e he
  ·obtain rfl:e=(k,d,x):=by simpa using he
   exact ⟨hk,hd,hv⟩
 ·rintro σ H' ⟨rs,es,z,⟨sH,eQ,eC',hR⟩,el,oe,rfl⟩
  rw[yab] at el
  have rl:=hR.length
  nofun
  have sA:=s1.trans sH
  have hx':=sH.seq hx
  refine ⟨px,_,_,_,rfl,rfl,hx',rfl,?_⟩
  nofun
  ·refine ⟨q,_,rfl,SqL.of eQ,fun u nu=>?_⟩
   rw[show zdv rs (some (1:Int)) none=rs.drop 1 from zkM rs 1]
   have s6:=ze nu (.lst (rs.drop 1))
   exact h u _ (es.drop 1) _ (zJ sA nu) (sA.trans s6) zg ((LL.zws hR).imp fun v e ⟨t,e1,e2⟩=>⟨t,e1,s6 _ _ e2⟩) (by rw[ybv];ac_rfl) fun e he=>oe e (List.mem_of_mem_drop he)
  ·refine ⟨px,_,_,_,rfl,rfl,hx',rfl,?_⟩
   nofun
   ·refine ⟨⟨_,SqL.of eQ⟩,fun l nl'=>?_⟩
    refine znE (zay (SqL.of eQ)) nl' (by ac_rfl) es rl.symm (fun e:Er=>inV (.str e.1.word) [.str "due", .str "rate", .str "late", .str "still"]) (fun H' v e=>∃ t,v=.ref t/\H' t=some (.tup (zcv e.1 e.2.1 e.2.2))) (fun v e H1 H2 s ⟨t,e1,e2⟩=>⟨t,e1,s _ _ e2⟩) (fun v e H1 ys zs hL ⟨t,e1,e2⟩=>⟨t,e1,by rw[zp (zan e2 hL (by intro z;cases z))];exact e2⟩) ?_ ?_ ?_
    ·rintro i x e H5 Q' hx5 he s5 hq
     obtain ⟨e',he',t5,rfl,ht5⟩:=(hR.same s5).get hx5
     obtain rfl:e'=e:=Option.some.inj (he'.symm.trans he)
     nofun
     intro u nu
     nofun
     refine ⟨u,_,rfl,.inr (SqT.of zg),rfl,rfl,?_⟩
     exact ⟨_,rfl,hq _ (ze nu _)⟩
    ·rintro i x e H5 Q' hx5 he fe s5 hq
     obtain ⟨e',he',t5,rfl,ht5⟩:=(hR.same s5).get hx5
     obtain rfl:e'=e:=Option.some.inj (he'.symm.trans he)
     nofun
     exact hq _ _ (Same.refl _) ⟨t5,rfl,ht5⟩
    ·rintro ys H5 s5 eL hL
     refine h l ys _ H5 (zJ sA nl') (sA.trans s5) eL hL (ycz (yaz _ _) (by ac_rfl)) fun e he=>oe e (yao.mp he).1
   ·exact h q rs es H' nqH sA eQ hR (by ac_rfl) oe
def zkx (K:W.Frag):Sp:=fun vs H Q _=>∃ d,vs=[.int d]/\0<=d/\∀ y m r p,Cal.zaA y m r->Cal.num y m r=d->H p=none->Q (.ref p) (upd H p (.tup [.int y,.int m,.int r]))
theorem za0:zk ["_law_day", "_law_year", "_law_rest", "_law_month"] qbq (zi zeX):=by walk_at "sp"
theorem zqL (S:Src K mg "_law_date" zeX qbq) (T:Txt K mg) (zaL:Def P w K mg base 1 "_law_leap" qaq (zdT K)) (zaC:Def P w K mg base 2 "_law_month_size" qau (zcp K)):Def P w K mg base 3 "_law_date" qbq (zkx K):=by
 refine S.ok za0 (fun vs H Q E h=>?_) (fun f cdv A outer s H vs Q E hr h=>?_)
 ·obtain ⟨d,rfl,h0,h⟩:=h
  rfl
 obtain ⟨d,rfl,h0,h⟩:=h
 refine ⟨_,(zc (zj (i:=1) za0.nd rfl (by walk_at "lc") (zh zy zb (zh zat (zh za2 (pv 0) zb) zb)))
  (zc (zj (i:=2) za0.nd rfl (by walk_at "lc") (zh zI (pv 0) zb))
  (zc (zdt PassesOwn.never (zw zr9 (pv 2) (zh zy zb (zH zfm rfl T.zdc PyProof.Rows.boot_int (za (zu zaL hr (za (pv 1) zd)) zd))) (nomark _))
  (zc (zj (i:=2) za0.nd rfl (by walk_at "lc") (zh zW (zh zW (pv 2) zb) (zH zfm rfl T.zdc PyProof.Rows.boot_int (za (zu zaL hr (za (pv 1) zd)) zd))))
  (zf (zj (i:=1) za0.nd rfl (by walk_at "lc") (zh zy (pv 1) zb)))))
  (zc (zj (i:=3) za0.nd rfl (by walk_at "lc") zb)
  (zc (zdt PassesOwn.never (zw zr9 (pv 2) (zu zaC hr (za (pv 1) (za (pv 3) zd))) (nomark _))
  (zc (zj (i:=2) za0.nd rfl (by walk_at "lc") (zh zW (pv 2) (zu zaC hr (za (pv 1) (za (pv 3) zd)))))
  (zf (zj (i:=3) za0.nd rfl (by walk_at "lc") (zh zy (pv 3) zb)))))
  (zf (zl (zaj (za (pv 1) (za (pv 3) (za (zh zy (pv 2) zb) zd))))))))))),?_⟩
 have lpd:∀ y:Int,(if Cal.leap y=true then (1:Int) else 0)=Cal.lp y:=fun y=>rfl
 nofun
 refine ⟨fun n σ H'=>H=H'/\∃ y r:Int,σ=[some (.int d),some (.int y),some (.int r),none]/\Cal.ny y+r=d/\0<=r/\n=r.toNat,⟨_,rfl,_,_,rfl,?_,by ac_rfl,rfl⟩,?_⟩
 ·unfold Cal.ny
  ac_rfl
 rintro n σ H' ⟨rfl,y,r,rfl,e1,r0,rfl⟩
 have e:=Cal.zbf y
 have l:=Cal.zje y
 nofun
 refine .inr ⟨_,rfl,?_⟩
 rw[lpd]
 nofun
 ·rename_i q
  refine ⟨_,fun σ' H' z=>z,?_⟩
  nofun
  refine .inr ⟨_,rfl,?_⟩
  rw[lpd]
  nofun
  exact ⟨(r-365-Cal.lp y).toNat,by ac_rfl,rfl,_,_,rfl,by ac_rfl,by ac_rfl,rfl⟩
 rename_i q
 refine ⟨fun n σ H'=>H=H'/\∃ m r:Int,σ=[some (.int d),some (.int y),some (.int r),some (.int m)]/\1<=m/\m<=12/\r=d-Cal.ny y-Cal.cum y m/\0<=r/\n=r.toNat,⟨_,rfl,_,_,rfl,by decide,by decide,(by simp[Cal.cum];ac_rfl),by ac_rfl,rfl⟩,?_⟩
 rintro n σ H' ⟨rfl,m,r',rfl,m1,m2,hr,r0',rfl⟩
 have b:=@Cal.zdx y m m1 m2
 nofun
 ·refine ⟨_,fun σ' H' z=>z,?_⟩
  nofun
  have c:=@Cal.ziA y m m1 m2
  have c12:=Cal.zmk y
  have m3:m<=11:=by
   by_cases q:m=12
   ·subst q;ac_rfl
   ·ac_rfl
  have cs:=@Cal.zjq y m m1 m3
  exact ⟨(r'-Cal.mlen y m).toNat,by ac_rfl,rfl,_,_,rfl,by ac_rfl,by ac_rfl,by ac_rfl,by ac_rfl,rfl⟩
 ·intro p hp
  exact h _ _ _ p ⟨m1,m2,by ac_rfl,by ac_rfl⟩ (by unfold Cal.num;ac_rfl) hp
def zly (P:Program) (w:World) (K:W.Frag):Sp:=fun vs H Q _=>L2.Ee9 fun q pt rs wt (es:List Er) (f:Int->Int × Int) bs z (n:Nat)=>L2.Aa9 (vs=[.ref q,.ref pt,.int bs,.int z]) (H q=some (.lst rs)) (RL3 H rs es) (H pt=some (.lst wt)) (TLx f bs H wt (yax n)) (es.length<=31) ((∀ e∈es,bs<=e.2.1)) ((bs<=z/\z<bs+n)) (∀ p ws (ds:List Int) H',H p=none->Same H H'->H' p=some (.lst ws)->R7 (zcu es f) H' ws ds->ds.Pairwise (·<·)->(∀ d,d∈ds↔(DE es d/\d<z)\/d=z)->Q (.ref p) H')
theorem zeT:zk ["_law_rows_here", "_law_told", "_law_base_here", "_law_day", "_law_deeds_here", "_law_found", "_law_at"] qbr (zi zf6):=by walk_at "sp"
theorem zr3 (S:Src K mg "_law_due" zf6 qbr) (T:Txt K mg) (zaW:Def P w K mg base 2 "_law_all_deeds" qaz (zcW P w K)):Def P w K mg base 3 "_law_due" qbr (zly P w K):=by
 refine S.ok zeT (fun vs H Q E h=>?_) (fun f cdv A outer s H vs Q E hr h=>?_)
 ·obtain ⟨q,pt,rs,wt,es,f0,bs,z,n,rfl,hq,hR,hpt,hT,el,day,⟨z0,z1⟩,h⟩:=h
  rfl
 obtain ⟨q,pt,rs,wt,es,f0,bs,z,n,rfl,hq,hR,hpt,hT,el,day,⟨z0,z1⟩,h⟩:=h
 refine ⟨_,(zc (zj (i:=4) zeT.nd rfl (by walk_at "lc") (zu zaW hr (za (pv 0) zd)))
  (zc (zj (i:=5) zeT.nd rfl (by walk_at "lc") (zU zd))
  (zc (za7 PassesOwn.never rfl (zT (zD (zct rfl) rfl T.zbG PyProof.Rows.boot_sorted (za (zH (zfl rfl) rfl T.ziZ PyProof.Rows.boot_set (za (zh zbk (zH (zqU rfl) rfl T.zbl PyProof.Rows.boot_list (za (pv 4) zd)) (zU (za (pv 3) zd))) zd)) zd))) (zG (i:=6) zeT.nd rfl (by walk_at "lc"))
  (zf (zV (zw zkY (pv 6) (pv 3) (nomark _))
  (zf (zY (zbK PySem.F.plainAttrs_list PySem.F.slot_list_append PySem.F.type_list_append zax (pv 5) (za (zh zkV (zh zkV (zaj (za (pv 6) zd)) (zrC (pv 4) (pv 6) (zaj (za zb (za zb (za zb (za zb zd))))))) (zo zt (pv 1) (zh zW (pv 6) (pv 2)) (fun _ _=>rfl))) zd))))
   zO)))
  (zf (zl (pv 5)))))),?_⟩
 have sz:=sizeLine_eq
 nofun
 rename_i pg l H1
 intro npg s1 eg al
 obtain ⟨al,ll⟩:=al
 have kmem:∀ k,k∈l.map (·.1)↔DE es k:=fun k=>by
  rw[<-zu7]
  rcases al k with ⟨h1,t,h2,_⟩ | ⟨h1,h2⟩
  ·rw[h2];exact ⟨fun _=>h1,fun _=>rfl⟩
  ·rw[h2];exact ⟨fun z=>absurd z Bool.false_ne_true,fun z=>absurd z h1⟩
 nofun
 intro p np
 have s2:=ze np (.lst [])
 have eP:=zq (.lst []) np
 have s12:=s1.trans s2
 have npH:=zJ s1 np
 have eg2:=s2 _ _ eg
 generalize upd H1 p (.lst [])=H2 at s2 eP s12 eg2 ⊢
 nofun
 refine ⟨pg,l,rfl,eg2,by ac_rfl,fun q1 n1=>?_⟩
 have s3:=ze n1 (.lst ((l.map (·.1)).map V.int))
 have e3:=zq (.lst ((l.map (·.1)).map V.int)) n1
 generalize upd H2 q1 (.lst ((l.map (·.1)).map V.int))=H3 at s3 e3 ⊢
 nofun
 intro q2 n2
 have s4:=ze n2 (.lst [.int z])
 have e4:=zq (.lst [.int z]) n2
 have e34:=s4 _ _ e3
 refine ⟨q1,q2,_,_,rfl,rfl,e34,e4,by rw[yab,yab,sz];simp;ac_rfl,fun q3 n3=>?_⟩
 have s5:=s3.trans (s4.trans (ze n3 (.lst ((l.map (·.1)).map V.int++[.int z]))))
 have e5:(upd (upd H3 q2 (.lst [.int z])) q3 (.lst ((l.map (·.1)).map V.int++[.int z]))) q3=some (.lst ((l.map (·.1)++[z]).map V.int)):=by rw[yar];exact zg
 generalize upd (upd H3 q2 (.lst [.int z])) q3 (.lst ((l.map (·.1)).map V.int++[.int z]))=H5 at s5 e5 ⊢
 have ll2:(l.map (·.1)++[z]).length<=32:=by rw[yag,yab];simp;ac_rfl
 nofun
 refine ⟨q3,_,rfl,SqL.of e5,by ac_rfl,fun pS HS ks nS sS eS nd mm lm=>?_⟩
 nofun
 refine ⟨pS,ks,rfl,eS,by ac_rfl,fun pR HR ds nR sR eR pm up=>?_⟩
 have s2R:=s5.trans (sS.trans sR)
 have upR:=zho pm nd up
 have dmem:∀ d,d∈ds↔DE es d\/d=z:=fun d=>by rw[pm.mem_iff,mm,yac,kmem];simp
 have npR:pR≠p:=fun z=>by
  have:=zJ (s5.trans sS) nR
  rw[z,eP] at this
  cases this
 have dsl:ds.length<=32:=by rw[pm.length_eq];ac_rfl
 have hqR:=(s12.trans s2R) _ _ hq
 have ptR:=(s12.trans s2R) _ _ hpt
 have tR:TLx f0 bs HR wt (yax n):=LL.imp (fun v e ⟨t,e1,e2⟩=>⟨t,e1,(s12.trans s2R) _ _ e2⟩) hT
 have alR:=(al.same s2).same s2R
 have egR:=s2R _ _ eg2
 have ePR:=s2R _ _ eP
 have s1R:=s2.trans s2R
 refine ⟨pR,rfl,?_⟩
 nofun
 refine ⟨⟨_,SqL.of eR⟩,za5 (xs:=ds.map V.int) (fun i σ H'=>∃ (ws:List V) (z1:Option V),(Same H1 H'/\H' p=some (.lst ws)/\H' pR=some (.lst (ds.map V.int))/\R7 (zcu es f0) H' ws ((ds.take i).filter fun d=>decide (d<=z)))/\σ=[some (.ref q),some (.ref pt),some (.int bs),some (.int z),some (.ref pg),some (.ref p),z1])
  ⟨[],_,⟨s1R,ePR,eR,.nil⟩,rfl⟩ ?_ ?_ ?_⟩
 ·rintro i σ H' _ ⟨ws,z1,⟨_,_,e,_⟩,_⟩
  exact SqL.of e
 ·rintro i v σ H' hv ⟨ws,z1,⟨sH,eP',eR',hW⟩,rfl⟩
  rw[yaj] at hv
  obtain ⟨d,hd,rfl⟩:=Option.map_eq_some_iff.mp hv
  have tk:ds.take (i+1)=ds.take i++[d]:=by rw[ybc,hd];rfl
  have wl:=hW.length
  have fl:=yaz (fun d=>decide (d<=z)) (ds.take i)
  rw[ybd] at fl
  have eg':=sH _ _ eg
  have al':=al.same sH d
  nofun
  ·rename_i c
   have dlo:bs<=d:=by
    rcases (dmem d).mp (yai hd) with ⟨e,he,e1,_⟩ | e
    ·have:=day e he;ac_rfl
    ·ac_rfl
   obtain ⟨tt,at_,htt⟩:=hT.at_ (j:=d-bs) (by ac_rfl) (by ac_rfl)
   rw[show bs+(d-bs)=d by ac_rfl] at htt
   refine ⟨.inl ⟨rfl,_,SqL.of eP'⟩,?_⟩
   nofun
   intro t1 n1
   have sa:=ze n1 (.tup [.int d])
   have ea:=zq (.tup [.int d]) n1
   generalize upd H' t1 (.tup [.int d])=Ha at sa ea ⊢
   nofun
   refine ⟨pg,l,rfl,sa _ _ eg',?_⟩
   nofun
   intro u0 nu0
   have sb:=ze nu0 (.tup [.int 0,.int 0,.int 0,.int 0])
   have eb:=zq (.tup [.int 0,.int 0,.int 0,.int 0]) nu0
   generalize upd Ha u0 (.tup [.int 0,.int 0,.int 0,.int 0])=Hb at sb eb ⊢
   have sab:=sa.trans sb
   obtain ⟨r,lr,hr5⟩:∃ r,(lkV l d).getD (.ref u0)=.ref r/\Hb r=some (.tup [.int (ddE es d).1,.int (ddE es d).2.1,.int (ddE es d).2.2.1,.int (ddE es d).2.2.2]):=by
    rcases al' with ⟨_,t,lk,ht⟩ | ⟨nde,lk⟩
    ·exact ⟨t,by rw[lk];rfl,sab _ _ ht⟩
    ·exact ⟨u0,by rw[lk];rfl,by rw[zoC nde];exact eb⟩
   nofun
   refine ⟨sab _ _ eg',?_⟩
   rw[lr]
   refine ⟨t1,r,_,_,rfl,rfl,SqT.of (sb _ _ ea),SqT.of hr5,(by intro z;cases z),by rw[sz];show 5<=_;decide,(fun z=>by cases z),fun _ v nv=>?_⟩
   have sc:=ze nv (.tup [.int d,.int (ddE es d).1,.int (ddE es d).2.1,.int (ddE es d).2.2.1,.int (ddE es d).2.2.2])
   have ec:=zq (.tup [.int d,.int (ddE es d).1,.int (ddE es d).2.1,.int (ddE es d).2.2.1,.int (ddE es d).2.2.2]) nv
   have sHc:=sab.trans sc
   have ptc:=(s1.trans (sH.trans sHc)) _ _ hpt
   have ttc:=(s1.trans (sH.trans sHc)) _ _ htt
   nofun
   refine ⟨pt,_,_,_,rfl,rfl,SqL.of ptc,at_,?_⟩
   refine ⟨v,tt,_,_,rfl,rfl,SqT.of ec,SqT.of ttc,(by intro z;cases z),by rw[sz];show 7<=_;decide,(fun z=>by cases z),fun _ y ny=>?_⟩
   have sd:=sHc.trans (ze ny (.tup ((zcu es f0 d).map V.int)))
   have ed:=zq (.tup ((zcu es f0 d).map V.int)) ny
   have ePd:=sd _ _ eP'
   refine ⟨p,_,_,rfl,rfl,ePd,by ac_rfl,?_⟩
   refine ⟨ws++[.ref y],_,⟨zE (sH.trans sd) np,zg,by rw[zp npR];exact sd _ _ eR',?_⟩,rfl⟩
   rw[tk,ybb,yat (by simpa using c)]
   exact LL.push ((hW.same sd).put ePd) ⟨y,rfl,by rw[zp (zan ed ePd (by intro z;cases z))];exact ed⟩
  ·rename_i c
   refine ⟨ws,_,⟨sH,eP',eR',?_⟩,rfl⟩
   rw[tk,ybb,yaq (by simpa using c)]
   simpa using hW
 ·rintro σ H' ⟨ws,z1,⟨sH,eP',eR',hW⟩,rfl⟩
  rw[yab,yav (ycu _)] at hW
  nofun
  refine h p ws _ H' npH (s1.trans sH) eP' hW (upR.filter _) fun d=>?_
  rw[yao,dmem]
  constructor
  ·rintro ⟨h1 | h1,h2⟩
   ·by_cases c:d=z
    ·exact .inr c
    ·have h3:d<=z:=by simpa using h2
     exact .inl ⟨h1,by ac_rfl⟩
   ·exact .inr h1
  ·rintro (⟨h1,h2⟩ | h1)
   ·exact ⟨.inl h1,by simp;ac_rfl⟩
   ·exact ⟨.inr h1,by simp;ac_rfl⟩
def zmA (K:W.Frag):Sp:=fun vs H Q _=>∃ a A b,vs=[.ref a]/\zba K H a A b/\BOk b /\
 ∀ p ws (ds:List Int) H',H p=none->Same H H'->H' p=some (.lst ws)->R4 b H' ws ds->ds.Pairwise (·<·)->(∀ d,d∈ds↔TDay b d)->ds.length<=1000->Q (.ref p) H'
theorem za9:zk ["book", "spans", "rates", "lates", "asked_sums", "handed_sums", "told", "day", "lacks"] qaf (zi zhj):=by walk_at "sp"
theorem zsy (S:Src K mg "burdens" zhj qaf) (T:Txt K mg) (zbz:zv P w K mg base 1 (cA K "Book") "stills" qaa (zet K)) (zbV:zv P w K mg base 1 (cA K "Book") "rates" qaa (zfX K)) (zbU:zv P w K mg base 1 (cA K "Book") "lates" qaa (zfv K)) (zia:Def P w K mg base 2 "late_sums" qaf (zkg K)) (zbe:Def P w K mg base 1 "running_sums" ["rows"] (zeb K)) (zaY:zv P w K mg base 1 (cA K "Book") "pays" qaa (zdJ K)) (zer:Def P w K mg base 2 "turning_days" qaf (zhw K)) (zlQ:Def P w K mg base 3 "stands" qak (znB K)) (zcF:Def P w K mg base 2 "value_at" qbl (zlt K)):Def P w K mg base 4 "burdens" qaf (zmA K):=by
 refine S.ok za9 (fun vs H Q E h=>?_) (fun f cdv A outer s H vs Q E hr h=>?_)
 ·obtain ⟨a,A,b,rfl,B,O,h⟩:=h
  rfl
 obtain ⟨a,A,b,rfl,B,O,h⟩:=h
 refine ⟨_,(zc (zj (i:=1) za9.nd rfl (by walk_at "lc") (zR zbz T.zF hr (pv 0)))
  (zc (zj (i:=2) za9.nd rfl (by walk_at "lc") (zR zbV T.zF hr (pv 0)))
  (zc (zj (i:=3) za9.nd rfl (by walk_at "lc") (zR zbU T.zF hr (pv 0)))
  (zc (zj (i:=4) za9.nd rfl (by walk_at "lc") (zu zia hr (za (pv 0) zd)))
  (zc (zj (i:=5) za9.nd rfl (by walk_at "lc") (zu zbe hr (za (zR zaY T.zF hr (pv 0)) zd)))
  (zc (zj (i:=6) za9.nd rfl (by walk_at "lc") (zU zd))
  (zc (za7 PassesOwn.never rfl (zT (zu zer hr (za (pv 0) zd))) (zG (i:=7) za9.nd rfl (by walk_at "lc"))
  (zf (zV (zcd (zu zlQ hr (za (pv 1) (za (pv 7) zd))))
  (zf (zY (zbK PySem.F.plainAttrs_list PySem.F.slot_list_append PySem.F.type_list_append zax (pv 6) (za (zaj (za (pv 7) (za zb (za zb (za zb zd))))) zd))))
  (zc (zj (i:=8) za9.nd rfl (by walk_at "lc") (zD (zbc rfl) rfl T.zc6 PyProof.Rows.boot_max (za zb (za (zh zW (zu zcF hr (za (pv 4) (za (pv 7) zd))) (zu zcF hr (za (pv 5) (za (pv 7) zd)))) zd))))
  (zf (zY (zbK PySem.F.plainAttrs_list PySem.F.slot_list_append PySem.F.type_list_append zax (pv 6) (za (zaj (za (pv 7) (za (zu zcF hr (za (pv 2) (za (pv 7) zd))) (za (zu zcF hr (za (pv 3) (za (pv 7) zd))) (za (pv 8) zd))))) zd))))))))
  (zf (zl (pv 6)))))))))),?_⟩
 have sz:=sizeLine_eq
 nofun
 refine ⟨a,A.dx,_,rfl,B.ins,rfl,a,A,b,rfl,B,fun q1 x1 n1 r1 l1=>?_⟩
 have t1:=ze n1 (.lst x1)
 have e1:=zq (.lst x1) n1
 have r1':=r1.same t1
 generalize upd H q1 (.lst x1)=H1 at t1 e1 r1' ⊢
 have B1:=B.same t1
 nofun
 refine ⟨a,A.dx,_,rfl,B1.ins,rfl,a,A,b,rfl,B1,fun q2 x2 n2 r2 l2=>?_⟩
 have t2:=ze n2 (.lst x2)
 have e2:=zq (.lst x2) n2
 have r2':=r2.same t2
 generalize upd H1 q2 (.lst x2)=H2 at t2 e2 r2' ⊢
 have B2:=B1.same t2
 nofun
 refine ⟨a,A.dx,_,rfl,B2.ins,rfl,a,A,b,rfl,B2,fun q3 x3 n3 r3 l3=>?_⟩
 have t3:=ze n3 (.lst x3)
 have e3:=zq (.lst x3) n3
 have r3':=r3.same t3
 generalize upd H2 q3 (.lst x3)=H3 at t3 e3 r3' ⊢
 have B3:=B2.same t3
 nofun
 first | refine ⟨a,A,b,rfl,B3,fun q4 x4 H4 n4 t4 e4 r4=>?_⟩ | refine ⟨B3,fun q4 x4 H4 n4 t4 e4 r4=>?_⟩
 have B4:=B3.same t4
 nofun
 refine ⟨a,A.dx,_,rfl,B4.ins,rfl,a,A,b,rfl,B4,fun q5 x5 n5 r5 l5=>?_⟩
 have t5:=ze n5 (.lst x5)
 have e5:=zq (.lst x5) n5
 have r5':=r5.same t5
 generalize upd H4 q5 (.lst x5)=H5 at t5 e5 r5' ⊢
 nofun
 rename_i q6 x6 H6
 intro n6 t6 e6 r6
 have t16:=t2.trans (t3.trans (t4.trans (t5.trans t6)))
 have t26:=t3.trans (t4.trans (t5.trans t6))
 have t36:=t4.trans (t5.trans t6)
 have t46:=t5.trans t6
 have s06:=t1.trans t16
 have e16:=t16 _ _ e1
 have r16:=r1'.same t16
 have e26:=t26 _ _ e2
 have r26:=r2'.same t26
 have e36:=t36 _ _ e3
 have r36:=r3'.same t36
 have e46:=t46 _ _ e4
 have r46:=r4.same t46
 clear t16 t26 t36 t46 e1 e2 e3 e4 r1' r2' r3' r4 B1 B2 B3 B4 t1 t2 t3 t4 t5 t6
 nofun
 intro p np
 have s7:=ze np (.lst [])
 have eP:=zq (.lst []) np
 have s07:=s06.trans s7
 have npH:=zJ s06 np
 generalize upd H6 p (.lst [])=H7 at s7 eP s07 ⊢
 have B7:=B.same s07
 nofun
 first | refine ⟨a,A,b,rfl,B7,O,fun q8 ds H8 n8 t8 e8 up mem d64=>?_⟩ | refine ⟨B7,O,fun q8 ds H8 n8 t8 e8 up mem d64=>?_⟩
 have s68:=s7.trans t8
 have eP8:=t8 _ _ eP
 have n8p:q8≠p:=(zZ eP n8).symm
 have shn:∀ s∈shf b.g b.dues,0<=s.1:=fun s hs=>by
  obtain ⟨u,hu,rfl⟩:=yaf.mp hs
  have:=O.dn u hu
  have:=O.g0
  show 0<=u.1+b.g
  ac_rfl
 have kk:∀ (l:List (Int × Int)),((l.map (·.1)).Pairwise (·<·))->(∀ s∈l,0<=s.1)->((runs 0 l).Pairwise fun s t=>s.1<t.1)/\∀ s∈runs 0 l,0<=s.1:=fun l u n=>⟨zs8 (by rw[zdz];exact u),fun s hs=>by
  have:s.1∈l.map (·.1):=by rw[<-zdz l 0];exact ybf hs
  obtain ⟨v,hv,e⟩:=yaf.mp this
  rw[<-e];exact n v hv⟩
 have kA:=kk (shf b.g b.dues) (zs2 O.du) shn
 have kP:=kk b.pays O.pu O.pn
 nofun
 refine ⟨⟨_,SqL.of e8⟩,za5 (xs:=ds.map V.int) (fun i σ H'=>∃ (ws:List V) (z1 z2:Option V),(Same H6 H'/\H' p=some (.lst ws)/\H' q8=some (.lst (ds.map V.int)))/\R4 b H' ws (ds.take i)/\σ=[some (.ref a),some (.ref q1),some (.ref q2),some (.ref q3),some (.ref q4),some (.ref q6),some (.ref p),z1,z2])
  ⟨[],_,_,⟨s68,eP8,e8⟩,.nil,rfl⟩ ?_ ?_ ?_⟩
 ·rintro i σ H' _ ⟨ws,z1,z2,⟨_,_,e⟩,_⟩
  exact SqL.of e
 ·rintro i x σ H' hx ⟨ws,z1,z2,⟨sH,eP',e8'⟩,hW,rfl⟩
  rw[yaj] at hx
  obtain ⟨d,hd,rfl⟩:=Option.map_eq_some_iff.mp hx
  have il:i<ds.length:=(yad.mp hd).1
  have wl:=hW.length
  rw[ybd] at wl
  have tk:ds.take (i+1)=ds.take i++[d]:=by rw[ybc,hd];rfl
  have fin:∀ (x1 x2 x3:Int) (G:Hp) (v:Addr),x1=zeA b d->x2=zeE b d->x3=zej b d->Same H' G->G v=some (.tup [.int d,.int x1,.int x2,.int x3])->G p=some (.lst ws)->(Same H6 (upd G p (.lst (ws++[.ref v])))/\(upd G p (.lst (ws++[.ref v]))) p=some (.lst (ws++[.ref v]))/\(upd G p (.lst (ws++[.ref v]))) q8=some (.lst (ds.map V.int)))/\R4 b (upd G p (.lst (ws++[.ref v]))) (ws++[.ref v]) (ds.take (i+1)):=fun x1 x2 x3 G v g1 g2 g3 sG ev eG=>by
   subst g1 g2 g3
   refine ⟨⟨zE (sH.trans sG) np,zg,by rw[zp n8p];exact sG _ _ e8'⟩,?_⟩
   rw[tk]
   exact LL.push ((hW.same sG).put eG) ⟨v,rfl,by rw[zp (zan ev eG (by intro z;cases z))];exact ev⟩
  nofun
  refine ⟨q1,x1,b.spans,d,rfl,SqL.of (sH _ _ e16),r16.same sH,O.jn,?_⟩
  cases c:Spans.isIn b.spans d with
  | true =>
   nofun
   refine ⟨.inl ⟨rfl,_,SqL.of eP'⟩,?_⟩
   nofun
   intro v nv
   have sv:=ze nv (.tup [.int d,.int 0,.int 0,.int 0])
   refine ⟨p,_,_,rfl,rfl,sv _ _ eP',by ac_rfl,?_⟩
   obtain ⟨f1,f2⟩:=fin 0 0 0 _ v (by unfold zeA;rw[c];rfl) (by unfold zeE;rw[c];rfl) (by unfold zej;rw[c];rfl) sv zg (sv _ _ eP')
   exact ⟨_,_,_,f1,f2,rfl⟩
  | false =>
   nofun
   refine ⟨q4,x4,runs 0 (shf b.g b.dues),d,rfl,SqL.of (sH _ _ e46),r46.same sH,kA.1,kA.2,?_⟩
   rw[zqh (zs2 O.du) shn,zty]
   nofun
   refine ⟨q6,x6,runs 0 b.pays,d,rfl,SqL.of (sH _ _ e6),r6.same sH,kP.1,kP.2,?_⟩
   rw[zqh O.pu O.pn]
   nofun
   refine ⟨.inl ⟨rfl,_,SqL.of eP'⟩,?_⟩
   nofun
   refine ⟨q2,x2,b.rates,d,rfl,SqL.of (sH _ _ e26),r26.same sH,O.ru,fun s hs=>(O.rn s hs).1,?_⟩
   nofun
   refine ⟨q3,x3,b.lates,d,rfl,SqL.of (sH _ _ e36),r36.same sH,O.lu,fun s hs=>(O.ln s hs).1,?_⟩
   nofun
   intro v nv
   have sv:=ze nv (.tup [.int d,.int (Sums.valOf b.rates d),.int (Sums.valOf b.lates d),.int (p0 (upto b.dues (d-b.g)-upto b.pays d))])
   refine ⟨p,_,_,rfl,rfl,sv _ _ eP',by ac_rfl,?_⟩
   obtain ⟨f1,f2⟩:=fin (Sums.valOf b.rates d) (Sums.valOf b.lates d) (p0 (upto b.dues (d-b.g)-upto b.pays d)) _ v (by unfold zeA;rw[c];rfl) (by unfold zeE;rw[c];rfl) (by unfold zej;rw[c];rfl) sv zg (sv _ _ eP')
   exact ⟨_,_,_,f1,f2,rfl⟩
 ·rintro σ H' ⟨ws,z1,z2,⟨sH,eP',e8'⟩,hW,rfl⟩
  rw[yab,ycl] at hW
  nofun
  exact h p ws ds H' npH (s06.trans sH) eP' hW up mem (by ac_rfl)
def zlh (K:W.Frag):Sp:=fun vs H Q _=>L2.Ee8 fun p dx t u m n d (q:Q4)=>L2.Aa5 (vs=[.ref p,.ref t]) (Deb K H p dx u m n) ((0<u/\u<1152921504606846976)) (H t=some (.tup [.int d,.int q.1,.int q.2.1,.int q.2.2.1,.int q.2.2.2])) (Q .non (upd H p (.ins (cA K "Debt") dx (zap u (doD u q (m,n)).1 (doD u q (m,n)).2))))
theorem zqI:zk qbc qbc (zi zf8):=by walk_at "sp"
theorem zrL (S:Src K mg "do_deeds" zf8 qbc) (T:Txt K mg) (zic:zv P w K mg base 3 (cA K "Debt") "lend" qad (zke K)) (zjx:zv P w K mg base 3 (cA K "Debt") "fee" qad (zlm K)) (zhL:zv P w K mg base 2 (cA K "Debt") "turn" qaa (zkf K)) (zhE:zv P w K mg base 3 (cA K "Debt") "take" qad (zjQ K)):Def P w K mg base 4 "do_deeds" qbc (zlh K):=by
 refine S.ok zqI (fun vs H Q E h=>?_) (fun f cdv A outer s H vs Q E hr h=>?_)
 ·obtain ⟨p,dx,t,u,m,n,d,q,rfl,e,hu,ht,h⟩:=h
  rfl
 obtain ⟨p,dx,t,u,m,n,d,q,rfl,e,hu,ht,h⟩:=h
 refine ⟨_,(zc (zY (zdl zic T.zN hr (pv 0) (za (zo zah (pv 1) zb (fun _ _=>rfl)) zd)))
  (zc (zY (zdl zjx T.zN hr (pv 0) (za (zo zah (pv 1) zb (fun _ _=>rfl)) zd)))
  (zc (zV (zw zaa (zo zah (pv 1) zb (fun _ _=>rfl)) zb (nomark _))
  (zf (zY (zR zhL T.zN hr (pv 0))))
   zO)
  (zf (zY (zdl zhE T.zN hr (pv 0) (za (zo zah (pv 1) zb (fun _ _=>rfl)) zd))))))),?_⟩
 obtain ⟨x,f,w,y⟩:=q
 change H t=some (.tup [.int d,.int x,.int f,.int w,.int y]) at ht
 unfold doD at h
 dsimp only at h
 nofun
 refine ⟨p,dx,_,rfl,e,rfl,?_⟩
 nofun
 refine ⟨p,dx,u,m,n,x,rfl,e,hu,?_⟩
 generalize Dbt.step u .lend x m n=s1 at h ⊢
 have e1:Deb K (upd H p (.ins (cA K "Debt") dx (zap u s1.1 s1.2))) p dx u s1.1 s1.2:=zg
 have t1:=zi8 (K:=K) (o:=.ins (cA K "Debt") dx (zap u s1.1 s1.2)) e ht
 nofun
 refine ⟨p,dx,_,rfl,e1,rfl,?_⟩
 nofun
 refine ⟨p,dx,u,_,_,f,rfl,e1,hu,?_⟩
 rw[zag]
 generalize Dbt.step u .fee f s1.1 s1.2=s2 at h ⊢
 have e2:Deb K (upd H p (.ins (cA K "Debt") dx (zap u s2.1 s2.2))) p dx u s2.1 s2.2:=zg
 have t2:=zi8 (K:=K) (o:=.ins (cA K "Debt") dx (zap u s2.1 s2.2)) e ht
 clear e1 t1
 nofun
 ·rename_i c
  rw[if_pos c] at h
  refine ⟨p,dx,_,rfl,e2,rfl,p,dx,u,_,_,rfl,e2,hu,?_⟩
  rw[zag]
  generalize Dbt.step u .turn 0 s2.1 s2.2=s3 at h ⊢
  have e3:Deb K (upd H p (.ins (cA K "Debt") dx (zap u s3.1 s3.2))) p dx u s3.1 s3.2:=zg
  have t3:=zi8 (K:=K) (o:=.ins (cA K "Debt") dx (zap u s3.1 s3.2)) e ht
  nofun
  refine ⟨p,dx,_,rfl,e3,rfl,?_⟩
  nofun
  refine ⟨p,dx,u,_,_,y,rfl,e3,hu,?_⟩
  rw[zag]
  exact h
 ·rename_i c
  rw[if_neg c] at h
  refine ⟨p,dx,_,rfl,e2,rfl,?_⟩
  nofun
  refine ⟨p,dx,u,_,_,y,rfl,e2,hu,?_⟩
  rw[zag]
  exact h
noncomputable def Uk:Kd->Int->Int
 | .plain,d=>d
 | .bank,d=>d
 | .thirty,d=>Cnt.UT d
 | .exact,d=>Cnt.UE d
theorem zu9 {kd:Kd} {a b:Int} (h0:0<=a) (ab:a<=b):Uk kd a<=Uk kd b:=by
 cases kd with
 | plain=>exact ab
 | bank=>exact ab
 | thirty=>exact Cnt.zvu h0 ab
 | exact=>exact Cnt.zvk h0 ab
theorem zme {kd:Kd} {d:Int} (h0:0<=d) (h1:d<=1000000):-1<=Uk kd d/\Uk kd d<=1000000000:=by
 cases kd with
 | plain=>exact ⟨by show -1<=d;omega,by show d<=1000000000;omega⟩
 | bank=>exact ⟨by show -1<=d;omega,by show d<=1000000000;omega⟩
 | thirty=>exact Cnt.zwr h0 h1
 | exact=>exact Cnt.zw0 h0 h1
def zft (kd:Kd) (K:W.Frag):Sp:=fun vs H Q _=>∃ a d,vs=[.ref a,.int d]/\zcb K H a kd/\Q (.int (Uk kd d)) H
theorem zob:zk qac qac (zi zb0):=by walk_at "sp"
theorem zj2 (kd:Kd) (hk:kd=.plain\/kd=.bank) (S:zr K (cA K kd.cls) "upto" "Count.upto" zb0 qac) (T:Txt K mg)  : zv P w K mg base 4 (cA K kd.cls) "upto" qac (zft kd K):=by
 refine S.ok zob (fun vs H Q E h=>?_) (fun f cdv A outer s H vs Q E hr h=>?_)
 ·obtain ⟨a,d,rfl,hc,h⟩:=h
  rfl
 obtain ⟨a,d,rfl,hc,h⟩:=h
 refine ⟨_,(zf (zl (pv 1))),?_⟩
 rcases hk with rfl | rfl
 ·nofun
  exact h
 ·nofun
  exact h
theorem zem:zk ["self", "day", "date", "months"] qac (zi zc9):=by walk_at "sp"
theorem zom (kd:Kd) (hk:kd=.thirty) (S:zr K (cA K kd.cls) "upto" "Thirty.upto" zc9 qac) (T:Txt K mg) (zkb:Def P w K mg base 3 "date_of" qao (zmv K)):zv P w K mg base 4 (cA K kd.cls) "upto" qac (zft kd K):=by
 subst hk
 refine S.okF zem (fun vs H Q E h=>?_) (fun f cdv A outer s H vs Q E hr h=>?_)
 ·obtain ⟨a,d,rfl,hc,h⟩:=h
  rfl
 obtain ⟨a,d,rfl,hc,h⟩:=h
 refine ⟨_,(zc (zj (i:=2) zem.nd rfl (by walk_at "lc") (zu zkb hr (za (pv 1) zd)))
  (zc (zj (i:=3) zem.nd rfl (by walk_at "lc") (zh zW (zh zy (zh zat zb (zh zW (zo zah (pv 2) zb (fun _ _=>rfl)) (zcL T.zbR))) (zo zah (pv 2) zb (fun _ _=>rfl))) zb))
  (zf (zl (zh zW (zh zy (zh zat zb (pv 3)) (zD (za1 rfl) rfl T.zcO PyProof.Rows.boot_min (za (zo zah (pv 2) zb (fun _ _=>rfl)) (za zb zd)))) zb))))),?_⟩
 nofun
 intro y m r p D e np
 have s1:=ze np (.tup [.int y,.int m,.int r])
 have t1:(upd H p (.tup [.int y,.int m,.int r])) p=some (.tup [.int y,.int m,.int r]):=zg
 generalize upd H p (.tup [.int y,.int m,.int r])=H1 at s1 t1 ⊢
 nofun
 have e1:Uk .thirty d=30*(12*(y-2000)+m-1)+(if 30<r then 30 else r)-1:=Cnt.zkX ⟨y,m,r,D,e,rfl⟩
 rw[e1] at h
 first | exact h | exact ⟨s1,h⟩
theorem zfu:zk ["self", "day", "year", "each"] qac (zi zek):=by walk_at "sp"
theorem zqg (kd:Kd) (hk:kd=.exact) (S:zr K (cA K kd.cls) "upto" "Exact.upto" zek qac) (T:Txt K mg) (zdw:Def P w K mg base 2 "year_of" qao (zjp K)) (zdA:Def P w K mg base 1 "is_leap" qag (ziU K)) (zca:∀ kd:Kd,zv P w K mg base 1 (cA K kd.cls) "year" qaa (zcs kd K)) (zbb:Def P w K mg base 1 "new_year" qag (ze4 K)):zv P w K mg base 4 (cA K kd.cls) "upto" qac (zft kd K):=by
 subst hk
 refine S.ok zfu (fun vs H Q E h=>?_) (fun f cdv A outer s H vs Q E hr h=>?_)
 ·obtain ⟨a,d,rfl,hc,h⟩:=h
  rfl
 obtain ⟨a,d,rfl,hc,h⟩:=h
 refine ⟨_,(zc (zj (i:=2) zfu.nd rfl (by walk_at "lc") (zu zdw hr (za (pv 1) zd)))
  (zc (zj (i:=3) zfu.nd rfl (by walk_at "lc") (zpk (zcd (zu zdA hr (za (pv 2) zd))) zb zb))
  (zf (zl (zh zy (zh zat (zjZ zca T.cls hr (pv 0)) (zh zW (pv 2) (zcL T.zbR))) (zh zat (pv 3) (zh zW (pv 1) (zu zbb hr (za (pv 2) zd))))))))),?_⟩
 nofun
 intro y h1 h2
 have e1:Uk .exact d=365*366*(y-2000)+Cnt.each y*(d-Cal.ny y):=Cnt.zjd ⟨y,h1,h2,rfl⟩
 nofun
 cases lp:Cal.leap y with
 | true =>
  have ee:Cnt.each y=365:=by unfold Cnt.each;rw[lp];rfl
  rw[ee] at e1
  rw[e1] at h
  nofun
  refine ⟨.exact,a,rfl,hc,?_⟩
  nofun
  exact h
 | false =>
  have ee:Cnt.each y=366:=by unfold Cnt.each;rw[lp];rfl
  rw[ee] at e1
  rw[e1] at h
  nofun
  refine ⟨.exact,a,rfl,hc,?_⟩
  nofun
  exact h
noncomputable def bG (c:Addr) (g:Int) (qs:List Addr):List (Str × V):=("own_count", V.ref c)::("own_grace", V.int g)::List.zipWith (fun (n:Str) q=>(n,V.ref q)) ["own_entries", "out_sums", "fee_sums", "pay_sums", "turn_days", "rate_rows", "late_rows", "spans", "due_sums"] qs
def zkH (K:W.Frag):Sp:=fun vs H Q _=>L2.Ee9 fun a dx c p kd g xs (es:List Er) G=>L2.zul (vs=[.ref a,.ref c,.int g,.ref p]) (H a=some (.ins (cA K "Book") dx [])) ((G a=none/\Same G H)) (zcb K G c kd) ((0<=g/\g<=366)) (SqL K G p xs) (EL K G xs es) (es.length<=61) ((∀ e∈es,0<=e.2.1)) (∀ A (b:BkT) H',Same G H'->zba K H' a A b->zc0 b->b.kd=kd->b.g=g->b.es=es->Q .non H')
theorem zkS {r l:List (Int × Int)} (T:Sby.Tab r l):r.length<=l.length:=by
 have:=zgO (Sby.zdH T.up) fun k hk=>(T.mem k).mp hk
 rw[yab,yab] at this
 exact this
theorem zoN:zk qbd qbd (zi zeQ):=by walk_at "sp"
theorem zqK (S:zr K (cA K "Book") "__init__" "Book.__init__" zeQ qbd) (T:Txt K mg) (zfU:Def P w K mg base 3 "check_terms" qba (ziy K)) (zcr:Def P w K mg base 2 "sum_by" qae (zka K)) (zks:Def P w K mg base 2 "days_of" qae (zmi K)) (zeh:Def P w K mg base 2 "rate_table" qae (zjJ K)) (zfW:Def P w K mg base 2 "still_spans" qbn (ziC K)) (zfS:Def P w K mg base 3 "fallen_dues" qbb (ziG K)):zv P w K mg base 4 (cA K "Book") "__init__" qbd (zkH K):=by
 refine S.ok zoN (fun vs H Q E h=>?_) (fun f cdv A outer s H vs Q E hr h=>?_)
 ·obtain ⟨a,dx,c,p,kd,g,xs,es,G,rfl,ea,⟨na,sG⟩,hc,hg,hp,hE,hl,e0,h⟩:=h
  rfl
 obtain ⟨a,dx,c,p,kd,g,xs,es,G,rfl,ea,⟨na,sG⟩,hc,hg,hp,hE,hl,e0,h⟩:=h
 refine ⟨_,(zc (zY (zu zfU hr (za (pv 1) (za (pv 2) zd))))
  (zc (zV (zw zi6 (zD zaN rfl T.zd2 PySem.boot_len (za (pv 3) zd)) (zcL T.zeC) (nomark _))
   zjT
   zO)
  (zc (zav T.zF T.zbL (pv 0) (pv 1))
  (zc (zav T.zF T.zbJ (pv 0) (pv 2))
  (zc (zav T.zF T.zcl (pv 0) (zH zas rfl T.zbl PyProof.Rows.boot_list (za (pv 3) zd)))
  (zc (zav T.zF T.zbs (pv 0) (zu zcr hr (za (pv 3) (za zz zd))))
  (zc (zav T.zF T.zbr (pv 0) (zu zcr hr (za (pv 3) (za zz zd))))
  (zc (zav T.zF T.zbn (pv 0) (zu zcr hr (za (pv 3) (za zz zd))))
  (zc (zav T.zF T.za6 (pv 0) (zu zks hr (za (pv 3) (za zz zd))))
  (zc (zav T.zF T.zbI (pv 0) (zu zeh hr (za (pv 3) (za zz zd))))
  (zc (zav T.zF T.zbN (pv 0) (zu zeh hr (za (pv 3) (za zz zd))))
  (zc (zav T.zF T.zce (pv 0) (zu zfW hr (za (pv 3) zd)))
  (zf (zav T.zF T.zb3 (pv 0) (zu zfS hr (za (pv 3) (za (zae T.zF T.zce (pv 0)) zd))))))))))))))))),?_⟩
 have sz:=sizeLine_eq
 have xl:=hE.length
 have pl:∀ w,(prs w es).length<=61:=fun w=>ycz zgi hl
 nofun
 refine ⟨c,kd,g,rfl,hc.same sG,hg,?_⟩
 have hp0:=sG.seq hp
 nofun
 ·ac_rfl
 refine ⟨a,dx,[],rfl,ea,by decide,?_⟩
 rw[show zaI ("own_count" : Str) (V.ref c) ([]:List (Str × V))=([("own_count", V.ref c)]:List (Str × V)) from rfl]
 nofun
 refine ⟨a,dx,_,rfl,zg,ycw (ycu 1) (by decide),?_⟩
 rw[show zaI ("own_grace" : Str) (V.int g) ([("own_count", V.ref c)]:List (Str × V))=(bG c g []) from rfl]
 rw[zag]
 have e2:upd H a (.ins (cA K "Book") dx (bG c g [])) a=some (.ins (cA K "Book") dx (bG c g [])):=zg
 have s2:Same G (upd H a (.ins (cA K "Book") dx (bG c g []))):=zE sG na
 generalize upd H a (.ins (cA K "Book") dx (bG c g []))=H2 at e2 s2 ⊢
 nofun
 refine ⟨p,xs,rfl,.inl (s2.seq hp),fun q3 n3=>?_⟩
 have t3:=ze n3 (.lst xs)
 have z3:=zq (.lst xs) n3
 have c3:=t3 _ _ e2
 nofun
 refine ⟨a,dx,_,rfl,c3,ycw (ycu 2) (by decide),?_⟩
 rw[show zaI ("own_entries" : Str) (V.ref q3) (bG c g [])=(bG c g [q3]) from rfl]
 have k3:Same (wo H2 a) (wo (upd (upd H2 q3 (.lst xs)) a (.ins (cA K "Book") dx (bG c g [q3]))) a):=zcP t3
 have s3:Same G (upd (upd H2 q3 (.lst xs)) a (.ins (cA K "Book") dx (bG c g [q3]))):=zE (s2.trans t3) na
 have e3:(upd (upd H2 q3 (.lst xs)) a (.ins (cA K "Book") dx (bG c g [q3]))) a=some (.ins (cA K "Book") dx (bG c g [q3])):=zg
 have L3:wo (upd (upd H2 q3 (.lst xs)) a (.ins (cA K "Book") dx (bG c g [q3]))) a q3=some (.lst xs):=by rw[zc1];exact zpb z3 c3
 generalize upd (upd H2 q3 (.lst xs)) a (.ins (cA K "Book") dx (bG c g [q3]))=H3 at k3 s3 e3 L3 ⊢
 nofun
 refine ⟨p,xs,es, "out", rfl,s3.seq hp,hE.same s3,hl,.inl rfl,fun q4 G4 w4 r4 n4 t4 z4 R4 T4=>?_⟩
 have c4:=t4 _ _ e3
 nofun
 refine ⟨a,dx,_,rfl,c4,ycw (ycu 3) (by decide),?_⟩
 rw[show zaI ("out_sums" : Str) (V.ref q4) (bG c g [q3])=(bG c g [q3,q4]) from rfl]
 have k4:Same (wo H3 a) (wo (upd G4 a (.ins (cA K "Book") dx (bG c g [q3,q4]))) a):=zcP t4
 have s4:Same G (upd G4 a (.ins (cA K "Book") dx (bG c g [q3,q4]))):=zE (s3.trans t4) na
 have e4:(upd G4 a (.ins (cA K "Book") dx (bG c g [q3,q4]))) a=some (.ins (cA K "Book") dx (bG c g [q3,q4])):=zg
 have L4:LP K (wo (upd G4 a (.ins (cA K "Book") dx (bG c g [q3,q4]))) a) q4 r4:=by rw[zc1];exact LP.wo ⟨w4,z4,R4,(by have:=zkS T4;have:=pl "out";ac_rfl)⟩ c4
 generalize upd G4 a (.ins (cA K "Book") dx (bG c g [q3,q4]))=H4 at k4 s4 e4 L4 ⊢
 nofun
 refine ⟨p,xs,es, "fee", rfl,s4.seq hp,hE.same s4,hl,.inr (.inl rfl),fun q5 G5 w5 r5 n5 t5 z5 R5 T5=>?_⟩
 have c5:=t5 _ _ e4
 nofun
 refine ⟨a,dx,_,rfl,c5,ycw (ycu 4) (by decide),?_⟩
 rw[show zaI ("fee_sums" : Str) (V.ref q5) (bG c g [q3,q4])=(bG c g [q3,q4,q5]) from rfl]
 have k5:Same (wo H4 a) (wo (upd G5 a (.ins (cA K "Book") dx (bG c g [q3,q4,q5]))) a):=zcP t5
 have s5:Same G (upd G5 a (.ins (cA K "Book") dx (bG c g [q3,q4,q5]))):=zE (s4.trans t5) na
 have e5:(upd G5 a (.ins (cA K "Book") dx (bG c g [q3,q4,q5]))) a=some (.ins (cA K "Book") dx (bG c g [q3,q4,q5])):=zg
 have L5:LP K (wo (upd G5 a (.ins (cA K "Book") dx (bG c g [q3,q4,q5]))) a) q5 r5:=by rw[zc1];exact LP.wo ⟨w5,z5,R5,(by have:=zkS T5;have:=pl "fee";ac_rfl)⟩ c5
 generalize upd G5 a (.ins (cA K "Book") dx (bG c g [q3,q4,q5]))=H5 at k5 s5 e5 L5 ⊢
 nofun
 refine ⟨p,xs,es, "pay", rfl,s5.seq hp,hE.same s5,hl,.inr (.inr (.inl rfl)),fun q6 G6 w6 r6 n6 t6 z6 R6 T6=>?_⟩
 have c6:=t6 _ _ e5
 nofun
 refine ⟨a,dx,_,rfl,c6,ycw (ycu 5) (by decide),?_⟩
 rw[show zaI ("pay_sums" : Str) (V.ref q6) (bG c g [q3,q4,q5])=(bG c g [q3,q4,q5,q6]) from rfl]
 have k6:Same (wo H5 a) (wo (upd G6 a (.ins (cA K "Book") dx (bG c g [q3,q4,q5,q6]))) a):=zcP t6
 have s6:Same G (upd G6 a (.ins (cA K "Book") dx (bG c g [q3,q4,q5,q6]))):=zE (s5.trans t6) na
 have e6:(upd G6 a (.ins (cA K "Book") dx (bG c g [q3,q4,q5,q6]))) a=some (.ins (cA K "Book") dx (bG c g [q3,q4,q5,q6])):=zg
 have L6:LP K (wo (upd G6 a (.ins (cA K "Book") dx (bG c g [q3,q4,q5,q6]))) a) q6 r6:=by rw[zc1];exact LP.wo ⟨w6,z6,R6,(by have:=zkS T6;have:=pl "pay";ac_rfl)⟩ c6
 generalize upd G6 a (.ins (cA K "Book") dx (bG c g [q3,q4,q5,q6]))=H6 at k6 s6 e6 L6 ⊢
 nofun
 refine ⟨p,xs,es, "turn", rfl,s6.seq hp,hE.same s6,hl,fun q7 G7 r7 n7 t7 z7 T7=>?_⟩
 have c7:=t7 _ _ e6
 nofun
 refine ⟨a,dx,_,rfl,c7,ycw (ycu 6) (by decide),?_⟩
 rw[show zaI ("turn_days" : Str) (V.ref q7) (bG c g [q3,q4,q5,q6])=(bG c g [q3,q4,q5,q6,q7]) from rfl]
 have k7:Same (wo H6 a) (wo (upd G7 a (.ins (cA K "Book") dx (bG c g [q3,q4,q5,q6,q7]))) a):=zcP t7
 have s7:Same G (upd G7 a (.ins (cA K "Book") dx (bG c g [q3,q4,q5,q6,q7]))):=zE (s6.trans t7) na
 have e7:(upd G7 a (.ins (cA K "Book") dx (bG c g [q3,q4,q5,q6,q7]))) a=some (.ins (cA K "Book") dx (bG c g [q3,q4,q5,q6,q7])):=zg
 have L7:wo (upd G7 a (.ins (cA K "Book") dx (bG c g [q3,q4,q5,q6,q7]))) a q7=some (.lst (r7.map V.int)):=by rw[zc1];exact zpb z7 c7
 generalize upd G7 a (.ins (cA K "Book") dx (bG c g [q3,q4,q5,q6,q7]))=H7 at k7 s7 e7 L7 ⊢
 nofun
 refine ⟨p,xs,es, "rate", rfl,s7.seq hp,hE.same s7,hl,.inl rfl,e0,fun q8 G8 w8 r8 n8 t8 z8 R8 T8 T8' y8=>?_⟩
 have c8:=t8 _ _ e7
 nofun
 refine ⟨a,dx,_,rfl,c8,ycw (ycu 7) (by decide),?_⟩
 rw[show zaI ("rate_rows" : Str) (V.ref q8) (bG c g [q3,q4,q5,q6,q7])=(bG c g [q3,q4,q5,q6,q7,q8]) from rfl]
 have k8:Same (wo H7 a) (wo (upd G8 a (.ins (cA K "Book") dx (bG c g [q3,q4,q5,q6,q7,q8]))) a):=zcP t8
 have s8:Same G (upd G8 a (.ins (cA K "Book") dx (bG c g [q3,q4,q5,q6,q7,q8]))):=zE (s7.trans t8) na
 have e8:(upd G8 a (.ins (cA K "Book") dx (bG c g [q3,q4,q5,q6,q7,q8]))) a=some (.ins (cA K "Book") dx (bG c g [q3,q4,q5,q6,q7,q8])):=zg
 have L8:LP K (wo (upd G8 a (.ins (cA K "Book") dx (bG c g [q3,q4,q5,q6,q7,q8]))) a) q8 r8:=by rw[zc1];exact LP.wo ⟨w8,z8,R8,(by ac_rfl)⟩ c8
 generalize upd G8 a (.ins (cA K "Book") dx (bG c g [q3,q4,q5,q6,q7,q8]))=H8 at k8 s8 e8 L8 ⊢
 nofun
 refine ⟨p,xs,es, "late", rfl,s8.seq hp,hE.same s8,hl,.inr rfl,e0,fun q9 G9 w9 r9 n9 t9 z9 R9 T9 T9' y9=>?_⟩
 have c9:=t9 _ _ e8
 nofun
 refine ⟨a,dx,_,rfl,c9,ycw (ycu 8) (by decide),?_⟩
 rw[show zaI ("late_rows" : Str) (V.ref q9) (bG c g [q3,q4,q5,q6,q7,q8])=(bG c g [q3,q4,q5,q6,q7,q8,q9]) from rfl]
 have k9:Same (wo H8 a) (wo (upd G9 a (.ins (cA K "Book") dx (bG c g [q3,q4,q5,q6,q7,q8,q9]))) a):=zcP t9
 have s9:Same G (upd G9 a (.ins (cA K "Book") dx (bG c g [q3,q4,q5,q6,q7,q8,q9]))):=zE (s8.trans t9) na
 have e9:(upd G9 a (.ins (cA K "Book") dx (bG c g [q3,q4,q5,q6,q7,q8,q9]))) a=some (.ins (cA K "Book") dx (bG c g [q3,q4,q5,q6,q7,q8,q9])):=zg
 have L9:LP K (wo (upd G9 a (.ins (cA K "Book") dx (bG c g [q3,q4,q5,q6,q7,q8,q9]))) a) q9 r9:=by rw[zc1];exact LP.wo ⟨w9,z9,R9,(by ac_rfl)⟩ c9
 generalize upd G9 a (.ins (cA K "Book") dx (bG c g [q3,q4,q5,q6,q7,q8,q9]))=H9 at k9 s9 e9 L9 ⊢
 nofun
 refine ⟨p,xs,es,rfl,s9.seq hp,hE.same s9,hl,fun q10 G10 w10 r10 n10 t10 z10 R10 J10 V10 y10=>?_⟩
 have c10:=t10 _ _ e9
 nofun
 refine ⟨a,dx,_,rfl,c10,ycw (ycu 9) (by decide),?_⟩
 rw[show zaI ("spans" : Str) (V.ref q10) (bG c g [q3,q4,q5,q6,q7,q8,q9])=(bG c g [q3,q4,q5,q6,q7,q8,q9,q10]) from rfl]
 have k10:Same (wo H9 a) (wo (upd G10 a (.ins (cA K "Book") dx (bG c g [q3,q4,q5,q6,q7,q8,q9,q10]))) a):=zcP t10
 have s10:Same G (upd G10 a (.ins (cA K "Book") dx (bG c g [q3,q4,q5,q6,q7,q8,q9,q10]))):=zE (s9.trans t10) na
 have e10:(upd G10 a (.ins (cA K "Book") dx (bG c g [q3,q4,q5,q6,q7,q8,q9,q10]))) a=some (.ins (cA K "Book") dx (bG c g [q3,q4,q5,q6,q7,q8,q9,q10])):=zg
 have L10:LP K (wo (upd G10 a (.ins (cA K "Book") dx (bG c g [q3,q4,q5,q6,q7,q8,q9,q10]))) a) q10 r10:=by rw[zc1];exact LP.wo ⟨w10,z10,R10,(by ac_rfl)⟩ c10
 generalize upd G10 a (.ins (cA K "Book") dx (bG c g [q3,q4,q5,q6,q7,q8,q9,q10]))=H10 at k10 s10 e10 L10 ⊢
 nofun
 refine ⟨a,dx,_,_,rfl,e10,rfl,?_⟩
 nofun
 obtain ⟨w10',z10',R10',_⟩:=L10.same zch
 refine ⟨p,q10,xs,w10',es,r10,rfl,s10.seq hp,hE.same s10,hl,⟨SqL.of z10',R10',J10⟩,fun q11 G11 w11 r11 n11 t11 z11 R11 T11=>?_⟩
 rw[zuO V10] at T11
 have c11:=t11 _ _ e10
 nofun
 refine ⟨a,dx,_,rfl,c11,ycw (ycu 10) (by decide),?_⟩
 rw[show zaI ("due_sums" : Str) (V.ref q11) (bG c g [q3,q4,q5,q6,q7,q8,q9,q10])=(bG c g [q3,q4,q5,q6,q7,q8,q9,q10,q11]) from rfl]
 have k11:Same (wo H10 a) (wo (upd G11 a (.ins (cA K "Book") dx (bG c g [q3,q4,q5,q6,q7,q8,q9,q10,q11]))) a):=zcP t11
 have s11:Same G (upd G11 a (.ins (cA K "Book") dx (bG c g [q3,q4,q5,q6,q7,q8,q9,q10,q11]))):=zE (s10.trans t11) na
 have e11:(upd G11 a (.ins (cA K "Book") dx (bG c g [q3,q4,q5,q6,q7,q8,q9,q10,q11]))) a=some (.ins (cA K "Book") dx (bG c g [q3,q4,q5,q6,q7,q8,q9,q10,q11])):=zg
 have L11:LP K (wo (upd G11 a (.ins (cA K "Book") dx (bG c g [q3,q4,q5,q6,q7,q8,q9,q10,q11]))) a) q11 r11:=by rw[zc1];exact LP.wo ⟨w11,z11,R11,(by have:=zkS T11;have:(mvp (mvd (prs "still" es)) (prs "due" es)).length=(prs "due" es).length:=yab ..;have:=pl "due";ac_rfl)⟩ c11
 generalize upd G11 a (.ins (cA K "Book") dx (bG c g [q3,q4,q5,q6,q7,q8,q9,q10,q11]))=H11 at k11 s11 e11 L11 ⊢
 nofun
 refine h ⟨dx,c,q3,q4,q5,q6,q7,q8,q9,q10,q11⟩ ⟨kd,g,es,r4,r5,r6,r7,r8,r9,r10,r11⟩ H11 s11 ⟨e11,hc.same s11,⟨xs,(k4.trans (k5.trans (k6.trans (k7.trans (k8.trans (k9.trans (k10.trans (k11.trans zch)))))))) _ _ L3,hE.same s11⟩,L4.same (k5.trans (k6.trans (k7.trans (k8.trans (k9.trans (k10.trans (k11.trans zch))))))),L5.same (k6.trans (k7.trans (k8.trans (k9.trans (k10.trans (k11.trans zch)))))),L6.same (k7.trans (k8.trans (k9.trans (k10.trans (k11.trans zch))))),(k8.trans (k9.trans (k10.trans (k11.trans zch)))) _ _ L7,L8.same (k9.trans (k10.trans (k11.trans zch))),L9.same (k10.trans (k11.trans zch)),L10.same (k11.trans zch),L11.same zch⟩ ⟨T4,T5,T6,T7,⟨T8,T8'⟩,⟨T9,T9'⟩,⟨J10,V10⟩,T11⟩ rfl rfl rfl
def zkq (K:W.Frag):Sp:=fun vs H Q _=>L2.Ee4 fun r k d x=>L2.Aa4 (vs=[.ref r]) (H r=some (.tup (zcv k d x))) (k≠.base) (∀ a dx H',Same H H'->H a=none->zkW K H' a dx k d x->Q (.ref a) H')
theorem zea:zk ["_law_row_here", "_law_word", "_law_day", "_law_value_here"] qbs (zi zfb):=by walk_at "sp"
theorem zrc (S:Src K mg "_law_made" zfb qbs) (T:Txt K mg) (zjo:zv P w K mg base 2 (cA K "Out") "__init__" qah (zaQ K)) (ziY:zv P w K mg base 2 (cA K "Fee") "__init__" qah (zaQ K)) (zhV:zv P w K mg base 1 (cA K "Turn") "__init__" qac (zby K)) (zi9:zv P w K mg base 2 (cA K "Pay") "__init__" qah (zaQ K)) (zjf:zv P w K mg base 2 (cA K "Due") "__init__" qah (zaQ K)) (zh9:zv P w K mg base 2 (cA K "Rate") "__init__" qap (zcX K)) (zhH:zv P w K mg base 2 (cA K "Late") "__init__" qap (zcX K)) (zgJ:zv P w K mg base 2 (cA K "Still") "__init__" qax (zjG K)):Def P w K mg base 4 "_law_made" qbs (zkq K):=by
 refine S.ok zea (fun vs H Q E h=>?_) (fun f cdv A outer s H vs Q E hr h=>?_)
 ·obtain ⟨r,k,d,x,rfl,e,h2,h⟩:=h
  rfl
 obtain ⟨r,k,d,x,rfl,e,h2,h⟩:=h
 refine ⟨_,(zc (zcZ (pv 0) (zdU rfl (zS (zG (i:=1) zea.nd rfl (by walk_at "lc")) (zS (zG (i:=2) zea.nd rfl (by walk_at "lc")) (zS (zG (i:=3) zea.nd rfl (by walk_at "lc")) zcJ)))))
  (zc (zV (zw zaa (pv 1) zz (nomark _))
  (zf (zl (zbm T.zoO zjo hr T.zsm (za (pv 2) (za (pv 3) zd)))))
   zO)
  (zc (zV (zw zaa (pv 1) zz (nomark _))
  (zf (zl (zbm T.zpW ziY hr T.zsr (za (pv 2) (za (pv 3) zd)))))
   zO)
  (zc (zV (zw zaa (pv 1) zz (nomark _))
  (zf (zl (zbm T.zmZ zhV hr T.zpU (za (pv 2) zd))))
   zO)
  (zc (zV (zw zaa (pv 1) zz (nomark _))
  (zf (zl (zbm T.zo8 zi9 hr T.zrM (za (pv 2) (za (pv 3) zd)))))
   zO)
  (zc (zV (zw zaa (pv 1) zz (nomark _))
  (zf (zl (zbm T.zp9 zjf hr T.zsq (za (pv 2) (za (pv 3) zd)))))
   zO)
  (zc (zV (zw zaa (pv 1) zz (nomark _))
  (zf (zl (zbm T.zmX zh9 hr T.zqn (za (pv 2) (za (pv 3) zd)))))
   zO)
  (zc (zV (zw zaa (pv 1) zz (nomark _))
  (zf (zl (zbm T.zmK zhH hr T.zqi (za (pv 2) (za (pv 3) zd)))))
   zO)
  (zf (zl (zbm T.zlB zgJ hr T.znx (za (pv 2) (za (pv 3) zd))))))))))))),?_⟩
 cases k with
 | base=>exact absurd rfl h2
 | turn =>
  dsimp only [zcv,Ek.word] at e
  nofun
  refine ⟨r,_,rfl,SqT.of e,rfl,?_⟩
  nofun
  intro a dx na nd ne
  refine ⟨a,_,dx,[],d,rfl,zg,T.clE .turn,T.zbg .turn,by decide,rfl,?_⟩
  rw[zag]
  exact h a dx _ ((ze nd _).trans (ze (by rw[zp ne.symm];exact na) _)) na zg
 | out =>
  dsimp only [zcv,Ek.word] at e
  nofun
  refine ⟨r,_,rfl,SqT.of e,rfl,?_⟩
  nofun
  intro a dx na nd ne
  refine ⟨a,_,dx,d,x,rfl,zg,T.clE .out,T.zbg .out,T.zd8 .out,rfl,?_⟩
  rw[zag]
  nofun
  exact h a dx _ ((ze nd _).trans (ze (by rw[zp ne.symm];exact na) _)) na zg
 | fee =>
  dsimp only [zcv,Ek.word] at e
  nofun
  refine ⟨r,_,rfl,SqT.of e,rfl,?_⟩
  nofun
  intro a dx na nd ne
  refine ⟨a,_,dx,d,x,rfl,zg,T.clE .fee,T.zbg .fee,T.zd8 .fee,rfl,?_⟩
  rw[zag]
  nofun
  exact h a dx _ ((ze nd _).trans (ze (by rw[zp ne.symm];exact na) _)) na zg
 | pay =>
  dsimp only [zcv,Ek.word] at e
  nofun
  refine ⟨r,_,rfl,SqT.of e,rfl,?_⟩
  nofun
  intro a dx na nd ne
  refine ⟨a,_,dx,d,x,rfl,zg,T.clE .pay,T.zbg .pay,T.zd8 .pay,rfl,?_⟩
  rw[zag]
  nofun
  exact h a dx _ ((ze nd _).trans (ze (by rw[zp ne.symm];exact na) _)) na zg
 | due =>
  dsimp only [zcv,Ek.word] at e
  nofun
  refine ⟨r,_,rfl,SqT.of e,rfl,?_⟩
  nofun
  intro a dx na nd ne
  refine ⟨a,_,dx,d,x,rfl,zg,T.clE .due,T.zbg .due,T.zd8 .due,rfl,?_⟩
  rw[zag]
  nofun
  exact h a dx _ ((ze nd _).trans (ze (by rw[zp ne.symm];exact na) _)) na zg
 | rate =>
  dsimp only [zcv,Ek.word] at e
  nofun
  refine ⟨r,_,rfl,SqT.of e,rfl,?_⟩
  nofun
  intro a dx na nd ne
  refine ⟨a,_,dx,d,x,rfl,zg,T.clE .rate,T.zbg .rate,T.zlJ .rate,rfl,?_⟩
  rw[zag]
  nofun
  exact h a dx _ ((ze nd _).trans (ze (by rw[zp ne.symm];exact na) _)) na zg
 | late =>
  dsimp only [zcv,Ek.word] at e
  nofun
  refine ⟨r,_,rfl,SqT.of e,rfl,?_⟩
  nofun
  intro a dx na nd ne
  refine ⟨a,_,dx,d,x,rfl,zg,T.clE .late,T.zbg .late,T.zlJ .late,rfl,?_⟩
  rw[zag]
  nofun
  exact h a dx _ ((ze nd _).trans (ze (by rw[zp ne.symm];exact na) _)) na zg
 | still =>
  dsimp only [zcv,Ek.word] at e
  nofun
  refine ⟨r,_,rfl,SqT.of e,rfl,?_⟩
  nofun
  intro a dx na nd ne
  refine ⟨a,_,dx,d,x,rfl,zg,T.clE .still,T.zbg .still,T.zkG .still,rfl,?_⟩
  rw[zag]
  nofun
  exact h a dx _ ((ze nd _).trans (ze (by rw[zp ne.symm];exact na) _)) na zg
def KdI (kd:Kd) (k:Int):Prop:=(kd=.plain/\k=0)\/(kd=.bank/\k=1)\/(kd=.thirty/\k=2)\/(kd=.exact/\k=3)
noncomputable def wts (kd:Kd) (b:Int) (n:Nat):List V:=(yax n).map fun k:Nat=>V.int (Uk kd (b+k+1)-Uk kd (b+k))
theorem zvl (kd:Kd) (b:Int) (n:Nat):(wts kd b n).length=n:=by simp[wts]
theorem zv8 (kd:Kd) (b:Int) {n k:Nat} (h:k<n):(wts kd b n)[k]?=some (.int (Uk kd (b+k+1)-Uk kd (b+k))):=by simp[wts,h]
theorem ztW (kd:Kd) (b:Int) (n:Nat):wts kd b (n+1)=wts kd b n++[.int (Uk kd (b+n+1)-Uk kd (b+n))]:=by simp[wts,List.range_succ]
theorem zwW {y m r:Int} (D:Cal.zaA y m r):(r<Cal.mlen y m->Cal.zaA y m (r+1)/\Cal.num y m (r+1)=Cal.num y m r+1)/\(r=Cal.mlen y m->Cal.zaA (y+if m % 12+1=1 then 1 else 0) (m % 12+1) 1/\Cal.num (y+if m % 12+1=1 then 1 else 0) (m % 12+1) 1=Cal.num y m r+1):=by
 obtain ⟨y',m',r',D',e⟩:=Cal.zkm D
 have m1:=D.m1
 have m2:=D.m2
 have m1':=D'.m1
 have m2':=D'.m2
 have d2':=D'.d2
 rcases Cnt.ziR D D' e with ⟨rfl,rfl,rfl⟩ | ⟨hm,rfl,hr⟩
 ·exact ⟨fun _=>⟨D',e⟩,fun z=>by omega⟩
 ·refine ⟨fun z=>by omega,fun _=>?_⟩
  have em:m'=m % 12+1:=by omega
  have ey:y'=y+if m % 12+1=1 then 1 else 0:=by split <;> omega
  rw[<-ey,<-em]
  exact ⟨D',e⟩
theorem zxk {y m r:Int} (D:Cal.zaA y m r):Cnt.UT (Cal.num y m r+1)-Cnt.UT (Cal.num y m r)=if r=Cal.mlen y m then 31-(if 30<r then 30 else r) else if r<30 then 1 else 0:=by
 obtain ⟨y',m',r',D',e⟩:=Cal.zkm D
 rw[Cnt.zve D D' e]
 have m1:=D.m1
 have m2:=D.m2
 have m1':=D'.m1
 have m2':=D'.m2
 have d1:=D.d1
 have d2:=D.d2
 have d2':=D'.d2
 have li:=Cal.zdx (y:=y) m1 m2
 rcases Cnt.ziR D D' e with ⟨rfl,rfl,rfl⟩ | ⟨hm,rfl,hr⟩
 ·rw[if_neg (show ¬ r=Cal.mlen y' m' by omega)]
  by_cases c:r+1=31
  ·rw[if_pos c,if_neg (by omega)]
  ·rw[if_neg c,if_neg (by omega),if_pos (by omega)]
 ·rw[if_pos hr,if_neg (show ¬ ((1:Int)=31) by decide)]
  have lp':=Cal.zje y
  by_cases c:m=2
  ·subst c
   have e2:Cal.mlen y 2=28+Cal.lp y:=by unfold Cal.mlen;rw[if_pos rfl]
   rw[if_pos ⟨rfl,by omega⟩,if_neg (by omega)]
  ·rw[if_neg (fun z=>c z.1)]
   have:Cal.mlen y m=30\/Cal.mlen y m=31:=by
    unfold Cal.mlen
    rw[if_neg c]
    omega
   split <;> omega
theorem zxa {y m r:Int} (D:Cal.zaA y m r):Cnt.UE (Cal.num y m r+1)-Cnt.UE (Cal.num y m r)=366-Cal.lp y:=by
 have c:=Cal.ziA (y:=y) D.m1 D.m2
 have e:=Cal.zbf y
 have d1:=D.d1
 have d2:=D.d2
 exact Cnt.zvh (by unfold Cal.num;omega) (by unfold Cal.num;omega)
def zhi (K:W.Frag):Sp:=fun vs H Q _=>L2.Ee4 fun kd (k b n:Int)=>L2.Aa6 (vs=[.int k,.int b,.int n]) (KdI kd k) (0<=b) (0<=n) (n<=1000) (∀ p H',Same H H'->H p=none->H' p=some (.lst (wts kd b n.toNat))->Q (.ref p) H')
theorem zal:zk ["_law_kind", "_law_base_here", "_law_many", "_law_year", "_law_month", "_law_at", "_law_found", "_law_k", "_law_size"] qbt (zi zcN):=by walk_at "sp"
theorem zm3 (S:Src K mg "_law_weights" zcN qbt) (T:Txt K mg) (zhC:Def P w K mg base 3 "_law_date" qbq (zkx K)) (zaC:Def P w K mg base 2 "_law_month_size" qau (zcp K)) (zaL:Def P w K mg base 1 "_law_leap" qaq (zdT K)):Def P w K mg base 4 "_law_weights" qbt (zhi K):=by
 refine S.ok zal (fun vs H Q E h=>?_) (fun f cdv A outer s H vs Q E hr h=>?_)
 ·obtain ⟨kd,k,b,n,rfl,hk,b0,n0,n1,h⟩:=h
  rfl
 obtain ⟨kd,k,b,n,rfl,hk,b0,n0,n1,h⟩:=h
 refine ⟨_,(zc (zcZ (zu zhC hr (za (pv 1) zd)) (zdU rfl (zS (zG (i:=3) zal.nd rfl (by walk_at "lc")) (zS (zG (i:=4) zal.nd rfl (by walk_at "lc")) (zS (zG (i:=5) zal.nd rfl (by walk_at "lc")) zcJ)))))
  (zc (zj (i:=6) zal.nd rfl (by walk_at "lc") (zU zd))
  (zc (za7 PassesOwn.never rfl (zfn rfl T.zdy (za (pv 2) zd)) (zG (i:=7) zal.nd rfl (by walk_at "lc"))
  (zc (zj (i:=8) zal.nd rfl (by walk_at "lc") (zu zaC hr (za (pv 3) (za (pv 4) zd))))
  (zc (zmt (zV (zw zgd (pv 0) zb (nomark _))
  (zf (zY (zbK PySem.F.plainAttrs_list PySem.F.slot_list_append PySem.F.type_list_append zax (pv 6) (za zb zd))))
  (zf (zV (zw zaa (pv 0) zb (nomark _))
  (zf (zY (zbK PySem.F.plainAttrs_list PySem.F.slot_list_append PySem.F.type_list_append zax (pv 6) (za (zo zt (zU (za (zH zfq rfl T.zdc PyProof.Rows.boot_int (za (zaK zgd (pv 5) zb (nomark _)) zd)) (za (zh zW zb (zD (za1 rfl) rfl T.zcO PyProof.Rows.boot_min (za (pv 5) (za zb zd)))) zd))) (zH zfq rfl T.zdc PyProof.Rows.boot_int (za (zaK zaa (pv 5) (pv 8) (nomark _)) zd)) (fun _ _=>rfl)) zd))))
  (zf (zY (zbK PySem.F.plainAttrs_list PySem.F.slot_list_append PySem.F.type_list_append zax (pv 6) (za (zh zW zb (zH zfm rfl T.zdc PyProof.Rows.boot_int (za (zu zaL hr (za (pv 3) zd)) zd))) zd))))))))
  (zc (zj (i:=5) zal.nd rfl (by walk_at "lc") (zh zy (pv 5) zb))
  (zf (zmt (zV (zw zi6 (pv 5) (pv 8) (nomark _))
  (zc (zj (i:=5) zal.nd rfl (by walk_at "lc") zb)
  (zc (zj (i:=4) zal.nd rfl (by walk_at "lc") (zh zy (zh zI (pv 4) zb) zb))
  (zf (zj (i:=3) zal.nd rfl (by walk_at "lc") (zh zy (pv 3) (zH zfq rfl T.zdc PyProof.Rows.boot_int (za (zaK zaa (pv 4) zb (nomark _)) zd)))))))
   zO)))))))
  (zf (zl (pv 6)))))),?_⟩
 have sz:=sizeLine_eq
 nofun
 intro y m r t D e nt
 refine ⟨t,_,rfl,SqT.of zg,rfl,?_⟩
 have s1:=ze nt (.tup [.int y,.int m,.int r])
 generalize upd H t (.tup [.int y,.int m,.int r])=H1 at s1 ⊢
 nofun
 intro p np
 have s2:=s1.trans (ze np (.lst []))
 have npH:=zJ s1 np
 have eP:=zq (.lst []) np
 generalize upd H1 p (.lst [])=H2 at s2 eP ⊢
 nofun
 refine zhn (fun i σ H'=>∃ (y m r:Int) (z1 z2:Option V),(Same H H'/\H' p=some (.lst (wts kd b i)))/\Cal.zaA y m r/\Cal.num y m r=b+i/\σ=[some (.int k),some (.int b),some (.int n),some (.int y),some (.int m),some (.int r),some (.ref p),z1,z2])
  ⟨y,m,r,_,_,⟨s2,eP⟩,D,by rw[e];simp,rfl⟩ ?_ ?_
 ·clear e D
  rintro i σ H' hi ⟨y,m,r,z1,z2,⟨sH,eP'⟩,D,e,rfl⟩
  have m1:=D.m1
  have m2:=D.m2
  have d1:=D.d1
  have d2:=D.d2
  have ew:=ztW kd b i
  have wl:=zvl kd b i
  have nD:=zwW D
  nofun
  refine ⟨fun σ' H2=>(Same H H2/\H2 p=some (.lst (wts kd b (i+1))))/\σ'=[some (.int k),some (.int b),some (.int n),some (.int y),some (.int m),some (.int r),some (.ref p),some (.int (0+i)),some (.int (Cal.mlen y m))],?_,?_⟩
  ·rcases hk with ⟨rfl,rfl⟩ | ⟨rfl,rfl⟩ | ⟨rfl,rfl⟩ | ⟨rfl,rfl⟩
   ·have e1:Uk .plain (b+i+1)-Uk .plain (b+i)=1:=by show b+i+1-(b+i)=1;ac_rfl
    rw[e1] at ew
    rw[ew]
    nofun
    refine ⟨.inl ⟨rfl,_,SqL.of eP'⟩,?_⟩
    nofun
    refine ⟨p,_,_,rfl,rfl,eP',by ac_rfl,?_⟩
    exact ⟨⟨zE sH npH,zg⟩,rfl⟩
   ·have e1:Uk .bank (b+i+1)-Uk .bank (b+i)=1:=by show b+i+1-(b+i)=1;ac_rfl
    rw[e1] at ew
    rw[ew]
    nofun
    refine ⟨.inl ⟨rfl,_,SqL.of eP'⟩,?_⟩
    nofun
    refine ⟨p,_,_,rfl,rfl,eP',by ac_rfl,?_⟩
    exact ⟨⟨zE sH npH,zg⟩,rfl⟩
   ·have e1:Uk .thirty (b+i+1)-Uk .thirty (b+i)=if r=Cal.mlen y m then 31-(if 30<r then 30 else r) else if r<30 then 1 else 0:=by rw[<-e];exact zxk D
    rw[e1] at ew
    rw[ew]
    nofun
    refine ⟨.inl ⟨rfl,_,SqL.of eP'⟩,?_⟩
    nofun
    intro t1 ht1 hb1
    nofun
    intro q nq
    have s5:=ze nq (.lst [.int t1,.int (31-(if 30<r then 30 else r))])
    have eQ:=zq (.lst [.int t1,.int (31-(if 30<r then 30 else r))]) nq
    have eP5:=s5 _ _ eP'
    nofun
    intro t2 ht2 hb2
    nofun
    have at_:atI [V.int t1,.int (31-(if 30<r then 30 else r))] t2=some (.int (if r=Cal.mlen y m then 31-(if 30<r then 30 else r) else if r<30 then 1 else 0)):=by
     by_cases c:r=Cal.mlen y m
     ·have:t2=1:=by rw[ht2];simp[c]
      rw[this,if_pos c]
      rfl
     ·have h2:t2=0:=by rw[ht2];simp[c]
      have h1:t1=if r<30 then 1 else 0:=by rw[ht1];by_cases c2:r<30 <;> simp[c2]
      rw[h2,if_neg c,<-h1]
      rfl
    refine ⟨q,_,_,_,rfl,rfl,SqL.of eQ,at_,?_⟩
    nofun
    refine ⟨p,_,_,rfl,rfl,eP5,by ac_rfl,?_⟩
    exact ⟨⟨zE (sH.trans s5) npH,zg⟩,rfl⟩
   ·have e1:Uk .exact (b+i+1)-Uk .exact (b+i)=366-Cal.lp y:=by rw[<-e];exact zxa D
    rw[e1] at ew
    rw[ew]
    nofun
    refine ⟨.inl ⟨rfl,_,SqL.of eP'⟩,?_⟩
    nofun
    refine .inr ⟨_,rfl,?_⟩
    nofun
    refine ⟨p,_,_,rfl,rfl,eP',by ac_rfl,?_⟩
    exact ⟨⟨zE sH npH,zg⟩,rfl⟩
  rintro σ' H3 ⟨⟨sH3,eP3⟩,rfl⟩
  nofun
  refine ⟨fun σ' H4=>H3=H4/\∃ y m r:Int,Cal.zaA y m r/\Cal.num y m r=b+((i+1:Nat):Int)/\∃ z2,σ'=[some (.int k),some (.int b),some (.int n),some (.int y),some (.int m),some (.int r),some (.ref p),some (.int (0+i)),z2],?_,?_⟩
  ·nofun
   ·rename_i c
    have er:r=Cal.mlen y m:=by ac_rfl
    intro t ht hb
    nofun
    have et:t=if m % 12+1=1 then 1 else 0:=by
     rw[ht]
     by_cases c2:m % 12+1=1
     ·simp[c2]
     ·rw[if_neg c2]
      simp only[decide_eq_true_eq]
      rw[if_neg]
      intro z
      exact c2 (V.int.inj z)
    subst et
    have:=nD.2 er
    first | exact ⟨rfl,_,_,_,this.1,by rw[this.2,e];ac_rfl,_,rfl⟩ | exact ⟨_,_,_,this.1,by rw[this.2,e];ac_rfl,_,rfl⟩
   ·rename_i c
    have:=nD.1 (by ac_rfl)
    first | exact ⟨rfl,_,_,_,this.1,by rw[this.2,e];ac_rfl,_,rfl⟩ | exact ⟨_,_,_,this.1,by rw[this.2,e];ac_rfl,_,rfl⟩
  rintro σ' H4 ⟨rfl,y',m',r',D',e',z2,rfl⟩
  exact ⟨y',m',r',_,_,⟨sH3,eP3⟩,D',e',rfl⟩
 ·rintro σ H' ⟨y,m,r,z1,z2,⟨sH,eP'⟩,D,e,rfl⟩
  nofun
  exact h p H' sH npH eP'
noncomputable def uB (b:BkT):Int:=10000*yr b.kd
abbrev AB (b:BkT):Prop:=zvS (Uk b.kd) (uB b) b
noncomputable abbrev zC (b:BkT) (d:Int):Int × Int:=stA (Uk b.kd) (uB b) b d.toNat
def zig (kd:Kd) (K:W.Frag):Sp:=fun vs H Q _=>∃ a x y,vs=[.ref a,.int x,.int y]/\zcb K H a kd/\Q (.int (Uk kd y-Uk kd x)) H
theorem zmJ:zk qal qal (zi zaw):=by walk_at "sp"
theorem zcU (kd:Kd) (hk:kd=.plain\/kd=.bank\/kd=.thirty\/kd=.exact) (S:zr K (cA K kd.cls) "weight" "Count.weight" zaw qal) (T:Txt K mg) (zdp:∀ kd:Kd,zv P w K mg base 4 (cA K kd.cls) "upto" qac (zft kd K)):zv P w K mg base 5 (cA K kd.cls) "weight" qal (zig kd K):=by
 refine S.ok zmJ (fun vs H Q E h=>?_) (fun f cdv A outer s H vs Q E hr h=>?_)
 ·obtain ⟨a,x,y,rfl,hc,h⟩:=h
  rfl
 obtain ⟨a,x,y,rfl,hc,h⟩:=h
 refine ⟨_,(zf (zl (zh zW (zlE zdp T.cls hr (pv 0) (za (pv 2) zd)) (zlE zdp T.cls hr (pv 0) (za (pv 1) zd))))),?_⟩
 nofun
 refine ⟨kd,a,rfl,hc,?_⟩
 nofun
 refine ⟨kd,a,rfl,hc,?_⟩
 nofun
 exact h
structure zmx (b:Int) (es:List Er):Prop where
 len:es.length<=31
 still:∀ e∈es,isW "still" e=true->b<=e.2.1/\e.2.1<=e.2.2/\e.2.2<=b+249
 day:∀ e∈es,b<=e.2.1/\e.2.1<b+250
theorem kdI (ns:List Int):KdI (kindOf ns) (cellAt ns 0 % 4):=by
 unfold kindOf KdI
 have c0:=ydr (cellAt ns 0) (show (4:Int)≠0 by decide)
 have c1:=ydq (cellAt ns 0) (show (0:Int)<4 by decide)
 generalize cellAt ns 0 % 4=c at *
 dsimp only
 rcases (show c=0\/c=1\/c=2\/c=3 by omega) with e | e | e | e <;> subst e <;> simp
noncomputable def TL (f:Int->Int × Int) (b:Int) (H:Hp):List V->List Nat->Prop:=LL fun v k=>∃ t,v=.ref t/\H t=some (.tup [.int (f (b+k)).1,.int (f (b+k)).2])
def zky (K:W.Frag):Sp:=fun vs H Q _=>L2.Ee6 fun p q (ns:List Int) rs (bk:BkT) (n:Int)=>L2.zvX (vs=[.ref p,.ref q,.int n]) (SqL K H p (ns.map V.int)) (H q=some (.lst rs)) (RL3 H rs bk.es) (zmx (baseOf ns) bk.es) (AB bk) (bk.kd=kindOf ns) (bk.g=zbW ns) (0<=n) (n<=206) (baseOf ns+n<=1000000) (∀ c ws H',H c=none->Same H H'->H' c=some (.lst ws)->TL (zC bk) (baseOf ns) H' ws (yax n.toNat)->Q (.ref c) H')
theorem zL:zk ["_law_script", "_law_rows_here", "_law_many", "_law_base_here", "_law_unit_here", "_law_grace_here", "_law_weights_here", "_law_flags", "_law_dues_here", "_law_deeds_here", "_law_tables", "_law_told", "_law_principal", "_law_units", "_law_rate", "_law_late", "_law_open_sum", "_law_k", "_law_day", "_law_each"] qbu (zi zeS):=by walk_at "sp"
theorem zq6 (S:Src K mg "_law_days" zeS qbu) (T:Txt K mg) (zaX:Def P w K mg base 2 "_law_base" qab (zd6 K)) (zir:Def P w K mg base 2 "_law_unit" qab (zj4 K)) (zbX:Def P w K mg base 2 "_law_grace" qab (zfQ K)) (zeI:Def P w K mg base 4 "_law_weights" qbt (zhi K)) (zK:Def P w K mg base 1 "_law_cell_at" qam (zaD K)) (zb1:Def P w K mg base 1 "_law_still" qan (zfO K)) (ziq:Def P w K mg base 2 "_law_dues" qan (zkD P w K)) (zaW:Def P w K mg base 2 "_law_all_deeds" qaz (zcW P w K)) (zda:Def P w K mg base 1 "_law_by_day" qaj (ziF P w K)) (zgY:Def P w K mg base 1 "_law_deeds" qbi (zjD K)):Def P w K mg base 5 "_law_days" qbu (zky K):=by
 refine S.ok zL (fun vs H Q E h=>?_) (fun f cdv A outer s H vs Q E hr h=>?_)
 ·obtain ⟨p,q,ns,rs,bk,n,rfl,hp,hq,hR,O,BO,ek,eg,n0,n1,nb,h⟩:=h
  rfl
 obtain ⟨p,q,ns,rs,bk,n,rfl,hp,hq,hR,O,BO,ek,eg,n0,n1,nb,h⟩:=h
 refine ⟨_,(zc (zj (i:=3) zL.nd rfl (by walk_at "lc") (zu zaX hr (za (pv 0) zd)))
  (zc (zj (i:=4) zL.nd rfl (by walk_at "lc") (zu zir hr (za (pv 0) zd)))
  (zc (zj (i:=5) zL.nd rfl (by walk_at "lc") (zu zbX hr (za (pv 0) zd)))
  (zc (zj (i:=6) zL.nd rfl (by walk_at "lc") (zu zeI hr (za (zh zI (zu zK hr (za (pv 0) (za zb zd))) zb) (za (pv 3) (za (pv 2) zd)))))
  (zc (zj (i:=7) zL.nd rfl (by walk_at "lc") (zu zb1 hr (za (pv 1) (za (pv 3) zd))))
  (zc (zj (i:=8) zL.nd rfl (by walk_at "lc") (zu ziq hr (za (pv 1) (za (pv 3) zd))))
  (zc (zj (i:=9) zL.nd rfl (by walk_at "lc") (zu zaW hr (za (pv 1) zd)))
  (zc (zj (i:=10) zL.nd rfl (by walk_at "lc") (zU (za (zu zda hr (za (pv 1) (za zz zd))) (za (zu zda hr (za (pv 1) (za zz zd))) zd))))
  (zc (zj (i:=11) zL.nd rfl (by walk_at "lc") (zU zd))
  (zc (zcZ (zaj (za zb (za zb (za zb (za zb (za zb zd)))))) (zdU rfl (zS (zG (i:=12) zL.nd rfl (by walk_at "lc")) (zS (zG (i:=13) zL.nd rfl (by walk_at "lc")) (zS (zG (i:=14) zL.nd rfl (by walk_at "lc")) (zS (zG (i:=15) zL.nd rfl (by walk_at "lc")) (zS (zG (i:=16) zL.nd rfl (by walk_at "lc")) zcJ)))))))
  (zc (za7 PassesOwn.never rfl (zfn rfl T.zdy (za (pv 2) zd)) (zG (i:=17) zL.nd rfl (by walk_at "lc"))
  (zc (zj (i:=18) zL.nd rfl (by walk_at "lc") (zh zy (pv 3) (pv 17)))
  (zc (zmt (zV (zw zqM (pv 18) (pv 9) (by with_unfolding_all rfl))
  (zf (zcZ (zu zgY hr (za (pv 4) (za (pv 12) (za (pv 13) (za (zo zuf (pv 9) (pv 18) (fun _ _=>rfl)) zd))))) (zdU rfl (zS (zG (i:=12) zL.nd rfl (by walk_at "lc")) (zS (zG (i:=13) zL.nd rfl (by walk_at "lc")) zcJ)))))
   zO))
  (zc (zY (zbK PySem.F.plainAttrs_list PySem.F.slot_list_append PySem.F.type_list_append zax (pv 11) (za (zaj (za (pv 12) (za (pv 13) zd))) zd)))
  (zc (zj (i:=14) zL.nd rfl (by walk_at "lc") (zk3 (zo zt (pv 10) zb (fun _ _=>rfl)) (pv 18) (pv 14)))
  (zc (zj (i:=15) zL.nd rfl (by walk_at "lc") (zk3 (zo zt (pv 10) zb (fun _ _=>rfl)) (pv 18) (pv 15)))
  (zc (zj (i:=16) zL.nd rfl (by walk_at "lc") (zh zW (zh zy (pv 16) (ziK (pv 8) (zh zW (pv 18) (pv 5)) zb)) (zo zah (zrC (pv 9) (pv 18) (zaj (za zb (za zb (za zb (za zb zd)))))) zb (fun _ _=>rfl))))
  (zf (zV (zfp (zcd (zo zt (pv 7) (pv 17) (fun _ _=>rfl))))
  (zc (zj (i:=19) zL.nd rfl (by walk_at "lc") (zh zat (pv 15) (zD (za1 rfl) rfl T.zcO PyProof.Rows.boot_min (za (pv 12) (za (zD (zbc rfl) rfl T.zc6 PyProof.Rows.boot_max (za zb (za (pv 16) zd))) zd)))))
  (zf (zj (i:=13) zL.nd rfl (by walk_at "lc") (zh zy (pv 13) (zh zat (zo zt (pv 6) (pv 17) (fun _ _=>rfl)) (zh zy (zh zat (pv 14) (pv 12)) (pv 19)))))))
   zO)))))))))
  (zf (zl (pv 11)))))))))))))),?_⟩
 have sz:=sizeLine_eq
 have ol:=O.len
 obtain ⟨b0,b1⟩:=zj6 ns
 obtain ⟨g0,g1⟩:=zjh ns
 nofun
 refine ⟨p,ns,rfl,hp,?_⟩
 nofun
 refine ⟨p,ns,rfl,hp,?_⟩
 nofun
 refine ⟨p,ns,rfl,hp,?_⟩
 nofun
 refine ⟨p,ns,0,rfl,hp,?_⟩
 nofun
 refine ⟨kindOf ns,cellAt ns 0 % 4,baseOf ns,n,rfl,kdI ns,b0,n0,by ac_rfl,fun pw H1 s1 npw ew=>?_⟩
 generalize hb:baseOf ns=b at *
 generalize hg:zbW ns=g at *
 rw[<-ek] at ew
 nofun
 refine ⟨q,rs,bk.es,b,rfl,SqL.of (s1 _ _ hq),hR.same s1,O.still,by ac_rfl,fun pf fl H2 npf s2 ef F=>?_⟩
 nofun
 have s12:=s1.trans s2
 refine ⟨q,rs,bk.es,b,rfl,s12 _ _ hq,hR.same s12,by ac_rfl,O.still,O.day,fun pd acc epd H3 npd s3 ed tt=>?_⟩
 have s13:=s12.trans s3
 nofun
 first | refine ⟨q,rs,bk.es,rfl,s13 _ _ hq,hR.same s13,by ac_rfl,fun pg l4 H4 npg s4 egp pt=>?_⟩ | refine ⟨rs,bk.es,s13 _ _ hq,hR.same s13,by ac_rfl,fun pg l4 H4 npg s4 egp pt=>?_⟩
 have s14:=s13.trans s4
 nofun
 refine ⟨q,rs,bk.es, "rate", rfl,s14 _ _ hq,hR.same s14,by ac_rfl,fun d1 H5 nd1 s5 e5=>?_⟩
 have s15:=s14.trans s5
 nofun
 refine ⟨q,rs,bk.es, "late", rfl,s15 _ _ hq,hR.same s15,by ac_rfl,fun d2 H6 nd2 s6 e6=>?_⟩
 have s16:=s15.trans s6
 nofun
 intro pt2 npt
 have s7:=ze npt (.lst [.ref d1,.ref d2])
 have eT:=zq (.lst [.ref d1,.ref d2]) npt
 have s17:=s16.trans s7
 generalize upd H6 pt2 (.lst [.ref d1,.ref d2])=H7 at s7 eT s17 ⊢
 nofun
 intro pc npc
 have s8:=ze npc (.lst [])
 have eC:=zq (.lst []) npc
 have npcH:=zJ s17 npc
 have w7:=(s2.trans (s3.trans (s4.trans (s5.trans (s6.trans s7))))) _ _ ew
 have f7:=(s3.trans (s4.trans (s5.trans (s6.trans s7)))) _ _ ef
 have d7:=(s4.trans (s5.trans (s6.trans s7))) _ _ ed
 have p7:=(s5.trans (s6.trans s7)) _ _ egp
 have pt7:=pt.1.same (s5.trans (s6.trans s7))
 have r7:=(s6.trans s7) _ _ e5
 have l7:=s7 _ _ e6
 generalize upd H7 pc (.lst [])=H8 at s8 eC ⊢
 clear ew ef ed egp e5 e6
 nofun
 intro z nz
 have s9:=s8.trans (ze nz (.tup [.int 0,.int 0,.int 0,.int 0,.int 0]))
 have eC9:=ze nz (.tup [.int 0,.int 0,.int 0,.int 0,.int 0]) _ _ eC
 refine ⟨z,_,rfl,SqT.of zg,rfl,?_⟩
 have BI:=BO.is
 have BB:=BO.ok.ok
 have hu:0<uB bk/\uB bk<1152921504606846976:=⟨BO.ok.hu,BO.u1⟩
 have pdy:∀ w:Str,∀ s∈prs w bk.es,b<=s.1:=fun w s hs=>by
  obtain ⟨e,he,rfl⟩:=yaf.mp hs
  exact (O.day e (yao.mp he).1).1
 have mdy:∀ s∈mvp (mvd (prs "still" bk.es)) (prs "due" bk.es),b<=s.1:=fun s hs=>by
  obtain ⟨u,hu,rfl⟩:=yaf.mp hs
  have:=pdy _ u hu
  have:=(zmE (prs "still" bk.es) u.1).from_
  show b<=mvd (prs "still" bk.es) u.1
  ac_rfl
 have vr:∀ d,Sums.valOf bk.rates d=Sums.valOf (prs "rate" bk.es) d:=BI.rates.1.val
 have vl:∀ d,Sums.valOf bk.lates d=Sums.valOf (prs "late" bk.es) d:=BI.lates.1.val
 have up_:∀ d,upto bk.pays d=upto (prs "pay" bk.es) d:=zpa BI.pays
 have ud_:∀ d,upto bk.dues d=upto (mvp (mvd (prs "still" bk.es)) (prs "due" bk.es)) d:=zpa BI.dues
 have is_:∀ d,Spans.isIn bk.spans d=Spans.isIn (prs "still" bk.es) d:=Stills.zui BI.spans.2
 have e0:stB (Uk bk.kd) (uB bk) bk b.toNat=(0,0):=zvA BO.ok b0 fun d d0 d1=>zoC fun ⟨e,he,h1,_⟩=>by have:=(O.day e he).1;ac_rfl
 have uE:uB bk=10000*yr (kindOf ns):=by rw[<-ek];rfl
 rw[<-uE]
 nofun
 refine zhn (fun i σ H'=>∃ (ws:List V) (z1 z2 z3:Option V),(Same H7 H'/\H' pc=some (.lst ws)/\TL (zC bk) b H' ws (yax i))/\σ=[some (.ref p),some (.ref q),some (.int n),some (.int b),some (.int (uB bk)),some (.int g),some (.ref pw),some (.ref pf),some (.ref pd),some (.ref pg),some (.ref pt2),some (.ref pc),some (.int (stB (Uk bk.kd) (uB bk) bk (b+i).toNat).1),some (.int (stB (Uk bk.kd) (uB bk) bk (b+i).toNat).2),some (.int (Sums.valOf bk.rates (b+i-1))),some (.int (Sums.valOf bk.lates (b+i-1))),some (.int (upto bk.dues (b+i-1-g)-upto bk.pays (b+i-1))),z1,z2,z3])
  ⟨[],none,none,none,⟨s9,eC9,.nil⟩,?_⟩ ?_ ?_
 ·have e1:Sums.valOf bk.rates (b+((0:Nat):Int)-1)=0:=by rw[vr];exact zmB b0 (pdy "rate") (by simp;ac_rfl)
  have e2:Sums.valOf bk.lates (b+((0:Nat):Int)-1)=0:=by rw[vl];exact zmB b0 (pdy "late") (by simp;ac_rfl)
  have e3:upto bk.dues (b+((0:Nat):Int)-1-g)=0:=by rw[ud_];exact zhq fun s hs=>by have:=mdy s hs;simp;ac_rfl
  have e4:upto bk.pays (b+((0:Nat):Int)-1)=0:=by rw[up_];exact zhq fun s hs=>by have:=pdy _ s hs;simp;ac_rfl
  rw[e1,e2,e3,e4,show (b+((0:Nat):Int)).toNat=b.toNat by simp,e0]
  rfl
 ·rintro i σ H' hi ⟨ws,z1,z2,z3,⟨sH,eC',tl⟩,rfl⟩
  have tll:=tl.length
  rw[ycg] at tll
  have sP:=sH _ _ p7
  have ptH:=pt7.same sH
  have ei:b+((i+1:Nat):Int)-1=b+i:=by ac_rfl
  have rr:=BB.rt (b+i)
  have r_:=zkJ BB.rn (b+i)
  have l_:=zkJ BB.ln (b+i)
  have u1:=zme (kd:=bk.kd) (d:=b+i+1) (by ac_rfl) (by ac_rfl)
  have u2:=zme (kd:=bk.kd) (d:=b+i) (by ac_rfl) (by ac_rfl)
  have vR:=zrv (l:=prs "rate" bk.es) (fun s hs=>by have:=pdy _ s hs;ac_rfl) (b+i)
  have vL:=zrv (l:=prs "late" bk.es) (fun s hs=>by have:=pdy _ s hs;ac_rfl) (b+i)
  rw[<-vr,<-vr] at vR
  rw[<-vl,<-vl] at vL
  have dS:=zkh (mvp (mvd (prs "still" bk.es)) (prs "due" bk.es)) (b+i-g)
  have pS:=zkh (prs "pay" bk.es) (b+i)
  rw[<-ud_,<-ud_] at dS
  rw[<-up_,<-up_] at pS
  rw[show b+(i:Int)-g-1=b+i-1-g by ac_rfl] at dS
  rw[ei,Int.zero_add]
  have cN:(((b+(i:Int)).toNat:Nat):Int)=b+i:=by ac_rfl
  have acE:doD (uB bk) (ddE bk.es (b+i)) (stB (Uk bk.kd) (uB bk) bk (b+i).toNat)=zC bk (b+i):=by
   show _=doD (uB bk) (ddo bk ((b+(i:Int)).toNat:Nat)) _
   rw[cN]
   rfl
  have nx:stB (Uk bk.kd) (uB bk) bk (b+((i+1:Nat):Int)).toNat=((zC bk (b+i)).1,(zC bk (b+i)).2+(Uk bk.kd (b+i+1)-Uk bk.kd (b+i))*zau bk (zC bk (b+i)).1 (b+i)):=by
   rw[show (b+((i+1:Nat):Int)).toNat=(b+(i:Int)).toNat+1 by ac_rfl,zlC,cN]
  nofun
  refine ⟨fun σ' H2=>(Same H7 H2/\H2 pc=some (.lst ws)/\TL (zC bk) b H2 ws (yax i))/\σ'=[some (.ref p),some (.ref q),some (.int n),some (.int b),some (.int (uB bk)),some (.int g),some (.ref pw),some (.ref pf),some (.ref pd),some (.ref pg),some (.ref pt2),some (.ref pc),some (.int (zC bk (b+i)).1),some (.int (zC bk (b+i)).2),some (.int (Sums.valOf bk.rates (b+i-1))),some (.int (Sums.valOf bk.lates (b+i-1))),some (.int (upto bk.dues (b+i-1-g)-upto bk.pays (b+i-1))),some (.int i),some (.int (b+i)),z3],?_,?_⟩
  ·rcases ptH (b+i) with ⟨de,t,lk,ht⟩ | ⟨nde,lk⟩
   ·nofun
    refine ⟨pg,l4,_,rfl,rfl,sP,?_⟩
    rw[lk]
    nofun
    refine ⟨pg,l4,_,_,rfl,rfl,sP,lk,?_⟩
    nofun
    refine ⟨t,uB bk,_,_,ddE bk.es (b+i),rfl,hu,SqT.of ht,fun a na=>?_⟩
    have acE2:doD (uB bk) (ddE bk.es (b+i)) ((stB (Uk bk.kd) (uB bk) bk (b+i).toNat).1,(stB (Uk bk.kd) (uB bk) bk (b+i).toNat).2)=zC bk (b+i):=acE
    rw[acE2]
    have sa:=ze na (.tup [.int (zC bk (b+i)).1,.int (zC bk (b+i)).2])
    have ea:=zq (.tup [.int (zC bk (b+i)).1,.int (zC bk (b+i)).2]) na
    refine ⟨a,_,rfl,SqT.of ea,rfl,?_⟩
    nofun
    exact ⟨⟨sH.trans sa,sa _ _ eC',LL.imp (fun v e ⟨t,e1,e2⟩=>⟨t,e1,sa _ _ e2⟩) tl⟩,rfl⟩
   ·nofun
    refine ⟨pg,l4,_,rfl,rfl,sP,?_⟩
    rw[lk]
    have st:zC bk (b+i)=stB (Uk bk.kd) (uB bk) bk (b+i).toNat:=zpS BO.ok (k:=(b+(i:Int)).toNat) (by rw[cN];exact zoC nde)
    rw[<-st]
    nofun
    exact ⟨⟨sH,eC',tl⟩,rfl⟩
  rintro σ' H2' ⟨⟨sH2,eC2,tl2⟩,rfl⟩
  nofun
  refine ⟨.inl ⟨rfl,_,SqL.of eC2⟩,?_⟩
  nofun
  intro v nv
  have sv:=ze nv (.tup [.int (zC bk (b+i)).1,.int (zC bk (b+i)).2])
  have ev:=zq (.tup [.int (zC bk (b+i)).1,.int (zC bk (b+i)).2]) nv
  have eC3:=sv _ _ eC2
  refine ⟨pc,_,_,rfl,rfl,eC3,by ac_rfl,?_⟩
  have sH4:Same H7 (upd (upd H2' v (.tup [.int (zC bk (b+i)).1,.int (zC bk (b+i)).2])) pc (.lst (ws++[.ref v]))):=zE (sH2.trans sv) npc
  have eC4:(upd (upd H2' v (.tup [.int (zC bk (b+i)).1,.int (zC bk (b+i)).2])) pc (.lst (ws++[.ref v]))) pc=some (.lst (ws++[.ref v])):=zg
  have tl4:TL (zC bk) b (upd (upd H2' v (.tup [.int (zC bk (b+i)).1,.int (zC bk (b+i)).2])) pc (.lst (ws++[.ref v]))) (ws++[.ref v]) (yax (i+1)):=by
   rw[List.range_succ]
   exact LL.push (LL.imp (fun v e ⟨t,e1,e2⟩=>⟨t,e1,by rw[zp (zan (sv _ _ e2) eC3 (by intro z;cases z))];exact sv _ _ e2⟩) tl2) ⟨v,rfl,by rw[zp (zan ev eC3 (by intro z;cases z))];exact ev⟩
  generalize upd (upd H2' v (.tup [.int (zC bk (b+i)).1,.int (zC bk (b+i)).2])) pc (.lst (ws++[.ref v]))=H4 at sH4 eC4 tl4 ⊢
  clear sv ev eC3 nv tl2 eC2 sH2
  have sT:=sH4 _ _ eT
  have sR:=sH4 _ _ r7
  have sL:=sH4 _ _ l7
  have sD:=sH4 _ _ d7
  have sP4:=sH4 _ _ p7
  have pt4:=pt7.same sH4 (b+i)
  have ilt:i<250:=by ac_rfl
  have eL:upto bk.dues (b+i-1-g)-upto bk.pays (b+i-1)+Sby.sm (mvp (mvd (prs "still" bk.es)) (prs "due" bk.es)) (b+i-g)-(ddE bk.es (b+i)).2.2.2=upto bk.dues (b+i-g)-upto bk.pays (b+i):=by
   show upto bk.dues (b+i-1-g)-upto bk.pays (b+i-1)+Sby.sm (mvp (mvd (prs "still" bk.es)) (prs "due" bk.es)) (b+i-g)-Sby.sm (prs "pay" bk.es) (b+i)=_
   ac_rfl
  have dc:zau bk (zC bk (b+i)).1 (b+i)=(if Spans.isIn (prs "still" bk.es) (b+i) then 0 else 1)*(Sums.valOf bk.rates (b+i)*(zC bk (b+i)).1+Sums.valOf bk.lates (b+i)*mn (zC bk (b+i)).1 (p0 (upto bk.dues (b+i-g)-upto bk.pays (b+i)))):=by
   unfold zau zeA zeE zej
   rw[is_,eg]
   cases Spans.isIn (prs "still" bk.es) (b+i) with
   | true=>simp
   | false=>simp
  generalize zC bk (b+i)=ac at *
  nofun
  refine ⟨pt2,_,_,_,rfl,rfl,SqL.of sT,rfl,?_⟩
  refine ⟨d1,_,rfl,sR,?_⟩
  nofun
  refine ⟨sR,?_⟩
  rw[vR]
  nofun
  refine ⟨pt2,_,_,_,rfl,rfl,SqL.of sT,rfl,?_⟩
  refine ⟨d2,_,rfl,sL,?_⟩
  nofun
  refine ⟨sL,?_⟩
  rw[vL]
  nofun
  refine ⟨pd,acc,epd,rfl,sD,?_⟩
  nofun
  refine ⟨sD,?_⟩
  rw[tt.look]
  nofun
  refine ⟨pg,l4,rfl,sP4,?_⟩
  nofun
  intro u0 nu0
  have s5:=ze nu0 (.tup [.int 0,.int 0,.int 0,.int 0])
  have e5:=zq (.tup [.int 0,.int 0,.int 0,.int 0]) nu0
  have sH5:=sH4.trans s5
  have sP5:=s5 _ _ sP4
  have eC5:=s5 _ _ eC4
  have tl5:TL (zC bk) b _ (ws++[.ref v]) (yax (i+1)):=LL.imp (fun v e ⟨t,e1,e2⟩=>⟨t,e1,s5 _ _ e2⟩) tl4
  generalize upd H4 u0 (.tup [.int 0,.int 0,.int 0,.int 0])=H5 at s5 e5 sH5 sP5 eC5 tl5 ⊢
  obtain ⟨r,lr,hr5⟩:∃ r,(lkV l4 (b+i)).getD (.ref u0)=.ref r/\H5 r=some (.tup [.int (ddE bk.es (b+i)).1,.int (ddE bk.es (b+i)).2.1,.int (ddE bk.es (b+i)).2.2.1,.int (ddE bk.es (b+i)).2.2.2]):=by
   rcases pt4 with ⟨_,t,lk,ht⟩ | ⟨nde,lk⟩
   ·exact ⟨t,by rw[lk];rfl,s5 _ _ ht⟩
   ·exact ⟨u0,by rw[lk];rfl,by rw[zoC nde];exact e5⟩
  nofun
  refine ⟨sP5,?_⟩
  rw[lr]
  refine ⟨r,_,_,_,rfl,rfl,SqT.of hr5,rfl,?_⟩
  nofun
  refine ⟨pf,_,_,_,rfl,rfl,SqL.of (sH5 _ _ f7),zak (by rw[yaj,F.at_ i ilt];rfl),?_⟩
  cases bb:Spans.isIn (prs "still" bk.es) (b+i) with
  | true =>
   rw[bb,if_pos rfl,Int.zero_mul] at dc
   rw[dc,Int.mul_zero,Int.add_zero] at nx
   nofun
   exact ⟨_,_,_,_,⟨sH5,eC5,tl5⟩,by rw[nx,<-eL];rfl⟩
  | false =>
   rw[bb,if_neg Bool.false_ne_true,Int.one_mul] at dc
   rw[dc,<-eL] at nx
   nofun
   refine ⟨pw,_,_,_,rfl,rfl,SqL.of (sH5 _ _ w7),zak (zv8 bk.kd b hi),?_⟩
   nofun
   exact ⟨_,_,_,_,⟨sH5,eC5,tl5⟩,by rw[nx,<-eL];rfl⟩
 ·rintro σ H' ⟨ws,z1,z2,z3,⟨sH,eC',tl⟩,rfl⟩
  nofun
  exact h pc ws H' npcH (s17.trans sH) eC' tl
def zjI (K:W.Frag):Sp:=fun vs H Q _=>L2.Ee9 fun c p kd xs b (ds:List Int) P x y=>L2.Aa9 (vs=[.ref c,.ref p,.int P,.int x,.int y]) (zcb K H c kd) (SqL K H p xs) (R4 b H xs ds) (ds.Pairwise (·<·)) ((∀ d,d∈ds↔TDay b d)) (BOk b) ((0<=x/\x<=1000000/\y<=1000000)) (Q (.int (csum (Uk kd) (zau b P) x y)) H)
theorem zaG:zk ["count", "rows", "principal", "a", "b", "total", "start", "place", "row", "end"] qbv (zi zdW):=by walk_at "sp"
theorem zpz (S:Src K mg "charged_by" zdW qbv) (T:Txt K mg) (zcH:Def P w K mg base 1 "begun" qar (ziQ K)) (zjw:∀ kd:Kd,zv P w K mg base 5 (cA K kd.cls) "weight" qal (zig kd K)):Def P w K mg base 6 "charged_by" qbv (zjI K):=by
 refine S.ok zaG (fun vs H Q E h=>?_) (fun f cdv A outer s H vs Q E hr h=>?_)
 ·obtain ⟨c,p,kd,xs,b,ds,P0,x,y,rfl,hc,hS,hR,up,mem,O,⟨x0,x1,y1⟩,h⟩:=h
  rfl
 obtain ⟨c,p,kd,xs,b,ds,P0,x,y,rfl,hc,hS,hR,up,mem,O,⟨x0,x1,y1⟩,h⟩:=h
 refine ⟨_,(zc (zj (i:=5) zaG.nd rfl (by walk_at "lc") zb)
  (zc (zj (i:=6) zaG.nd rfl (by walk_at "lc") (pv 3))
  (zc (zj (i:=7) zaG.nd rfl (by walk_at "lc") (zu zcH hr (za (pv 1) (za (pv 3) zd))))
  (zc (zdt PassesOwn.never (zw zgd (pv 6) (pv 4) (nomark _))
  (zc (zj (i:=8) zaG.nd rfl (by walk_at "lc") (zo zt (pv 1) (zh zW (pv 7) zb) (fun _ _=>rfl)))
  (zc (zj (i:=9) zaG.nd rfl (by walk_at "lc") (zpk (zw zgd (pv 7) (zD zaN rfl T.zd2 PySem.boot_len (za (pv 1) zd)) (nomark _)) (zD (za1 rfl) rfl T.zcO PyProof.Rows.boot_min (za (pv 4) (za (zo zah (zo zt (pv 1) (pv 7) (fun _ _=>rfl)) zb (fun _ _=>rfl)) zd))) (pv 4)))
  (zc (zj (i:=5) zaG.nd rfl (by walk_at "lc") (zh zy (pv 5) (zh zat (zlE zjw T.cls hr (pv 0) (za (pv 6) (za (pv 9) zd))) (zh zy (zh zat (zo zah (pv 8) zb (fun _ _=>rfl)) (pv 2)) (zh zat (zo zah (pv 8) zb (fun _ _=>rfl)) (zD (za1 rfl) rfl T.zcO PyProof.Rows.boot_min (za (pv 2) (za (zo zah (pv 8) zb (fun _ _=>rfl)) zd))))))))
  (zc (zj (i:=6) zaG.nd rfl (by walk_at "lc") (pv 9))
  (zf (zj (i:=7) zaG.nd rfl (by walk_at "lc") (zh zy (pv 7) zb))))))))
  (zf (zl (pv 5))))))),?_⟩
 have xl:=hR.length
 nofun
 refine ⟨p,xs,ds,x,rfl,hS,hR.rf,up,fun n Bg=>?_⟩
 have n1:1<=n:=by
  rcases Nat.eq_zero_or_pos n with e | e
  ·subst e
   obtain ⟨j,hj⟩:=ybi.mp ((mem 0).mpr (.inl rfl))
   have:=Bg.hi j 0 (ycy _) hj
   ac_rfl
  ·exact e
 nofun
 refine ⟨fun k σ H'=>H=H'/\∃ (st:Int) (pl:Nat) (z1 z2:Option V),σ=[some (.ref c),some (.ref p),some (.int P0),some (.int x),some (.int y),some (.int (csum (Uk kd) (zau b P0) x st)),some (.int st),some (.int pl),z1,z2]/\x<=st/\(st<=y\/st=x)/\(st<y->zm9 ds st pl/\1<=pl)/\k=(y-st).toNat,⟨_,rfl,x,n,_,_,by rw[ziz (yds _)];rfl,yds _,.inr rfl,fun _=>⟨Bg,n1⟩,rfl⟩,?_⟩
 rintro k σ H' ⟨rfl,st,pl,z1,z2,rfl,xs1,st2,bg,rfl⟩
 nofun
 ·rename_i q
  refine ⟨_,fun σ' H' z=>z,?_⟩
  obtain ⟨B,p1⟩:=bg q
  have ble:=B.le
  obtain ⟨m,rfl⟩:∃ m,pl=m+1:=⟨pl-1,by ac_rfl⟩
  have em:((m+1:Nat):Int)-1=(m:Int):=by ac_rfl
  obtain ⟨d0,hd0,t0,ex0,ht0⟩:=hR.get (yaa (by ac_rfl:m<xs.length))
  have at0:atI xs (((m+1:Nat):Int)-1)=some (.ref t0):=by
   rw[em]
   exact zak (by rw[yaa (by ac_rfl:m<xs.length),ex0])
  have lo0:=B.lo m d0 (by ac_rfl) hd0
  have rr:=O.rt d0
  have ll:=O.lt d0
  nofun
  refine ⟨p,_,_,_,rfl,rfl,hS,at0,?_⟩
  have fin:∀ e:Int,st<e->e<=y->(∀ z,ds[m+1]?=some z->e<=z)->(e<y->zm9 ds e (m+1+1))->csum (Uk kd) (zau b P0) x e=csum (Uk kd) (zau b P0) x st+(Uk kd e-Uk kd st)*(zeA b d0*P0+zeE b d0*mn P0 (zej b d0)):=fun e h1 h2 h3 h4=>by
   rw[zlN xs1 (by ac_rfl:st<=e),zsR mem up hd0 lo0 (by ac_rfl) h3]
   rfl
  have u2:=zme (kd:=kd) (d:=st) (by ac_rfl) (by ac_rfl)
  nofun
  ·rename_i c1
   have ml:m+1<xs.length:=by ac_rfl
   obtain ⟨d1,hd1,t1,ex1,ht1⟩:=hR.get (yaa ml)
   have at1:atI xs ((m+1:Nat):Int)=some (.ref t1):=zak (by rw[yaa ml,ex1])
   have hi1:=B.hi (m+1) d1 (ycu _) hd1
   have e0:st<(if d1<y then d1 else y):=by split <;> ac_rfl
   have e1:(if d1<y then d1 else y)<=y:=by split <;> ac_rfl
   have e2:∀ z,ds[m+1]?=some z->(if d1<y then d1 else y)<=z:=fun z hz=>by
    rw[hd1] at hz
    cases hz
    split <;> ac_rfl
   have e3:(if d1<y then d1 else y)<y->zm9 ds (if d1<y then d1 else y) (m+1+1):=fun z=>by
    have e4:(if d1<y then d1 else y)=d1:=by
     by_cases c:d1<y
     ·rw[if_pos c]
     ·rw[if_neg c] at z;ac_rfl
    rw[e4]
    refine ⟨by ac_rfl,fun i x hi hx=>?_,fun i x hi hx=>zcM up hd1 hx (by ac_rfl)⟩
    by_cases c:i=m+1
    ·subst c;rw[hd1] at hx;have:=Option.some.inj hx;ac_rfl
    ·have:=B.lo i x (by ac_rfl) hx;ac_rfl
   have fe:=fin _ e0 e1 e2 e3
   refine ⟨p,_,_,_,rfl,rfl,hS,at1,?_⟩
   nofun
   generalize (if d1<y then d1 else y)=e at *
   refine ⟨kd,c,rfl,hc,?_⟩
   have u1:=zme (kd:=kd) (d:=e) (by ac_rfl) (by ac_rfl)
   nofun
   first | refine ⟨hc,?_⟩ | skip
   nofun
   refine ⟨(y-e).toNat,by ac_rfl,rfl,e,m+1+1,some (.ref t0),some (.int e),?_,by ac_rfl,.inl (by ac_rfl),fun z=>⟨e3 z,by ac_rfl⟩,rfl⟩
   rw[fe]
   rfl
  ·rename_i c1
   have dl:ds.length=m+1:=by ac_rfl
   have e2:∀ z,ds[m+1]?=some z->y<=z:=fun z hz=>by
    have:=(yad.mp hz).1
    ac_rfl
   have fe:=fin y q (yds _) e2 fun z=>absurd z (by ac_rfl)
   nofun
   refine ⟨kd,c,rfl,hc,?_⟩
   have u1:=zme (kd:=kd) (d:=y) (by ac_rfl) (by ac_rfl)
   nofun
   first | refine ⟨hc,?_⟩ | skip
   nofun
   refine ⟨(y-y).toNat,by ac_rfl,rfl,y,m+1+1,some (.ref t0),some (.int y),?_,by ac_rfl,.inl (by ac_rfl),fun z=>absurd z (by ac_rfl),rfl⟩
   rw[fe]
   rfl
 ·rename_i q
  have e:csum (Uk kd) (zau b P0) x st=csum (Uk kd) (zau b P0) x y:=by
   rcases st2 with z | z
   ·rw[show st=y by ac_rfl]
   ·rw[z,ziz (yds _),ziz (by ac_rfl)]
  rw[e]
  exact h
def zkE (K:W.Frag):Sp:=fun vs H Q _=>L2.Ee5 fun p q (ns:List Int) rs (es:List Er)=>L2.Aa7 (vs=[.ref p,.ref q]) (SqL K H p (ns.map V.int)) (SqL K H q rs) (LL (fun v e=>∃ t,v=.ref t/\H t=some (.tup (zcv e.1 e.2.1 e.2.2))) rs es) (es.length<=61) ((∀ e∈es,e.1≠.base/\0<=e.2.1)) (∀ a A (b:BkT) H',H a=none->Same H H'->zba K H' a A b->zc0 b->b.kd=kindOf ns->b.g=zbW ns->b.es=es->Q (.ref a) H')
theorem zp2:zk qbe qbe (zi zeY):=by walk_at "sp"
theorem zqN (S:Src K mg "_law_book" zeY qbe) (T:Txt K mg) (zhT:zv P w K mg base 4 (cA K "Book") "__init__" qbd (zkH K)) (zhN:Def P w K mg base 4 "_law_made" qbs (zkq K)) (zbX:Def P w K mg base 2 "_law_grace" qab (zfQ K)) (zgE:Def P w K mg base 2 "_law_count" qab (zjH K)):Def P w K mg base 6 "_law_book" qbe (zkE K):=by
 refine S.ok zp2 (fun vs H Q E h=>?_) (fun f cdv A outer s H vs Q E hr h=>?_)
 ·obtain ⟨p,q,ns,rs,es,rfl,hp,hq,hL,hl,ok,h⟩:=h
  rfl
 obtain ⟨p,q,ns,rs,es,rfl,hp,hq,hL,hl,ok,h⟩:=h
 refine ⟨_,(zf (zl (zbm T.zmW zhT hr T.zpj (za (zu zgE hr (za (pv 0) zd)) (za (zu zbX hr (za (pv 0) zd)) (za (zcG (ix:=[]) ⟨rfl,by decide +kernel,rfl,by decide +kernel,rfl,(show (["_law_row_here"]:List Str).Nodup by decide +kernel),by walk_at "cap", by walk_at "sub", by walk_at "has"⟩ (zT (pv 1)) (fun b=>(zu zhN hr (za (pv 0) zd)))) zd)))))),?_⟩
 have sz:=sizeLine_eq
 have xl:=hL.length
 nofun
 refine ⟨p,ns,rfl,hp,fun c H1 nc s1 hc=>?_⟩
 nofun
 refine ⟨p,ns,rfl,s1.seq hp,?_⟩
 nofun
 refine ⟨⟨_,s1.seq hq⟩,fun l nl=>?_⟩
 refine comp_map (zay (s1.seq hq)) nl (by ac_rfl) es xl.symm (fun H' v e=>∃ a dx,v=.ref a/\zkW K H' a dx e.1 e.2.1 e.2.2) (fun v e H1 H2 s ⟨t,dx,e1,e2⟩=>⟨t,dx,e1,s _ _ e2⟩) (fun v e H1 ys zs hL ⟨t,dx,e1,e2⟩=>⟨t,dx,e1,by rw[zkW,zp (zan e2 hL (by intro z;cases z))];exact e2⟩) ?_ ?_
 ·rintro i x e H' Q' hx he sH hq'
  obtain ⟨e',he',t,rfl,ht⟩:=hL.get hx
  obtain rfl:e'=e:=Option.some.inj (he'.symm.trans he)
  nofun
  refine ⟨t,e'.1,e'.2.1,e'.2.2,rfl,sH _ _ (s1 _ _ ht),(ok e' (yai he)).1,fun a dx H2 s2 na ha=>?_⟩
  exact hq' _ _ s2 ⟨a,dx,rfl,ha⟩
 ·rintro ys H2 s2 eL hE
  nofun
  intro a dx na nd ne
  have s3:Same H2 (upd (upd H2 dx (.own a)) a (.ins (cA K "Book") dx [])):=(ze nd _).trans (ze (by rw[zp ne.symm];exact na) _)
  refine ⟨a,dx,c,l,kindOf ns,zbW ns,ys,es,H2,rfl,zg,⟨na,s3⟩,hc.same s2,zjh ns,SqL.of eL,hE,hl,fun e he=>(ok e he).2,fun A b H3 sH3 B I e1 e2 e3=>⟨rfl,?_⟩⟩
  exact h a A b H3 (zJ (s1.trans s2) na) (s1.trans (s2.trans sH3)) B I e1 e2 e3
def zhk (K:W.Frag):Sp:=fun vs H Q _=>L2.Ee6 fun a p A b ws (ds:List Int)=>L2.zul (vs=[.ref a,.ref p]) (zba K H a A b) (AB b) (H p=some (.lst ws)) (R5 b H ws ds) (ds.Pairwise (·<·)) ((∀ d∈ds,0<=d/\d<=1000000)) ((∀ d z,z∈ds->d<z->DDay b d->d∈ds)) (ds.length<=1000) (∀ q x vs' H',H q=none->Same H H'->H' q=some (.lst vs')->DbL K (uB b) (zC b) x H H' vs' ds->Q (.ref q) H')
theorem zaO:zk ["book", "rows", "burden_rows", "debt", "told", "start", "deeds"] qbw (zi zcA):=by walk_at "sp"
theorem zna (S:Src K mg "debts_behind" zcA qbw) (T:Txt K mg) (zkc:Def P w K mg base 4 "burdens" qaf (zmA K)) (zcg:zv P w K mg base 1 (cA K "Debt") "__init__" qas (zgz K)) (zlX:∀ kd:Kd,zv P w K mg base 2 (cA K kd.cls) "unit" qaa (zku kd K)) (zdN:zv P w K mg base 1 (cA K "Book") "count" qaa (zjE K)) (zh0:zv P w K mg base 1 (cA K "Debt") "grow" qav (zkB K)) (zhe:Def P w K mg base 6 "charged_by" qbv (zjI K)) (zaS:zv P w K mg base 1 (cA K "Debt") "principal" qaa (zcV K)) (zjs:Def P w K mg base 4 "do_deeds" qbc (zlh K)) (zid:zv P w K mg base 3 (cA K "Debt") "copy" qaa (zj1 K)):Def P w K mg base 7 "debts_behind" qbw (zhk K):=by
 refine S.ok zaO (fun vs H Q E h=>?_) (fun f cdv A outer s H vs Q E hr h=>?_)
 ·obtain ⟨a,p,A,b,ws,ds,rfl,B,O,hp,hR,up,din,dmem,dl,h⟩:=h
  rfl
 obtain ⟨a,p,A,b,ws,ds,rfl,B,O,hp,hR,up,din,dmem,dl,h⟩:=h
 refine ⟨_,(zc (zj (i:=2) zaO.nd rfl (by walk_at "lc") (zu zkc hr (za (pv 0) zd)))
  (zc (zj (i:=3) zaO.nd rfl (by walk_at "lc") (zbm T.zkT zcg hr T.zmn (za (zjZ zlX T.cls hr (zR zdN T.zF hr (pv 0))) zd)))
  (zc (zj (i:=4) zaO.nd rfl (by walk_at "lc") (zU zd))
  (zc (zj (i:=5) zaO.nd rfl (by walk_at "lc") zb)
  (zc (za7 PassesOwn.never rfl (zT (pv 1)) (zG (i:=6) zaO.nd rfl (by walk_at "lc"))
  (zc (zY (zdl zh0 T.zN hr (pv 3) (za (zu zhe hr (za (zR zdN T.zF hr (pv 0)) (za (pv 2) (za (zR zaS T.zN hr (pv 3)) (za (pv 5) (za (zo zah (pv 6) zb (fun _ _=>rfl)) zd)))))) zd)))
  (zc (zY (zu zjs hr (za (pv 3) (za (pv 6) zd))))
  (zc (zY (zbK PySem.F.plainAttrs_list PySem.F.slot_list_append PySem.F.type_list_append zax (pv 4) (za (zR zid T.zN hr (pv 3)) zd)))
  (zf (zj (i:=5) zaO.nd rfl (by walk_at "lc") (zo zah (pv 6) zb (fun _ _=>rfl))))))))
  (zf (zl (pv 4)))))))),?_⟩
 have sz:=sizeLine_eq
 have hu:0<uB b/\uB b<1152921504606846976:=⟨O.ok.hu,O.u1⟩
 have wl:=hR.length
 nofun
 first | refine ⟨a,A,b,rfl,B,O.ok.ok,fun pb xb tb H1 n1 s1 eb rb upb memb lb=>?_⟩ | refine ⟨B,O.ok.ok,fun pb xb tb H1 n1 s1 eb rb upb memb lb=>?_⟩
 have B1:=B.same s1
 nofun
 refine ⟨a,A.dx,_,rfl,B1.ins,rfl,a,A,b,rfl,B1,?_⟩
 nofun
 refine ⟨b.kd,A.c,rfl,B1.cnt,?_⟩
 nofun
 refine ⟨B1.cnt,?_⟩
 nofun
 intro x dx nx ndx nex
 refine ⟨x,dx,uB b,rfl,zg,rfl,?_⟩
 rw[zag]
 have s2:Same H1 (upd (upd H1 dx (.own x)) x (.ins (cA K "Debt") dx (zap (uB b) 0 0))):=(ze ndx _).trans (ze (by rw[zp nex.symm];exact nx) _)
 have eD:Deb K (upd (upd H1 dx (.own x)) x (.ins (cA K "Debt") dx (zap (uB b) 0 0))) x dx (uB b) 0 0:=zg
 generalize upd (upd H1 dx (.own x)) x (.ins (cA K "Debt") dx (zap (uB b) 0 0))=H2 at s2 eD ⊢
 nofun
 intro q nq
 have s3:=ze nq (.lst [])
 have eq:=zq (.lst []) nq
 have eD3:Deb K _ x dx (uB b) 0 0:=eD.same s3
 have s13:=s2.trans s3
 have nq1:=zJ s2 nq
 have nxq:x≠q:=zZ eD nq
 generalize upd H2 q (.lst [])=H3 at s3 eq eD3 s13 ⊢
 have nqH:=zJ s1 nq1
 have nxH:=zJ s1 nx
 have key:∀ (i:Nat) (d m n st:Int),ds[i]?=some d->((i=0/\m=0/\n=0/\st=0)\/(∃ e,0<i/\ds[i-1]?=some e/\m=(zC b e).1/\n=(zC b e).2/\st=e))->stB (Uk b.kd) (uB b) b d.toNat=(m,n+csum (Uk b.kd) (zau b m) st d)/\0<=st/\st<=1000000:=fun i d m n st hd hc=>by
  obtain ⟨d0,d1⟩:=din d (yai hd)
  rcases hc with ⟨rfl,rfl,rfl,rfl⟩ | ⟨e,i0,he,e1,e2,e3⟩
  ·refine ⟨first O.ok d0 fun k k0 k1=>ztj O.is fun hk=>?_,yds _,by decide⟩
   obtain ⟨j,hj⟩:=ybi.mp (dmem k d (yai hd) k1 hk)
   rcases Nat.eq_zero_or_pos j with z | z
   ·subst z;rw[hd] at hj;have:=Option.some.inj hj;ac_rfl
   ·have:=zcM up hd hj z;ac_rfl
  ·obtain ⟨f0,f1⟩:=din e (yai he)
   rw[e1,e2,e3]
   refine ⟨next O.ok f0 (zcM up he hd (by ac_rfl)) fun k k0 k1=>ztj O.is fun hk=>?_,f0,f1⟩
   obtain ⟨j,hj⟩:=ybi.mp (dmem k d (yai hd) k1 hk)
   rcases ydc j i with z | z | z
   ·by_cases y:j=i-1
    ·subst y;rw[he] at hj;have:=Option.some.inj hj;ac_rfl
    ·have:=zcM up hj he (by ac_rfl);ac_rfl
   ·subst z;rw[hd] at hj;have:=Option.some.inj hj;ac_rfl
   ·have:=zcM up hd hj z;ac_rfl
 nofun
 refine ⟨⟨_,SqL.of (s13 _ _ (s1 _ _ hp))⟩,za5 (xs:=ws) (fun i σ H'=>∃ (m n st:Int) (vs':List V) (z1:Option V),(Same H1 H'/\Deb K H' x dx (uB b) m n/\H' q=some (.lst vs')/\DbL K (uB b) (zC b) x H H' vs' (ds.take i))/\((i=0/\m=0/\n=0/\st=0)\/(∃ e,0<i/\ds[i-1]?=some e/\m=(zC b e).1/\n=(zC b e).2/\st=e))/\σ=[some (.ref a),some (.ref p),some (.ref pb),some (.ref x),some (.ref q),some (.int st),z1])
  ⟨0,0,0,[],_,⟨s13,eD3,eq,.nil⟩,.inl ⟨rfl,rfl,rfl,rfl⟩,rfl⟩ ?_ ?_ ?_⟩
 ·rintro i σ H' _ ⟨m,n,st,vs',z1,⟨sH,_⟩,_⟩
  exact SqL.of (sH _ _ (s1 _ _ hp))
 ·rintro i v σ H' hv ⟨m,n,st,vs',z1,⟨sH,eD',eq',hL⟩,cur,rfl⟩
  have s0H:=s1.trans sH
  obtain ⟨d,hd,t,rfl,ht0⟩:=hR.get hv
  have ht:=s0H _ _ ht0
  have il:i<ds.length:=(yad.mp hd).1
  have vl:=hL.length
  rw[ybd] at vl
  obtain ⟨kk,st0,st1⟩:=key i d m n st hd cur
  obtain ⟨d0,d1⟩:=din d (yai hd)
  have B':=B.same s0H
  have tk:ds.take (i+1)=ds.take i++[d]:=by rw[ybc,hd];rfl
  nofun
  refine ⟨x,dx,_,rfl,eD',rfl,?_⟩
  nofun
  refine ⟨a,A.dx,_,rfl,B'.ins,rfl,a,A,b,rfl,B',?_⟩
  nofun
  refine ⟨x,dx,_,rfl,eD',rfl,x,dx,uB b,m,n,rfl,eD',?_⟩
  nofun
  refine ⟨A.c,pb,b.kd,xb,b,tb,m,st,d,rfl,B'.cnt,SqL.of (sH _ _ eb),rb.same sH,upb,memb,O.ok.ok,⟨st0,st1,d1⟩,?_⟩
  nofun
  refine ⟨x,dx,uB b,m,n,_,rfl,eD',?_⟩
  have e1:Deb K (upd H' x (.ins (cA K "Debt") dx (zap (uB b) m (n+csum (Uk b.kd) (zau b m) st d)))) x dx (uB b) m (n+csum (Uk b.kd) (zau b m) st d):=zg
  have t1:=zi8 (K:=K) (o:=.ins (cA K "Debt") dx (zap (uB b) m (n+csum (Uk b.kd) (zau b m) st d))) eD' ht
  have acc:doD (uB b) (ddo b d) (m,n+csum (Uk b.kd) (zau b m) st d)=zC b d:=by
   show _=doD (uB b) (ddo b (d.toNat:Nat)) (stB (Uk b.kd) (uB b) b d.toNat)
   rw[kk,show ((d.toNat:Nat):Int)=d by ac_rfl]
  nofun
  refine ⟨x,dx,t,uB b,m,_,d,ddo b d,rfl,e1,hu,t1,?_⟩
  rw[zag,acc]
  have e2:Deb K (upd H' x (.ins (cA K "Debt") dx (zap (uB b) (zC b d).1 (zC b d).2))) x dx (uB b) (zC b d).1 (zC b d).2:=zg
  have hL2:DbL K (uB b) (zC b) x H (upd H' x (.ins (cA K "Debt") dx (zap (uB b) (zC b d).1 (zC b d).2))) vs' (ds.take i):=hL.put
  have eq2:(upd H' x (.ins (cA K "Debt") dx (zap (uB b) (zC b d).1 (zC b d).2))) q=some (.lst vs'):=by rw[zp nxq.symm];exact eq'
  have s4:Same H1 (upd H' x (.ins (cA K "Debt") dx (zap (uB b) (zC b d).1 (zC b d).2))):=zE sH nx
  have ht4:=s4 _ _ (s1 _ _ ht0)
  clear e1 t1 eD' ht B'
  generalize upd H' x (.ins (cA K "Debt") dx (zap (uB b) (zC b d).1 (zC b d).2))=H4 at e2 hL2 eq2 s4 ht4 ⊢
  nofun
  refine ⟨.inl ⟨rfl,_,SqL.of eq2⟩,?_⟩
  nofun
  refine ⟨x,dx,_,rfl,e2,rfl,x,dx,uB b,_,_,rfl,e2,fun y dy ny ndy ney=>?_⟩
  have s5:Same H4 (upd (upd H4 dy (.own y)) y (.ins (cA K "Debt") dy (zap (uB b) (zC b d).1 (zC b d).2))):=(ze ndy _).trans (ze (by rw[zp ney.symm];exact ny) _)
  have ey:Deb K (upd (upd H4 dy (.own y)) y (.ins (cA K "Debt") dy (zap (uB b) (zC b d).1 (zC b d).2))) y dy (uB b) (zC b d).1 (zC b d).2:=zg
  have nyx:y≠x:=(zZ e2 ny).symm
  have nyH:=zJ (s1.trans s4) ny
  generalize upd (upd H4 dy (.own y)) y (.ins (cA K "Debt") dy (zap (uB b) (zC b d).1 (zC b d).2))=H5 at s5 ey ⊢
  have ht5:=s5 _ _ ht4
  have eq5:=s5 _ _ eq2
  nofun
  refine ⟨q,_,_,rfl,rfl,eq5,by ac_rfl,?_⟩
  have ht6:(upd H5 q (.lst (vs'++[.ref y]))) t=some (.tup [.int d,.int (ddo b d).1,.int (ddo b d).2.1,.int (ddo b d).2.2.1,.int (ddo b d).2.2.2]):=by rw[zp (zan ht5 eq5 (by intro z;cases z))];exact ht5
  nofun
  refine ⟨_,_,d,vs'++[.ref y],_,⟨zE (s4.trans s5) nq1,Deb.putL (e2.same s5) eq5,zg,?_⟩,.inr ⟨d,by ac_rfl,by simpa using hd,rfl,rfl,rfl⟩,rfl⟩
  rw[tk]
  exact LL.push ((hL2.same s5).putL eq5) ⟨y,dy,rfl,⟨nyx,nyH⟩,Deb.putL ey eq5⟩
 ·rintro σ H' ⟨m,n,st,vs',z1,⟨sH,eD',eq',hL⟩,cur,rfl⟩
  rw[wl,yav (ycu _)] at hL
  nofun
  exact h q x vs' H' nqH (s1.trans sH) eq' hL
def zjU (K:W.Frag):Sp:=fun vs H Q _=>L2.Ee4 fun a A (b:BkT) z=>L2.Aa5 (vs=[.ref a,.int z]) (zba K H a A b) (AB b) ((0<=z/\z<=1000000)) (∀ q ws (ds:List Int) H',H q=none->Same H H'->H' q=some (.lst ws)->R7 (zcu b.es (zC b)) H' ws ds->ds.Pairwise (·<·)->(∀ d,d∈ds↔(DDay b d/\d<z)\/d=z)->ds.length<=62->Q (.ref q) H')
theorem zg3:zk ["book", "day", "deeds", "debts"] qbx (zi ze8):=by walk_at "sp"
theorem zq1 (S:Src K mg "statement" ze8 qbx) (T:Txt K mg) (zg8:Def P w K mg base 2 "deeds_upto" qbm (zjC P w K)) (zeo:Def P w K mg base 7 "debts_behind" qbw (zhk K)) (zgR:zv P w K mg base 1 (cA K "Debt") "units" qaa (zjz K)) (zaS:zv P w K mg base 1 (cA K "Debt") "principal" qaa (zcV K)):Def P w K mg base 8 "statement" qbx (zjU K):=by
 refine S.ok zg3 (fun vs H Q E h=>?_) (fun f cdv A outer s H vs Q E hr h=>?_)
 ·obtain ⟨a,A,b,z,rfl,B,O,⟨z0,z1⟩,h⟩:=h
  rfl
 obtain ⟨a,A,b,z,rfl,B,O,⟨z0,z1⟩,h⟩:=h
 refine ⟨_,(zc (zj (i:=2) zg3.nd rfl (by walk_at "lc") (zu zg8 hr (za (pv 0) (za (zU (za (pv 1) zd)) zd))))
  (zc (zj (i:=3) zg3.nd rfl (by walk_at "lc") (zu zeo hr (za (pv 0) (za (pv 2) zd))))
  (zf (zl (zcG (ix:=[3,2]) ⟨rfl,by decide +kernel,rfl,by decide +kernel,rfl,(show (["place", "debts", "deeds"]:List Str).Nodup by decide +kernel),by walk_at "cap", by walk_at "sub", by walk_at "has"⟩ (zfn rfl T.zdy (za (zD zaN rfl T.zd2 PySem.boot_len (za (pv 2) zd)) zd)) (fun b=>(zh (zt9 K) (zo (zi3 K) (pv 2) (pv 0) (fun _ _=>rfl)) (zaj (za (zR zaS T.zN hr (zo (zi3 K) (pv 1) (pv 0) (fun _ _=>rfl))) (za (zR zgR T.zN hr (zo (zi3 K) (pv 1) (pv 0) (fun _ _=>rfl))) zd)))))))))),?_⟩
 have sz:=sizeLine_eq
 have osz:=O.sz
 nofun
 intro p np
 have s0:=ze np (.lst [.int z])
 have e0:=zq (.lst [.int z]) np
 generalize upd H p (.lst [.int z])=H0 at s0 e0 ⊢
 have B0:=B.same s0
 nofun
 first | refine ⟨a,p,A,b,[],z,rfl,B0,O.is,e0,by simp;ac_rfl,fun q1 ws ds H1 n1 s1 e1 r1 up1 zaz l1=>?_⟩ | refine ⟨A,b,[],z,B0,O.is,e0,by simp;ac_rfl,fun q1 ws ds H1 n1 s1 e1 r1 up1 zaz l1=>?_⟩
 have mem2:∀ d,d∈ds↔(DDay b d/\d<z)\/d=z:=fun d=>(zaz d).trans (by simp)
 have dz:∀ d∈ds,0<=d/\d<=1000000:=fun d hd=>by
  rcases (mem2 d).mp hd with ⟨h1,h2⟩ | h1
  ·have:=O.d0 d h1
   ac_rfl
  ·ac_rfl
 have dm:∀ d y,y∈ds->d<y->DDay b d->d∈ds:=fun d y hy dy hd=>by
  refine (mem2 d).mpr (.inl ⟨hd,?_⟩)
  rcases (mem2 y).mp hy with ⟨_,h2⟩ | h1 <;> ac_rfl
 have rl:=r1.length
 nofun
 first | refine ⟨a,q1,A,b,ws,ds,rfl,B0.same s1,O,e1,r1,up1,dz,dm,by ac_rfl,fun q2 x vs2 H2 n2 s2 e2 hD=>?_⟩ | refine ⟨A,b,ws,ds,B0.same s1,O,e1,r1,up1,dz,dm,by ac_rfl,fun q2 x vs2 H2 n2 s2 e2 hD=>?_⟩
 have vl:=hD.length
 have e12:=s2 _ _ e1
 have r12:=r1.same s2
 nofun
 refine ⟨q1,ws,rfl,.inl (SqL.of e12),?_⟩
 walk_at "rd1"
 refine ⟨by ac_rfl,by ac_rfl,fun l3 n3=>?_⟩
 refine znF n3 (by ac_rfl) ds (by ac_rfl) (fun H' v d=>∃ t,v=.ref t/\H' t=some (.tup ((zcu b.es (zC b) d).map V.int))) (fun v e H1 H2 s ⟨t,e1,e2⟩=>⟨t,e1,s _ _ e2⟩) (fun v e H1 ys zs hL ⟨t,e1,e2⟩=>⟨t,e1,by rw[zp (zan e2 hL (by intro z;cases z))];exact e2⟩) ?_ ?_
 ·rintro i d H' Q' hi hd sH hq
  obtain ⟨d',hd',t,et,ht⟩:=r12.get (yaa (show i<ws.length by ac_rfl))
  obtain rfl:d'=d:=Option.some.inj (hd'.symm.trans hd)
  have wi:ws[i]?=some (.ref t):=by rw[yaa (show i<ws.length by ac_rfl),et]
  obtain ⟨d2,hd2,y,dy,ey,ny,eD⟩:=hD.get (yaa (show i<vs2.length by ac_rfl))
  obtain rfl:d2=d':=Option.some.inj (hd2.symm.trans hd)
  have vi:vs2[i]?=some (.ref y):=by rw[yaa (show i<vs2.length by ac_rfl),ey]
  have ht':=sH _ _ ht
  have eD':=sH _ _ eD
  rw[Int.zero_add]
  nofun
  refine ⟨q1,_,_,_,rfl,rfl,SqL.of (sH _ _ e12),zak wi,?_⟩
  nofun
  refine ⟨q2,_,_,_,rfl,rfl,SqL.of (sH _ _ e2),zak vi,?_⟩
  nofun
  refine ⟨y,dy,_,rfl,eD',rfl,y,dy,uB b,_,_,rfl,eD',?_⟩
  nofun
  refine ⟨q2,_,_,_,rfl,rfl,SqL.of (sH _ _ e2),zak vi,?_⟩
  nofun
  refine ⟨y,dy,_,rfl,eD',rfl,y,dy,uB b,_,_,rfl,eD',?_⟩
  nofun
  intro u nu
  have su:=ze nu (.tup [.int (zC b d2).1,.int (zC b d2).2])
  have eu:=zq (.tup [.int (zC b d2).1,.int (zC b d2).2]) nu
  generalize upd H' u (.tup [.int (zC b d2).1,.int (zC b d2).2])=H5 at su eu ⊢
  refine ⟨t,u,_,_,rfl,rfl,SqT.of (su _ _ ht'),SqT.of eu,(by intro z;cases z),by rw[sz];show 7<=_;decide,(fun z=>by cases z),fun _ v nv=>?_⟩
  exact hq _ _ (su.trans (ze nv _)) ⟨v,rfl,zg⟩
 ·rintro ys H3 s3 e3 hL
  exact h l3 ys ds H3 (zJ (s0.trans (s1.trans s2)) n3) (s0.trans (s1.trans (s2.trans s3))) e3 hL up1 mem2 l1
def zhu (K:W.Frag):Sp:=fun vs H Q _=>L2.Ee7 fun a p A (b:BkT) z ws rows=>L2.Aa7 (vs=[.ref a,.int z,.ref p]) (zba K H a A b) (AB b) ((0<=z/\z<=1000000)) (H p=some (.lst ws)) (RI H ws rows) (∀ ds:List Int,ds.Pairwise (·<·)->(∀ d,d∈ds↔(DDay b d/\d<z)\/d=z)->Q (.bl (PyData.eqv (riD rows) (riD (ds.map (zcu b.es (zC b)))))) H)
theorem zmy:zk qbf qbf (zi zcR):=by walk_at "sp"
theorem zmS (S:Src K mg "statement_ok" zcR qbf) (T:Txt K mg) (zhB:Def P w K mg base 8 "statement" qbx (zjU K)):Def P w K mg base 9 "statement_ok" qbf (zhu K):=by
 refine S.okF zmy (fun vs H Q E h=>?_) (fun f cdv A outer s H vs Q E hr h=>?_)
 ·obtain ⟨a,p,A,b,z,ws,rows,rfl,B,O,hz,ep,hR,h⟩:=h
  rfl
 obtain ⟨a,p,A,b,z,ws,rows,rfl,B,O,hz,ep,hR,h⟩:=h
 refine ⟨_,(zf (zl (zaK (zl8 hr.units) (pv 2) (zu zhB hr (za (pv 0) (za (pv 1) zd))) (nomark _)))),?_⟩
 nofun
 refine ⟨a,A,b,z,rfl,B,O,hz,fun q ws2 ds H1 nq s1 eq r7 up mem l6=>?_⟩
 refine ⟨_,_,.lst (SqL.of (s1 _ _ ep)) (hR.same s1).rd,.lst (SqL.of eq) (r7.ri).rd,zb2 rows,zb2 (ds.map (zcu b.es (zC b))),?_⟩
 first | exact ⟨s1,h ds up mem⟩ | exact h ds up mem
def ziJ (K:W.Frag):Sp:=fun vs H Q _=>L2.Ee8 fun a p A (b:BkT) z ws rows (v:Bool)=>L2.Aa8 (vs=[.ref a,.int z,.ref p,.bl v]) (zba K H a A b) (AB b) ((0<=z/\z<=1000000)) (H p=some (.lst ws)) (RI H ws rows) ((∀ ds:List Int,ds.Pairwise (·<·)->(∀ d,d∈ds↔(DDay b d/\d<z)\/d=z)->v=PyData.eqv (riD rows) (riD (ds.map (zcu b.es (zC b)))))) (Q (.bl true) H)
theorem zeB:zk ["_law_book_here", "_law_day", "_law_lines", "_law_due_here", "_law_rows_here", "_law_found"] qby (zi zdd):=by walk_at "sp"
theorem zok (S:Src K mg "_law_looked" zdd qby) (T:Txt K mg) (zeD:Def P w K mg base 9 "statement_ok" qbf (zhu K)):Def P w K mg base 10 "_law_looked" qby (ziJ K):=by
 refine S.okF zeB (fun vs H Q E h=>?_) (fun f cdv A outer s H vs Q E hr h=>?_)
 ·obtain ⟨a,p,A,b,z,ws,rows,v,rfl,B,O,hz,ep,hR,hv,h⟩:=h
  rfl
 obtain ⟨a,p,A,b,z,ws,rows,v,rfl,B,O,hz,ep,hR,hv,h⟩:=h
 refine ⟨_,(zc (zj (i:=4) zeB.nd rfl (by walk_at "lc") (zH zas rfl T.zbl PyProof.Rows.boot_list (za (pv 2) zd)))
  (zc (zj (i:=5) zeB.nd rfl (by walk_at "lc") (zu zeD hr (za (pv 0) (za (pv 1) (za (pv 4) zd)))))
  (zf (zl (zix (zD zhR rfl T.zbY PyProof.Rows.boot_isinstance (za (pv 5) (za (zm1 (v:=.ty "bool") rfl T.zmw PyProof.Rows.boot_bool rfl) zd))) (zix (zaK zaa (pv 5) (pv 3) (nomark _)) (zgS (zaK (zl8 hr.units) (pv 4) (pv 2) (nomark _))))))))),?_⟩
 nofun
 refine ⟨p,ws,rfl,.inl (SqL.of ep),fun q nq=>?_⟩
 have s1:=ze nq (.lst ws)
 have eq:=zq (.lst ws) nq
 nofun
 refine ⟨a,q,A,b,z,ws,rows,rfl,B.same s1,O,hz,eq,hR.same s1,fun ds up mem=>?_⟩
 rw[<-hv ds up mem]
 nofun
 refine ⟨_,_,_,_,rfl,.bl _,(show PySem.W.kitOne K (.type "bool") (.type "bool")=some true from rfl),?_⟩
 nofun
 ·refine ⟨riD rows,riD rows,.lst (SqL.of eq) (hR.same s1).rd,.lst (SqL.of (s1 _ _ ep)) (hR.same s1).rd,zb2 _,zb2 _,?_⟩
  rw[zpM]
  first | exact ⟨s1,h⟩ | exact h
 ·exact absurd rfl (by assumption)
def zpY (K:W.Frag):Sp:=fun vs H Q _=>∃ (a:Addr) (ns:List Int),vs=[.ref a]/\SqL K H a (ns.map V.int)/\ns.length<=63/\∀ H',Q (.bl true) H'
theorem zvI {b:Int} {es:List Er} (l:es.length<=31) (o:∀ e∈es,OkE b e):zmx b es :=
 ⟨l,fun e he z=>by
  obtain ⟨_,h1,h2,h3⟩:=o e he
  have e1:e.1=.still:=by
   have:=V.str.inj (of_decide_eq_true z)
   revert this
   cases e.1 <;> first | (intro;rfl) | (intro q;exfalso;revert q;decide)
  have h4:=h3 e1
  rw[e1] at h2
  have h5:e.2.1+1<=e.2.2/\e.2.2<=1000000:=h2
  omega,fun e he=>(by obtain ⟨_,h1,_⟩:=o e he;omega)⟩
theorem zqx {b:Int} {es:List Er} {e:Er} (O:zmx b es) (l:es.length<=30) (k:e.1≠.still) (d:b<=e.2.1/\e.2.1<b+250):zmx b (es++[e]) :=
 ⟨by rw[yag,yau];omega,fun x hx z=>by
  rcases yac.mp hx with hx | hx
  ·exact O.still x hx z
  ·rw[ybm.mp hx] at z
   have:=V.str.inj (of_decide_eq_true z)
   revert this k
   cases e.1 <;> first | (intro k;exact absurd rfl k) | (intro _ q;exfalso;revert q;decide),fun x hx=>by
  rcases yac.mp hx with hx | hx
  ·exact O.day x hx
  ·rw[ybm.mp hx];exact d⟩
theorem zuB {b:Int} {e:Er} (h:OkE b e):OkA b e:=by
 obtain ⟨_,h2,h1,_⟩:=h
 have w:∀ {s:Str},isW s e=true->e.1.word=s:=fun z=>V.str.inj (of_decide_eq_true z)
 refine ⟨h2.1,fun z=>?_,fun z=>?_,fun z=>?_⟩
 ·have e1:e.1=.rate:=by
   have:=w z
   revert this
   cases e.1 <;> first | (intro;rfl) | (intro q;exfalso;revert q;decide)
  rw[e1] at h1
  exact h1
 ·have e1:e.1=.late:=by
   have:=w z
   revert this
   cases e.1 <;> first | (intro;rfl) | (intro q;exfalso;revert q;decide)
  rw[e1] at h1
  exact h1
 ·have e1:e.1=.out:=by
   have:=w z
   revert this
   cases e.1 <;> first | (intro;rfl) | (intro q;exfalso;revert q;decide)
  rw[e1] at h1
  have h4:1<=e.2.2/\e.2.2<=1000000000000:=h1
  omega
theorem zwo {b:Int} {es:List Er} (o:∀ e∈es,OkE b e):∀ s∈prs "still" es,s.1<s.2:=fun s hs=>by
 obtain ⟨e,he,rfl⟩:=yaf.mp hs
 obtain ⟨h1,h2⟩:=yao.mp he
 obtain ⟨_,_,h3,_⟩:=o e h1
 have:=V.str.inj (of_decide_eq_true h2)
 have e1:e.1=.still:=by
  revert this
  cases e.1 <;> first | (intro;rfl) | (intro q;exfalso;revert q;decide)
 rw[e1] at h3
 have h4:e.2.1+1<=e.2.2/\e.2.2<=1000000:=h3
 show e.2.1<e.2.2
 omega
theorem ztM {es:List Er} {e:Er} (k:e.1≠.still):prs "still" (es++[e])=prs "still" es:=by
 have n:¬ isW "still" e=true:=fun z=>by
  have:=V.str.inj (of_decide_eq_true z)
  revert this k
  cases e.1 <;> first | (intro k;exact absurd rfl k) | (intro _ q;exfalso;revert q;decide)
 unfold prs
 rw[ybb,yaq n,List.filter_nil,yco]
theorem abA {b:BkT} (I:zc0 b) {f:Int} (f0:0<=f) (g0:0<=b.g) (o:∀ e∈b.es,OkA f e) (len:b.es.length<=31):AB b:=by
 have y0:0<yr b.kd/\yr b.kd<=133590:=by cases b.kd <;> decide
 exact zu2 I f0 g0 o len (fun d=>zu9 (by omega) (by omega)) (by unfold uB;omega) (by unfold uB;omega)
theorem zwl {es:List Er} {z:Int} {ds:List Int} (up:ds.Pairwise (·<·)) (m:∀ d,d∈ds↔(DE es d/\d<z)\/d=z):ds.length<=es.length+1:=by
 have:=ziI (Sby.zdH up) (show ∀ k∈ds,k∈z::es.map (·.2.1) from fun k hk=>by
  rcases (m k).mp hk with ⟨⟨e,he,h1,_⟩,_⟩ | h
  ·exact yam _ (yaf.mpr ⟨e,he,h1⟩)
  ·rw[h];exact yan ..)
 rwa [ybg,yab] at this
theorem zuY {α:Type} {p:Int->Prop} {ys:List V} {es:List α} (h:LL (fun v _=>∃ j,v=.int j/\p j) ys es):∃ js:List Int,ys=js.map V.int/\js.length=es.length/\∀ j∈js,p j:=by
 induction h with
 | nil=>exact ⟨[],rfl,rfl,fun j hj=>by cases hj⟩
 | cons h _ ih =>
  obtain ⟨j,rfl,pj⟩:=h
  obtain ⟨js,rfl,e,a⟩:=ih
  exact ⟨j::js,rfl,by simp[e],fun k hk=>by
   rcases yak.mp hk with rfl | hk
   ·exact pj
   ·exact a k hk⟩
theorem zwb {js:List Int} (h:js.length=8):∃ a b c d e f g i,js=[a,b,c,d,e,f,g,i]:=by
 match js,h with
 | [a,b,c,d,e,f,g,i],_=>exact ⟨a,b,c,d,e,f,g,i,rfl⟩
theorem zbC:zk ["_law_script", "_law_rows_here", "_law_book_here", "_law_base_here", "_law_many", "_law_told", "_law_cell", "_law_xs", "_law_day", "_law_lines", "_law_others", "_law_wrong", "_law_more", "_law_forged_here"] qab (zi zmf):=by walk_at "sp"
theorem zwu (S:Src K mg "law" zmf qab) (T:Txt K mg) (zhA:Def P w K mg base 3 "_law_rows" qbp (zkj K)) (zhX:Def P w K mg base 6 "_law_book" qbe (zkE K)) (zaX:Def P w K mg base 2 "_law_base" qab (zd6 K)) (zfd:Def P w K mg base 5 "_law_days" qbu (zky K)) (zK:Def P w K mg base 1 "_law_cell_at" qam (zaD K)) (zaP:Def P w K mg base 1 "_law_draws" qat (zde K)) (zdI:Def P w K mg base 3 "_law_due" qbr (zly P w K)) (zfK:Def P w K mg base 1 "_law_spoilt" qbj (ziw K)) (za4:Def P w K mg base 10 "_law_looked" qby (ziJ K)) (zfV:Def P w K mg base 1 "_law_forged" qbk (ziB K)):Def P w K mg base 11 "law" qab (zpY K):=by
 refine S.ok zbC (fun vs H Q E h=>?_) (fun f cdv A outer s H vs Q E hr h=>?_)
 ·obtain ⟨a,ns,rfl,hS,hl,h⟩:=h
  rfl
 obtain ⟨a,ns,rfl,hS,hl,h⟩:=h
 refine ⟨_,(zc (zj (i:=1) zbC.nd rfl (by walk_at "lc") (zu zhA hr (za (pv 0) (za zb (za zb (za zb zd))))))
  (zc (zj (i:=2) zbC.nd rfl (by walk_at "lc") (zu zhX hr (za (pv 0) (za (pv 1) zd))))
  (zc (zj (i:=3) zbC.nd rfl (by walk_at "lc") (zu zaX hr (za (pv 0) zd)))
  (zc (zj (i:=4) zbC.nd rfl (by walk_at "lc") (zD (za1 rfl) rfl T.zcO PyProof.Rows.boot_min (za zb (za (zh zW (zbd (v:=1000000) (by decide +kernel) ⟨by decide,by decide,by decide⟩) (pv 3)) zd))))
  (zc (zj (i:=5) zbC.nd rfl (by walk_at "lc") (zu zfd hr (za (pv 0) (za (pv 1) (za (pv 4) zd)))))
  (zc (za7 PassesOwn.never rfl (zT (zcG (ix:=[0]) ⟨rfl,by decide +kernel,rfl,by decide +kernel,rfl,(show (["_law_k", "_law_script"]:List Str).Nodup by decide +kernel),by walk_at "cap", by walk_at "sub", by walk_at "has"⟩ (zfn rfl T.zdy (za zb zd)) (fun b=>(zu zK hr (za (pv 1) (za (zh zy zb (pv 0)) zd)))))) (zG (i:=6) zbC.nd rfl (by walk_at "lc"))
  (zc (zj (i:=7) zbC.nd rfl (by walk_at "lc") (zu zaP hr (za (pv 6) (za zb zd))))
  (zc (zj (i:=8) zbC.nd rfl (by walk_at "lc") (zh zy (pv 3) (zh zI (zo zt (pv 7) zb (fun _ _=>rfl)) (pv 4))))
  (zc (zj (i:=9) zbC.nd rfl (by walk_at "lc") (zu zdI hr (za (pv 1) (za (pv 5) (za (pv 3) (za (pv 8) zd))))))
  (zc (zj (i:=10) zbC.nd rfl (by walk_at "lc") (zu zdI hr (za (pv 1) (za (pv 5) (za (pv 3) (za (zh zy (pv 3) (zh zI (zo zt (pv 7) zb (fun _ _=>rfl)) (pv 4))) zd))))))
  (zc (zj (i:=11) zbC.nd rfl (by walk_at "lc") (zu zfK hr (za (pv 9) (za (pv 10) (za (pv 7) zd)))))
  (zc (zV (PW.pt (zuF (zfp (zcd (zu za4 hr (za (pv 2) (za (pv 8) (za (pv 9) (za zgh zd))))))) (ztg (zfp (zcd (zu za4 hr (za (pv 2) (za (pv 8) (za (pv 11) (za (zaK (zl8 hr.units) (pv 11) (pv 9) (nomark _)) zd))))))))))
  (zf (zl zgh))
   zO)
  (zc (zV (PW.pt (zuF (zfp (zcd (zu za4 hr (za (pv 2) (za (pv 8) (za (zU zd) (za zgh zd))))))) (ztg (zfp (zcd (zu za4 hr (za (pv 2) (za (pv 8) (za (pv 9) (za zgh zd))))))))))
  (zf (zl zgh))
   zO)
  (zc (zj (i:=12) zbC.nd rfl (by walk_at "lc") (zh zbk (pv 1) (zU (za (zu zfV hr (za (pv 9) (za (pv 7) zd))) zd))))
  (zc (zj (i:=13) zbC.nd rfl (by walk_at "lc") (zu zdI hr (za (pv 12) (za (zu zfd hr (za (pv 0) (za (pv 12) (za (zh zy (zh zW (pv 8) (pv 3)) zb) zd)))) (za (pv 3) (za (pv 8) zd))))))
  (zf (zV (zfp (zcd (zu za4 hr (za (pv 2) (za (pv 8) (za (pv 13) (za (zaK (zl8 hr.units) (pv 13) (pv 9) (nomark _)) zd)))))))
  (zf (zl zgh))
   zO))))))))))))
  (zf (zl zgh)))))))),?_⟩
 have sz:=sizeLine_eq
 obtain ⟨b0,b1⟩:=zj6 ns
 obtain ⟨g0,g1⟩:=zjh ns
 nofun
 refine ⟨a,ns,3,21,200,rfl,hS,by ac_rfl,by ac_rfl,fun q rs es H1 nq s1 eq hR el oe=>?_⟩
 have O:=zvI (by ac_rfl) oe
 have hS1:=s1.seq hS
 have rl:=hR.length
 nofun
 refine ⟨a,q,ns,rs,es,rfl,hS1,SqL.of eq,hR,by ac_rfl,fun e he=>⟨(oe e he).1,by have:=(oe e he).2.1;ac_rfl⟩,fun bb A b H2 nb s2 B BI ek eg ee=>?_⟩
 have A1:AB b:=abA BI b0 (by rw[eg];exact g0) (by rw[ee];exact fun e he=>zuB (oe e he)) (by rw[ee];ac_rfl)
 have hS2:=s2.seq hS1
 have eq2:=s2 _ _ eq
 have hR2:=hR.same s2
 nofun
 refine ⟨a,ns,rfl,hS2,?_⟩
 nofun
 have M0:200<=(if 1000000-baseOf ns<206 then 1000000-baseOf ns else 206)/\(if 1000000-baseOf ns<206 then 1000000-baseOf ns else 206)<=206/\baseOf ns+(if 1000000-baseOf ns<206 then 1000000-baseOf ns else 206)<=1000000:=by split <;> ac_rfl
 generalize (if 1000000-baseOf ns<206 then 1000000-baseOf ns else 206)=M at M0 ⊢
 obtain ⟨M0,M1,M2⟩:=M0
 refine ⟨a,q,ns,rs,b,M,rfl,hS2,eq2,ee ▸ hR2,ee ▸ O,A1,ek,eg,by ac_rfl,by ac_rfl,by ac_rfl,fun pT wT H3 npT s3 eT tl3=>?_⟩
 have hS3:=s3.seq hS2
 nofun
 intro l5 nl5
 refine znF nl5 (by rw[sz];decide) (yax 5) rfl (fun H' v k=>∃ j,v=.int j/\True) (fun v e H1 H2 s z=>z) (fun v e H1 ys zs hL z=>z) ?_ ?_
 ·rintro i e H' Q' hi he sH hq
  nofun
  refine ⟨a,ns,21+(0+i),rfl,sH.seq hS3,?_⟩
  nofun
  exact hq _ _ (Same.refl _) ⟨_,rfl,trivial⟩
 rintro ys H4 s4 eD hD
 obtain ⟨js,rfl,jl,_⟩:=zuY hD
 have dE:∀ e∈b.es,baseOf ns<=e.2.1:=fun e he=>by rw[ee] at he;exact (oe e he).2.1.1
 refine ⟨l5,rfl,?_⟩
 nofun
 refine ⟨⟨_,SqL.of eD⟩,za5 (xs:=js.map V.int) (fun i σ H'=>Same H4 H'/\∃ z1 z2 z3 z4 z5 z6 z7 z8:Option V,σ=[some (.ref a),some (.ref q),some (.ref bb),some (.int (baseOf ns)),some (.int M),some (.ref pT),z1,z2,z3,z4,z5,z6,z7,z8])
  ⟨Same.refl _,_,_,_,_,_,_,_,_,rfl⟩ ?_ ?_ ?_⟩
 ·rintro i σ H' _ ⟨sH,_⟩
  exact SqL.of (sH _ _ eD)
 ·rintro i v σ H' hv ⟨sH,z1,z2,z3,z4,z5,z6,z7,z8,rfl⟩
  rw[yaj] at hv
  obtain ⟨j,hj,rfl⟩:=Option.map_eq_some_iff.mp hv
  have sB:=s3.trans (s4.trans sH)
  nofun
  intro px xs H5 s5 npx ep nl nn
  obtain ⟨x0,x1,x2,x3,x4,x5,x6,x7,rfl⟩:=zwb (show xs.length=8 by ac_rfl)
  have nx:∀ x∈[x0,x1,x2,x3,x4,x5,x6,x7],0<=x:=fun x hx=>(nn x hx).1
  have n0:=nx x0 (by simp)
  have n1:=nx x1 (by simp)
  have n2:=nx x2 (by simp)
  have n3:=nx x3 (by simp)
  have n6:=nx x6 (by simp)
  have n7:=nx x7 (by simp)
  nofun
  refine ⟨px,_,_,_,rfl,rfl,SqL.of ep,rfl,?_⟩
  have c0:=ydr x4 (show M≠0 by ac_rfl)
  have c1:=ydq x4 (show 0<M by ac_rfl)
  have d0:=ydr x5 (show M≠0 by ac_rfl)
  have d1:=ydq x5 (show 0<M by ac_rfl)
  have sB5:=sB.trans s5
  have sT5:=s4.trans (sH.trans s5)
  have tl5:TL (zC b) (baseOf ns) H5 wT (yax M.toNat):=LL.imp (fun v e ⟨t,e1,e2⟩=>⟨t,e1,sT5 _ _ e2⟩) tl3
  nofun
  refine ⟨q,pT,rs,wT,b.es,zC b,baseOf ns,baseOf ns+x4 % M,M.toNat,rfl,sB5 _ _ eq2,by rw[ee];exact hR2.same sB5,sT5 _ _ eT,tl5,by rw[ee];ac_rfl,dE,⟨by ac_rfl,by ac_rfl⟩,fun pL wL ds H6 nL s6 eL r6 up6 mem6=>?_⟩
  have sB6:=sB5.trans s6
  have sT6:=sT5.trans s6
  have tl6:TL (zC b) (baseOf ns) H6 wT (yax M.toNat):=LL.imp (fun v e ⟨t,e1,e2⟩=>⟨t,e1,s6 _ _ e2⟩) tl5
  nofun
  refine ⟨px,_,_,_,rfl,rfl,SqL.of (s6 _ _ ep),rfl,?_⟩
  nofun
  refine ⟨q,pT,rs,wT,b.es,zC b,baseOf ns,baseOf ns+x5 % M,M.toNat,rfl,sB6 _ _ eq2,by rw[ee];exact hR2.same sB6,sT6 _ _ eT,tl6,by rw[ee];ac_rfl,dE,⟨by ac_rfl,by ac_rfl⟩,fun pO wO do7 H7 nO s7 eO r7 up7 mem7=>?_⟩
  have dl:=zwl up6 mem6
  rw[ee] at dl
  have eL7:=s7 _ _ eL
  have rL7:RI H7 wL (ds.map (zcu b.es (zC b))):=r6.ri.same s7
  have ne:ds≠[]:=fun z=>by have:=(mem6 (baseOf ns+x4 % M)).mpr (.inr rfl);rw[z] at this;cases this
  have r77:∀ r∈ds.map (zcu b.es (zC b)),r.length=7:=fun r hr=>by
   obtain ⟨d,_,rfl⟩:=yaf.mp hr
   rfl
  have hu:∀ d':List Int,d'.Pairwise (·<·)->(∀ d,d∈d'↔(DDay b d/\d<baseOf ns+x4 % M)\/d=baseOf ns+x4 % M)->d'=ds:=fun d' u m=>Sby.zvO u up6 fun d=>by rw[m,mem6,zva BI]
  have px7:=s7 _ _ (s6 _ _ ep)
  nofun
  refine ⟨pL,pO,px,wL,wO,ds.map (zcu b.es (zC b)),do7.map (zcu b.es (zC b)),x0,x1,x2,x3,x4,x5,x6,x7,rfl,eL7,rL7,fun z=>ne (ycs.mp z),by rw[yab];ac_rfl,r77,eO,r7.ri,px7,⟨n0,n1,n2,n3⟩,fun qW us rowsW H8 s8 eW rW=>?_⟩
  have sB8:=sB6.trans (s7.trans s8)
  have eL8:=s8 _ _ eL7
  have rL8:=rL7.same s8
  have px8:=s8 _ _ px7
  have B8:=B.same sB8
  nofun
  refine ⟨bb,pL,A,b,baseOf ns+x4 % M,wL,ds.map (zcu b.es (zC b)),true,rfl,B8,A1,⟨by ac_rfl,by ac_rfl⟩,eL8,rL8,fun d' u m=>by rw[hu d' u m,zpM],?_⟩
  nofun
  refine ⟨_,_,.lst (SqL.of eW) rW.rd,.lst (SqL.of eL8) rL8.rd,zb2 _,zb2 _,?_⟩
  nofun
  refine ⟨bb,qW,A,b,baseOf ns+x4 % M,us,rowsW,_,rfl,B8,A1,⟨by ac_rfl,by ac_rfl⟩,eW,rW,fun d' u m=>by rw[hu d' u m];rfl,?_⟩
  nofun
  intro l9 nl9
  have s9:=ze nl9 (.lst [])
  have e9:=zq (.lst []) nl9
  generalize upd H8 l9 (.lst [])=H9 at s9 e9 ⊢
  have sB9:=sB8.trans s9
  have eL9:=s9 _ _ eL8
  have rL9:=rL8.same s9
  have px9:=s9 _ _ px8
  have B9:=B8.same s9
  nofun
  refine ⟨bb,l9,A,b,baseOf ns+x4 % M,[],[],false,rfl,B9,A1,⟨by ac_rfl,by ac_rfl⟩,e9,.nil,fun d' u m=>by rw[hu d' u m];exact (zss fun z=>ne (ycs.mp z)).symm,?_⟩
  nofun
  refine ⟨bb,pL,A,b,baseOf ns+x4 % M,wL,ds.map (zcu b.es (zC b)),true,rfl,B9,A1,⟨by ac_rfl,by ac_rfl⟩,eL9,rL9,fun d' u m=>by rw[hu d' u m,zpM],?_⟩
  nofun
  refine ⟨pL,px,wL,ds.map (zcu b.es (zC b)),x0,x1,x2,x3,x4,x5,x6,x7,rfl,eL9,rL9,fun z=>ne (ycs.mp z),r77,px9,⟨n6,n7⟩,fun tF e r H10 s10 eF hr hd hk=>?_⟩
  obtain ⟨kb,ks,kA⟩:=hk
  have hF:baseOf ns<=e.2.1/\e.2.1<=baseOf ns+x4 % M:=by
   obtain ⟨d,hd1,rfl⟩:=yaf.mp hr
   have hd2:e.2.1=d:=hd
   rcases (mem6 d).mp hd1 with ⟨⟨e',he',h1,_⟩,h2⟩ | h1
   ·have:=dE e' he'
    ac_rfl
   ·ac_rfl
  nofun
  intro lF nF
  have s11:=ze nF (.lst [.ref tF])
  have e11:=zq (.lst [.ref tF]) nF
  generalize upd H10 lF (.lst [.ref tF])=H11 at s11 e11 ⊢
  have sB11:=sB9.trans (s10.trans s11)
  nofun
  refine ⟨q,lF,rs,_,rfl,rfl,sB11 _ _ eq2,e11,by rw[sz,yau];ac_rfl,fun qM nM=>?_⟩
  have s12:=ze nM (.lst (rs++[.ref tF]))
  have e12:=zq (.lst (rs++[.ref tF])) nM
  generalize upd H11 qM (.lst (rs++[.ref tF]))=H12 at s12 e12 ⊢
  have sB12:=sB11.trans s12
  have rM:RL3 H12 (rs++[.ref tF]) (es++[e]):=(hR2.same sB12).push (s12 _ _ (s11 _ _ eF))
  have s912:=s10.trans (s11.trans s12)
  obtain ⟨b2,BI2,ek2,eg2,ee2⟩:=zvt (kindOf ns) (zbW ns) (es++[e]) (fun x hx=>by
   rcases yac.mp hx with hx | hx
   ·have:=(oe x hx).2.1
    ac_rfl
   ·rw[ybm.mp hx]
    ac_rfl) (by rw[ztM ks];exact zwo oe)
  have oA:∀ x∈es++[e],OkA (baseOf ns) x:=fun x hx=>by
   rcases yac.mp hx with hx | hx
   ·exact zuB (oe x hx)
   ·rw[ybm.mp hx]
    exact ⟨hF.1,kA.rt,kA.lt,kA.out⟩
  have el2:(es++[e]).length<=31:=by rw[yag,yau];ac_rfl
  have A2:AB b2:=abA BI2 b0 (by rw[eg2];exact g0) (by rw[ee2];exact oA) (by rw[ee2];exact el2)
  nofun
  refine ⟨a,qM,ns,_,b2,baseOf ns+x4 % M-baseOf ns+1,rfl,sB12.seq hS2,e12,by rw[ee2];exact rM,by rw[ee2];exact zqx O (by ac_rfl) ks ⟨hF.1,by ac_rfl⟩,A2,ek2,eg2,by ac_rfl,by ac_rfl,by ac_rfl,fun pT2 wT2 H13 nT2 s13 eT2 tl13=>?_⟩
  nofun
  refine ⟨qM,pT2,_,wT2,b2.es,zC b2,baseOf ns,baseOf ns+x4 % M,_,rfl,s13 _ _ e12,by rw[ee2];exact rM.same s13,eT2,tl13,by rw[ee2];exact el2,by rw[ee2];exact fun x hx=>(oA x hx).day,⟨by ac_rfl,by ac_rfl⟩,fun pF wF dsF H14 nF2 s14 eF2 r14 up14 mem14=>?_⟩
  have s914:=s912.trans (s13.trans s14)
  have eL14:=s914 _ _ eL9
  have rL14:=rL9.same s914
  nofun
  refine ⟨_,_,.lst (SqL.of eF2) r14.ri.rd,.lst (SqL.of eL14) rL14.rd,zb2 _,zb2 _,?_⟩
  nofun
  refine ⟨bb,pF,A,b,baseOf ns+x4 % M,wF,dsF.map (zcu b2.es (zC b2)),_,rfl,B9.same s914,A1,⟨by ac_rfl,by ac_rfl⟩,eF2,r14.ri,fun d' u m=>by rw[hu d' u m];rfl,?_⟩
  nofun
  exact ⟨sH.trans (s5.trans (s6.trans (s7.trans (s8.trans (s9.trans s914))))),_,_,_,_,_,_,_,_,rfl⟩
 rintro σ H' ⟨sH,z1,z2,z3,z4,z5,z6,z7,z8,rfl⟩
 nofun
 exact h _
end
theorem zwn {K:W.Frag} {mg:Str->Option Value} (T:Txt K mg) (zjy:Src K mg "table_of" zgf qai) (zno:Src K mg "begun" zkU qar) (zey:Src K mg "running_sums" zcQ ["rows"]) (zlV:Src K mg "joined" zi7 ["spans"]) (zjr:Src K mg "is_whole" zga ["thing"]) (zkl:Src K mg "is_leap" zhy qag) (ziW:Src K mg "new_year" zf1 qag) (zlP:Src K mg "summed" zjb qai) (zeG:Src K mg "_law_cell_at" zcC qam) (zgK:Src K mg "_law_draws" zed qat) (zha:Src K mg "_law_value" zdY qbg) (zii:Src K mg "_law_leap" ze9 qaq) (zgN:Src K mg "_law_still" zd0 qan) (zgv:Src K mg "_law_falls" zdV qbh) (zh6:Src K mg "_law_sums" zfc qaj) (zg6:Src K mg "_law_deeds" zdO qbi) (zfL:Src K mg "_law_by_day" zc5 qaj) (zfH:Src K mg "_law_spoilt" zc8 qbj) (zfI:Src K mg "_law_forged" zdg qbk) (zjm:Src K mg "value_at" zge qbl) (zis:Src K mg "late_sums" zfe qaf) (znf:Src K mg "moved" zk1 qak) (zeq:Src K mg "turning_days" zcE qaf) (zg9:Src K mg "deeds_upto" zdK qbm) (zgo:Src K mg "month_days" zdM qaw) (zkd:Src K mg "year_of" zhr qao) (zhW:Src K mg "is_within" ze1 qay) (zlK:Src K mg "sum_by" zjv qae) (zkt:Src K mg "days_of" zhv qae) (zgQ:Src K mg "rate_table" zel qae) (zfM:Src K mg "still_spans" zdf qbn) (zjj:Src K mg "_law_row" zf9 qbo) (zh4:Src K mg "_law_base" ze0 qab) (zgP:Src K mg "_law_grace" zdZ qab) (zgU:Src K mg "_law_count" zef qab) (zcY:Src K mg "_law_month_size" zbP qau) (zhJ:Src K mg "_law_dues" ze2 qan) (zil:Src K mg "_law_unit" ze3 qab) (zds:Src K mg "_law_all_deeds" zcc qaz) (zlD:Src K mg "stands" zjl qak) (zko:Src K mg "date_of" zhg qao) (zfx:Src K mg "check_terms" zdh qba) (zfy:Src K mg "fallen_dues" zc7 qbb) (zhU:Src K mg "_law_rows" ze7 qbp) (zhF:Src K mg "_law_date" zeX qbq) (zja:Src K mg "_law_due" zf6 qbr) (zkF:Src K mg "burdens" zhj qaf) (zju:Src K mg "do_deeds" zf8 qbc) (zhK:Src K mg "_law_made" zfb qbs) (zex:Src K mg "_law_weights" zcN qbt) (zhO:Src K mg "_law_days" zeS qbu) (zgs:Src K mg "charged_by" zdW qbv) (zio:Src K mg "_law_book" zeY qbe) (zen:Src K mg "debts_behind" zcA qbw) (zhS:Src K mg "statement" ze8 qbx) (zeJ:Src K mg "statement_ok" zcR qbf) (zfP:Src K mg "_law_looked" zdd qby) (zoE:Src K mg "law" zmf qab) (zgT:zr K (cA K (Ek.cls .out)) "word" "Out.word" zf5 qaa) (zgW:zr K (cA K (Ek.cls .fee)) "word" "Fee.word" zf3 qaa) (zg4:zr K (cA K (Ek.cls .pay)) "word" "Pay.word" zf7 qaa) (zhc:zr K (cA K (Ek.cls .due)) "word" "Due.word" zgg qaa) (zfR:zr K (cA K (Ek.cls .turn)) "word" "Turn.word" zeV qaa) (zfF:zr K (cA K (Ek.cls .rate)) "word" "Rate.word" zfh qaa) (zfz:zr K (cA K (Ek.cls .late)) "word" "Late.word" zeU qaa) (zeH:zr K (cA K (Ek.cls .still)) "word" "Still.word" zdG qaa) (zfG:zr K (cA K (Ek.cls .base)) "word" "Entry.word" zdX qaa) (zjk:zr K (cA K "Due") "__init__" "AmountEntry.__init__" zac qah) (ziP:zr K (cA K "Fee") "__init__" "AmountEntry.__init__" zac qah) (zhP:zr K (cA K "Late") "__init__" "RateEntry.__init__" zaU qap) (zjn:zr K (cA K "Out") "__init__" "AmountEntry.__init__" zac qah) (ziT:zr K (cA K "Pay") "__init__" "AmountEntry.__init__" zac qah) (zh8:zr K (cA K "Rate") "__init__" "RateEntry.__init__" zaU qap) (zg5:zr K (cA K "Still") "__init__" "Still.__init__" zd7 qax) (zim:zr K (cA K "Turn") "__init__" "Entry.__init__" zbo qac) (zep:zqo K (cA K "Entry") "__init__" "Entry.__init__" zbo qac) (zh5:zr K (cA K "Debt") "grow" "Debt.grow" zeR qav) (zie:zr K (cA K "Debt") "__init__" "Debt.__init__" zfj qas) (zhI:zr K (cA K "Debt") "owed" "Debt.owed" zeW qaa) (zdm:zr K (cA K "Debt") "principal" "Debt.principal" zb5 qaa) (zgG:zr K (cA K "Debt") "units" "Debt.units" zd3 qaa) (zg7:zr K (cA K "Book") "count" "Book.count" zeg qaa) (zdr:zr K (cA K "Book") "deed_days" "Book.deed_days" zb9 qaa) (zhD:zr K (cA K "Book") "dues" "Book.dues" ze6 qaa) (zik:zr K (cA K "Book") "fees" "Book.fees" zfi qaa) (zgH:zr K (cA K "Book") "grace" "Book.grace" zd1 qaa) (zgV:zr K (cA K "Book") "lates" "Book.lates" zd9 qaa) (zhz:zr K (cA K "Book") "outs" "Book.outs" zeO qaa) (zif:zr K (cA K "Book") "pays" "Book.pays" zfa qaa) (zhb:zr K (cA K "Book") "rates" "Book.rates" zdR qaa) (zfN:zr K (cA K "Book") "stills" "Book.stills" zdb qaa) (zgq:zr K (cA K "Book") "turns" "Book.turns" zdP qaa) (zdu:zr K (cA K "Debt") "add_cents" "Debt.add_cents" zb6 qad) (zhQ:zr K (cA K "Debt") "turn" "Debt.turn" zeP qaa) (zhZ:zr K (cA K "Debt") "copy" "Debt.copy" ze5 qaa) (ziX:zr K (cA K "Debt") "fee" "Debt.fee" zgb qad) (zib:zr K (cA K "Debt") "lend" "Debt.lend" zeZ qad) (zih:zr K (cA K "Debt") "take" "Debt.take" zfg qad) (zhM:zr K (cA K "Book") "__init__" "Book.__init__" zeQ qbd) (zg0:zr K (cA K (Kd.cls .plain)) "year" "Count.year" zei qaa) (zhY:zr K (cA K (Kd.cls .bank)) "year" "Bank.year" zff qaa) (zfw:zr K (cA K (Kd.cls .thirty)) "year" "Thirty.year" zc4 qaa) (zgX:zr K (cA K (Kd.cls .exact)) "year" "Exact.year" zdQ qaa) (zgM:zr K (cA K (Kd.cls .plain)) "unit" "Count.unit" zaF qaa) (zh1:zr K (cA K (Kd.cls .bank)) "unit" "Count.unit" zaF qaa) (zfJ:zr K (cA K (Kd.cls .thirty)) "unit" "Count.unit" zaF qaa) (zgI:zr K (cA K (Kd.cls .exact)) "unit" "Count.unit" zaF qaa) (zgF:zr K (cA K (Kd.cls .plain)) "upto" "Count.upto" zb0 qac) (zh7:zr K (cA K (Kd.cls .bank)) "upto" "Count.upto" zb0 qac) (zfE:zr K (cA K (Kd.cls .thirty)) "upto" "Thirty.upto" zc9 qac) (zgy:zr K (cA K (Kd.cls .exact)) "upto" "Exact.upto" zek qac) (zew:zr K (cA K (Kd.cls .plain)) "weight" "Count.weight" zaw qal) (zfC:zr K (cA K (Kd.cls .bank)) "weight" "Count.weight" zaw qal) (zd4:zr K (cA K (Kd.cls .thirty)) "weight" "Count.weight" zaw qal) (zeM:zr K (cA K (Kd.cls .exact)) "weight" "Count.weight" zaw qal) {P:Program} {w:World} {base:Heap}:Def P w K mg base 11 "law" qab (zpY K):=by
 have zji:=zr1 (P:=P) (w:=w) (base:=base) zjy T
 have zcH:=zuL (P:=P) (w:=w) (base:=base) zno T
 have zbe:=zmM (P:=P) (w:=w) (base:=base) zey T
 have zh0:=zqy (P:=P) (w:=w) (base:=base) zh5 T
 have zcg:=zqZ (P:=P) (w:=w) (base:=base) zie T
 have zci:=zqv (P:=P) (w:=w) (base:=base) zhI T
 have zaS:=zl4 (P:=P) (w:=w) (base:=base) zdm T
 have zgR:=zp6 (P:=P) (w:=w) (base:=base) zgG T
 have zlT:=zub (P:=P) (w:=w) (base:=base) zlV T
 have ziV:=zsb (P:=P) (w:=w) (base:=base) zjr T
 have zdA:=zsX (P:=P) (w:=w) (base:=base) zkl T
 have zbb:=zr2 (P:=P) (w:=w) (base:=base) ziW T
 have zca:∀ kd:Kd,zv P w K mg base 1 (cA K kd.cls) "year" qaa (zcs kd K):=fun kd=>by
  cases kd
  ·exact zoJ .plain (by simp) zg0 T
  ·exact zrf .bank (by simp) zhY T
  ·exact zoo .thirty (by simp) zfw T
  ·exact zoT .exact (by simp) zgX T
 have zad:=zn2 (P:=P) (w:=w) (base:=base) zep T
 have zhV:=zoX (P:=P) (w:=w) (base:=base) "Turn" zim T
 have za3:∀ k:Ek,zv P w K mg base 1 (cA K k.cls) "word" qaa (zaE k K):=fun k=>by
  cases k
  ·exact zsi .out (by simp) zgT T
  ·exact zrP .fee (by simp) zgW T
  ·exact zsg .pay (by simp) zg4 T
  ·exact zr5 .due (by simp) zhc T
  ·exact zqH .turn (by simp) zfR T
  ·exact zqE .rate (by simp) zfF T
  ·exact zqV .late (by simp) zfz T
  ·exact zpi .still (by simp) zeH T
  ·exact zqe .base (by simp) zfG T
 have zeK:=zua (P:=P) (w:=w) (base:=base) zlP T
 have zdN:=zpB (P:=P) (w:=w) (base:=base) zg7 T
 have zdn:=zl7 (P:=P) (w:=w) (base:=base) zdr T
 have zck:=zrd (P:=P) (w:=w) (base:=base) zhD T
 have zhG:=zq7 (P:=P) (w:=w) (base:=base) zik T
 have zbT:=zpE (P:=P) (w:=w) (base:=base) zgH T
 have zbU:=zp3 (P:=P) (w:=w) (base:=base) zgV T
 have zh3:=zqA (P:=P) (w:=w) (base:=base) zhz T
 have zaY:=zqC (P:=P) (w:=w) (base:=base) zif T
 have zbV:=zp1 (P:=P) (w:=w) (base:=base) zhb T
 have zbz:=zoh (P:=P) (w:=w) (base:=base) zfN T
 have zg2:=zqs (P:=P) (w:=w) (base:=base) zgq T
 have zK:=znr (P:=P) (w:=w) (base:=base) zeG T
 have zaP:=zoL (P:=P) (w:=w) (base:=base) zgK T
 have zgL:=zps (P:=P) (w:=w) (base:=base) zha T
 have zaL:=zqB (P:=P) (w:=w) (base:=base) zii T
 have zb1:=zqb (P:=P) (w:=w) (base:=base) zgN T
 have zgp:=zp0 (P:=P) (w:=w) (base:=base) zgv T
 have zcj:=zqF (P:=P) (w:=w) (base:=base) zh6 T
 have zgY:=zqr (P:=P) (w:=w) (base:=base) zg6 T
 have zda:=zoq (P:=P) (w:=w) (base:=base) zfL T
 have zfK:=zoj (P:=P) (w:=w) (base:=base) zfH T
 have zfV:=zou (P:=P) (w:=w) (base:=base) zfI T
 have zcF:=zrS zjm T zcH
 have zia:=zqw zis T zbe zck zbT
 have zaq:=zlM zdu T zci
 have zhL:=zqX zhQ T zci
 have zgn:=zu6 znf T zcH
 have zer:=zmY zeq T zbV zbU zaY zck zbT zbz
 have zg8:=zpu zg9 T zh3 zhG zg2 zaY zdn
 have zdS:=zo6 zgo T zdA
 have zdw:=zsV zkd T zbb
 have zlX:∀ kd:Kd,zv P w K mg base 2 (cA K kd.cls) "unit" qaa (zku kd K):=fun kd=>by
  cases kd
  ·exact zec .plain (by simp) zgM T zca
  ·exact zec .bank (by simp) zh1 T zca
  ·exact zec .thirty (by simp) zfJ T zca
  ·exact zec .exact (by simp) zgI T zca
 have zjf:=zbE "Due" zjk T zad
 have ziY:=zbE "Fee" ziP T zad
 have zjo:=zbE "Out" zjn T zad
 have zi9:=zbE "Pay" ziT T zad
 have zhH:=zgw "Late" zhP T zad
 have zh9:=zgw "Rate" zh8 T zad
 have zgJ:=zpx "Still" zg5 T zad
 have zij:=zq4 zhW T ziV
 have zcr:=zum zlK T zeK za3
 have zks:=zsG zkt T za3
 have zeh:=zpv zgQ T zji za3
 have zfW:=zoa zfM T za3 zlT
 have zi4:=zsc zjj T zaP zgL
 have zaX:=zqY zh4 T zK
 have zbX:=zpG zgP T zK
 have zgE:=zoM zgU T zK
 have zaC:=zlf zcY T zaL
 have ziq:=zqP zhJ T zb1 zgp zcj
 have zir:=zqJ zil T zK
 have zaW:=zl2 zds T zcj
 have zid:=zri zhZ T zcg
 have zjx:=zr0 ziX T zaq
 have zic:=zqO zib T zaq
 have zhE:=zqS zih T zaq
 have zlQ:=zt2 zlD T zgn
 have zkb:=zsF zko T zdw zbb zdS
 have zfU:=zol zfx T zij
 have zfS:=zn6 zfy T zeK zcr zgn
 have zhA:=zqz zhU T zaX zaP zK zi4
 have zhC:=zqL zhF T zaL zaC
 have zdI:=zr3 zja T zaW
 have zkc:=zsy zkF T zbz zbV zbU zia zbe zaY zer zlQ zcF
 have zjs:=zrL zju T zic zjx zhL zhE
 have zdp:∀ kd:Kd,zv P w K mg base 4 (cA K kd.cls) "upto" qac (zft kd K):=fun kd=>by
  cases kd
  ·exact zj2 .plain (by simp) zgF T
  ·exact zj2 .bank (by simp) zh7 T
  ·exact zom .thirty (by simp) zfE T zkb
  ·exact zqg .exact (by simp) zgy T zdw zdA zca zbb
 have zhT:=zqK zhM T zfU zcr zks zeh zfW zfS
 have zhN:=zrc zhK T zjo ziY zhV zi9 zjf zh9 zhH zgJ
 have zeI:=zm3 zex T zhC zaC zaL
 have zjw:∀ kd:Kd,zv P w K mg base 5 (cA K kd.cls) "weight" qal (zig kd K):=fun kd=>by
  cases kd
  ·exact zcU .plain (by simp) zew T zdp
  ·exact zcU .bank (by simp) zfC T zdp
  ·exact zcU .thirty (by simp) zd4 T zdp
  ·exact zcU .exact (by simp) zeM T zdp
 have zfd:=zq6 zhO T zaX zir zbX zeI zK zb1 ziq zaW zda zgY
 have zhe:=zpz zgs T zcH zjw
 have zhX:=zqN zio T zhT zhN zbX zgE
 have zeo:=zna zen T zkc zcg zlX zdN zh0 zhe zaS zjs zid
 have zhB:=zq1 zhS T zg8 zeo zgR zaS
 have zeD:=zmS zeJ T zhB
 have za4:=zok zfP T zeD
 have zwN:=zwu zoE T zhA zhX zaX zfd zK zaP zdI zfK za4 zfV
 exact zwN
end My
local macro_rules | `(tactic| walk_at "m")=>do
 let [i,f,k,l,c,b]:=[`i,`f,`k,`l,`c,`b].map Lean.mkIdent | unreachable!
 `(tactic| ((case $i:ident=>k_is);(case $f:ident=>k_is);(case $k:ident=>k_is);(case $l:ident=>k_is);(case $c:ident=>k_is);(case $b:ident=>walk_at "s1")))
local macro_rules | `(tactic| walk_at "n")=>do
 let [a,l,c,k,b]:=[`a,`l,`c,`k,`b].map Lean.mkIdent | unreachable!
 `(tactic| ((case $a:ident=>k_is);(case $l:ident=>k_is);(case $c:ident=>k_is);(case $k:ident=>k_is);(case $b:ident=>walk_at "s1")))
namespace PySem.W.Fast
def tw2730420064485624822:=0
def tw15301830705629205100:=0
def tw14016804634970535253:=0
def tw861945956005059466:=0
def tw16108323889476987128:=0
def tw10696722300104499037:=0
def tw1513493598124823637:=0
def tw5684363083786725061:=0
def tw17171233469297479395:=0
def tw17776997612065771329:=0
def tw4984384597298083908:=0
def tw15431619622371034891:=0
def tw7480350202984980404:=0
def tw11785423401512420854:=0
def tw1000893732379528075:=0
def tw12108922983918807896:=0
def tw15122809311230105499:=0
def tw15563277834827741405:=0
def tw124739715008853127:=0
def tw628366140916602656:=0
def tw8390072686144508086:=0
def tw466377778636481375:=0
def tw13410719397457855685:=0
def tw207857268617030070:=0
def tw5310353894101474928:=0
def tw9355355830789969037:=0
def tw9440099639828339638:=0
def tw3582387026650934505:=0
def tw15627066324577530944:=0
def tw10787718387317262430:=0
def tw15106715212823729504:=0
def tw15093858031885611590:=0
def tw9473071031370665727:=0
def tw5564626474078688949:=0
def tw3046639982796242271:=0
def tw11512196366473352720:=0
def tw9889639172102348458:=0
def tw12314458388524564766:=0
def tw5666655208105615579:=0
def tw6547596873756259109:=0
def tw16575389244788488056:=0
def tw1731351313636473003:=0
def tw10680234930812428746:=0
def tw14852010007497585322:=0
def tw6691811296612717450:=0
def tw15525138668532177593:=0
def tw17503872200496423476:=0
def tw17551167678889673317:=0
def tw14817143148569484872:=0
def tw6040446412978844898:=0
def tw8753397266286508053:=0
def tw6992090898251616580:=0
def tw16925341269298054678:=0
def tw11871386621314802278:=0
def tw14787406373083951995:=0
def tw6263143781361075654:=0
def tw11363900460621532302:=0
def tw7726237870089684922:=0
def tw4069462645921858720:=0
def tw10748405438891822100:=0
def tw16840220636364061917:=0
def tw11640901921874260182:=0
def tw17967311026900324985:=0
def tw13828274727935725294:=0
def tw7444491715474029563:=0
def tw1086243369215621089:=0
def tw3222838588979163564:=0
def tw1560921982631338702:=0
def tw3206557474106925065:=0
def tw4720221863872031370:=0
def tw16835017207256830095:=0
def tw9538216021652921933:=0
def tw3147143941531167921:=0
def tw12878477420206323021:=0
def tw15653248154228182369:=0
def tw17241714898532079165:=0
def tw889387557489676597:=0
def tw16801354635599397957:=0
def tw2470841824896536422:=0
def tw3107486670067889976:=0
def tw15763204895406419709:=0
def tw14378233091593237806:=0
def tw5485348627058549153:=0
def tw1410413919530750684:=0
def tw3446818104279328267:=0
def tw8479908900346702091:=0
def tw3135416697720525933:=0
def tw16687066955239594273:=0
def tw6035205981238278159:=0
def tw1290930327935359730:=0
def tw10861367794768731820:=0
def tw9657190554645873390:=0
def tw7931134236182941181:=0
def tw17673179766946808176:=0
def tw3845110726381564364:=0
def tw2233492415196639279:=0
def tw14180593911332067009:=0
def tw7310890459055721204:=0
def tw12253014005364283349:=0
def tw17711551563374455827:=0
def tw13289105857455849928:=0
def tw6735710653617510394:=0
def tw3001416522300935497:=0
def tw14240859395562315844:=0
def tw10909795706038292369:=0
def tw17630614055980143294:=0
def tw4908225727983313505:=0
def tw10267315410322778062:=0
def tw13194730368546294745:=0
def tw7186531022523594468:=0
def tw9398451025717017928:=0
def tw5496030140546680723:=0
def tw8070699373320071472:=0
def tw1787257804928481451:=0
def tw3730706419249411769:=0
def tw5343781302767800308:=0
def tw7814951067307323672:=0
def tw8800758312904451521:=0
def tw10410278708727150780:=0
def tw8500209076916277020:=0
def tw2992655844006142651:=0
def tw5958706998755013831:=0
def tw7958843999003316920:=0
def tw12145035219690963160:=0
def tw16726503680410232014:=0
def tw3955794634570952804:=0
def tw15870668379015907963:=0
def tw901666496290011400:=0
def tw8992336717396577741:=0
def tw13982040635395853763:=0
def tw17661338276113087949:=0
def tw7969603438009505547:=0
def tw6114974476997268068:=0
def tw17028783249653764834:=0
def tw14037800360072396503:=0
def tw3835850162283342973:=0
def tw12187973385630074748:=0
def tw15226834832501018098:=0
def tw9528979512557005790:=0
def tw11357327067321733542:=0
def tw17330271999043148850:=0
def tw5740230901510792833:=0
def tw1567713828285979587:=0
def tw8348412245826261026:=0
def tw6810352287511365760:=0
def tw7544175331351799618:=0
def tw9386229411075070524:=0
def tw336630803170154999:=0
def tw11645311901130088148:=0
def tw16395434422688189274:=0
def tw9348748464350898573:=0
def tw13091662554498701539:=0
def tw7460727630259282627:=0
def tw556243139326740851:=0
def tw14688419227139101215:=0
def tw5725929637632770436:=0
def tw17188119154554236708:=0
def tw9758538206430092775:=0
def tw16715128364758420811:=0
def tw1752845338838247663:=0
def tw13749927510553908359:=0
def tw9897964375000947975:=0
def tw14853974443379092765:=0
def tw9711468612977823324:=0
def tw13669889659821374580:=0
def tw160261372005390527:=0
def tw3806465398275377342:=0
def tw134000623652583841:=0
def tw3520217799088761037:=0
def tw973086113019428749:=0
def tw10410001703241281603:=0
def tw1205770531831602615:=0
def tw1735598708363889041:=0
def tw13015941790806466718:=0
def tw8016365252297317219:=0
def tw37621453267641064:=0
def tw12451385796712709222:=0
def tw5758077588683198353:=0
def tw10041374173622616733:=0
def tw14043533136237470628:=0
def tw11314869915268163558:=0
def tw2175507353670958916:=0
def tw8899975110416151668:=0
def tw1394202514328247430:=0
def tw7040548122506563880:=0
def tw3481421354459897739:=0
def tw15338120474650838136:=0
def tw15146322364052699086:=0
def tw3506692835553380156:=0
def tw9270593051217787901:=0
def tw12802702907855144616:=0
def tw5203853231826876792:=0
def tw12982240030580540239:=0
def tw6306998950093725668:=0
def tw1435286117104946283:=0
def tw7912072629887026002:=0
def tw6088437990265540598:=0
def tw14021132989899715135:=0
def tw13786424690950028987:=0
def tw16965102671929253197:=0
def tw8881685240919746955:=0
def tw12720392297853986827:=0
def tw593652606016783005:=0
def tw12070888193629158817:=0
def tw13472235353691532351:=0
def tw572872631128439445:=0
def tw15181386383532100963:=0
def tw16719649011648771530:=0
def tw8429941107272289619:=0
def tw15940037814797052597:=0
def tw3910602428189920880:=0
def tw14395893429830457261:=0
def tw16834960671775629140:=0
def tw10800412308058082782:=0
def tw486713897304899601:=0
def tw14111567715148606811:=0
def tw15813204190798144891:=0
def tw7464753375700677417:=0
def tw1213711839041732917:=0
def tw16203998002454617233:=0
def tw567885949478880363:=0
def tw16204135849434962371:=0
def tw17274061857642261255:=0
def tw14780420319415327696:=0
def tw2038441776632592595:=0
def tw7200738093184531109:=0
def tw13904033691602128398:=0
def tw17496592492841390922:=0
def tw4610387620511764024:=0
def tw2684588629288999985:=0
def tw15888744783666401112:=0
def tw5795258547011538385:=0
def tw10727069151908928370:=0
def tw15455308308260630600:=0
def tw854583728828429891:=0
def tw3522785162459924577:=0
def tw7174911799664551320:=0
def tw10976750665734649540:=0
def tw461556910466634667:=0
def tw4663310402833986065:=0
def tw8344799483040903596:=0
def tw6304293441832184213:=0
def tw15998342228839851427:=0
def tw9137227146919836196:=0
def tw5838129597248825649:=0
def tw15211060454158297798:=0
def tw15340541287007035225:=0
def tw10055812567868641602:=0
def tw2203460240911782669:=0
def tw7288138589210808364:=0
def tw16880153012623195837:=0
def tw9427540383421468217:=0
def tw11242187585309416201:=0
def tw11442368660706087344:=0
def tw4977927849146182472:=0
def tw9948507259060445374:=0
def tw1058053223094091138:=0
def tw2638117126994221434:=0
def tw13513768780909405848:=0
def tw9553582536238055748:=0
def tw2576654330234695120:=0
def tw8396519980360137046:=0
def tw2049493726756292086:=0
def tw5594160295220779827:=0
def tw3848368397992976847:=0
def tw8022472469773846623:=0
def tw4367482995150174244:=0
def tw16042897496110866648:=0
def tw16608831615190108353:=0
def tw11717299335153515297:=0
def tw17451963235393157669:=0
def tw15365251789745933258:=0
def tw2344077606977063619:=0
def tw16232934197731462144:=0
def tw1532653066016975269:=0
def tw15012538030612787955:=0
def tw13756504340565850330:=0
def tw1816884031395496688:=0
def tw209070473819241509:=0
def tw13343500373444625961:=0
def tw7893106014119446362:=0
def tw7510764822539123845:=0
def tw12312722738805829281:=0
def tw15914244464279955247:=0
def tw3447335534987285278:=0
def tw18155317388257933346:=0
def tw14805131003357033275:=0
def tw16103812019229115787:=0
def tw13749862200334913234:=0
def tw2001016989607522541:=0
def tw18049037937779417229:=0
def tw2822712793837835389:=0
def tw6442704926523292466:=0
def tw3891603315516907767:=0
def tw3921421615404043101:=0
def tw18102131115826920974:=0
def tw8295127343211051815:=0
def tw5438730220753006561:=0
def tw17615541001046418054:=0
def tw6825897787631964298:=0
def tw7116580439892372325:=0
def tw6416624561247095695:=0
def tw1556628357148440451:=0
def tw6637084243133524591:=0
def tw18160674227968079088:=0
def tw11452269092389808487:=0
def tw2082198693387221324:=0
def tw11238810499283997473:=0
def tw13485089360032073574:=0
def tw18134453656190989608:=0
def tw16573311217170466052:=0
def tw12116521571064843120:=0
def tw6932153512024225364:=0
def tw6323927285315081830:=0
def tw7868926004936131668:=0
def tw987194821394689106:=0
def tw8700531731198928159:=0
def tw16385164046513821655:=0
def tw11292567908011844569:=0
def tw9807584510224657191:=0
def tw9639523208359640676:=0
def tw1126465799289052221:=0
def tw10105018369210043360:=0
def tw10591980194463349462:=0
def tw5525583957525791074:=0
def tw3649383570687189206:=0
def tw10666047067800487092:=0
def tw1226020149012944476:=0
def tw3652026928400976254:=0
def tw14488588975564994680:=0
def tw8513559083983443808:=0
def tw9133662494461989490:=0
def tw8869432276335608052:=0
def tw531614140951220245:=0
def tw7768063149677205523:=0
def tw13500901092472543856:=0
def tw13096977953419196379:=0
def tw17354426200840418596:=0
def tw2047412816928666360:=0
def tw3333899267282626669:=0
def tw8883926844495413790:=0
def tw10344187018724212448:=0
def tw2363375765473062910:=0
def tw822982556871976526:=0
def tw12850939180883603270:=0
def tw17857915266960128779:=0
def tw1423476209169271562:=0
def tw3046857094933270807:=0
def tw14177993996338785056:=0
def tw9523822032720232717:=0
def tw13927095385026195956:=0
def tw2093520298652784331:=0
def tw4875003305589048100:=0
def tw1950368435285804419:=0
def tw946496627811154949:=0
def tw14506331776838527254:=0
def tw2593475852131082584:=0
def tw14094340176249214226:=0
def tw14843660750495842045:=0
def tw11806642382044251039:=0
def tw5545417234395087852:=0
def tw11452471806268826441:=0
def tw5475578086884225842:=0
def tw9560805664953034423:=0
def tw1795808286680201856:=0
def tw10764122899961232019:=0
def tw17302715638285339776:=0
def tw17644081124020341956:=0
def tw9509832407791562381:=0
def tw1386309699433636975:=0
def tw9531101923880161224:=0
def tw12221322716124820549:=0
def tw9821192050027750802:=0
def tw7941093280688853628:=0
def tw5017554397020157712:=0
def tw10089542702565541237:=0
def tw9589765197888995403:=0
def tw14065774471627517563:=0
def tw7098093337901824483:=0
def tw4029458982580828097:=0
def tw4044155635124462775:=0
def tw2322413969907106516:=0
def tw6542817537954119646:=0
def tw2045525982232571286:=0
def tw5118493195797225388:=0
def tw2179269645247303043:=0
def tw10199261681440781088:=0
def tw7575343628196138177:=0
def tw1065797420403907826:=0
def tw12553179711433493189:=0
def tw1547247034733619368:=0
def tw14698906504250779540:=0
def tw5447532473710457982:=0
def tw18152304268051285850:=0
def tw11333726797044761942:=0
def tw638182190730793616:=0
def tw12326059458074769764:=0
def tw14064115399519536741:=0
def tw2183086208677325808:=0
def tw10459324942710905475:=0
def tw12430806945352536208:=0
def tw9003494537793008767:=0
def tw16065911365952498416:=0
def tw4108857168009517844:=0
def tw7300293085325454344:=0
def tw6218532298462645005:=0
def tw2770115658246165778:=0
def tw418782215341695825:=0
def tw9927275022146360414:=0
def tw13484652299716590161:=0
def tw12978455709523382047:=0
def tw7163267494269328918:=0
def tw3457333047831036522:=0
def tw10871643934197674066:=0
def tw1015364236259765118:=0
def tw14979378937177948927:=0
def tw1953241918286672981:=0
def tw17760767038163402461:=0
def tw12303725213424029426:=0
def tw11920279232774994091:=0
def tw5802971031059161014:=0
def tw15603378598627069799:=0
def tw4044219264444127741:=0
def tw2547113288430132780:=0
def tw8027326935302415372:=0
def tw4516088125094206158:=0
def tw4015822593179882500:=0
def tw4465393560142542883:=0
def tw13452358988183702850:=0
def tw1782825120029774762:=0
def tw3495852766126572091:=0
def tw18104140441312783005:=0
def tw10470170506589535594:=0
def tw11626460122536198885:=0
def tw7037899523186083102:=0
def tw14586407358702070956:=0
def tw14148083793894288248:=0
def tw7101826939410879849:=0
def tw18029104724561211924:=0
def tw2608773955903033979:=0
def tw15790519320024661631:=0
def tw16728972216730073450:=0
def tw9081273527650130651:=0
def tw16953540747333799448:=0
def tw18248766590382891403:=0
def tw10011332205578823308:=0
def tw8825359877041114871:=0
def tw3576213205149735305:=0
def tw9110625255292817925:=0
def tw16388737999149992942:=0
def tw7564821141255642730:=0
def tw17602663845533699469:=0
def tw18305641863874830957:=0
def tw7239384020074683387:=0
def tw3599668816279316341:=0
def tw1755684305634756988:=0
def tw9177809336854470925:=0
def tw6376024319976865345:=0
def tw4987665033919584133:=0
def tw3728651692729483560:=0
def tw18174255274291597389:=0
def tw14743031986980933876:=0
def tw7560884995659507240:=0
def tw4793920702125839515:=0
def tw4066831891711433417:=0
def tw14447952879679660762:=0
def tw11381492130889709289:=0
def tw12692918852708264114:=0
def tw11606855511313915747:=0
def tw16407588424258902338:=0
def tw6556098995479024058:=0
def tw8187195212457731126:=0
def tw16937269973967857221:=0
def tw6699978158722709407:=0
def tw4774018249256901615:=0
def tw73965111728119424:=0
def tw7754455974392769974:=0
def tw16805720871077307788:=0
def tw3176756281462563703:=0
def tw14607041739394219134:=0
def tw16105321344246329561:=0
def tw8606245407109424672:=0
def tw15241499871768132812:=0
def tw8959337910875751589:=0
def tw65837816081120791:=0
def tw1658717682440540326:=0
def tw15587489687942217159:=0
def tw5104255835033854104:=0
def tw4505341607391772184:=0
def tw5975514885527106881:=0
def tw3806838465512089218:=0
def tw7217891377019002395:=0
def tw8878863026077117260:=0
def tw11825812454321301714:=0
def tw4779220417960101989:=0
def tw8297875519960170995:=0
def tw16223978477539512676:=0
def tw6478316456490633658:=0
def tw7660267230917940351:=0
def tw13039401068378615083:=0
def tw13931966111910465656:=0
def tw15634950609778529999:=0
def tw11512906223434563205:=0
def tw13979029142044169645:=0
def tw8362124401042983204:=0
def tw8796604747383901428:=0
def tw14531790846963995015:=0
def tw12742023021264442845:=0
def tw13403743359627506686:=0
def tw4963618012917226850:=0
def tw12595319275807251196:=0
def tw4133422322901798518:=0
def tw15524324444040876138:=0
def tw1937199778161564751:=0
def tw3429607769636273936:=0
def tw1627870903821559314:=0
def tw13233407173162519518:=0
def tw3504134116315611216:=0
def tw5937950600818174991:=0
def tw7377129625614738340:=0
def tw7105124924190098873:=0
def tw7109801943699773427:=0
def tw7750064568478065098:=0
def tw18274166165970157596:=0
def tw6442114131414371647:=0
def tw14377473167350908050:=0
def tw2666004112238006717:=0
def tw7120058753006507149:=0
def tw2305073414249932797:=0
def tw4208782328857785690:=0
def tw3211262393098325820:=0
def tw4384283639575304556:=0
def tw14796198747022755574:=0
def tw4890779335917136324:=0
def tw8179959531541841514:=0
def tw18297649006874673286:=0
def tw13385347370010781877:=0
def tw13074096095032702020:=0
def tw9773731341702240327:=0
def tw11198052619003739438:=0
def tw4734461623491532815:=0
def tw16608980058505432256:=0
def tw9968828993708557395:=0
def tw15901003993565074455:=0
def tw4099589609393894161:=0
def tw13594662869275362310:=0
def tw2118640080509480623:=0
def tw3774127576384663066:=0
def tw6942643526881779576:=0
def tw5453138936993198470:=0
def tw867109913371119823:=0
def tw9773963229823986317:=0
def tw16249693366867364501:=0
def tw806082121107105868:=0
def tw9492109140353711828:=0
def tw5764808363001073056:=0
def tw7881689308383224869:=0
def tw938228314036770407:=0
def tw2708928183977039820:=0
def tw1256540431322475756:=0
def tw12637422904775725972:=0
def tw4322481637098668870:=0
def tw8648350850864329330:=0
def tw7177933019852403740:=0
def tw16758984880778090600:=0
def tw5660075246967850729:=0
def tw1411141429566056727:=0
def tw9544202050429798020:=0
def tw5645642305811229101:=0
def tw17719010092913678651:=0
def tw10898951532196314444:=0
def tw4600465944385950962:=0
def tw15560950805812804604:=0
def tw9177693629838982367:=0
def tw18411932729142085975:=0
def tw8808197404436109673:=0
def tw4216760011596239847:=0
def tw15644808986857067980:=0
def tw4250271011342278921:=0
def tw4125579029983688139:=0
def tw14995820362157600843:=0
def tw17131893237704413407:=0
def tw6112604886992787851:=0
def tw5369133018507672355:=0
def tw5510926227008025132:=0
def tw5611839999929286298:=0
def tw2376756607720305566:=0
def tw6036258616558614825:=0
def tw14744272985058708865:=0
def tw7604238906124975447:=0
def tw9583771137860268056:=0
def tw13812848885364984253:=0
def tw11073179401068120279:=0
def tw15946318791979347667:=0
def tw11741875251512854800:=0
def tw14362084573085851902:=0
def tw17007712573930649496:=0
def tw5088096862300579961:=0
def tw1348603551075371896:=0
def tw7333465031396623930:=0
def tw440411034106758188:=0
def tw11056313729288145787:=0
def tw14952972636053894645:=0
def tw18147082267449926023:=0
def tw13174176927992709128:=0
def tw15010084044910053907:=0
def tw12997996670140615863:=0
def tw13022249355375298500:=0
def tw8327047575957703004:=0
def tw11039104906311342013:=0
def tw3785846628028382336:=0
def tw16716697392733957150:=0
def tw18242584672147700281:=0
def tw17574643054500725972:=0
def tw434600318245334933:=0
def tw7052192987371415389:=0
def tw16447205276644016774:=0
def tw11609042812567865818:=0
def tw15406543262886004501:=0
def tw4886400009262610579:=0
def tw9711388054044527808:=0
def tw11559617357037840183:=0
def tw1962718698727480993:=0
def tw12757915231590724677:=0
def tw15123422680933596737:=0
def tw17893785852537979005:=0
def tw3451328549061424272:=0
def tw6464351541915435976:=0
def tw17294049829074691307:=0
def tw12984273969272977960:=0
def tw7657070193612299106:=0
def tw3417341610897619675:=0
def tw9323835895965775733:=0
def tw3466974244050355027:=0
def tw9238883458056444858:=0
def tw1169140600466041827:=0
def tw8320178741089782758:=0
def tw9662972362318336576:=0
def tw17374897859966468824:=0
def tw17054650392836422177:=0
def tw16161810486787230036:=0
def tw1469501718520327058:=0
def tw10814463391003078805:=0
def tw11896005792823358168:=0
def tw16957587538537156646:=0
def tw2186449375072223896:=0
def tw16237443280889506322:=0
def tw4302658663109422616:=0
def tw18406048799865894094:=0
def tw6482787797231751323:=0
def tw17209561188882368163:=0
def tw1694652857180175581:=0
def tw3990437168897397926:=0
def tw10787580475536149368:=0
def tw1334834763998508744:=0
def tw17138609019343969502:=0
def tw2965926364926100493:=0
def tw7569475637506100201:=0
def tw16950275004813721862:=0
def tw18020462996374700119:=0
def tw12143855489451956542:=0
def tw2519949374217351717:=0
def tw2679308328091578471:=0
def tw1301980118643185724:=0
def tw14504453880354183816:=0
def tw17397126270908445033:=0
def tw8640258063276307402:=0
def tw18124477633288561782:=0
def tw10070605195418895774:=0
def tw18205395188276312705:=0
def tw15816423597360209792:=0
def tw13687607331665479839:=0
def tw2155470698066196194:=0
def tw8801552907546247905:=0
def tw5492380231607748524:=0
def tw12269076796207810986:=0
def tw18286225083610005444:=0
def tw14814921162578787437:=0
def tw3670892396018149001:=0
def tw6891433989007947220:=0
def tw14976421942825676097:=0
def tw3614251569685842308:=0
def tw8564766457424225837:=0
def tw2273263581815535162:=0
def tw8208497641389598418:=0
def tw16688227041838961603:=0
def tw5611309132508616287:=0
def tw4470621804800196694:=0
def tw13056231673612504843:=0
def tw701638308754936147:=0
def tw14584417520690173798:=0
def tw16068093978636441688:=0
def tw14760983521085307357:=0
def tw3742296301030438034:=0
def tw2105026401733698524:=0
def tw13735354475283149560:=0
def tw5371630522671307394:=0
def tw8046249565796836104:=0
def tw13895989405226330445:=0
def tw17311800161788254078:=0
def tw8608953518017971628:=0
def tw17025976471809367627:=0
def tw3225096166596201735:=0
def tw12189641789300652830:=0
def tw10059736065653890403:=0
def tw6323265573273698213:=0
def tw13464064764374711425:=0
def tw6071369331428341733:=0
def tw7113567013854672360:=0
def tw8641020329520179594:=0
def tw11380695660155305045:=0
def tw590716606920912651:=0
def tw12043751920018528390:=0
def tw17452069122221561274:=0
def tw14688564290203981599:=0
def tw16392673310319913086:=0
def tw3935162006240847467:=0
def tw14134555145951914219:=0
def tw3790386945982312749:=0
def tw6008608574702822853:=0
def tw7667650200474296862:=0
def tw18359474602915737792:=0
def tw9386074275567489739:=0
def tw4845202681672826104:=0
def tw6004407585376764156:=0
def tw16873900241654943199:=0
def tw1475940406440601837:=0
def tw2042486141048977513:=0
def tw10761691431956082546:=0
def tw1885150211391849887:=0
def tw17963192988856192899:=0
def tw5334373870198590598:=0
def tw7643252536001516961:=0
def tw18300171349548649663:=0
def tw5661554147614864259:=0
def tw12811301567759086195:=0
def tw17658578256159549765:=0
def tw18123231864003184524:=0
def tw5554485352512182468:=0
def tw13428837292355584433:=0
def tw9089152958058314159:=0
def tw16551523879060423354:=0
def tw13689738549977608897:=0
def tw3179954062637793000:=0
def tw12552109384435395053:=0
def tw17892867541052624184:=0
def tw4607740517380388490:=0
def tw12022133383380528783:=0
def tw3418681415974208890:=0
def tw1787421893132077318:=0
def tw12527653480854331097:=0
def tw11489780824175211024:=0
def tw16692362215560490310:=0
def tw9422861387125615542:=0
def tw1781841242708377718:=0
def tw7963108923236326538:=0
def tw7833725909075946792:=0
def tw3387142935339191474:=0
def tw5476166305743173761:=0
def tw6004884453393838093:=0
def tw11403890254804027543:=0
def tw8163691216463525872:=0
def tw7011064735839119960:=0
def tw13584904271142043340:=0
def tw13661441707221273924:=0
def tw6703717115705510618:=0
def tw18197994228402916780:=0
def tw5256464586669231973:=0
def tw5343690044929058105:=0
def tw10621082579301094799:=0
def tw16256067460744186518:=0
def tw12756454468727402252:=0
def tw14112870592903276489:=0
def tw2740830570970476748:=0
def tw12977929067516941475:=0
def tw10571735712050454369:=0
def tw13155778323206039262:=0
def tw14337868126088350164:=0
def tw1747305923668842093:=0
def tw3478953660317694799:=0
def tw17593818627003592839:=0
def tw1251560677536289196:=0
def tw9802522807384641331:=0
def tw17751514666916479760:=0
def tw9879457803715023744:=0
def tw18232164711857853830:=0
def tw676303339170561727:=0
def tw10582905074251309013:=0
def tw7733492469794413222:=0
def tw11853219674679333897:=0
def tw12589150992218928538:=0
def tw13679653283415320144:=0
def tw12571882806401457642:=0
def tw17188554981447793478:=0
def tw5099786626126664919:=0
def tw14640375797424266546:=0
def tw12236443186214785454:=0
def tw15214572239085967557:=0
def tw4830548493773129593:=0
def tw813551575701309236:=0
def tw12268090062329172239:=0
def tw2648052194712919799:=0
def tw11395613018420919036:=0
def tw7744762811792464701:=0
def tw6112489983908455083:=0
def tw3174750836812427817:=0
def tw18007634493599421429:=0
def tw8150893779606485375:=0
def tw5584101446765463004:=0
def tw2686993874674480979:=0
def tw17562867021156667835:=0
def tw7209121753078495601:=0
def tw11676018025317067322:=0
def tw11149853681560717732:=0
def tw8525329357856710635:=0
def tw15432304940905207826:=0
def tw9991004506948997789:=0
def tw1956500682872807241:=0
def tw13257511142245509091:=0
def tw4933457872577076088:=0
def tw1478170617622302955:=0
def tw9878199530841685894:=0
def tw3358744205045650711:=0
def tw12430866543393534931:=0
def tw9923720471389061515:=0
def tw1233871455840742512:=0
def tw11556341815893111061:=0
def tw6632441827692350871:=0
def tw15436472941205622457:=0
def tw11387184507923537675:=0
def tw13764031954422217481:=0
def tw1067010551954419845:=0
def tw4309110696236072135:=0
def tw3259094316671576859:=0
def tw2940543847712836445:=0
def tw15350321150362928201:=0
def tw17595333876284107731:=0
def tw8080267212163265369:=0
def tw10056326880252666695:=0
def tw14085386684304092311:=0
def tw9272787265711971544:=0
def tw2468694850183473851:=0
end PySem.W.Fast
open PySem PySem.W PyProof.Rows
set_option maxRecDepth 100000 in
set_option maxHeartbeats 0 in
theorem PySem.Challenge.cw_loanroll_k49_statements_looked_at_holds : PySem.Challenge.rw_loanroll_k49_statements_looked_at.Holds := by
 w_on;o_law;k_head;(case hw=>w_witness2)
 k_fill
 refine L2.ztC (l:=PySem.Challenge.rw_loanroll_k49_statements_looked_at) (lv:=11) (sp:=My.zpY) (x:="_law_script") (st:=My.zmf) rfl rfl rfl ⟨rfl,by decide,by decide⟩ (fun w h Y=>PySem.W.kIn_of Y) ?F (fun K H a ns hl hS=>⟨a,ns,rfl,hS,hl,fun _=>rfl⟩)
 case F =>
  intro w mg h KX G
  have zmw:mg "bool" = none:=PySem.W.mg_none_of KX G (by k_is)
  have zfr:mg "dict" = none:=PySem.W.mg_none_of KX G (by k_is)
  have zdc:mg "int" = none:=PySem.W.mg_none_of KX G (by k_is)
  have zbY:mg "isinstance" = none:=PySem.W.mg_none_of KX G (by k_is)
  have zd2:mg "len" = none:=PySem.W.mg_none_of KX G (by k_is)
  have zbl:mg "list" = none:=PySem.W.mg_none_of KX G (by k_is)
  have zc6:mg "max" = none:=PySem.W.mg_none_of KX G (by k_is)
  have zcO:mg "min" = none:=PySem.W.mg_none_of KX G (by k_is)
  have zdy:mg "range" = none:=PySem.W.mg_none_of KX G (by k_is)
  have ziZ:mg "set" = none:=PySem.W.mg_none_of KX G (by k_is)
  have zbG:mg "sorted" = none:=PySem.W.mg_none_of KX G (by k_is)
  have zkR:mg "tuple" = none:=PySem.W.mg_none_of KX G (by k_is)
  have a_Bank:=by
   refine' L2.zbh (x:="Bank") KX ?a
   (case a=>k_is)
  have a_Book:=by
   refine' L2.zbh (x:="Book") KX ?a
   (case a=>k_is)
  have a_Count:=by
   refine' L2.zbh (x:="Count") KX ?a
   (case a=>k_is)
  have a_Debt:=by
   refine' L2.zbh (x:="Debt") KX ?a
   (case a=>k_is)
  have a_Due:=by
   refine' L2.zbh (x:="Due") KX ?a
   (case a=>k_is)
  have a_Entry:=by
   refine' L2.zbh (x:="Entry") KX ?a
   (case a=>k_is)
  have a_Exact:=by
   refine' L2.zbh (x:="Exact") KX ?a
   (case a=>k_is)
  have a_Fee:=by
   refine' L2.zbh (x:="Fee") KX ?a
   (case a=>k_is)
  have a_Late:=by
   refine' L2.zbh (x:="Late") KX ?a
   (case a=>k_is)
  have a_Out:=by
   refine' L2.zbh (x:="Out") KX ?a
   (case a=>k_is)
  have a_Pay:=by
   refine' L2.zbh (x:="Pay") KX ?a
   (case a=>k_is)
  have a_Rate:=by
   refine' L2.zbh (x:="Rate") KX ?a
   (case a=>k_is)
  have a_Still:=by
   refine' L2.zbh (x:="Still") KX ?a
   (case a=>k_is)
  have a_Thirty:=by
   refine' L2.zbh (x:="Thirty") KX ?a
   (case a=>k_is)
  have a_Turn:=by
   refine' L2.zbh (x:="Turn") KX ?a
   (case a=>k_is)
  have cls_Count:=by
   refine' L2.zbi a_Count ?_ ?_ ?_ ?_
   all_goals k_is
  have zsA:=by
   refine' L2.zmd a_Count ?_ ?_ ?_
   all_goals k_is
  have cls_Bank:=by
   refine' L2.zbi a_Bank ?_ ?_ ?_ ?_
   all_goals k_is
  have ztA:=by
   refine' L2.zmd a_Bank ?_ ?_ ?_
   all_goals k_is
  have cls_Thirty:=by
   refine' L2.zbi a_Thirty ?_ ?_ ?_ ?_
   all_goals k_is
  have zsp:=by
   refine' L2.zmd a_Thirty ?_ ?_ ?_
   all_goals k_is
  have cls_Exact:=by
   refine' L2.zbi a_Exact ?_ ?_ ?_ ?_
   all_goals k_is
  have zsU:=by
   refine' L2.zmd a_Exact ?_ ?_ ?_
   all_goals k_is
  have zg0:=by
   refine' L2.zx (m:="year") (qual:="Count.year") (st:=My.zei) (ps:=qaa) a_Count ?i ?f ?k ?l ?c ?b
   walk_at "m"
  have zgM:=by
   refine' L2.zx (m:="unit") (qual:="Count.unit") (st:=My.zaF) (ps:=qaa) a_Count ?i ?f ?k ?l ?c ?b
   walk_at "m"
  have zgF:=by
   refine' L2.zx (m:="upto") (qual:="Count.upto") (st:=My.zb0) (ps:=qac) a_Count ?i ?f ?k ?l ?c ?b
   walk_at "m"
  have zew:=by
   refine' L2.zx (m:="weight") (qual:="Count.weight") (st:=My.zaw) (ps:=qal) a_Count ?i ?f ?k ?l ?c ?b
   walk_at "m"
  have zhY:=by
   refine' L2.zx (m:="year") (qual:="Bank.year") (st:=My.zff) (ps:=qaa) a_Bank ?i ?f ?k ?l ?c ?b
   walk_at "m"
  have zh1:=by
   refine' L2.zx (m:="unit") (qual:="Count.unit") (st:=My.zaF) (ps:=qaa) a_Bank ?i ?f ?k ?l ?c ?b
   walk_at "m"
  have zh7:=by
   refine' L2.zx (m:="upto") (qual:="Count.upto") (st:=My.zb0) (ps:=qac) a_Bank ?i ?f ?k ?l ?c ?b
   walk_at "m"
  have zfC:=by
   refine' L2.zx (m:="weight") (qual:="Count.weight") (st:=My.zaw) (ps:=qal) a_Bank ?i ?f ?k ?l ?c ?b
   walk_at "m"
  have zfw:=by
   refine' L2.zx (m:="year") (qual:="Thirty.year") (st:=My.zc4) (ps:=qaa) a_Thirty ?i ?f ?k ?l ?c ?b
   walk_at "m"
  have zfJ:=by
   refine' L2.zx (m:="unit") (qual:="Count.unit") (st:=My.zaF) (ps:=qaa) a_Thirty ?i ?f ?k ?l ?c ?b
   walk_at "m"
  have zfE:=by
   refine' L2.zx (m:="upto") (qual:="Thirty.upto") (st:=My.zc9) (ps:=qac) a_Thirty ?i ?f ?k ?l ?c ?b
   walk_at "m"
  have zd4:=by
   refine' L2.zx (m:="weight") (qual:="Count.weight") (st:=My.zaw) (ps:=qal) a_Thirty ?i ?f ?k ?l ?c ?b
   walk_at "m"
  have zgX:=by
   refine' L2.zx (m:="year") (qual:="Exact.year") (st:=My.zdQ) (ps:=qaa) a_Exact ?i ?f ?k ?l ?c ?b
   walk_at "m"
  have zgI:=by
   refine' L2.zx (m:="unit") (qual:="Count.unit") (st:=My.zaF) (ps:=qaa) a_Exact ?i ?f ?k ?l ?c ?b
   walk_at "m"
  have zgy:=by
   refine' L2.zx (m:="upto") (qual:="Exact.upto") (st:=My.zek) (ps:=qac) a_Exact ?i ?f ?k ?l ?c ?b
   walk_at "m"
  have zeM:=by
   refine' L2.zx (m:="weight") (qual:="Count.weight") (st:=My.zaw) (ps:=qal) a_Exact ?i ?f ?k ?l ?c ?b
   walk_at "m"
  have ikK_Count:=by
   refine' L2.zkN a_Count ?_ ?_ ?_ ?_
   all_goals k_is
  have kS_Count:=by
   refine' L2.zlb (v:=false) (n:="str") a_Count ?_
   kit_is
  have kK_Count_Count:=by
   refine' L2.zmI (v:=true) a_Count a_Count ?_
   kit_is
  have ikK_Bank:=by
   refine' L2.zkN a_Bank ?_ ?_ ?_ ?_
   all_goals k_is
  have kS_Bank:=by
   refine' L2.zlb (v:=false) (n:="str") a_Bank ?_
   kit_is
  have kK_Bank_Count:=by
   refine' L2.zmI (v:=true) a_Bank a_Count ?_
   kit_is
  have ikK_Thirty:=by
   refine' L2.zkN a_Thirty ?_ ?_ ?_ ?_
   all_goals k_is
  have kS_Thirty:=by
   refine' L2.zlb (v:=false) (n:="str") a_Thirty ?_
   kit_is
  have kK_Thirty_Count:=by
   refine' L2.zmI (v:=true) a_Thirty a_Count ?_
   kit_is
  have ikK_Exact:=by
   refine' L2.zkN a_Exact ?_ ?_ ?_ ?_
   all_goals k_is
  have kS_Exact:=by
   refine' L2.zlb (v:=false) (n:="str") a_Exact ?_
   kit_is
  have kK_Exact_Count:=by
   refine' L2.zmI (v:=true) a_Exact a_Count ?_
   kit_is
  have zpp:=L2.zdk KX G a_Bank
  have zpj:=L2.zdk KX G a_Book
  have zk8:=L2.zdk KX G a_Count
  have zmn:=L2.zdk KX G a_Debt
  have zsq:=L2.zdk KX G a_Due
  have ziM:=L2.zdk KX G a_Entry
  have znb:=L2.zdk KX G a_Exact
  have zsr:=L2.zdk KX G a_Fee
  have zqi:=L2.zdk KX G a_Late
  have zsm:=L2.zdk KX G a_Out
  have zrM:=L2.zdk KX G a_Pay
  have zqn:=L2.zdk KX G a_Rate
  have znx:=L2.zdk KX G a_Still
  have zlW:=L2.zdk KX G a_Thirty
  have zpU:=L2.zdk KX G a_Turn
  have zF:=by
   refine' L2.zbi a_Book ?_ ?_ ?_ ?_
   all_goals k_is
  have zmW:=by
   refine' L2.zc3 a_Book ?_ ?_
   all_goals k_is
  have zN:=by
   refine' L2.zbi a_Debt ?_ ?_ ?_ ?_
   all_goals k_is
  have zkT:=by
   refine' L2.zc3 a_Debt ?_ ?_
   all_goals k_is
  have clE_Out:=by
   refine' L2.zbi a_Out ?_ ?_ ?_ ?_
   all_goals k_is
  have clE_Fee:=by
   refine' L2.zbi a_Fee ?_ ?_ ?_ ?_
   all_goals k_is
  have clE_Pay:=by
   refine' L2.zbi a_Pay ?_ ?_ ?_ ?_
   all_goals k_is
  have clE_Due:=by
   refine' L2.zbi a_Due ?_ ?_ ?_ ?_
   all_goals k_is
  have clE_Turn:=by
   refine' L2.zbi a_Turn ?_ ?_ ?_ ?_
   all_goals k_is
  have clE_Rate:=by
   refine' L2.zbi a_Rate ?_ ?_ ?_ ?_
   all_goals k_is
  have clE_Late:=by
   refine' L2.zbi a_Late ?_ ?_ ?_ ?_
   all_goals k_is
  have clE_Still:=by
   refine' L2.zbi a_Still ?_ ?_ ?_ ?_
   all_goals k_is
  have clE_Entry:=by
   refine' L2.zbi a_Entry ?_ ?_ ?_ ?_
   all_goals k_is
  have zmR:=by
   refine' L2.zP (name:="amount") a_Out ?_
   k_is
  have zm7:=by
   refine' L2.zP (name:="amount") a_Fee ?_
   k_is
  have zmP:=by
   refine' L2.zP (name:="amount") a_Pay ?_
   k_is
  have znv:=by
   refine' L2.zP (name:="amount") a_Due ?_
   k_is
  have zmj:=by
   refine' L2.zP (name:="amount") a_Turn ?_
   k_is
  have zmm:=by
   refine' L2.zP (name:="amount") a_Rate ?_
   k_is
  have zml:=by
   refine' L2.zP (name:="amount") a_Late ?_
   k_is
  have zlz:=by
   refine' L2.zP (name:="amount") a_Still ?_
   k_is
  have zlO:=by
   refine' L2.zP (name:="amount") a_Entry ?_
   k_is
  have zqu:=by
   refine' L2.zP (name:="day") a_Out ?_
   k_is
  have zq5:=by
   refine' L2.zP (name:="day") a_Fee ?_
   k_is
  have zqR:=by
   refine' L2.zP (name:="day") a_Pay ?_
   k_is
  have zra:=by
   refine' L2.zP (name:="day") a_Due ?_
   k_is
  have zpV:=by
   refine' L2.zP (name:="day") a_Turn ?_
   k_is
  have zpQ:=by
   refine' L2.zP (name:="day") a_Rate ?_
   k_is
  have zo3:=by
   refine' L2.zP (name:="day") a_Late ?_
   k_is
  have zop:=by
   refine' L2.zP (name:="day") a_Still ?_
   k_is
  have zoB:=by
   refine' L2.zP (name:="day") a_Entry ?_
   k_is
  have zqj:=by
   refine' L2.zP (name:="rate") a_Out ?_
   k_is
  have zqq:=by
   refine' L2.zP (name:="rate") a_Fee ?_
   k_is
  have zpT:=by
   refine' L2.zP (name:="rate") a_Pay ?_
   k_is
  have zpf:=by
   refine' L2.zP (name:="rate") a_Due ?_
   k_is
  have zon:=by
   refine' L2.zP (name:="rate") a_Turn ?_
   k_is
  have zoy:=by
   refine' L2.zP (name:="rate") a_Rate ?_
   k_is
  have zov:=by
   refine' L2.zP (name:="rate") a_Late ?_
   k_is
  have znp:=by
   refine' L2.zP (name:="rate") a_Still ?_
   k_is
  have znw:=by
   refine' L2.zP (name:="rate") a_Entry ?_
   k_is
  have zn8:=by
   refine' L2.zP (name:="until") a_Out ?_
   k_is
  have zn3:=by
   refine' L2.zP (name:="until") a_Fee ?_
   k_is
  have zn7:=by
   refine' L2.zP (name:="until") a_Pay ?_
   k_is
  have zn4:=by
   refine' L2.zP (name:="until") a_Due ?_
   k_is
  have znj:=by
   refine' L2.zP (name:="until") a_Turn ?_
   k_is
  have zni:=by
   refine' L2.zP (name:="until") a_Rate ?_
   k_is
  have zng:=by
   refine' L2.zP (name:="until") a_Late ?_
   k_is
  have zmC:=by
   refine' L2.zP (name:="until") a_Still ?_
   k_is
  have zmF:=by
   refine' L2.zP (name:="until") a_Entry ?_
   k_is
  have zp9:=by
   refine' L2.zc3 a_Due ?_ ?_
   all_goals k_is
  have zpW:=by
   refine' L2.zc3 a_Fee ?_ ?_
   all_goals k_is
  have zmK:=by
   refine' L2.zc3 a_Late ?_ ?_
   all_goals k_is
  have zoO:=by
   refine' L2.zc3 a_Out ?_ ?_
   all_goals k_is
  have zo8:=by
   refine' L2.zc3 a_Pay ?_ ?_
   all_goals k_is
  have zmX:=by
   refine' L2.zc3 a_Rate ?_ ?_
   all_goals k_is
  have zlB:=by
   refine' L2.zc3 a_Still ?_ ?_
   all_goals k_is
  have zmZ:=by
   refine' L2.zc3 a_Turn ?_ ?_
   all_goals k_is
  have zgT:=by
   refine' L2.zx (m:="word") (qual:="Out.word") (st:=My.zf5) (ps:=qaa) a_Out ?i ?f ?k ?l ?c ?b
   walk_at "m"
  have zgW:=by
   refine' L2.zx (m:="word") (qual:="Fee.word") (st:=My.zf3) (ps:=qaa) a_Fee ?i ?f ?k ?l ?c ?b
   walk_at "m"
  have zg4:=by
   refine' L2.zx (m:="word") (qual:="Pay.word") (st:=My.zf7) (ps:=qaa) a_Pay ?i ?f ?k ?l ?c ?b
   walk_at "m"
  have zhc:=by
   refine' L2.zx (m:="word") (qual:="Due.word") (st:=My.zgg) (ps:=qaa) a_Due ?i ?f ?k ?l ?c ?b
   walk_at "m"
  have zfR:=by
   refine' L2.zx (m:="word") (qual:="Turn.word") (st:=My.zeV) (ps:=qaa) a_Turn ?i ?f ?k ?l ?c ?b
   walk_at "m"
  have zfF:=by
   refine' L2.zx (m:="word") (qual:="Rate.word") (st:=My.zfh) (ps:=qaa) a_Rate ?i ?f ?k ?l ?c ?b
   walk_at "m"
  have zfz:=by
   refine' L2.zx (m:="word") (qual:="Late.word") (st:=My.zeU) (ps:=qaa) a_Late ?i ?f ?k ?l ?c ?b
   walk_at "m"
  have zeH:=by
   refine' L2.zx (m:="word") (qual:="Still.word") (st:=My.zdG) (ps:=qaa) a_Still ?i ?f ?k ?l ?c ?b
   walk_at "m"
  have zfG:=by
   refine' L2.zx (m:="word") (qual:="Entry.word") (st:=My.zdX) (ps:=qaa) a_Entry ?i ?f ?k ?l ?c ?b
   walk_at "m"
  have zjk:=by
   refine' L2.zx (m:="__init__") (qual:="AmountEntry.__init__") (st:=My.zac) (ps:=qah) a_Due ?i ?f ?k ?l ?c ?b
   walk_at "m"
  have ziP:=by
   refine' L2.zx (m:="__init__") (qual:="AmountEntry.__init__") (st:=My.zac) (ps:=qah) a_Fee ?i ?f ?k ?l ?c ?b
   walk_at "m"
  have zhP:=by
   refine' L2.zx (m:="__init__") (qual:="RateEntry.__init__") (st:=My.zaU) (ps:=qap) a_Late ?i ?f ?k ?l ?c ?b
   walk_at "m"
  have zjn:=by
   refine' L2.zx (m:="__init__") (qual:="AmountEntry.__init__") (st:=My.zac) (ps:=qah) a_Out ?i ?f ?k ?l ?c ?b
   walk_at "m"
  have ziT:=by
   refine' L2.zx (m:="__init__") (qual:="AmountEntry.__init__") (st:=My.zac) (ps:=qah) a_Pay ?i ?f ?k ?l ?c ?b
   walk_at "m"
  have zh8:=by
   refine' L2.zx (m:="__init__") (qual:="RateEntry.__init__") (st:=My.zaU) (ps:=qap) a_Rate ?i ?f ?k ?l ?c ?b
   walk_at "m"
  have zg5:=by
   refine' L2.zx (m:="__init__") (qual:="Still.__init__") (st:=My.zd7) (ps:=qax) a_Still ?i ?f ?k ?l ?c ?b
   walk_at "m"
  have zim:=by
   refine' L2.zx (m:="__init__") (qual:="Entry.__init__") (st:=My.zbo) (ps:=qac) a_Turn ?i ?f ?k ?l ?c ?b
   walk_at "m"
  have zep:=by
   refine' L2.zv1 (m:="__init__") (qual:="Entry.__init__") (st:=My.zbo) (ps:=qac) a_Entry ?x1 ?x2 ?x3 ?x4 ?k ?l ?c ?b
   (case x1|x2|x3=>k_is);(case x4=>rfl);(case k|l|c=>k_is)
   case b=>exact L2.us2 fun _ _=>rfl
  have zb3:=by
   refine' L2.zP (name:="due_sums") a_Book ?_
   k_is
  have zbr:=by
   refine' L2.zP (name:="fee_sums") a_Book ?_
   k_is
  have zbN:=by
   refine' L2.zP (name:="late_rows") a_Book ?_
   k_is
  have zbs:=by
   refine' L2.zP (name:="out_sums") a_Book ?_
   k_is
  have zbL:=by
   refine' L2.zP (name:="own_count") a_Book ?_
   k_is
  have zcl:=by
   refine' L2.zP (name:="own_entries") a_Book ?_
   k_is
  have zbJ:=by
   refine' L2.zP (name:="own_grace") a_Book ?_
   k_is
  have zbn:=by
   refine' L2.zP (name:="pay_sums") a_Book ?_
   k_is
  have zbI:=by
   refine' L2.zP (name:="rate_rows") a_Book ?_
   k_is
  have zce:=by
   refine' L2.zP (name:="spans") a_Book ?_
   k_is
  have za6:=by
   refine' L2.zP (name:="turn_days") a_Book ?_
   k_is
  have zaJ:=by
   refine' L2.zP (name:="cent_units") a_Debt ?_
   k_is
  have zX:=by
   refine' L2.zP (name:="owed_units") a_Debt ?_
   k_is
  have zM:=by
   refine' L2.zP (name:="principal_cents") a_Debt ?_
   k_is
  have zh5:=by
   refine' L2.zx (m:="grow") (qual:="Debt.grow") (st:=My.zeR) (ps:=qav) a_Debt ?i ?f ?k ?l ?c ?b
   walk_at "m"
  have zie:=by
   refine' L2.zx (m:="__init__") (qual:="Debt.__init__") (st:=My.zfj) (ps:=qas) a_Debt ?i ?f ?k ?l ?c ?b
   walk_at "m"
  have zhI:=by
   refine' L2.zx (m:="owed") (qual:="Debt.owed") (st:=My.zeW) (ps:=qaa) a_Debt ?i ?f ?k ?l ?c ?b
   walk_at "m"
  have zdm:=by
   refine' L2.zx (m:="principal") (qual:="Debt.principal") (st:=My.zb5) (ps:=qaa) a_Debt ?i ?f ?k ?l ?c ?b
   walk_at "m"
  have zgG:=by
   refine' L2.zx (m:="units") (qual:="Debt.units") (st:=My.zd3) (ps:=qaa) a_Debt ?i ?f ?k ?l ?c ?b
   walk_at "m"
  have zg7:=by
   refine' L2.zx (m:="count") (qual:="Book.count") (st:=My.zeg) (ps:=qaa) a_Book ?i ?f ?k ?l ?c ?b
   walk_at "m"
  have zdr:=by
   refine' L2.zx (m:="deed_days") (qual:="Book.deed_days") (st:=My.zb9) (ps:=qaa) a_Book ?i ?f ?k ?l ?c ?b
   walk_at "m"
  have zhD:=by
   refine' L2.zx (m:="dues") (qual:="Book.dues") (st:=My.ze6) (ps:=qaa) a_Book ?i ?f ?k ?l ?c ?b
   walk_at "m"
  have zik:=by
   refine' L2.zx (m:="fees") (qual:="Book.fees") (st:=My.zfi) (ps:=qaa) a_Book ?i ?f ?k ?l ?c ?b
   walk_at "m"
  have zgH:=by
   refine' L2.zx (m:="grace") (qual:="Book.grace") (st:=My.zd1) (ps:=qaa) a_Book ?i ?f ?k ?l ?c ?b
   walk_at "m"
  have zgV:=by
   refine' L2.zx (m:="lates") (qual:="Book.lates") (st:=My.zd9) (ps:=qaa) a_Book ?i ?f ?k ?l ?c ?b
   walk_at "m"
  have zhz:=by
   refine' L2.zx (m:="outs") (qual:="Book.outs") (st:=My.zeO) (ps:=qaa) a_Book ?i ?f ?k ?l ?c ?b
   walk_at "m"
  have zif:=by
   refine' L2.zx (m:="pays") (qual:="Book.pays") (st:=My.zfa) (ps:=qaa) a_Book ?i ?f ?k ?l ?c ?b
   walk_at "m"
  have zhb:=by
   refine' L2.zx (m:="rates") (qual:="Book.rates") (st:=My.zdR) (ps:=qaa) a_Book ?i ?f ?k ?l ?c ?b
   walk_at "m"
  have zfN:=by
   refine' L2.zx (m:="stills") (qual:="Book.stills") (st:=My.zdb) (ps:=qaa) a_Book ?i ?f ?k ?l ?c ?b
   walk_at "m"
  have zgq:=by
   refine' L2.zx (m:="turns") (qual:="Book.turns") (st:=My.zdP) (ps:=qaa) a_Book ?i ?f ?k ?l ?c ?b
   walk_at "m"
  have zdu:=by
   refine' L2.zx (m:="add_cents") (qual:="Debt.add_cents") (st:=My.zb6) (ps:=qad) a_Debt ?i ?f ?k ?l ?c ?b
   walk_at "m"
  have zhQ:=by
   refine' L2.zx (m:="turn") (qual:="Debt.turn") (st:=My.zeP) (ps:=qaa) a_Debt ?i ?f ?k ?l ?c ?b
   walk_at "m"
  have zhZ:=by
   refine' L2.zx (m:="copy") (qual:="Debt.copy") (st:=My.ze5) (ps:=qaa) a_Debt ?i ?f ?k ?l ?c ?b
   walk_at "m"
  have ziX:=by
   refine' L2.zx (m:="fee") (qual:="Debt.fee") (st:=My.zgb) (ps:=qad) a_Debt ?i ?f ?k ?l ?c ?b
   walk_at "m"
  have zib:=by
   refine' L2.zx (m:="lend") (qual:="Debt.lend") (st:=My.zeZ) (ps:=qad) a_Debt ?i ?f ?k ?l ?c ?b
   walk_at "m"
  have zih:=by
   refine' L2.zx (m:="take") (qual:="Debt.take") (st:=My.zfg) (ps:=qad) a_Debt ?i ?f ?k ?l ?c ?b
   walk_at "m"
  have zhM:=by
   refine' L2.zx (m:="__init__") (qual:="Book.__init__") (st:=My.zeQ) (ps:=qbd) a_Book ?i ?f ?k ?l ?c ?b
   walk_at "m"
  have zbR:=by
   refine' L2.zgl (mg:=mg) (x:="FIRST_YEAR") (i:=2000) KX G ?a
   (case a=>k_is)
  have zjR:=by
   refine' L2.zuT (mg:=mg) (x:="LENGTHS") (xs:=[.int 31,.int 28,.int 31,.int 30,.int 31,.int 30,.int 31,.int 31,.int 30,.int 31,.int 30,.int 31]) KX G ?a ?l ?r ?z
   case a|l=>k_is
   (case r=>repeat (first | exact .nil | refine .cons ⟨_,rfl⟩ ?_))
   (case z=>decide)
  have zeC:=by
   refine' L2.zgl (mg:=mg) (x:="MOST_ENTRIES") (i:=500) KX G ?a
   (case a=>k_is)
  have zgx:=by
   refine' L2.zgl (mg:=mg) (x:="MOST_GRACE") (i:=366) KX G ?a
   (case a=>k_is)
  have zgr:=by
   refine' L2.zgl (mg:=mg) (x:="RATE_PARTS") (i:=10000) KX G ?a
   (case a=>k_is)
  have zgD:=by
   refine' L2.zgl (mg:=mg) (x:="ROUND_DAYS") (i:=146097) KX G ?a
   (case a=>k_is)
  have zfY:=by
   refine' L2.zgl (mg:=mg) (x:="ROUND_YEARS") (i:=400) KX G ?a
   (case a=>k_is)
  have zjy:=by
   refine' L2.zB (mg:=mg) (x:="table_of") (st:=My.zgf) (ps:=qai) KX G ?a ?l ?c ?k ?b
   walk_at "n"
  have zno:=by
   refine' L2.zB (mg:=mg) (x:="begun") (st:=My.zkU) (ps:=qar) KX G ?a ?l ?c ?k ?b
   walk_at "n"
  have zey:=by
   refine' L2.zB (mg:=mg) (x:="running_sums") (st:=My.zcQ) (ps:=["rows"]) KX G ?a ?l ?c ?k ?b
   walk_at "n"
  have zlV:=by
   refine' L2.zB (mg:=mg) (x:="joined") (st:=My.zi7) (ps:=["spans"]) KX G ?a ?l ?c ?k ?b
   walk_at "n"
  have zjr:=by
   refine' L2.zB (mg:=mg) (x:="is_whole") (st:=My.zga) (ps:=["thing"]) KX G ?a ?l ?c ?k ?b
   walk_at "n"
  have zkl:=by
   refine' L2.zB (mg:=mg) (x:="is_leap") (st:=My.zhy) (ps:=qag) KX G ?a ?l ?c ?k ?b
   walk_at "n"
  have ziW:=by
   refine' L2.zB (mg:=mg) (x:="new_year") (st:=My.zf1) (ps:=qag) KX G ?a ?l ?c ?k ?b
   walk_at "n"
  have zlP:=by
   refine' L2.zB (mg:=mg) (x:="summed") (st:=My.zjb) (ps:=qai) KX G ?a ?l ?c ?k ?b
   walk_at "n"
  have zeG:=by
   refine' L2.zB (mg:=mg) (x:="_law_cell_at") (st:=My.zcC) (ps:=qam) KX G ?a ?l ?c ?k ?b
   walk_at "n"
  have zgK:=by
   refine' L2.zB (mg:=mg) (x:="_law_draws") (st:=My.zed) (ps:=qat) KX G ?a ?l ?c ?k ?b
   walk_at "n"
  have zha:=by
   refine' L2.zB (mg:=mg) (x:="_law_value") (st:=My.zdY) (ps:=qbg) KX G ?a ?l ?c ?k ?b
   walk_at "n"
  have zii:=by
   refine' L2.zB (mg:=mg) (x:="_law_leap") (st:=My.ze9) (ps:=qaq) KX G ?a ?l ?c ?k ?b
   walk_at "n"
  have zgN:=by
   refine' L2.zB (mg:=mg) (x:="_law_still") (st:=My.zd0) (ps:=qan) KX G ?a ?l ?c ?k ?b
   walk_at "n"
  have zgv:=by
   refine' L2.zB (mg:=mg) (x:="_law_falls") (st:=My.zdV) (ps:=qbh) KX G ?a ?l ?c ?k ?b
   walk_at "n"
  have zh6:=by
   refine' L2.zB (mg:=mg) (x:="_law_sums") (st:=My.zfc) (ps:=qaj) KX G ?a ?l ?c ?k ?b
   walk_at "n"
  have zg6:=by
   refine' L2.zB (mg:=mg) (x:="_law_deeds") (st:=My.zdO) (ps:=qbi) KX G ?a ?l ?c ?k ?b
   walk_at "n"
  have zfL:=by
   refine' L2.zB (mg:=mg) (x:="_law_by_day") (st:=My.zc5) (ps:=qaj) KX G ?a ?l ?c ?k ?b
   walk_at "n"
  have zfH:=by
   refine' L2.zB (mg:=mg) (x:="_law_spoilt") (st:=My.zc8) (ps:=qbj) KX G ?a ?l ?c ?k ?b
   walk_at "n"
  have zfI:=by
   refine' L2.zB (mg:=mg) (x:="_law_forged") (st:=My.zdg) (ps:=qbk) KX G ?a ?l ?c ?k ?b
   walk_at "n"
  have zjm:=by
   refine' L2.zB (mg:=mg) (x:="value_at") (st:=My.zge) (ps:=qbl) KX G ?a ?l ?c ?k ?b
   walk_at "n"
  have zis:=by
   refine' L2.zB (mg:=mg) (x:="late_sums") (st:=My.zfe) (ps:=qaf) KX G ?a ?l ?c ?k ?b
   walk_at "n"
  have znf:=by
   refine' L2.zB (mg:=mg) (x:="moved") (st:=My.zk1) (ps:=qak) KX G ?a ?l ?c ?k ?b
   walk_at "n"
  have zeq:=by
   refine' L2.zB (mg:=mg) (x:="turning_days") (st:=My.zcE) (ps:=qaf) KX G ?a ?l ?c ?k ?b
   walk_at "n"
  have zg9:=by
   refine' L2.zB (mg:=mg) (x:="deeds_upto") (st:=My.zdK) (ps:=qbm) KX G ?a ?l ?c ?k ?b
   walk_at "n"
  have zgo:=by
   refine' L2.zB (mg:=mg) (x:="month_days") (st:=My.zdM) (ps:=qaw) KX G ?a ?l ?c ?k ?b
   walk_at "n"
  have zkd:=by
   refine' L2.zB (mg:=mg) (x:="year_of") (st:=My.zhr) (ps:=qao) KX G ?a ?l ?c ?k ?b
   walk_at "n"
  have zhW:=by
   refine' L2.zB (mg:=mg) (x:="is_within") (st:=My.ze1) (ps:=qay) KX G ?a ?l ?c ?k ?b
   walk_at "n"
  have zlK:=by
   refine' L2.zB (mg:=mg) (x:="sum_by") (st:=My.zjv) (ps:=qae) KX G ?a ?l ?c ?k ?b
   walk_at "n"
  have zkt:=by
   refine' L2.zB (mg:=mg) (x:="days_of") (st:=My.zhv) (ps:=qae) KX G ?a ?l ?c ?k ?b
   walk_at "n"
  have zgQ:=by
   refine' L2.zB (mg:=mg) (x:="rate_table") (st:=My.zel) (ps:=qae) KX G ?a ?l ?c ?k ?b
   walk_at "n"
  have zfM:=by
   refine' L2.zB (mg:=mg) (x:="still_spans") (st:=My.zdf) (ps:=qbn) KX G ?a ?l ?c ?k ?b
   walk_at "n"
  have zjj:=by
   refine' L2.zB (mg:=mg) (x:="_law_row") (st:=My.zf9) (ps:=qbo) KX G ?a ?l ?c ?k ?b
   walk_at "n"
  have zh4:=by
   refine' L2.zB (mg:=mg) (x:="_law_base") (st:=My.ze0) (ps:=qab) KX G ?a ?l ?c ?k ?b
   walk_at "n"
  have zgP:=by
   refine' L2.zB (mg:=mg) (x:="_law_grace") (st:=My.zdZ) (ps:=qab) KX G ?a ?l ?c ?k ?b
   walk_at "n"
  have zgU:=by
   refine' L2.zB (mg:=mg) (x:="_law_count") (st:=My.zef) (ps:=qab) KX G ?a ?l ?c ?k ?b
   walk_at "n"
  have zcY:=by
   refine' L2.zB (mg:=mg) (x:="_law_month_size") (st:=My.zbP) (ps:=qau) KX G ?a ?l ?c ?k ?b
   walk_at "n"
  have zhJ:=by
   refine' L2.zB (mg:=mg) (x:="_law_dues") (st:=My.ze2) (ps:=qan) KX G ?a ?l ?c ?k ?b
   walk_at "n"
  have zil:=by
   refine' L2.zB (mg:=mg) (x:="_law_unit") (st:=My.ze3) (ps:=qab) KX G ?a ?l ?c ?k ?b
   walk_at "n"
  have zds:=by
   refine' L2.zB (mg:=mg) (x:="_law_all_deeds") (st:=My.zcc) (ps:=qaz) KX G ?a ?l ?c ?k ?b
   walk_at "n"
  have zlD:=by
   refine' L2.zB (mg:=mg) (x:="stands") (st:=My.zjl) (ps:=qak) KX G ?a ?l ?c ?k ?b
   walk_at "n"
  have zko:=by
   refine' L2.zB (mg:=mg) (x:="date_of") (st:=My.zhg) (ps:=qao) KX G ?a ?l ?c ?k ?b
   walk_at "n"
  have zfx:=by
   refine' L2.zB (mg:=mg) (x:="check_terms") (st:=My.zdh) (ps:=qba) KX G ?a ?l ?c ?k ?b
   walk_at "n"
  have zfy:=by
   refine' L2.zB (mg:=mg) (x:="fallen_dues") (st:=My.zc7) (ps:=qbb) KX G ?a ?l ?c ?k ?b
   walk_at "n"
  have zhU:=by
   refine' L2.zB (mg:=mg) (x:="_law_rows") (st:=My.ze7) (ps:=qbp) KX G ?a ?l ?c ?k ?b
   walk_at "n"
  have zhF:=by
   refine' L2.zB (mg:=mg) (x:="_law_date") (st:=My.zeX) (ps:=qbq) KX G ?a ?l ?c ?k ?b
   walk_at "n"
  have zja:=by
   refine' L2.zB (mg:=mg) (x:="_law_due") (st:=My.zf6) (ps:=qbr) KX G ?a ?l ?c ?k ?b
   walk_at "n"
  have zkF:=by
   refine' L2.zB (mg:=mg) (x:="burdens") (st:=My.zhj) (ps:=qaf) KX G ?a ?l ?c ?k ?b
   walk_at "n"
  have zju:=by
   refine' L2.zB (mg:=mg) (x:="do_deeds") (st:=My.zf8) (ps:=qbc) KX G ?a ?l ?c ?k ?b
   walk_at "n"
  have zhK:=by
   refine' L2.zB (mg:=mg) (x:="_law_made") (st:=My.zfb) (ps:=qbs) KX G ?a ?l ?c ?k ?b
   walk_at "n"
  have zex:=by
   refine' L2.zB (mg:=mg) (x:="_law_weights") (st:=My.zcN) (ps:=qbt) KX G ?a ?l ?c ?k ?b
   walk_at "n"
  have zhO:=by
   refine' L2.zB (mg:=mg) (x:="_law_days") (st:=My.zeS) (ps:=qbu) KX G ?a ?l ?c ?k ?b
   walk_at "n"
  have zgs:=by
   refine' L2.zB (mg:=mg) (x:="charged_by") (st:=My.zdW) (ps:=qbv) KX G ?a ?l ?c ?k ?b
   walk_at "n"
  have zio:=by
   refine' L2.zB (mg:=mg) (x:="_law_book") (st:=My.zeY) (ps:=qbe) KX G ?a ?l ?c ?k ?b
   walk_at "n"
  have zen:=by
   refine' L2.zB (mg:=mg) (x:="debts_behind") (st:=My.zcA) (ps:=qbw) KX G ?a ?l ?c ?k ?b
   walk_at "n"
  have zhS:=by
   refine' L2.zB (mg:=mg) (x:="statement") (st:=My.ze8) (ps:=qbx) KX G ?a ?l ?c ?k ?b
   walk_at "n"
  have zeJ:=by
   refine' L2.zB (mg:=mg) (x:="statement_ok") (st:=My.zcR) (ps:=qbf) KX G ?a ?l ?c ?k ?b
   walk_at "n"
  have zfP:=by
   refine' L2.zB (mg:=mg) (x:="_law_looked") (st:=My.zdd) (ps:=qby) KX G ?a ?l ?c ?k ?b
   walk_at "n"
  have zoE:=by
   refine' L2.zB (mg:=mg) (x:="law") (st:=My.zmf) (ps:=qab) KX G ?a ?l ?c ?k ?b
   walk_at "n"
  exact ⟨zoE,fun base=>My.zwn (⟨zmw,zfr,zdc,zbY,zd2,zbl,zc6,zcO,zdy,ziZ,zbG,zkR,(fun kd=>match kd with | .plain=>cls_Count | .bank=>cls_Bank | .thirty=>cls_Thirty | .exact=>cls_Exact),(fun kd=>match kd with | .plain=>zsA | .bank=>ztA | .thirty=>zsp | .exact=>zsU),(fun kd=>match kd with | .plain=>ikK_Count | .bank=>ikK_Bank | .thirty=>ikK_Thirty | .exact=>ikK_Exact),(fun k=>match k with | .plain=>kK_Count_Count | .bank=>kK_Bank_Count | .thirty=>kK_Thirty_Count | .exact=>kK_Exact_Count),(fun kd=>match kd with | .plain=>kS_Count | .bank=>kS_Bank | .thirty=>kS_Thirty | .exact=>kS_Exact),zpp,zpj,zk8,zmn,zsq,ziM,znb,zsr,zqi,zsm,zrM,zqn,znx,zlW,zpU,zF,zmW,zN,zkT,(fun k=>match k with | .out=>clE_Out | .fee=>clE_Fee | .pay=>clE_Pay | .due=>clE_Due | .turn=>clE_Turn | .rate=>clE_Rate | .late=>clE_Late | .still=>clE_Still | .base=>clE_Entry),(fun k=>match k with | .out=>zmR | .fee=>zm7 | .pay=>zmP | .due=>znv | .turn=>zmj | .rate=>zmm | .late=>zml | .still=>zlz | .base=>zlO),(fun k=>match k with | .out=>zqu | .fee=>zq5 | .pay=>zqR | .due=>zra | .turn=>zpV | .rate=>zpQ | .late=>zo3 | .still=>zop | .base=>zoB),(fun k=>match k with | .out=>zqj | .fee=>zqq | .pay=>zpT | .due=>zpf | .turn=>zon | .rate=>zoy | .late=>zov | .still=>znp | .base=>znw),(fun k=>match k with | .out=>zn8 | .fee=>zn3 | .pay=>zn7 | .due=>zn4 | .turn=>znj | .rate=>zni | .late=>zng | .still=>zmC | .base=>zmF),zp9,zpW,zmK,zoO,zo8,zmX,zlB,zmZ,zb3,zbr,zbN,zbs,zbL,zcl,zbJ,zbn,zbI,zce,za6,zaJ,zX,zM,zbR,zjR,zeC,zgx,zgr,zgD,zfY⟩:My.Txt _ mg) zjy zno zey zlV zjr zkl ziW zlP zeG zgK zha zii zgN zgv zh6 zg6 zfL zfH zfI zjm zis znf zeq zg9 zgo zkd zhW zlK zkt zgQ zfM zjj zh4 zgP zgU zcY zhJ zil zds zlD zko zfx zfy zhU zhF zja zkF zju zhK zex zhO zgs zio zen zhS zeJ zfP zoE zgT zgW zg4 zhc zfR zfF zfz zeH zfG zjk ziP zhP zjn ziT zh8 zg5 zim zep zh5 zie zhI zdm zgG zg7 zdr zhD zik zgH zgV zhz zif zhb zfN zgq zdu zhQ zhZ ziX zib zih zhM zg0 zhY zfw zgX zgM zh1 zfJ zgI zgF zh7 zfE zgy zew zfC zd4 zeM⟩
