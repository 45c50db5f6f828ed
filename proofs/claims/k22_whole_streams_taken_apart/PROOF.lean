import PyProof.Rows.All
import Wide.All
import OpenK.AllK
import Wide.FinOn
import Lean
import PyProof.EqAt
import PyProof.EqKinds
import PyProof.TupleCall
import PyProof.NeKinds
import PyProof.CompFree
import PyProof.EnumMake
import KE.KTryMore
import PyProof.ExcArgsOwn
import PyProof.ZipIter
import PyProof.ListRange
import KE.KIsAll
import PyProof.InstStoreFacts
import PyProof.ExcInit
import PyProof.ReprRoads
import PyProof.CallStr
import KE.KEqDict
import PyProof.EqLayable
import KE.KRevIter
import PyProof.CollectIter
import PyProof.Rows.SetFrom
import PyProof.TupleKey
import PyProof.SetScanFacts
import KE.KSortKey
import PyProof.StrBlock2
import KE.KLam
import KE.KMinKey
import KE.KItemsList
import PyProof.AttrMiss
import KE.KDictOf
import PyProof.StrLawsRepr
import PySem.Challenge.RW_hostfields_k22_whole_streams_taken_apart
set_option bootstrap.genMatcherCode false
set_option genSizeOf false
noncomputable section
open List renaming length_map->zck9,getElem?_eq_getElem->zcl0,getElem?_eq_some_iff->zcl1,getElem?_map->zcl2,getD_eq_getElem?_getD->zcl3,mem_of_getElem?->zcl4,length_append->zcl8,size_toArray->zcl9,mem_map->zcm0,mem_cons->zcm1,map_map->zcm6,map_congr_left->zcm8,getElem?_append_right->zcm9,getElem?_eq_none->zcn0,all_eq_true->zcn1,getElem?_append_left->zcn2,length_range->zcn3,map_append->zcn4,map_cons->zcn5,length_cons->zcn6,length_take->zcn7,mem_singleton->zcn9,mem_append->zco0,mem_append_right->zco1,lookup_cons->zco3,pairwise_append->zco4,pairwise_cons->zco5,getElem?_of_mem->zco7,take_of_length_le->zco9,ext_getElem?->zcp0,getElem?_range->zcp1,length_drop->zcp5,sum_cons->zcp6,mem_cons_of_mem->zcp7,append_assoc->zcp9,mem_cons_self->zcq2,not_mem_nil->zcq3,length_nil->zcq5,take_length->zcq6,mem_range->zcq7,take_append_of_le_length->zcq8,drop_eq_getElem_cons->zcq9,pairwise_iff_getElem->zcr0,drop_eq_nil_of_le->zcr1,nodup_cons->zcr2,append_nil->zcr6,mem_append_left->zcr8,mem_of_mem_take->zcr9,length_singleton->zcs3,mem_of_mem_drop->zcs5,getElem?_drop->zcs6,find?_cons->zcs9,pairwise_map->zct2,take_append_drop->zct6,sum_append->zct7,length->zct9,replicate_succ->zcu0,map_nil->zcu5,nodup_nil->zcu7,all_map->zcu9,take_add_one->zcv1,getElem?_set->zcv2,getElem_mem->zcv3,drop_of_length_le->zcv4,filter_cons->zcv6,filter_eq_nil_iff->zcv7,getElem?_take->zcw0,filter_map->zcw1,flatten_cons->zcw2,getElem?_inj->zcw3,ext_getElem->zcw9,getElem_map->zcx0,take_succ->zcx1,map_id->zcx3
open PySem.W renaming Frag->zcl5,kitOne->zcp8,mg_none_of->zcq0,nsIn->zcq4,subIn->zcr5,kia_one->zcs1,fnOf->zcs2,findIn->zcs7,keepIn->zcu4,mg_of->zcv8,tabIn->zcw8
open Option renaming map_eq_some_iff->zcl6
open PySem.Heap renaming get?_push_of_some->zcl7,lt_size->zcm5,get?_push_size->zco2,get?_update_other->zcp3,get?_update_self->zcu2
open Bool renaming false_ne_true->zcm2,and_eq_true->zcm4,true_and->zcq1,false_eq_true->zcs0
open Nat renaming le_refl->zcm3,lt_of_lt_of_le->zcn8,ne_of_lt->zco6,zero_le->zcp2,le_trans->zcp4,min_eq_left->zcs8,lt_irrefl->zct0,lt_succ_of_lt->zct1,ne_of_gt->zcu1,le_of_lt->zcu3,zero_add->zcu6,le_add_right->zcv5,le_succ->zcv9,sub_self->zcw6,le_of_eq->zcx2
open Array renaming length_toList->zcm7,toList_append->zco8,perm_iff_toList_perm->zcr7,size_extract->zcs4,getElem?_toList->zct5,getElem_toList->zct8,toList_reverse->zcu8,toList_push->zcv0,mem_toList_iff->zcw4,toList_extract->zcw5
open Int renaming toNat_natCast->zcr3,le_refl->zcr4,le_of_lt->zct3,le_trans->zct4,zero_add->zcw7
open PySem renaming wpAny_bind->zcx4,wpAny_pure->zcx5,sizeLine_eq->zcx6,wpAny_holding->zcx7,mainGlobals->zcx8
set_option Elab.async false
set_option linter.all false
set_option maxRecDepth 100000
section
local macro_rules | `(tactic| omega)=>`(tactic| lia)
namespace L2
open PySem PySem.Spec PyProof.Rows
abbrev Key:=Sum Int Str
def zbc3:Key->Value->Bool
 | .inl k,v=>Value.isInt k v
 | .inr x,v=>Value.isStrOf x v
def keyH(w:World):Key->Int
 | .inl k=>hashInt k
 | .inr x=>hashStr w x
theorem zf4:∀ {k:Key}{v:Value},zbc3 k v=true->(∃ i t,k=Sum.inl i/\v=Value.int i t)∨(∃ x t,k=Sum.inr x/\v=Value.str x t)
 | .inl i,v,h=>by
  obtain⟨t,e⟩:=Value.isInt_shape (k:=i) (v:=v) h
  exact .inl ⟨i,t,rfl,e⟩
 | .inr x,v,h=>by
  obtain⟨t,e⟩:=Value.isStrOf_shape (x:=x) (v:=v) h
  exact .inr ⟨x,t,rfl,e⟩
theorem zbl7(i:Int)(t:Tok):zbc3 (.inl i) (.int i t)=true:=by simp[zbc3,Value.isInt]
theorem zbf5(x:Str)(t:Tok):zbc3 (.inr x) (.str x t)=true:=by simp[zbc3,Value.isStrOf]
theorem key_ll(a b:Int):decide ((Sum.inl a:Key)=Sum.inl b)=(a==b):=by
 by_cases e:a=b
 ·subst e;simp
 ·have h:¬ (Sum.inl a:Key)=Sum.inl b:=fun q=>e (Sum.inl.inj q)
  rw[decide_eq_false h]
  exact (beq_eq_false_iff_ne.mpr e).symm
theorem key_rr(a b:Str):decide ((Sum.inr a:Key)=Sum.inr b)=decide (a=b):=by
 by_cases e:a=b
 ·subst e;simp
 ·have h:¬ (Sum.inr a:Key)=Sum.inr b:=fun q=>e (Sum.inr.inj q)
  rw[decide_eq_false h,decide_eq_false e]
theorem key_lr(a:Int)(b:Str):decide ((Sum.inl a:Key)=Sum.inr b)=false:=decide_eq_false (fun q=>nomatch q)
theorem key_rl(a:Str)(b:Int):decide ((Sum.inr a:Key)=Sum.inl b)=false:=decide_eq_false (fun q=>nomatch q)
noncomputable def zh5(prog:Program)(w:World):PySem.KeyKind prog w Key where
 is:=zbc3
 hash:=keyH w
 inj:=fun v a b ha hb=>by
  rcases zf4 ha with ⟨i,t,rfl,rfl⟩|⟨x,t,rfl,rfl⟩
  ·rcases zf4 hb with ⟨j,u,rfl,e⟩|⟨y,u,rfl,e⟩
   ·injection e with e1 _;rw[e1]
   ·exact nomatch e
  ·rcases zf4 hb with ⟨j,u,rfl,e⟩|⟨y,u,rfl,e⟩
   ·exact nomatch e
   ·injection e with e1 _;rw[e1]
 byValue:=fun k v h=>by
  rcases zf4 h with ⟨i,t,rfl,rfl⟩|⟨x,t,rfl,rfl⟩<;>rfl
 pyHash:=fun hv h=>by
  rcases zf4 hv with ⟨i,t,rfl,rfl⟩|⟨x,t,rfl,rfl⟩
  ·exact wpAny_pyHash_int h
  ·exact wpAny_pyHash_str h
 eqBool:=fun hu hv h=>by
  rcases zf4 hu with ⟨i,t,rfl,rfl⟩|⟨x,t,rfl,rfl⟩
  ·rcases zf4 hv with ⟨j,u,rfl,rfl⟩|⟨y,u,rfl,rfl⟩
   ·rw[key_ll] at h;exact wpAny_eqBool_int h
   ·rw[key_lr] at h;exact SeqAt.EqAt.int_str i t y u _ _ _ _ h
  ·rcases zf4 hv with ⟨j,u,rfl,rfl⟩|⟨y,u,rfl,rfl⟩
   ·rw[key_rl] at h;exact SeqAt.EqAt.str_int x t j u _ _ _ _ h
   ·rw[key_rr] at h;exact wpAny_eqBool_str h
 «strs»:=fun k x t v h=>by
  rcases zf4 h with ⟨i,u,rfl,e⟩|⟨y,u,rfl,e⟩
  ·exact nomatch e
  ·injection e with e1 _
   subst e1
   cases v<;>rfl
theorem zax0(prog:Program)(w:World)(i:Int)(t:Tok):(zh5 prog w).is (.inl i) (.int i t)=true:=zbl7 i t
theorem zav7(prog:Program)(w:World)(x:Str)(t:Tok):(zh5 prog w).is (.inr x) (.str x t)=true:=zbf5 x t
inductive V where
 | non | bl (b:Bool) | int (i:Int) | str (x:Str) | byt (b:Array UInt8) | flt (b:UInt64) | ref (a:Addr) | ty (n:String)
 deriving DecidableEq
def RelV:V->Value->Prop
 | .non,u=>u=Value.none
 | .bl b,u=>u=Value.bool b
 | .int i,u=>∃ t,u=Value.int i t
 | .str x,u=>∃ t,u=Value.str x t
 | .byt b,u=>∃ t,u=Value.bytes b t
 | .flt b,u=>∃ t,u=Value.float b t
 | .ref a,u=>u=Value.ref a
 | .ty n,u=>u=Value.type n
abbrev Vals:List V->List Value->Prop:=Paired RelV
theorem Vals.length{xs:List V}{us:List Value}(r:Vals xs us):xs.length=us.length:=Paired.length r
theorem Vals.get:∀ {xs:List V}{us:List Value}{i:Nat}{x:V},Vals xs us->xs[i]?=some x->∃ u,us[i]?=some u/\RelV x u
 | _,_,_,_,.nil,e=>by simp at e
 | _,_,0,_,.cons r _,e=>by simp at e;subst e;exact⟨_,rfl,r⟩
 | _,_,i+1,x,.cons _ t,e=>by
  obtain⟨u,h1,h2⟩:=Vals.get (i:=i) (x:=x) t (by simpa using e)
  exact⟨u,by simpa using h1,h2⟩
theorem Vals.set{x:V}{u:Value}(r:RelV x u):∀ {xs:List V}{us:List Value}(i:Nat),Vals xs us->Vals (xs.set i x) (us.set i u)
 | _,_,_,.nil=>.nil
 | _,_,0,.cons _ t=>.cons r t
 | _,_,i+1,.cons q t=>.cons q (Vals.set r i t)
theorem Vals.append:∀ {xs ys:List V}{us ws:List Value},Vals xs us->Vals ys ws->Vals (xs++ys) (us++ws)
 | _,_,_,_,.nil,s=>s
 | _,_,_,_,.cons r t,s=>.cons r (Vals.append t s)
theorem Vals.take:∀ {xs:List V}{us:List Value}(n:Nat),Vals xs us->Vals (xs.take n) (us.take n)
 | _,_,0,_=>.nil
 | _,_,_+1,.nil=>.nil
 | _,_,n+1,.cons r t=>.cons r (Vals.take n t)
theorem Vals.drop:∀ {xs:List V}{us:List Value}(n:Nat),Vals xs us->Vals (xs.drop n) (us.drop n)
 | _,_,0,r=>r
 | _,_,_+1,.nil=>.nil
 | _,_,n+1,.cons _ t=>Vals.drop n t
def RelO:Option V->Option Value->Prop
 | some v,some u=>RelV v u
 | none,none=>True
 | _,_=>False
def KV{κ:Type}:List (κ×V)->List (κ×Value)->Prop:=Paired fun (p:κ×V) (q:κ×Value)=>p.1=q.1/\RelV p.2 q.2
def kV:Key->V
 | .inl i=>.int i
 | .inr x=>.str x
inductive HO where
 | lst (xs:List V)
 | tup (xs:List V)
 | dK (kvs:List (Key×V)) | dT (kvs:List (List Key×V))
 | set (S:Int->Bool) (n:Nat)
 | ins (C dx:Addr) (fs:List (Str×V))
 | own (x:Addr)
 | xd (fs:List (Str×V))
 | met (f x:Addr)
 | rng (lo hi:Int)
 | frz (o:Obj) (u:HO)
 | tbl (ps:Array Value)
 | ext (φ:Heap->Prop)
abbrev Hp:=Addr->Option HO
def upd(H:Hp)(a:Addr)(o:HO):Hp:=fun b=>if b=a then some o else H b
theorem zb4{H:Hp}{a:Addr}{o:HO}:upd H a o a=some o:=by unfold upd;rw[if_pos rfl]
theorem zc3{H:Hp}{a b:Addr}{o:HO}(h:b≠a):upd H a o b=H b:=by unfold upd;rw[if_neg h]
theorem ne_of{H:Hp}{a b:Addr}{o u:HO}(h:H a=some o)(h':H b=some u)(d:o≠u):a≠b:=by
 intro e;subst e;rw[h] at h';exact d (Option.some.inj h')
theorem za7{H:Hp}{a b:Addr}{o:HO}(h:H a=some o)(h':H b=none):a≠b:=by
 intro e;subst e;rw[h] at h';cases h'
section
variable (P:Program) (w:World)
noncomputable def zf9(H:Hp)(h:Heap)(a:Addr):HO->Prop
 | .lst xs=>xs.length<=sizeLine/\∃ (its:List Value) (n:Nat),Vals xs its/\h.get? a=some { cls:=.type "list",data:=.seq its.toArray n }
 | .tup xs=>xs.length<=sizeLine/\∃ its:List Value,Vals xs its/\IsTup h a its.toArray
 | .dK kvs=>kvs.length<=sizeLine/\(a==sysModules)=false/\∃ vs,KV kvs vs/\h.DictOf (zh5 P w) a vs
 | .dT kvs=>kvs.length<=sizeLine/\(a==sysModules)=false/\∃ xs:List (List Key×Addr×Value),
   Paired (fun (p:List Key×V) (q:List Key×Addr×Value)=>p.1=q.1/\H q.2.1=some (.tup (p.1.map kV))/\RelV p.2 q.2.2) kvs xs /\
   ∃ o es ep,h.get? a=some o/\o.ExactDict/\o.data=.dict es ep/\es.toList=xs.map (entryOfKey (tupleKind (zh5 P w)))/\(xs.map (·.1)).Nodup
 | .set S n=>h.SetOf (intKind P w) a S n
 | .ins C dx fs=>H dx=some (.own a)/\fs.length<=1000/\dx≠a/\h.get? a=some (PySem.W.instObj C dx) /\
   ∃ mA,h.Ns1 dx mA/\(∀ f,RelO (fs.lookup f) (mA f))/\PySem.Within mA (fs.map (·.1))
 | .own _=>∃ o,h.get? a=some o
 | .xd fs=>∃ mA,h.Ns1 a mA/\∀ f,RelO (fs.lookup f) (mA f)
 | .rng lo hi=>∃ t u v,h.get? a=some { cls:=.type "range",data:=.fields #[.int lo t,.int hi u,.int 1 v] }
 | .frz o u=>h.get? a=some o/\zf9 H h a u
 | .tbl ps=>h.get? a=some { cls:=.none,data:=.fields ps }
 | .met f x=>h.get? a=some (PySem.W.methodObj (.ref f) (.ref x))
 | .ext φ=>φ h/\(∃ o,h.get? a=some o)/\∀ h1 h2:Heap,φ h1->(∀ o,h1.get? a=some o->h2.get? a=some o)->φ h2
def HOk(H:Hp)(h:Heap):Prop:=∀ a o,H a=some o->zf9 P w H h a o
end
section
variable {P:Program}{w:World}{H H':Hp}{h h':Heap}{a:Addr}{o:HO}
theorem zf9.lt(x:zf9 P w H h a o):a<h.objs.size:=by
 cases o with
 | lst xs=>obtain⟨_,_,_,_,e⟩:=x;exact zcm5 e
 | tup xs=>obtain⟨_,_,_,p⟩:=x;exact p.lt
 | dK kvs=>obtain⟨_,_,_,_,o,_,_,e,_⟩:=x;exact zcm5 e
 | dT kvs=>obtain⟨_,_,_,_,o,_,_,e,_⟩:=x;exact zcm5 e
 | set S n=>obtain⟨o,_,_,_,e,_⟩:=x;exact zcm5 e
 | ins C dx fs=>obtain⟨_,_,_,e,_⟩:=x;exact zcm5 e
 | own y=>obtain⟨_,e⟩:=x;exact zcm5 e
 | xd fs=>obtain⟨_,⟨_,_,_,e,_⟩,_⟩:=x;exact zcm5 e
 | rng lo hi=>obtain⟨_,_,_,e⟩:=x;exact zcm5 e
 | frz ob u=>obtain⟨e,_⟩:=x;exact zcm5 e
 | tbl ps=>exact zcm5 (show h.get? a=some _ from x)
 | met f y=>exact zcm5 (show h.get? a=some _ from x)
 | ext φ=>obtain⟨_,⟨_,e⟩,_⟩:=x;exact zcm5 e
theorem Paired.mapP{α β:Type}{F G:α->β->Prop}:∀ {l₁:List α}{l₂:List β},Paired F l₁ l₂->(∀ a b,F a b->G a b)->Paired G l₁ l₂
 | _,_,.nil,_=>.nil
 | _,_,.cons r t,f=>.cons (f _ _ r) (Paired.mapP t f)
theorem zf9.stay(x:zf9 P w H h a o)(k:∀ b u,(b=a∨H b=some (.own a))->h.get? b=some u->h'.get? b=some u)(ho:∀ b,H b=some (.own a)->H' b=some (.own a))(ht:∀ b xs,H b=some (.tup xs)->H' b=some (.tup xs)):zf9 P w H' h' a o:=by
 induction o with
 | lst xs=>obtain⟨z,its,n,r,e⟩:=x;exact⟨z,its,n,r,k _ _ (.inl rfl) e⟩
 | tup xs=>obtain⟨z,its,r,ob,e,c⟩:=x;exact⟨z,its,r,ob,k _ _ (.inl rfl) e,c⟩
 | dK kvs=>obtain⟨z,y,vs,r,ob,es,ep,e,c⟩:=x;exact⟨z,y,vs,r,ob,es,ep,k _ _ (.inl rfl) e,c⟩
 | dT kvs=>
  obtain⟨z,y,xs,r,ob,es,ep,e,c⟩:=x
  exact⟨z,y,xs,Paired.mapP r fun p q z=>⟨z.1,ht _ _ z.2.1,z.2.2⟩,ob,es,ep,k _ _ (.inl rfl) e,c⟩
 | set S n=>obtain⟨ob,es,ep,t,e,c⟩:=x;exact⟨ob,es,ep,t,k _ _ (.inl rfl) e,c⟩
 | ins C dx fs=>
  obtain⟨d,z,ne,e,mA,⟨od,es,ep,e2,c⟩,r⟩:=x
  exact⟨ho _ d,z,ne,k _ _ (.inl rfl) e,mA,⟨od,es,ep,k _ _ (.inr d) e2,c⟩,r⟩
 | own y=>obtain⟨ob,e⟩:=x;exact⟨ob,k _ _ (.inl rfl) e⟩
 | xd fs=>obtain⟨mA,⟨od,es,ep,e,c⟩,r⟩:=x;exact⟨mA,⟨od,es,ep,k _ _ (.inl rfl) e,c⟩,r⟩
 | rng lo hi=>obtain⟨t,u,v,e⟩:=x;exact⟨t,u,v,k _ _ (.inl rfl) e⟩
 | frz ob u ih=>obtain⟨e,q⟩:=x;exact⟨k _ _ (.inl rfl) e,ih q⟩
 | tbl ps=>
  have e:h.get? a=some { cls:=.none,data:=.fields ps }:=x
  show h'.get? a=some { cls:=.none,data:=.fields ps }
  exact k a _ (.inl rfl) e
 | met f y=>
  have e:h.get? a=some (PySem.W.methodObj (.ref f) (.ref y)):=x
  show h'.get? a=some (PySem.W.methodObj (.ref f) (.ref y))
  exact k a _ (.inl rfl) e
 | ext φ=>obtain⟨p,⟨o,e⟩,st⟩:=x;exact⟨st _ _ p fun o q=>k _ _ (.inl rfl) q,⟨o,k _ _ (.inl rfl) e⟩,st⟩
theorem HOk.lt(x:HOk P w H h)(e:H a=some o):a<h.objs.size:=(x a o e).lt
theorem HOk.fresh(x:HOk P w H h)(e:h.objs.size<=a):H a=none:=by
 cases q:H a with
 | none=>rfl
 | some u=>exact absurd (zcn8 (x.lt q) e) (zct0 _)
theorem HOk.kept(x:HOk P w H h)(k:∀ b u,h.get? b=some u->h'.get? b=some u):HOk P w H h':=fun a o e=>
 (x a o e).stay (fun b u _ q=>k b u q) (fun _ q=>q) fun _ _ q=>q
theorem HOk.laid(x:HOk P w H h)(k:∀ b u,h.get? b=some u->h'.get? b=some u)(hp:h.objs.size<=a)(new:zf9 P w (upd H a o) h' a o):HOk P w (upd H a o) h':=fun b u e=>by
 have hn:=x.fresh hp
 by_cases hb:b=a
 ·subst hb;rw[zb4] at e;cases e;exact new
 ·rw[zc3 hb] at e
  exact (x b u e).stay (fun c v _ q=>k c v q) (fun c q=>by rw[zc3 (za7 q hn)];exact q) fun c xs q=>by rw[zc3 (za7 q hn)];exact q
end
def Rd(H:Hp)(a:Addr)(u:HO):Prop:=H a=some u∨∃ o,H a=some (.frz o u)
theorem Rd.ok{P:Program}{w:World}{H:Hp}{h:Heap}{a:Addr}{u:HO}(r:Rd H a u)(x:HOk P w H h):zf9 P w H h a u:=by
 rcases r with r|⟨o,r⟩
 ·exact x a u r
 ·obtain⟨_,q⟩:=x a _ r
  exact q
def Mut:Option HO->Prop
 | some (.lst _)=>True
 | some (.dK _)=>True
 | some (.dT _)=>True
 | some (.set _ _)=>True
 | some (.ins _ _ _)=>True
 | some (.ext _)=>True
 | _=>False
section
variable {P:Program}{w:World}{H:Hp}{h h':Heap}{x e:Addr}{o':HO}
theorem HOk.write(ok:HOk P w H h)(mu:Mut (H x))(he:e=x∨H e=some (.own x))(k:∀ b u,b≠e->h.get? b=some u->h'.get? b=some u)(heo:∃ u,h'.get? e=some u)(new:zf9 P w (upd H x o') h' x o'):HOk P w (upd H x o') h':=fun b u q=>by
 have nown:∀ c y,H c=some (.own y)->c≠x:=fun c y r z=>by subst z;rw[r] at mu;exact mu
 have ntup:∀ c xs,H c=some (.tup xs)->c≠x:=fun c xs r z=>by subst z;rw[r] at mu;exact mu
 by_cases hb:b=x
 ·subst hb;rw[zb4] at q;cases q;exact new
 ·rw[zc3 hb] at q
  by_cases hbe:b=e
  ·have q':H b=some (.own x):=by
    rcases he with z|z
    ·exact absurd (hbe.trans z) hb
    ·rw[hbe];exact z
   rw[q] at q';cases q'
   obtain⟨v,hv⟩:=heo
   exact⟨v,by rw[hbe];exact hv⟩
  ·refine (ok b u q).stay (fun c v hc r=>k c v ?_ r) (fun c r=>by rw[zc3 (nown c b r)];exact r) fun c xs r=>by rw[zc3 (ntup c xs r)];exact r
   rcases hc with rfl|hc
   ·exact hbe
   ·rintro rfl
    rcases he with z|z
    ·exact nown c b hc z
    ·rw[hc] at z;cases z;exact hb rfl
end
structure Un(fs ex:List Addr)(H H':Hp)(h h':Heap):Prop where
 keep:∀ b o,h.get? b=some o->H b=none->b ∉ fs->b ∉ ex->h'.get? b=some o
 slot:∀ b o,h.get? b=some o->H b=none->b∈fs->b ∉ ex->∃ sl,h'.get? b=some { o with slots:=sl }
 free:∀ b o,h.get? b=some o->H b=none->b ∉ ex->H' b=none
 there:∀ b o,h.get? b=some o->b ∉ ex->∃ o',h'.get? b=some o'
 tups:∀ b xs,H b=some (.tup xs)->H' b=some (.tup xs)
 frzs:∀ b o u,H b=some (.frz o u)->H' b=some (.frz o u)
 tbls:∀ b ps,H b=some (.tbl ps)->∃ more,H' b=some (.tbl (ps++more))
section
variable {fs fs' ex ex':List Addr}{H H1 H2:Hp}{h h1 h2 h':Heap}{a x e:Addr}{o:HO}
theorem Un.any(u:Un fs ex H H1 h h1){b:Addr}{ob:Obj}(q:h.get? b=some ob)(n:H b=none)(hx:b ∉ ex):∃ sl,h1.get? b=some { ob with slots:=sl }:=by
 by_cases hb:b∈fs
 ·exact u.slot b ob q n hb hx
 ·exact⟨ob.slots,u.keep b ob q n hb hx⟩
theorem Un.trans(a:Un fs ex H H1 h h1)(b:Un fs ex H1 H2 h1 h2):Un fs ex H H2 h h2 where
 keep:=fun c ob q n hc hx=>b.keep c ob (a.keep c ob q n hc hx) (a.free c ob q n hx) hc hx
 slot:=fun c ob q n hc hx=>by
  obtain⟨sl,e1⟩:=a.slot c ob q n hc hx
  obtain⟨sl',e2⟩:=b.slot c _ e1 (a.free c ob q n hx) hc hx
  exact⟨sl',e2⟩
 free:=fun c ob q n hx=>by
  obtain⟨o',e1⟩:=a.there c ob q hx
  exact b.free c o' e1 (a.free c ob q n hx) hx
 there:=fun c ob q hx=>by
  obtain⟨o',e1⟩:=a.there c ob q hx
  exact b.there c o' e1 hx
 tups:=fun c xs q=>b.tups c xs (a.tups c xs q)
 frzs:=fun c ob xs q=>b.frzs c ob xs (a.frzs c ob xs q)
 tbls:=fun c ps q=>by
  obtain⟨m1,e1⟩:=a.tbls c ps q
  obtain⟨m2,e2⟩:=b.tbls c _ e1
  exact⟨m1++m2,by rw[e2,Array.append_assoc]⟩
theorem Un.kept(k:∀ b u,h.get? b=some u->h'.get? b=some u):Un fs ex H H h h':=
 ⟨fun b ob q _ _ _=>k b ob q,fun b ob q _ _ _=>⟨ob.slots,k b ob q⟩,fun _ _ _ n _=>n,fun b ob q _=>⟨ob,k b ob q⟩,fun _ _ q=>q,fun _ _ _ q=>q,fun _ ps q=>⟨#[],by rw[q];simp⟩⟩
theorem Un.refl:Un fs ex H H h h:=Un.kept fun _ _ q=>q
theorem Un.laid(k:∀ b u,h.get? b=some u->h'.get? b=some u)(hp:h.objs.size<=a)(hn:H a=none):Un fs ex H (upd H a o) h h' where
 keep:=fun b u q _ _ _=>k b u q
 slot:=fun b u q _ _ _=>⟨u.slots,k b u q⟩
 free:=fun b u q n _=>by rw[zc3 (zco6 (zcn8 (zcm5 q) hp))];exact n
 there:=fun b u q _=>⟨u,k b u q⟩
 tups:=fun b xs q=>by rw[zc3 (za7 q hn)];exact q
 frzs:=fun b u xs q=>by rw[zc3 (za7 q hn)];exact q
 tbls:=fun b ps q=>⟨#[],by rw[zc3 (za7 q hn),q];simp⟩
theorem Un.write(mu:Mut (H x))(he:e=x∨H e=some (.own x))(k:∀ b u,b≠e->h.get? b=some u->h'.get? b=some u)(heo:∃ u,h'.get? e=some u):Un fs ex H (upd H x o) h h':=by
 have hx:∀ b,H b=none->b≠x:=fun b n z=>by subst z;rw[n] at mu;exact mu
 have hb:∀ b,H b=none->b≠e:=fun b n z=>by
  subst z
  rcases he with r|r
  ·exact hx b n r
  ·rw[n] at r;cases r
 have hm:∀ b u,H b=some u->¬ Mut (some u)->b≠x:=fun b u q nm z=>by subst z;rw[q] at mu;exact nm mu
 refine⟨fun b u q n _ _=>k b u (hb b n) q,fun b u q n _ _=>⟨u.slots,k b u (hb b n) q⟩,fun b u q n _=>by rw[zc3 (hx b n)];exact n,fun b u q _=>?_,
  fun b xs q=>by rw[zc3 (hm b _ q fun z=>z)];exact q,fun b u xs q=>by rw[zc3 (hm b _ q fun z=>z)];exact q,fun b ps q=>⟨#[],by rw[zc3 (hm b _ q fun z=>z),q];simp⟩⟩
 by_cases hbe:b=e
 ·subst hbe;exact heo
 ·exact⟨u,k b u hbe q⟩
end
def trk(h:Heap)(H:Hp):List Addr:=(List.range h.objs.size).filter fun a=>(H a).isSome
def hidT(h:Heap)(H:Hp):Heap:=PySem.W.hideAll h (trk h H)
theorem zbk8(h:Heap)(H:Hp):(hidT h H).objs.size=h.objs.size:=PySem.W.hideAll_size _ _
theorem zbr3{h:Heap}{H:Hp}{b:Addr}{o:Obj}(e:h.get? b=some o)(n:H b=none):(hidT h H).get? b=some o:=
 PySem.W.hideAll_get _ e fun hm=>by
  have q:(H b).isSome=true:=(List.mem_filter.mp hm).2
  rw[n] at q;simp at q
theorem zca4{h:Heap}{H:Hp}{b:Addr}{o:Obj}(e:(hidT h H).get? b=some o):h.get? b=some o/\H b=none:=by
 have e':h.get? b=some o:=PySem.W.of_hideAll (trk h H) e
 refine⟨e',?_⟩
 cases q:H b with
 | none=>rfl
 | some x=>
  have hm:b∈trk h H:=List.mem_filter.mpr ⟨zcq7.mpr (zcm5 e'),by simp[q]⟩
  have z:(hidT h H).get? b=none:=PySem.W.hideAll_none (trk h H) hm
  rw[z] at e;cases e
structure Mod(K:zcl5)(mg:Str->Option Value)(base:Heap):Prop where
 kin:K.In base
 glob:base.Ns zcx8 mg
 blt:∃ mb,base.Ns builtinsNs mb/\∀ x:Str,x≠"__name__"->mb x=bootBuiltins x
 nolimit:base.NoLimit
structure Cx where
 prog:Program
 w:World
 K:zcl5
 mg:Str->Option Value
 base:Heap
 A:Around
 N:List Str
 s₀:Shared
 H₀:Hp
 env:Env
 outer:List Env
 stack:List Env
 ex:List Addr
 fn:Str->Bool
 calm:Bool
 pn:List (Addr×Obj)
 xe:Value->Shared->Prop
def frs(l:List Env):List Addr:=l.filterMap (·.frame)
abbrev Cx.fs(X:Cx):List Addr:=frs X.outer
def Vis(sc:Scope)(x:Str):Prop:=sc.names.lookup x=some .local∨sc.names.lookup x=some .cell∨sc.names.lookup x=some .free
def Loc(sc:Scope)(x:Str):Prop:=sc.names.lookup x=some .local∨sc.names.lookup x=some .cell
def Look(env:Env)(h:Heap)(m:Str->Option Value)(x:Str)(u:Value):Prop:=
 (env.kindOf x=some .local/\m x=some u)∨((env.kindOf x=some .cell∨env.kindOf x=some .free)/\∃ c,env.cells.lookup x=some c/\h.IsCell c (some u))
structure Cx.Ok(X:Cx):Prop where
 mod:Mod X.K X.mg X.base
 kind:X.env.scope.kind=.function
 glob:X.env.globals=zcx8
 blt:X.env.builtins=builtinsNs
 above:X.s₀.heap.objs.size<=X.env.locals
 inj:∀ x y c,X.env.cells.lookup x=some c->X.env.cells.lookup y=some c->x=y
 has:∀ x,(X.env.kindOf x=some .cell∨X.env.kindOf x=some .free)->∃ c,X.env.cells.lookup x=some c
 cab:∀ x c,X.fn x=true->X.env.cells.lookup x=some c->X.s₀.heap.objs.size<=c
 hd:X.calm=true->X.A.handled=none
 frames:X.A.frames=some X.stack
 stk:X.stack=X.outer∨(X.stack=X.env :: X.outer/\X.env.frame=some X.env.locals)
 exf:∀ b∈X.ex,b≠X.env.locals/\∀ x c,X.env.cells.lookup x=some c->c≠b
 bs:∀ b o,X.base.get? b=some o->X.s₀.heap.get? b=some o/\X.H₀ b=none
 bsz:X.base.objs.size<=X.s₀.heap.objs.size
 noex:∀ b o,X.base.get? b=some o->b ∉ X.ex
 exfs:∀ b∈X.ex,b ∉ X.fs
 funs:X.s₀.heap.FunFrames X.base X.outer
 frf:∀ b∈X.fs,X.H₀ b=none
structure Inv(X:Cx)(pins:List (Addr×Obj))(σ:List (Option V))(H:Hp)(s:Shared):Prop where
 ok:X.Ok
 os:s.os=X.s₀.os
 bare:AllBare s.gens
 base:Un X.fs X.ex X.H₀ H X.s₀.heap s.heap
 loc:∃ m,s.heap.Ns X.env.locals m/\∀ (i:Nat) (x:Str) (v:V),X.N[i]?=some x->σ[i]?=some (some v)->Vis X.env.scope x->∃ u,RelV v u/\Look X.env s.heap m x u
 cell:∀ x c,X.env.cells.lookup x=some c->∃ v,s.heap.IsCell c v
 free:H X.env.locals=none
 freeC:∀ x c,X.env.cells.lookup x=some c->H c=none
 pin:∀ p∈X.pn++pins,s.heap.get? p.1=some p.2/\H p.1=none/\p.1≠X.env.locals/\p.1 ∉ X.fs/\∀ v,p.2.data≠.cell v
 hok:HOk X.prog X.w H s.heap
 len:σ.length=X.N.length
section
variable {X:Cx}{pins:List (Addr×Obj)}{σ:List (Option V)}{H H':Hp}{s:Shared}{h':Heap}
theorem Cx.Ok.nofr(ok:X.Ok){b:Addr}{o:Obj}(e:X.base.get? b=some o):b ∉ X.fs:=fun hb=>by
 have:=(ok.funs.mem hb).1
 rw[e] at this;cases this
theorem Inv.bs(I:Inv X pins σ H s):∀ b o,X.base.get? b=some o->s.heap.get? b=some o/\H b=none:=fun b o e=>
 ⟨I.base.keep b o (I.ok.bs b o e).1 (I.ok.bs b o e).2 (I.ok.nofr e) (I.ok.noex b o e),I.base.free b o (I.ok.bs b o e).1 (I.ok.bs b o e).2 (I.ok.noex b o e)⟩
theorem Inv.bk(I:Inv X pins σ H s):∀ b o,X.base.get? b=some o->s.heap.get? b=some o:=fun b o e=>(I.bs b o e).1
theorem Inv.mod(I:Inv X pins σ H s):Mod X.K X.mg X.base:=I.ok.mod
theorem Inv.kIn(I:Inv X pins σ H s):X.K.In s.heap:=I.ok.mod.kin.keeps I.bk
theorem Inv.lt(I:Inv X pins σ H s):X.env.locals<s.heap.objs.size:=let ⟨_,hn,_⟩:=I.loc;hn.lt
theorem Inv.sz(I:Inv X pins σ H s):X.s₀.heap.objs.size<=s.heap.objs.size:=zcp4 I.ok.above (zcu3 I.lt)
theorem Inv.nofs(I:Inv X pins σ H s){a:Addr}(h:s.heap.objs.size<=a):a ∉ X.fs:=fun hb=>by
 obtain⟨_,o,ho,_⟩:=I.ok.funs.mem hb
 exact absurd (zcn8 (zcm5 ho) (zcp4 I.sz h)) (zct0 _)
theorem Inv.cne(I:Inv X pins σ H s):∀ x c,X.env.cells.lookup x=some c->c≠X.env.locals:=fun x c e z=>by
 obtain⟨v,o,ho,hd⟩:=I.cell x c e
 obtain⟨m,⟨o',es,ep,ho',hd',_⟩,_⟩:=I.loc
 rw[z,ho'] at ho;cases ho;rw[hd'] at hd;cases hd
theorem Inv.funs(I:Inv X pins σ H s):s.heap.FunFrames X.base X.outer:=by
 have all:∀ (l:List Env),(∀ b∈frs l,b∈X.fs)->X.s₀.heap.FunFrames X.base l->s.heap.FunFrames X.base l:=by
  intro l
  induction l with
  | nil=>intro _ _;trivial
  | cons env r ih=>
   intro hs hl
   obtain⟨hk,⟨L,o,hf,hn,ho,hd⟩,hr⟩:=hl
   have hL:L∈X.fs:=hs L (by unfold frs;rw[List.filterMap_cons,hf];exact zcq2)
   obtain⟨sl,e⟩:=I.base.slot L o ho (I.ok.frf L hL) hL fun z=>I.ok.exfs L z hL
   exact⟨hk,⟨L,_,hf,hn,e,hd⟩,ih (fun b hb=>hs b (by unfold frs;rw[List.filterMap_cons,hf];exact zcp7 _ hb)) hr⟩
 exact all X.outer (fun _ hb=>hb) I.ok.funs
theorem Inv.stack(I:Inv X pins σ H s):s.heap.FunFrames X.base X.stack:=by
 rcases I.ok.stk with e|⟨e,hf⟩
 ·rw[e];exact I.funs
 ·rw[e]
  obtain⟨m,hn,_⟩:=I.loc
  refine .cons (by rw[I.ok.kind];decide) hf hn ?_ I.funs
  exact Heap.get?_none_of_le (zcp4 I.ok.bsz I.ok.above)
theorem Inv.stkSub(I:Inv X pins σ H s):∀ b∈frs X.stack,b∈X.env.locals :: X.fs:=fun b hb=>by
 rcases I.ok.stk with e|⟨e,hf⟩
 ·rw[e] at hb;exact zcp7 _ hb
 ·rw[e] at hb
  unfold frs at hb
  rw[List.filterMap_cons,hf] at hb
  exact hb
theorem Inv.stkFree(I:Inv X pins σ H s):∀ b∈frs X.stack,H b=none:=fun b hb=>by
 rcases zcm1.mp (I.stkSub b hb) with e|hb
 ·rw[e];exact I.free
 ·obtain⟨_,o,ho,_⟩:=I.ok.funs.mem hb
  exact I.base.free b o ho (I.ok.frf b hb) fun z=>I.ok.exfs b z hb
theorem Inv.step{g':Array GenState}{t':Nat}{d':Drawn}{ch:List Addr}(I:Inv X pins σ H s)(hch:∀ b∈ch,(b∈X.ex∨X.s₀.heap.objs.size<=b)/\b≠X.env.locals/\(∀ x c,X.env.cells.lookup x=some c->c≠b)/\∀ p∈X.pn++pins,p.1≠b)(keep:∀ b o,b≠X.env.locals->b ∉ X.fs->b ∉ ch->s.heap.get? b=some o->H b=none->h'.get? b=some o)(slot:∀ b o,b≠X.env.locals->b∈X.fs->b ∉ ch->s.heap.get? b=some o->H b=none->∃ sl,h'.get? b=some { o with slots:=sl })(free:∀ b o,b ∉ ch->s.heap.get? b=some o->H b=none->H' b=none)(there:∀ b o,b ∉ ch->s.heap.get? b=some o->∃ o',h'.get? b=some o')(tups:∀ b xs,H b=some (.tup xs)->H' b=some (.tup xs))(frzs:∀ b o u,H b=some (.frz o u)->H' b=some (.frz o u))(tbls:∀ b ps,H b=some (.tbl ps)->∃ more,H' b=some (.tbl (ps++more)))(ns:∀ m,s.heap.Ns X.env.locals m->h'.Ns X.env.locals m)(hok:HOk X.prog X.w H' h')(hg:AllBare g') :
  Inv X pins σ H' { s with heap:=h',gens:=g',drawn:=d',toks:=t' }:=by
 have neL:∀ b o,X.s₀.heap.get? b=some o->b≠X.env.locals:=fun b o e=>zco6 (zcn8 (zcm5 e) I.ok.above)
 have neC:∀ b o,X.s₀.heap.get? b=some o->b ∉ X.ex->b ∉ ch:=fun b o e hx hb=>by
  rcases (hch b hb).1 with z|z
  ·exact hx z
  ·exact absurd (zcn8 (zcm5 e) z) (zct0 _)
 have cellK:∀ x c,X.env.cells.lookup x=some c->∀ v,s.heap.IsCell c v->h'.IsCell c v:=fun x c e v ⟨o,ho,hd⟩=>by
  have nch:c ∉ ch:=fun z=>(hch c z).2.2.1 x c e rfl
  by_cases hc:c∈X.fs
  ·obtain⟨sl,q⟩:=slot c o (I.cne x c e) hc nch ho (I.freeC x c e)
   exact⟨_,q,hd⟩
  ·exact⟨o,keep c o (I.cne x c e) hc nch ho (I.freeC x c e),hd⟩
 refine⟨I.ok,I.os,hg,⟨fun b o e n hb hx=>?_,fun b o e n hb hx=>?_,fun b o e n hx=>?_,fun b o e hx=>?_,fun b xs e=>tups b xs (I.base.tups b xs e),fun b o xs e=>frzs b o xs (I.base.frzs b o xs e),fun b ps e=>?_⟩,?_,fun x c e=>?_,?_,fun x c e=>?_,fun p hp=>?_,hok,I.len⟩
 ·exact keep b o (neL b o e) hb (neC b o e hx) (I.base.keep b o e n hb hx) (I.base.free b o e n hx)
 ·obtain⟨sl,e1⟩:=I.base.slot b o e n hb hx
  obtain⟨sl',e2⟩:=slot b _ (neL b o e) hb (neC b o e hx) e1 (I.base.free b o e n hx)
  exact⟨sl',e2⟩
 ·obtain⟨o',e1⟩:=I.base.there b o e hx
  exact free b o' (neC b o e hx) e1 (I.base.free b o e n hx)
 ·obtain⟨o',e1⟩:=I.base.there b o e hx
  exact there b o' (neC b o e hx) e1
 ·obtain⟨m1,e1⟩:=I.base.tbls b ps e
  obtain⟨m2,e2⟩:=tbls b _ e1
  exact⟨m1++m2,by rw[e2,Array.append_assoc]⟩
 ·obtain⟨m,hn,hl⟩:=I.loc
  refine⟨m,ns m hn,fun i x v e1 e2 e3=>?_⟩
  obtain⟨u,r,l⟩:=hl i x v e1 e2 e3
  refine⟨u,r,?_⟩
  rcases l with l|⟨k,c,e,z⟩
  ·exact .inl l
  ·exact .inr ⟨k,c,e,cellK x c e _ z⟩
 ·obtain⟨v,z⟩:=I.cell x c e
  exact⟨v,cellK x c e v z⟩
 ·obtain⟨m,⟨o,_,_,ho,_⟩,_⟩:=I.loc
  exact free _ o (fun z=>(hch _ z).2.1 rfl) ho I.free
 ·obtain⟨v,o,ho,hd⟩:=I.cell x c e
  exact free c o (fun z=>(hch c z).2.2.1 x c e rfl) ho (I.freeC x c e)
 ·obtain⟨e,n,ne,nf,d⟩:=I.pin p hp
  have nch:p.1 ∉ ch:=fun z=>(hch p.1 z).2.2.2 p hp rfl
  exact⟨keep p.1 p.2 ne nf nch e n,free p.1 p.2 nch e n,ne,nf,d⟩
theorem Inv.un{t':Nat}(I:Inv X pins σ H s)(u:Un X.fs [] H H' s.heap h')(hok:HOk X.prog X.w H' h'):Inv X pins σ H' { s with heap:=h',toks:=t' }:=by
 obtain⟨m,⟨o,es,ep,ho,r⟩,_⟩:=id I.loc
 obtain⟨sl,hL⟩:=u.any ho I.free (by simp)
 exact I.step (g':=s.gens) (d':=s.drawn) (ch:=[]) (fun _ z=>nomatch z) (fun b o _ hb _ e n=>u.keep b o e n hb (by simp)) (fun b o _ hb _ e n=>u.slot b o e n hb (by simp)) (fun b o _ e n=>u.free b o e n (by simp)) (fun b o _ e=>u.there b o e (by simp)) u.tups u.frzs u.tbls (fun m' hm=>by
  obtain⟨o',es',ep',ho',r'⟩:=hm
  rw[ho] at ho';cases ho'
  exact⟨_,es',ep',hL,r'⟩) hok I.bare
theorem Inv.call{g':Array GenState}{t':Nat}{d':Drawn}{ch:List Addr}(I:Inv X pins σ H s)(u:Un (frs X.stack) ch H H' s.heap h')(hok:HOk X.prog X.w H' h')(hg:AllBare g')(hch:∀ b∈ch,(b∈X.ex∨X.s₀.heap.objs.size<=b)/\b≠X.env.locals/\(∀ x c,X.env.cells.lookup x=some c->c≠b)/\∀ p∈X.pn++pins,p.1≠b) :
  Inv X pins σ H' { s with heap:=h',gens:=g',drawn:=d',toks:=t' }:=by
 obtain⟨m,⟨o,es,ep,ho,r⟩,_⟩:=id I.loc
 obtain⟨sl,hL⟩:=u.any ho I.free fun z=>(hch _ z).2.1 rfl
 exact I.step (ch:=ch) hch (fun b o hL hb hc e n=>u.keep b o e n (fun z=>(zcm1.mp (I.stkSub b z)).elim hL hb) hc) (fun b o _ _ hc e n=>u.any e n hc) (fun b o hc e n=>u.free b o e n hc) (fun b o hc e=>u.there b o e hc) u.tups u.frzs u.tbls (fun m' hm=>by
  obtain⟨o',es',ep',ho',r'⟩:=hm
  rw[ho] at ho';cases ho'
  exact⟨_,es',ep',hL,r'⟩) hok hg
theorem Inv.turned{t':Nat}{it:Addr}(I:Inv X pins σ H s)(k:∀ b o,b≠it->s.heap.get? b=some o->h'.get? b=some o)(hn:H it=none)(hL:it≠X.env.locals)(h1:it∈X.ex∨X.s₀.heap.objs.size<=it)(h2:∀ x c,X.env.cells.lookup x=some c->c≠it)(h3:∀ p∈X.pn++pins,p.1≠it):Inv X pins σ H { s with heap:=h',toks:=t' }:=by
 have nit:∀ b u,H b=some u->b≠it:=fun b u e z=>by rw[z,hn] at e;cases e
 refine I.step (g':=s.gens) (d':=s.drawn) (ch:=[it]) (fun b hb=>?_) (fun b o _ _ hc e _=>k b o (fun z=>hc (by simp[z])) e) (fun b o _ _ hc e _=>⟨o.slots,k b o (fun z=>hc (by simp[z])) e⟩) (fun _ _ _ _ n=>n)
  (fun b o hc e=>⟨o,k b o (fun z=>hc (by simp[z])) e⟩) (fun _ _ e=>e) (fun _ _ _ e=>e) (fun b ps e=>⟨#[],by rw[e];simp⟩) (fun m hm=>?_) (fun b u e=>?_) I.bare
 ·have e:b=it:=by simpa using hb
  subst e
  exact⟨h1,hL,h2,h3⟩
 ·obtain⟨o,es,ep,ho,r⟩:=hm
  exact⟨o,es,ep,k _ o (Ne.symm hL) ho,r⟩
 ·refine (I.hok b u e).stay (fun c v hc q=>k c v ?_ q) (fun _ q=>q) fun _ _ q=>q
  rcases hc with z|z
  ·rw[z];exact nit b u e
  ·exact nit c _ z
theorem Inv.tok(I:Inv X pins σ H s)(t:Nat):Inv X pins σ H { s with toks:=t }:=I.un (h':=s.heap) (t':=t) Un.refl I.hok
theorem Inv.kept{t':Nat}(I:Inv X pins σ H s)(k:∀ b u,s.heap.get? b=some u->h'.get? b=some u):Inv X pins σ H { s with heap:=h',toks:=t' }:=I.un (Un.kept k) (I.hok.kept k)
theorem Inv.laid{a:Addr}{o:HO}{t':Nat}(I:Inv X pins σ H s)(k:∀ b u,s.heap.get? b=some u->h'.get? b=some u)(hp:s.heap.objs.size<=a)(new:zf9 X.prog X.w (upd H a o) h' a o) :
  Inv X pins σ (upd H a o) { s with heap:=h',toks:=t' }:=I.un (Un.laid k hp (I.hok.fresh hp)) (I.hok.laid k hp new)
theorem Inv.write{x e:Addr}{o:HO}{t':Nat}(I:Inv X pins σ H s)(mu:Mut (H x))(he:e=x∨H e=some (.own x))(k:∀ b u,b≠e->s.heap.get? b=some u->h'.get? b=some u)(heo:∃ u,h'.get? e=some u)(new:zf9 X.prog X.w (upd H x o) h' x o):Inv X pins σ (upd H x o) { s with heap:=h',toks:=t' }:=I.un (Un.write mu he k heo) (I.hok.write mu he k heo new)
theorem Inv.pins_of{pins':List (Addr×Obj)}(I:Inv X pins σ H s)(h:∀ p∈pins',s.heap.get? p.1=some p.2/\H p.1=none/\p.1≠X.env.locals/\p.1 ∉ X.fs/\∀ v,p.2.data≠.cell v):Inv X pins' σ H s:=
 ⟨I.ok,I.os,I.bare,I.base,I.loc,I.cell,I.free,I.freeC,fun p hp=>(zco0.mp hp).elim (fun z=>I.pin p (zcr8 _ z)) (h p),I.hok,I.len⟩
theorem zba0{N:List Str}(hN:N.Nodup){i j:Nat}{x:Str}(a:N[i]?=some x)(b:N[j]?=some x):i=j:=by
 obtain⟨h1,e1⟩:=zcl1.mp a
 obtain⟨h2,e2⟩:=zcl1.mp b
 exact (List.getElem_inj hN).mp (e1.trans e2.symm)
theorem zar5{M:Model}{A:Around}{E:Value->Shared->Prop}{i:Nat}{x:Str}{v:V}{u:Value}{Q:Unit->Shared->Prop}(I:Inv X pins σ H s)(hN:X.N.Nodup)(hi:X.N[i]?=some x)(hx:Loc X.env.scope x)(r:RelV v u)(h:∀ s',Inv X pins (σ.set i (some v)) H s'->(∃ a,Heap.SameBut a s.heap s'.heap/\(a=X.env.locals∨X.env.cells.lookup x=some a))->Q () s')(hf:X.fn x=true∨X.env.scope.names.lookup x=some .local:=by first|exact .inl rfl|exact .inr rfl|assumption):wpAny M A (storeName X.env x u) Q E s:=by
 obtain⟨m,hn,hl⟩:=id I.loc
 have hcls:(X.env.scope.kind==.class || (X.env.scope.kind==.module&&X.env.locals != X.env.globals))=false:=by rw[I.ok.kind];rfl
 have hiσ:i<σ.length:=by rw[I.len];exact (zcl1.mp hi).1
 have cne:=I.cne
 have tracked:∀ {a:Addr}{h':Heap},(∃ o,s.heap.get? a=some o/\H a=none)->Heap.SameBut a s.heap h'->HOk X.prog X.w H h':=fun {a h'} ha hs b ob e=>by
  obtain⟨_,_,hfree⟩:=ha
  refine (I.hok b ob e).stay (fun c w' hc q=>(hs.2 c ?_).trans q) (fun _ q=>q) fun _ _ q=>q
  rintro rfl
  rcases hc with rfl|hc
  ·rw[hfree] at e;cases e
  ·rw[hfree] at hc;cases hc
 rcases hx with hk|hk
 ·refine wpAny_storeName_local hk hn (fun h' hn' hs=>?_) hcls
  obtain⟨oL,_,_,hoL,_⟩:=id hn
  refine h _ ⟨I.ok,I.os,I.bare,⟨fun b o e n hb hx=>?_,fun b o e n hb hx=>?_,I.base.free,fun b o e hx=>?_,I.base.tups,I.base.frzs,I.base.tbls⟩,⟨_,hn',fun j y v' e1 e2 e3=>?_⟩,fun y c e=>?_,I.free,I.freeC,fun p hp=>?_,tracked ⟨oL,hoL,I.free⟩ hs,by simpa using I.len⟩ ⟨_,hs,.inl rfl⟩
  ·exact (hs.2 b (zco6 (zcn8 (zcm5 e) I.ok.above))).trans (I.base.keep b o e n hb hx)
  ·obtain⟨sl,e1⟩:=I.base.slot b o e n hb hx
   exact⟨sl,(hs.2 b (zco6 (zcn8 (zcm5 e) I.ok.above))).trans e1⟩
  ·obtain⟨o',e1⟩:=I.base.there b o e hx
   exact⟨o',(hs.2 b (zco6 (zcn8 (zcm5 e) I.ok.above))).trans e1⟩
  ·by_cases hj:j=i
   ·subst hj
    rw[hi] at e1;cases e1
    rw[List.getElem?_set_self hiσ] at e2
    cases e2
    exact⟨u,r,.inl ⟨hk,by simp⟩⟩
   ·rw[List.getElem?_set_ne (Ne.symm hj)] at e2
    obtain⟨u',r',q⟩:=hl j y v' e1 e2 e3
    refine⟨u',r',?_⟩
    rcases q with ⟨k,e⟩|⟨k,c,e,z⟩
    ·refine .inl ⟨k,?_⟩
     have:y≠x:=fun e=>hj (zba0 hN e1 (e▸hi))
     simp[this,e]
    ·exact .inr ⟨k,c,e,z.sameBut hs (cne y c e)⟩
  ·obtain⟨w',z⟩:=I.cell y c e
   exact⟨w',z.sameBut hs (cne y c e)⟩
  ·obtain⟨e,n,ne,nf,d⟩:=I.pin p hp
   exact⟨(hs.2 p.1 ne).trans e,n,ne,nf,d⟩
 ·have hfn:X.fn x=true:=by
   rcases hf with z|z
   ·exact z
   ·rw[z] at hk;cases hk
  obtain⟨c,hc⟩:=I.ok.has x (.inl hk)
  obtain⟨w',z⟩:=I.cell x c hc
  refine wpAny_storeName_cell I.ok.kind hk hc z (fun h' hc' hs=>?_)
  obtain⟨oc,hoc,hocd⟩:=id z
  refine h { s with heap:=h' } ⟨I.ok,I.os,I.bare,⟨fun b o e n hb hx=>?_,fun b o e n hb hx=>?_,I.base.free,fun b o e hx=>?_,I.base.tups,I.base.frzs,I.base.tbls⟩,⟨m,hn.sameBut hs (Ne.symm (cne x c hc)),fun j y v' e1 e2 e3=>?_⟩,fun y c' e=>?_,I.free,I.freeC,fun p hp=>?_,tracked ⟨oc,hoc,I.freeC x c hc⟩ hs,by simpa using I.len⟩ ⟨c,hs,.inr hc⟩
  ·exact (hs.2 b (zco6 (zcn8 (zcm5 e) (I.ok.cab x c hfn hc)))).trans (I.base.keep b o e n hb hx)
  ·obtain⟨sl,e1⟩:=I.base.slot b o e n hb hx
   exact⟨sl,(hs.2 b (zco6 (zcn8 (zcm5 e) (I.ok.cab x c hfn hc)))).trans e1⟩
  ·obtain⟨o',e1⟩:=I.base.there b o e hx
   exact⟨o',(hs.2 b (zco6 (zcn8 (zcm5 e) (I.ok.cab x c hfn hc)))).trans e1⟩
  ·by_cases hj:j=i
   ·subst hj
    rw[hi] at e1;cases e1
    rw[List.getElem?_set_self hiσ] at e2
    cases e2
    exact⟨u,r,.inr ⟨.inl hk,c,hc,hc'⟩⟩
   ·rw[List.getElem?_set_ne (Ne.symm hj)] at e2
    obtain⟨u',r',q⟩:=hl j y v' e1 e2 e3
    refine⟨u',r',?_⟩
    rcases q with q|⟨k,c',e,z'⟩
    ·exact .inl q
    ·refine .inr ⟨k,c',e,z'.sameBut hs ?_⟩
     rintro rfl
     exact hj (zba0 hN e1 (I.ok.inj _ _ _ e hc▸hi))
  ·by_cases hcc:c'=c
   ·subst hcc;exact⟨_,hc'⟩
   ·obtain⟨w2,z2⟩:=I.cell y c' e
    exact⟨w2,z2.sameBut hs hcc⟩
  ·obtain⟨e,n,ne,nf,d⟩:=I.pin p hp
   refine⟨(hs.2 p.1 ?_).trans e,n,ne,nf,d⟩
   intro q
   rw[q,hoc] at e
   have q':oc=p.2:=Option.some.inj e
   exact d w' (by rw[← q'];exact hocd)
theorem zal9{M:Model}{A:Around}{E:Value->Shared->Prop}{i:Nat}{x:Str}{v:V}{u:Value}{Q:Unit->Shared->Prop}(I:Inv X pins σ H s)(hN:X.N.Nodup)(hi:X.N[i]?=some x)(hx:Loc X.env.scope x)(r:RelV v u)(h:∀ s',Inv X pins (σ.set i (some v)) H s'->Q () s')(hf:X.fn x=true∨X.env.scope.names.lookup x=some .local:=by first|exact .inl rfl|exact .inr rfl|assumption):wpAny M A (storeName X.env x u) Q E s:=
 zar5 I hN hi hx r (fun s' I' _=>h s' I') hf
theorem Inv.call'{s':Shared}{ch:List Addr}(I:Inv X pins σ H s)(ho:s'.os=s.os)(u:Un (frs X.stack) ch H H' s.heap s'.heap)(hok:HOk X.prog X.w H' s'.heap)(hg:AllBare s'.gens)(hch:∀ b∈ch,(b∈X.ex∨X.s₀.heap.objs.size<=b)/\b≠X.env.locals/\(∀ x c,X.env.cells.lookup x=some c->c≠b)/\∀ p∈X.pn++pins,p.1≠b):Inv X pins σ H' s':=by
 obtain⟨h',g',d',t',o'⟩:=s'
 have e:o'=s.os:=ho
 subst e
 exact I.call (g':=g') (t':=t') (d':=d') u hok hg hch
end
abbrev XK:=Value->Option Addr->Hp->Prop
abbrev St:=List (Option V)
abbrev VK:=V->Hp->Prop
abbrev TE:=St->Hp->VK->Prop
abbrev TT:=St->Hp->(Bool->Hp->Prop)->Prop
abbrev TA:=St->Hp->(List V->Hp->Prop)->Prop
structure Ends where
 nx:St->Hp->Prop
 rt:VK
 bk:St->Hp->Prop:=fun _ _=>False
 ct:St->Hp->Prop:=fun _ _=>False
abbrev TS:=Ends->St->Hp->Prop
def EP(X:Cx)(pins:List (Addr×Obj))(σ:St)(Q:VK)(u:Value)(s':Shared):Prop:=∃ v H',Inv X pins σ H' s'/\RelV v u/\Q v H'
def TP(X:Cx)(pins:List (Addr×Obj))(σ:St)(Q:Bool->Hp->Prop)(b:Bool)(s':Shared):Prop:=∃ H',Inv X pins σ H' s'/\Q b H'
def AP(X:Cx)(pins:List (Addr×Obj))(σ:St)(Q:List V->Hp->Prop)(us:List Value)(s':Shared):Prop:=∃ vs H',Inv X pins σ H' s'/\Vals vs us/\Q vs H'
def SP(X:Cx)(pins:List (Addr×Obj))(D:Ends)(f:Flow)(s':Shared):Prop:=
 match f with
 | .next=>∃ σ' H',Inv X pins σ' H' s'/\D.nx σ' H'
 | .brk=>∃ σ' H',Inv X pins σ' H' s'/\D.bk σ' H'
 | .cont=>∃ σ' H',Inv X pins σ' H' s'/\D.ct σ' H'
 | .ret u=>∃ v σ' H',Inv X pins σ' H' s'/\RelV v u/\D.rt v H'
def PE(X:Cx)(e:Expr)(t:TE):Prop:=
 ∀ (pins:List (Addr×Obj)) (s:Shared) (σ:St) (H:Hp) (Q:VK),Inv X pins σ H s->t σ H Q->wpAny (model X.prog X.w) X.A (eval e X.env) (EP X pins σ Q) X.xe s
def PT(X:Cx)(e:Expr)(t:TT):Prop:=
 ∀ (pins:List (Addr×Obj)) (s:Shared) (σ:St) (H:Hp) (Q:Bool->Hp->Prop),Inv X pins σ H s->t σ H Q->wpAny (model X.prog X.w) X.A (isTrue e X.env (eval e X.env)) (TP X pins σ Q) X.xe s
def PW(X:Cx)(e:Expr)(t:TT):Prop:=
 ∀ (whole:Sem Value) (pins:List (Addr×Obj)) (s:Shared) (σ:St) (H:Hp) (Q:Bool->Hp->Prop),Inv X pins σ H s->t σ H Q->wpAny (model X.prog X.w) X.A (isTrue e X.env whole) (TP X pins σ Q) X.xe s
theorem PW.pt{X:Cx}{e:Expr}{t:TT}(h:PW X e t):PT X e t:=h _
def PA(X:Cx)(es:List Expr)(t:TA):Prop:=
 ∀ (pos:Pos) (pins:List (Addr×Obj)) (s:Shared) (σ:St) (H:Hp) (Q:List V->Hp->Prop),Inv X pins σ H s->t σ H Q->wpAny (model X.prog X.w) X.A (spliced (backTo pos (starEach es X.env))) (AP X pins σ Q) X.xe s
def PS(X:Cx)(st:Stmt)(t:TS):Prop:=
 ∀ (pins:List (Addr×Obj)) (s:Shared) (σ:St) (H:Hp) (D:Ends),Inv X pins σ H s->t D σ H->wpAny (model X.prog X.w) X.A (exec st X.env) (SP X pins D) X.xe s
def PSs(X:Cx)(st:List Stmt)(t:TS):Prop:=
 ∀ (pins:List (Addr×Obj)) (s:Shared) (σ:St) (H:Hp) (D:Ends),Inv X pins σ H s->t D σ H->wpAny (model X.prog X.w) X.A (execs st X.env) (SP X pins D) X.xe s
theorem thn{α:Type}{t:Sem α}{Q Q':α->Shared->Prop}{M:Model}{A:Around}{E:Value->Shared->Prop}{s:Shared}(h:wpAny M A t Q E s)(hQ:∀ a s,Q a s->Q' a s):wpAny M A t Q' E s:=wpAny_mono h hQ fun _ _ x=>x
section
variable {X:Cx}
theorem bin{a b:Expr}{ta tb:TE}(ha:PE X a ta)(hb:PE X b tb){pins:List (Addr×Obj)}{s:Shared}{σ:St}{H:Hp}{R:V->V->Hp->Prop}(I:Inv X pins σ H s)(h:ta σ H fun x H1=>tb σ H1 fun y H2=>R x y H2){α:Type}{Q:α->Shared->Prop}{f:Value->Value->Sem α}(hf:∀ v u s2 x y H2,Inv X pins σ H2 s2->RelV x v->RelV y u->R x y H2->wpAny (model X.prog X.w) X.A (f v u) Q X.xe s2) :
  wpAny (model X.prog X.w) X.A (eval a X.env) (fun v s₁=>wpAny (model X.prog X.w) X.A (eval b X.env) (fun u s₂=>wpAny (model X.prog X.w) X.A (f v u) Q X.xe s₂) X.xe s₁) X.xe s:=by
 refine thn (ha pins s σ H _ I h) fun v s1 ⟨x,H1,I1,r1,q1⟩=>?_
 refine thn (hb pins s1 σ H1 _ I1 q1) fun u s2 ⟨y,H2,I2,r2,q2⟩=>?_
 exact hf v u s2 x y H2 I2 r1 r2 q2
def tVar(i:Nat):TE:=fun σ H Q=>∃ v,σ[i]?=some (some v)/\Q v H
def tC(v:V):TE:=fun _ H Q=>Q v H
theorem zbz1{i:Nat}{x:Str}{pos:Pos}(hN:X.N[i]?=some x)(hv:Vis X.env.scope x)(hd:(x==("__debug__":Str))=false:=by decide)(hcd:(x==("__classdict__":Str))=false:=by decide):PE X (.Name x pos) (tVar i):=by
 intro pins s σ H Q I h
 obtain⟨v,e,h⟩:=h
 obtain⟨m,hn,hl⟩:=I.loc
 obtain⟨u,r,l⟩:=hl i x v hN e hv
 have fin:EP X pins σ Q u s:=⟨v,H,I,r,h⟩
 rcases l with ⟨hk,hm⟩|⟨hk,c,hc,hcell⟩
 ·exact wpAny_Name (wpAny_loadName_local I.ok.kind hk hn hm fin) hd
 ·rcases hk with hk|hk
  ·exact wpAny_Name (wpAny_loadName_cell I.ok.kind hk hc hcell fin) hd
  ·exact wpAny_Name (wpAny_loadName_free I.ok.kind hk hc hcell fin hcd) hd
theorem za3{i j pos}:PE X (.Constant (.int i) j pos) (tC (.int i)):=fun _ _ _ H _ I h=>wpAny_Constant_int ⟨.int i,H,I.tok _,⟨_,rfl⟩,h⟩
theorem zq9{b j pos}:PE X (.Constant (.bool b) j pos) (tC (.bl b)):=fun _ _ _ H _ I h=>Constant_bool ⟨.bl b,H,I,rfl,h⟩
theorem zbw1{x j pos}:PE X (.Constant (.str x) j pos) (tC (.str x)):=fun _ _ _ H _ I h=>Calls.Constant_str ⟨.str x,H,I.tok _,⟨_,rfl⟩,h⟩
def Gl(X:Cx)(x:Str):Prop:=X.env.kindOf x=some .globalImplicit
theorem zaw6{E:Value->Shared->Prop}{pins:List (Addr×Obj)}{s:Shared}{σ:St}{H:Hp}{x:Str}{u:Value}{pos:Pos}{Q:Value->Shared->Prop}(I:Inv X pins σ H s)(hg:Gl X x)(hm:X.mg x=some u)(h:Q u s)(hd:(x==("__debug__":Str))=false:=by decide):wpAny (model X.prog X.w) X.A (eval (.Name x pos) X.env) Q E s:=
 Calls.Name_function_global I.ok.kind hg (Calls.loadGlobal_global (by rw[I.ok.glob];exact I.mod.glob.keeps I.bk) hm h) hd
theorem zai2{E:Value->Shared->Prop}{pins:List (Addr×Obj)}{s:Shared}{σ:St}{H:Hp}{x:Str}{u:Value}{pos:Pos}{Q:Value->Shared->Prop}(I:Inv X pins σ H s)(hg:Gl X x)(hm:X.mg x=none)(hv:bootBuiltins x=some u)(h:Q u s)(hn:x≠"__name__":=by decide)(hd:(x==("__debug__":Str))=false:=by decide):wpAny (model X.prog X.w) X.A (eval (.Name x pos) X.env) Q E s:=by
 obtain⟨mb,h1,h2⟩:=I.mod.blt
 exact Calls.Name_function_global I.ok.kind hg (Calls.loadGlobal_builtin (by rw[I.ok.glob];exact I.mod.glob.keeps I.bk) hm (by rw[I.ok.blt];exact h1.keeps I.bk) ((h2 x hn).trans hv) h) hd
theorem zbp7{x:Str}{v:V}{u:Value}{pos:Pos}(hg:Gl X x)(hm:X.mg x=some u)(r:RelV v u)(hd:(x==("__debug__":Str))=false:=by decide):PE X (.Name x pos) (tC v):=
 fun _ _ _ H _ I h=>zaw6 I hg hm ⟨v,H,I,r,h⟩ hd
theorem zcf1{x:Str}{v:V}{u:Value}{pos:Pos}(hg:Gl X x)(hm:X.mg x=none)(hv:bootBuiltins x=some u)(r:RelV v u)(hn:x≠"__name__":=by decide)(hd:(x==("__debug__":Str))=false:=by decide):PE X (.Name x pos) (tC v):=
 fun _ _ _ H _ I h=>zai2 I hg hm hv ⟨v,H,I,r,h⟩ hn hd
variable {a b:Expr}{ta tb:TE}{pos:Pos}
variable {tA tB':TT}{rest:List Expr}
def tAnd(t u:TT):TT:=fun σ H Q=>t σ H fun c H1=>if c=true then u σ H1 Q else Q false H1
def tOr(t u:TT):TT:=fun σ H Q=>t σ H fun c H1=>if c=true then Q true H1 else u σ H1 Q
def tNot(t:TT):TT:=fun σ H Q=>t σ H fun c H1=>Q (!c) H1
theorem zcd3(ha:PT X a tA):PW X (.BoolOp .And [a] pos) tA:=by
 intro wh pins s σ H Q I h
 refine isTrue_and (thn (ha pins s σ H Q I h) fun c s1 e=>?_)
 cases c with
 | true=>exact isTrue_and_nil e
 | false=>exact e
theorem zp4(ha:PT X a tA):PW X (.BoolOp .Or [a] pos) tA:=by
 intro wh pins s σ H Q I h
 refine isTrue_or (thn (ha pins s σ H Q I h) fun c s1 e=>?_)
 cases c with
 | false=>exact isTrue_or_nil e
 | true=>exact e
theorem pw_and(ha:PT X a tA)(hb:PW X (.BoolOp .And (b :: rest) pos) tB'):PW X (.BoolOp .And (a :: b :: rest) pos) (tAnd tA tB'):=by
 intro wh pins s σ H Q I h
 refine isTrue_and (thn (ha pins s σ H _ I h) fun c s1 ⟨H1,I1,q1⟩=>?_)
 cases c with
 | true=>exact hb wh pins s1 σ H1 Q I1 q1
 | false=>exact⟨H1,I1,q1⟩
theorem pw_or(ha:PT X a tA)(hb:PW X (.BoolOp .Or (b :: rest) pos) tB'):PW X (.BoolOp .Or (a :: b :: rest) pos) (tOr tA tB'):=by
 intro wh pins s σ H Q I h
 refine isTrue_or (thn (ha pins s σ H _ I h) fun c s1 ⟨H1,I1,q1⟩=>?_)
 cases c with
 | true=>exact⟨H1,I1,q1⟩
 | false=>exact hb wh pins s1 σ H1 Q I1 q1
theorem zi7(ha:PT X a tA):PT X (.UnaryOp .Not a pos) (tNot tA):=by
 intro pins s σ H Q I h
 exact isTrue_not (ha pins s σ H (fun c H1=>Q (!c) H1) I h)
theorem zo7{op}{t:TE}(h:PE X a t):PE X (.BoolOp op [a] pos) t:=fun pins s σ H Q I hw=>BoolOp_one (h pins s σ H Q I hw)
end
def SqL(K:zcl5)(H:Hp)(a:Addr)(xs:List V):Prop:=
 Rd H a (.lst xs) ∨
  ∃ (o:Obj) (its:Array Value) (n:Nat),K.lookup a=some o/\o.cls=.type "list"/\o.dict=none/\o.data=.seq its n/\its.size<=sizeLine/\Vals xs its.toList
def SqT(K:zcl5)(H:Hp)(a:Addr)(xs:List V):Prop:=
 Rd H a (.tup xs) ∨
  ∃ (o:Obj) (its:Array Value) (n:Nat),K.lookup a=some o/\o.cls=.type "tuple"/\o.data=.seq its n/\its.size<=sizeLine/\Vals xs its.toList
def absV:Value->Option V
 | .none=>some .non
 | .bool b=>some (.bl b)
 | .int i _=>some (.int i)
 | .str x _=>some (.str x)
 | .bytes b _=>some (.byt b)
 | .float b _=>some (.flt b)
 | .ref a=>some (.ref a)
 | .type n=>some (.ty n)
 | _=>none
theorem RelV.abs{x:V}{u:Value}(r:RelV x u):absV u=some x:=by
 cases x with
 | non=>cases r;rfl
 | bl _=>cases r;rfl
 | int _=>obtain⟨t,rfl⟩:=r;rfl
 | str _=>obtain⟨t,rfl⟩:=r;rfl
 | byt _=>obtain⟨t,rfl⟩:=r;rfl
 | flt _=>obtain⟨t,rfl⟩:=r;rfl
 | ref _=>cases r;rfl
 | ty _=>cases r;rfl
theorem RelV.inj{x y:V}{u:Value}(r:RelV x u)(q:RelV y u):x=y:=Option.some.inj (r.abs.symm.trans q.abs)
theorem Vals.inj:∀ {xs ys:List V}{us:List Value},Vals xs us->Vals ys us->xs=ys
 | _,_,_,.nil,.nil=>rfl
 | _,_,_,.cons r t,.cons r' t'=>by rw[r.inj r',Vals.inj t t']
section
variable {X:Cx}{pins:List (Addr×Obj)}{σ:St}{H:Hp}{s:Shared}{a:Addr}{xs ys:List V}
theorem SqL.of{K:zcl5}(h:H a=some (.lst xs)):SqL K H a xs:=.inl (.inl h)
theorem SqT.of{K:zcl5}(h:H a=some (.tup xs)):SqT K H a xs:=.inl (.inl h)
theorem Inv.list(I:Inv X pins σ H s)(h:SqL X.K H a xs):∃ its:List Value,Vals xs its/\PlainL s.heap a its.toArray/\xs.length<=sizeLine:=by
 rcases h with h|⟨o,its,n,hk,hc,hd,hs,hz,r⟩
 ·obtain⟨z,its,n,r,e⟩:=h.ok I.hok
  exact⟨its,r,⟨_,n,e,rfl,rfl,rfl⟩,z⟩
 ·refine⟨its.toList,r,⟨o,n,I.kIn a o hk,hc,hd,by simpa using hs⟩,?_⟩
  have e:=r.length
  simp only[zcm7] at e
  omega
theorem Inv.tuple(I:Inv X pins σ H s)(h:SqT X.K H a xs):∃ its:List Value,Vals xs its/\IsTup s.heap a its.toArray/\xs.length<=sizeLine:=by
 rcases h with h|⟨o,its,n,hk,hc,hs,hz,r⟩
 ·obtain⟨z,its,r,p⟩:=h.ok I.hok
  exact⟨its,r,p,z⟩
 ·refine⟨its.toList,r,⟨o,I.kIn a o hk,hc,n,by simpa using hs⟩,?_⟩
  have e:=r.length
  simp only[zcm7] at e
  omega
theorem Inv.list_inj(I:Inv X pins σ H s)(h:SqL X.K H a xs)(h':SqL X.K H a ys):xs=ys:=by
 obtain⟨its,r,⟨o,n,e,_,_,d⟩,_⟩:=I.list h
 obtain⟨its',r',⟨o',n',e',_,_,d'⟩,_⟩:=I.list h'
 rw[e] at e';cases e'
 rw[d] at d'
 injection d' with d1 _
 have:its=its':=by simpa using congrArg Array.toList d1
 subst this
 exact r.inj r'
theorem Inv.tuple_inj(I:Inv X pins σ H s)(h:SqT X.K H a xs)(h':SqT X.K H a ys):xs=ys:=by
 obtain⟨its,r,⟨o,e,_,n,d⟩,_⟩:=I.tuple h
 obtain⟨its',r',⟨o',e',_,n',d'⟩,_⟩:=I.tuple h'
 rw[e] at e';cases e'
 rw[d] at d'
 injection d' with d1 _
 have:its=its':=by simpa using congrArg Array.toList d1
 subst this
 exact r.inj r'
end
abbrev Cx.wish(X:Cx)(E:Value->Shared->Prop):Cx:={ X with xe:=E }
abbrev Cx.nox(X:Cx):Cx:=X.wish fun _ _=>False
theorem Cx.Ok.wish{X:Cx}(ok:X.Ok)(E:Value->Shared->Prop):(X.wish E).Ok:=
 ⟨ok.mod,ok.kind,ok.glob,ok.blt,ok.above,ok.inj,ok.has,ok.cab,ok.hd,ok.frames,ok.stk,ok.exf,ok.bs,ok.bsz,ok.noex,ok.exfs,ok.funs,ok.frf⟩
theorem Cx.Ok.unwish{X:Cx}{E:Value->Shared->Prop}(ok:(X.wish E).Ok):X.Ok:=
 ⟨ok.mod,ok.kind,ok.glob,ok.blt,ok.above,ok.inj,ok.has,ok.cab,ok.hd,ok.frames,ok.stk,ok.exf,ok.bs,ok.bsz,ok.noex,ok.exfs,ok.funs,ok.frf⟩
section
variable {X:Cx}{pins:List (Addr×Obj)}{σ:St}{H:Hp}{s:Shared}{E:Value->Shared->Prop}
theorem Inv.wish(I:Inv X pins σ H s)(E:Value->Shared->Prop):Inv (X.wish E) pins σ H s:=⟨I.ok.wish E,I.os,I.bare,I.base,I.loc,I.cell,I.free,I.freeC,I.pin,I.hok,I.len⟩
theorem Inv.unwish(I:Inv (X.wish E) pins σ H s):Inv X pins σ H s:=⟨I.ok.unwish,I.os,I.bare,I.base,I.loc,I.cell,I.free,I.freeC,I.pin,I.hok,I.len⟩
theorem SP.unwish{D:Ends}{f:Flow}{s':Shared}(h:SP (X.wish E) pins D f s'):SP X pins D f s':=by
 cases f with
 | next=>obtain⟨σ',H',I,q⟩:=h;exact⟨σ',H',I.unwish,q⟩
 | brk=>obtain⟨σ',H',I,q⟩:=h;exact⟨σ',H',I.unwish,q⟩
 | cont=>obtain⟨σ',H',I,q⟩:=h;exact⟨σ',H',I.unwish,q⟩
 | ret u=>obtain⟨v,σ',H',I,r,q⟩:=h;exact⟨v,σ',H',I.unwish,r,q⟩
theorem PSs.nox{st:List Stmt}{t:TS}(h:PSs X.nox st t):PSs X st t:=fun pins s σ H D I hw=>
 wpAny_mono (h pins s σ H D (I.wish _) hw) (fun _ _ q=>q.unwish) fun _ _ z=>False.elim z
end
section
variable {X:Cx}{st:Stmt}{rest:List Stmt}{t u:TS}{e:Expr}{te:TE}{pos:Pos}
def tNext:TS:=fun D σ H=>D.nx σ H
def tSeq(t u:TS):TS:=fun D σ H=>t { D with nx:=u D } σ H
theorem zc7:PSs X [] tNext:=fun _ _ σ H _ I h=>wpAny_execs_nil ⟨σ,H,I,h⟩
theorem za2(h1:PS X st t)(h2:PSs X rest u):PSs X (st :: rest) (tSeq t u):=by
 intro pins s σ H D I h
 refine wpAny_execs_cons (thn (h1 pins s σ H { D with nx:=u D } I h) fun f s1 q=>?_)
 cases f with
 | next=>
  obtain⟨σ',H',I',q⟩:=q
  exact h2 pins s1 σ' H' D I' q
 | ret v=>exact q
 | brk=>exact q
 | cont=>exact q
theorem za4(h1:PS X st t):PSs X [st] t:=by
 intro pins s σ H D I h
 refine wpAny_execs_cons (thn (h1 pins s σ H D I h) fun f s1 q=>?_)
 cases f with
 | next=>exact wpAny_execs_nil q
 | ret v=>exact q
 | brk=>exact q
 | cont=>exact q
theorem Inv.quiet{pins:List (Addr×Obj)}{σ:St}{H:Hp}{s:Shared}(I:Inv X pins σ H s):interactive X.env=false:=by simp[interactive,I.ok.kind]
def tDrop(te:TE):TS:=fun D σ H=>te σ H fun _ H1=>D.nx σ H1
theorem zj6(he:PE X e te)(hs:swapsWith e none pos.line X.env=pure false:=by rfl):PS X (.Expr e pos) (tDrop te):=by
 intro pins s σ H D I h
 exact wpAny_Expr_any (thn (he pins s σ H _ I h) fun v s1 ⟨x,H1,I1,r1,q1⟩=>⟨σ,H1,I1,q1⟩) I.quiet hs
def tRet(te:TE):TS:=fun D σ H=>te σ H D.rt
theorem zb1(he:PE X e te):PS X (.Return (some e) pos) (tRet te):=by
 intro pins s σ H D I h
 exact wpAny_Return_some (thn (he pins s σ H _ I h) fun v s1 ⟨x,H1,I1,r1,q1⟩=>⟨x,σ,H1,I1,r1,q1⟩)
def tIfS(c:TT)(t u:TS):TS:=fun D σ H=>c σ H fun b H1=>if b=true then t D σ H1 else u D σ H1
theorem ps_if{c:Expr}{a b:List Stmt}{tc:TT}(hc:PT X c tc)(ha:PSs X a t)(hb:PSs X b u):PS X (.If c a b pos) (tIfS tc t u):=by
 intro pins s σ H D I h
 refine wpAny_If (thn (hc pins s σ H _ I h) fun d s1 ⟨H1,I1,q1⟩=>?_)
 cases d with
 | true=>exact ha pins s1 σ H1 D I1 q1
 | false=>exact hb pins s1 σ H1 D I1 q1
end
abbrev TG:=V->St->Hp->(St->Hp->Prop)->Prop
abbrev TGs:=List V->St->Hp->(St->Hp->Prop)->Prop
def PG(X:Cx)(target:Expr)(t:TG):Prop:=
 ∀ (pins:List (Addr×Obj)) (s:Shared) (σ:St) (H:Hp) (v:V) (u:Value) (Q:St->Hp->Prop),Inv X pins σ H s->RelV v u->t v σ H Q ->
  wpAny (model X.prog X.w) X.A (assign target X.env u) (fun _ s'=>∃ σ' H',Inv X pins σ' H' s'/\Q σ' H') X.xe s
def PGs(X:Cx)(ts:List Expr)(t:TGs):Prop:=
 ∀ (pins:List (Addr×Obj)) (s:Shared) (σ:St) (H:Hp) (vs:List V) (us:List Value) (Q:St->Hp->Prop),Inv X pins σ H s->Vals vs us->t vs σ H Q ->
  wpAny (model X.prog X.w) X.A (assignInOrder ((assignEach ts X.env).map (·.2)) us) (fun _ s'=>∃ σ' H',Inv X pins σ' H' s'/\Q σ' H') X.xe s
abbrev TSet:=V->V->V->Hp->(Hp->Prop)->Prop
def PSet(X:Cx)(t:TSet):Prop:=
 ∀ (pins:List (Addr×Obj)) (s:Shared) (σ:St) (H:Hp) (o i v:V) (ov iv u:Value) (Q:Hp->Prop),Inv X pins σ H s->RelV o ov->RelV i iv->RelV v u->t o i v H Q ->
  wpAny (model X.prog X.w) X.A (setItem ov iv u) (fun _ s'=>∃ H',Inv X pins σ H' s'/\Q H') X.xe s
abbrev TIp:=V->V->Hp->VK->Prop
def PIp(X:Cx)(op:Operator)(t:TIp):Prop:=
 ∀ (pins:List (Addr×Obj)) (s:Shared) (σ:St) (H:Hp) (x y:V) (v u:Value) (Q:VK),Inv X pins σ H s->RelV x v->RelV y u->t x y H Q ->
  wpAny (model X.prog X.w) X.A (inplaceOp op v u) (EP X pins σ Q) X.xe s
section
variable {X:Cx}{pos:Pos}
def gName(i:Nat):TG:=fun v σ H Q=>Q (σ.set i (some v)) H
theorem za6{i:Nat}{x:Str}(hN:X.N.Nodup)(hi:X.N[i]?=some x)(hx:Loc X.env.scope x)(hf:X.fn x=true∨X.env.scope.names.lookup x=some .local:=by first|exact .inl rfl|exact .inr rfl|assumption):PG X (.Name x pos) (gName i):=by
 intro pins s σ H v u Q I r h
 exact wpAny_assign_Name (zal9 I hN hi hx r (fun s' I'=>⟨_,H,I',h⟩) hf)
def gNil:TGs:=fun vs σ H Q=>vs=[]/\Q σ H
def gCons(t:TG)(u:TGs):TGs:=fun vs σ H Q=>∃ v r,vs=v :: r/\t v σ H fun σ' H'=>u r σ' H' Q
theorem zcf9:PGs X [] gNil:=by
 intro pins s σ H vs us Q I r h
 obtain⟨e,h⟩:=h
 subst e
 cases r
 exact assignInOrder_nil ⟨σ,H,I,h⟩
theorem zbr4{e:Expr}{es:List Expr}{t:TG}{u:TGs}(h1:PG X e t)(h2:PGs X es u)(hs:(assignEach (e :: es) X.env).map (·.2)=assign e X.env :: (assignEach es X.env).map (·.2):=by rfl):PGs X (e :: es) (gCons t u):=by
 intro pins s σ H vs us Q I r h
 obtain⟨v,vr,e1,h⟩:=h
 subst e1
 cases r with
 | cons r rr=>
  rw[hs]
  refine assignInOrder_cons (thn (h1 pins s σ H _ _ _ I r h) fun _ s1 ⟨σ1,H1,I1,q1⟩=>?_)
  exact h2 pins s1 σ1 H1 _ _ Q I1 rr q1
def gTup(K:zcl5)(n:Nat)(t:TGs):TG:=fun v σ H Q=>∃ a xs,v=.ref a/\SqT K H a xs/\xs.length=n/\t xs σ H Q
theorem pg_tup{es:List Expr}{k:Nat}{t:TGs}{n:Nat}(hc:X.calm=true)(h:PGs X es t)(hn:(assignEach es X.env).length=n:=by rfl)(hst:(assignEach es X.env).findIdx? (·.1)=none:=by rfl):PG X (.Tuple es k pos) (gTup X.K n t):=by
 intro pins s σ H v u Q I r hw
 obtain⟨a,xs,e1,hq,hl,hw⟩:=hw
 subst e1
 cases r
 obtain⟨its,rv,ht,hz⟩:=I.tuple hq
 refine assign_Tuple_tuple (I.ok.hd hc) ht (by simp[hn,← hl,rv.length]) hst fun h' hx=>?_
 have I1:Inv X pins σ H { s with heap:=h' }:=I.kept (t':=s.toks) fun b o e=>hx b o (zco6 (zcm5 e)) e
 exact h pins _ σ H xs _ Q I1 (by simpa using rv) hw
def gSub(to ti:TE)(t:TSet):TG:=fun v σ H Q=>to σ H fun o H1=>ti σ H1 fun i H2=>t o i v H2 fun H3=>Q σ H3
theorem zay7{o i:Expr}{to ti:TE}{t:TSet}(ho:PE X o to)(hi:PE X i ti)(hs:PSet X t)(ha:∀ v,assign (.Subscript o i pos) X.env v=(do
   let ov ← holding [v] (eval o X.env)
   let iv ← holding [v,ov] (eval i X.env)
   standAt pos
   holding [v,ov,iv] (setItem ov iv v)
   release [v,ov,iv] []):=by intro _;rfl):PG X (.Subscript o i pos) (gSub to ti t):=by
 intro pins s σ H v u Q I r h
 rw[ha]
 refine zcx4 (zcx7 (thn (ho pins s σ H _ I h) fun ov s1 ⟨x,H1,I1,r1,q1⟩=>?_))
 refine zcx4 (zcx7 (thn (hi pins s1 σ H1 _ I1 q1) fun iv s2 ⟨y,H2,I2,r2,q2⟩=>?_))
 refine zcx4 (wpAny_standAt (zcx4 (zcx7 (thn (hs pins s2 σ H2 x y v ov iv u _ I2 r1 r2 r q2) fun _ s3 ⟨H3,I3,q3⟩=>?_))))
 exact wpAny_release ⟨σ,H3,I3,q3⟩
def tAsg(te:TE)(g:TG):TS:=fun D σ H=>te σ H fun x H1=>g x σ H1 D.nx
theorem zaz3{tg e:Expr}{te:TE}{g:TG}(he:PE X e te)(hg:PG X tg g)(hs:swapsWithSole [tg] e pos.line X.env=pure false:=by rfl)(hw:swappedStores [tg] e X.env=pure none:=by rfl)(h1:(assignEach [tg] X.env).map (·.2)=[assign tg X.env]:=by rfl):PS X (.Assign [tg] e pos) (tAsg te g):=by
 intro pins s σ H D I h
 refine wpAny_Assign_stores (thn (he pins s σ H _ I h) fun v s1 ⟨x,H1,I1,r1,q1⟩=>?_) hs hw
 rw[h1]
 exact thn (hg pins s1 σ H1 x v _ I1 r1 q1) fun _ s2 q=>q
theorem ps_set{i:Nat}{x:Str}{e:Expr}{te:TE}{pos':Pos}(hN:X.N.Nodup)(hi:X.N[i]?=some x)(hx:Loc X.env.scope x)(he:PE X e te)(hs:swapsWith e (some (.Name x pos')) pos.line X.env=pure false:=by rfl)(hf:X.fn x=true∨X.env.scope.names.lookup x=some .local:=by first|exact .inl rfl|exact .inr rfl|assumption) :
  PS X (.Assign [.Name x pos'] e pos) (tAsg te (gName i)):=by
 intro pins s σ H D I h
 refine wpAny_Assign_Name (thn (he pins s σ H _ I h) fun v s1 ⟨y,H1,I1,r1,q1⟩=>?_) hs
 exact zal9 I1 hN hi hx r1 (fun s2 I2=>⟨_,H1,I2,q1⟩) hf
def tAug(i:Nat)(te:TE)(ti:TIp):TS:=fun D σ H=>∃ x,σ[i]?=some (some x)/\te σ H fun y H1=>ti x y H1 fun z H2=>D.nx (σ.set i (some z)) H2
theorem ps_aug{i:Nat}{x:Str}{e:Expr}{te:TE}{op:Operator}{ti:TIp}{pos':Pos}(hN:X.N.Nodup)(hi:X.N[i]?=some x)(hx:Loc X.env.scope x)(he:PE X e te)(ho:PIp X op ti)(hf:X.fn x=true∨X.env.scope.names.lookup x=some .local:=by first|exact .inl rfl|exact .inr rfl|assumption) :
  PS X (.AugAssign (.Name x pos') op e pos) (tAug i te ti):=by
 intro pins s σ H D I h
 obtain⟨v,e1,h⟩:=h
 obtain⟨m,hn,hl⟩:=I.loc
 have vis:Vis X.env.scope x:=by rcases hx with k|k;exact .inl k;exact .inr (.inl k)
 obtain⟨u,r,l⟩:=hl i x v hi e1 vis
 refine wpAny_AugAssign_Name ?_
 have go:wpAny (model X.prog X.w) X.A (eval e X.env) (fun w s₂=>wpAny (model X.prog X.w) X.A (inplaceOp op u w) (fun r s₃=>wpAny (model X.prog X.w) X.A (storeName X.env x r) (fun _=>SP X pins D .next) X.xe s₃) X.xe s₂) X.xe s:=by
  refine thn (he pins s σ H _ I h) fun w s1 ⟨y,H1,I1,r1,q1⟩=>?_
  refine thn (ho pins s1 σ H1 v y u w _ I1 r r1 q1) fun z s2 ⟨zv,H2,I2,r2,q2⟩=>?_
  exact zal9 I2 hN hi hx r2 (fun s3 I3=>⟨_,H2,I3,q2⟩) hf
 rcases l with ⟨hk,hm⟩|⟨hk,c,hc,hcell⟩
 ·exact wpAny_loadName_local I.ok.kind hk hn hm go
 ·rcases hk with hk|hk
  ·exact wpAny_loadName_cell I.ok.kind hk hc hcell go
  ·rcases hx with k|k
   ·have:X.env.scope.names.lookup x=some .free:=hk
    rw[k] at this;cases this
   ·have:X.env.scope.names.lookup x=some .free:=hk
    rw[k] at this;cases this
end
section
variable {X:Cx}{pos:Pos}
def tWhile(c:TT)(tb:TS):TS:=fun D σ H=>∃ W:Nat->St->Hp->Prop,(∃ m,W m σ H)/\∀ m σ H,W m σ H ->
 c σ H fun b H1=>if b=true then ∃ N:St->Hp->Prop,(∀ σ' H',N σ' H'->∃ m',m'<m/\W m' σ' H')/\tb { D with nx:=N,ct:=N,bk:=D.nx } σ H1 else D.nx σ H1
theorem zbu5{c:Expr}{body:List Stmt}{tc:TT}{tb:TS}(hp:PassesOwn (model X.prog X.w) X.A X.env X.xe)(hc:PT X c tc)(hb:PSs X body tb):PS X (.While c body [] pos) (tWhile tc tb):=by
 intro pins s σ H D I h
 obtain⟨W,⟨m0,w0⟩,turn⟩:=h
 refine wpAny_While (codeAny_whileLoop (fun n s'=>∃ σ' H',Inv X pins σ' H' s'/\W n σ' H') ?_ m0 ⟨σ,H,I,w0⟩)
 rintro n s1 ⟨σ1,H1,I1,w1⟩
 refine wpAny_passesOwn hp (thn (hc pins s1 σ1 H1 _ I1 (turn n σ1 H1 w1)) fun b s2 ⟨H2,I2,q2⟩=>?_)
 cases b with
 | true=>
  obtain⟨N,hN,q2⟩:=q2
  rw[if_pos rfl]
  refine wpAny_passesOwn hp (thn (hb pins s2 σ1 H2 _ I2 q2) fun f s3 q3=>?_)
  cases f with
  | next=>
   obtain⟨σ3,H3,I3,n3⟩:=q3
   obtain⟨m',hm,w3⟩:=hN σ3 H3 n3
   exact⟨m',hm,σ3,H3,I3,w3⟩
  | cont=>
   obtain⟨σ3,H3,I3,n3⟩:=q3
   obtain⟨m',hm,w3⟩:=hN σ3 H3 n3
   exact⟨m',hm,σ3,H3,I3,w3⟩
  | brk=>exact q3
  | ret v=>exact q3
 | false=>
  rw[if_neg zcm2]
  exact wpAny_execs_nil ⟨σ1,H2,I2,q2⟩
end
structure It where
 go:Nat->Hp->Prop
 yld:Nat->Hp->V->Hp->Prop
 stop:Nat->Hp->Prop
def FpOk(X:Cx)(pins:List (Addr×Obj))(H:Hp)(b:Addr):Prop:=
 H b=none/\b≠X.env.locals/\b ∉ X.fs/\(b∈X.ex∨X.s₀.heap.objs.size<=b)/\(∀ x c,X.env.cells.lookup x=some c->c≠b)/\∀ p∈X.pn++pins,p.1≠b
theorem Inv.fpOk{X:Cx}{pins:List (Addr×Obj)}{σ:St}{H H':Hp}{s:Shared}{b:Addr}(I:Inv X pins σ H s)(hb:s.heap.objs.size<=b)(hn:H' b=none):FpOk X pins H' b:=by
 refine⟨hn,zcu1 (zcn8 I.lt hb),I.nofs hb,.inr (zcp4 I.sz hb),fun x c e z=>?_,fun p hp z=>?_⟩
 ·obtain⟨v,q⟩:=I.cell x c e
  exact absurd (zcn8 q.lt (by rw[z];exact hb)) (zct0 _)
 ·exact absurd (zcn8 (zcm5 (I.pin p hp).1) (by rw[z];exact hb)) (zct0 _)
structure Turn(P:Program)(w:World)(K:zcl5)(tg:Expr)(J:It)(fp:List Addr)(it:Addr)(tn:Nat->Heap->Prop):Prop where
 mem:it∈fp
 obj:∀ i h,tn i h->∀ b∈fp,∃ o,h.get? b=some o/\∀ v,o.data≠.cell v
 keep:∀ i h h',tn i h->(∀ b∈fp,∀ o,h.get? b=some o->h'.get? b=some o)->tn i h'
 item:∀ (X:Cx),X.prog=P->X.w=w->X.K=K->X.calm=true->∀ (i:Nat) (pins:List (Addr×Obj)) (s:Shared) (σ:St) (H:Hp) (E:Value->Shared->Prop),Inv X pins σ H s->(∀ b∈fp,FpOk X pins H b)->tn i s.heap->J.go i H ->
  wpAny (model P w) X.A (pyNext (.ref it)) (fun r s1=>∃ u,r=some u /\
   wpAny (model P w) X.A (letOwnedTupleGo tg (.ref it) u) (fun _ s2=>∃ x H',Inv X pins σ H' s2/\RelV x u/\J.yld i H x H'/\tn (i+1) s2.heap/\∀ b∈fp,H' b=none) E s1) E s
 done:∀ (X:Cx),X.prog=P->X.w=w->X.K=K->X.calm=true->∀ (i:Nat) (pins:List (Addr×Obj)) (s:Shared) (σ:St) (H:Hp) (E:Value->Shared->Prop),Inv X pins σ H s->(∀ b∈fp,FpOk X pins H b)->tn i s.heap->J.stop i H ->
  wpAny (model P w) X.A (pyNext (.ref it)) (fun r s1=>r=none/\Inv X pins σ H s1) E s
 self:∀ (A:Around) (i:Nat) (s:Shared) (Q:Value->Shared->Prop) (E:Value->Shared->Prop),tn i s.heap->Q (.ref it) s->wpAny (model P w) A (pyIter (.ref it)) Q E s
abbrev TI:=St->Hp->(It->Hp->Prop)->Prop
def PIE(X:Cx)(pins:List (Addr×Obj))(σ:St)(tg:Expr)(R:It->Hp->Prop)(itv:Value)(s2:Shared):Prop:=
 ∃ (it:Addr) (fp:List Addr) (tn:Nat->Heap->Prop) (J:It) (H':Hp),itv=.ref it/\Inv X pins σ H' s2/\Turn X.prog X.w X.K tg J fp it tn/\tn 0 s2.heap/\(∀ b∈fp,FpOk X pins H' b)/\R J H'
def PI(X:Cx)(tg iter:Expr)(wi:TI):Prop:=
 ∀ (pins:List (Addr×Obj)) (s:Shared) (σ:St) (H:Hp) (R:It->Hp->Prop),Inv X pins σ H s->wi σ H R ->
  wpAny (model X.prog X.w) X.A (eval iter X.env) (fun v s1=>wpAny (model X.prog X.w) X.A (pyIter v) (PIE X pins σ tg R) X.xe s1) X.xe s
theorem go_of{M:Model}{A:Around}{E:Value->Shared->Prop}{s:Shared}{tg:Expr}{it:Addr}{u:Value}{o:Obj}{n:String}{vs:Array Value}{Q:Unit->Shared->Prop}(ho:s.heap.get? it=some o)(hc:o.cls=.type n)(hd:o.data=.fields vs)(hn:["enumerate","zip","dict_itemiterator","dict_reverseitemiterator","odict_iterator","itertools.zip_longest","itertools.pairwise"].contains n=false)(hQ:Q () s):wpAny M A (letOwnedTupleGo tg (.ref it) u) Q E s:=by
 unfold letOwnedTupleGo
 cases tg<;>first
  | exact zcx5 hQ
  | (cases u<;>first
    | exact zcx5 hQ
    | (refine zcx4 (wpAny_load ho ?_);rw[hc,hd];show wpAny M A (if (["enumerate","zip","dict_itemiterator","dict_reverseitemiterator","odict_iterator","itertools.zip_longest","itertools.pairwise"].contains n&&vs[0]?==some (rawInt _))=true then _ else _) Q E s;rw[if_neg (by intro h;rw[hn,Bool.false_and] at h;cases h)];exact zcx5 hQ))
def Itl(K:zcl5)(a:Addr):It:=
 ⟨fun i H=>∃ xs x,SqL K H a xs/\xs[i]?=some x,fun i H x H'=>H'=H/\∀ xs,SqL K H a xs->xs[i]?=some x,fun i H=>∃ xs,SqL K H a xs/\xs.length<=i⟩
def Itt(K:zcl5)(a:Addr):It:=
 ⟨fun i H=>∃ xs x,SqT K H a xs/\xs[i]?=some x,fun i H x H'=>H'=H/\∀ xs,SqT K H a xs->xs[i]?=some x,fun i H=>∃ xs,SqT K H a xs/\xs.length<=i⟩
def Itr(lo:Int)(n:Nat):It:=⟨fun i _=>i<n,fun i H x H'=>H'=H/\x=.int (lo+i),fun i _=>n<=i⟩
theorem zbl2{P:Program}{w:World}{K:zcl5}{tg:Expr}(a it:Addr):Turn P w K tg (Itl K a) [it] it (fun i h=>h.IsListIter it a i) where
 mem:=by simp
 obj:=fun i h st b hb=>by
  have e:b=it:=by simpa using hb
  subst e
  obtain⟨o,e,c,d⟩:=st
  exact⟨o,e,fun v z=>by rw[d] at z;cases z⟩
 keep:=fun i h h' st k=>st.at fun o e=>k it (by simp) o e
 item:=by
  intro X hP hw hK hc i pins s σ H E I hf st hg
  subst hP hw hK
  obtain⟨xs,x,hq,hx⟩:=hg
  obtain⟨its,rv,p,hz⟩:=I.list hq
  obtain⟨u,hu,ru⟩:=rv.get hx
  obtain⟨f0,f1,f2,f3,f4,f5⟩:=hf it (by simp)
  refine wpAny_pyNext_list_item st p.isList (x:=u) (by simpa using hu) fun h' st' sb=>?_
  have I1:Inv X pins σ H { s with heap:=h' }:=I.turned (t':=s.toks) (fun b o hb e=>(sb.2 b hb).trans e) f0 f1 f3 f4 f5
  obtain⟨o,e,c,d⟩:=id st'
  exact⟨u,rfl,go_of (s:={ s with heap:=h' }) e c d (by decide) ⟨x,H,I1,ru,⟨rfl,fun ys hy=>by rw[I.list_inj hy hq];exact hx⟩,st',fun b hb=>(hf b hb).1⟩⟩
 done:=by
  intro X hP hw hK hc i pins s σ H E I hf st hg
  subst hP hw hK
  obtain⟨xs,hq,hx⟩:=hg
  obtain⟨its,rv,p,hz⟩:=I.list hq
  obtain⟨f0,f1,f2,f3,f4,f5⟩:=hf it (by simp)
  have hl:=rv.length
  exact wpAny_pyNext_list_end (I.ok.hd hc) st p.isList (by simp;omega) fun h' eb=>⟨rfl,I.turned (t':=s.toks) (fun b o hb e=>eb b o hb e) f0 f1 f3 f4 f5⟩
 self:=fun _ _ _ _ _ st h=>wpAny_pyIter_listiter st h
theorem zbc2{P:Program}{w:World}{K:zcl5}{tg:Expr}(a it:Addr):Turn P w K tg (Itt K a) [it] it (fun i h=>h.IsTupleIter it a i) where
 mem:=by simp
 obj:=fun i h st b hb=>by
  have e:b=it:=by simpa using hb
  subst e
  obtain⟨o,e,c,d⟩:=st
  exact⟨o,e,fun v z=>by rw[d] at z;cases z⟩
 keep:=fun i h h' st k=>st.at fun o e=>k it (by simp) o e
 item:=by
  intro X hP hw hK hc i pins s σ H E I hf st hg
  subst hP hw hK
  obtain⟨xs,x,hq,hx⟩:=hg
  obtain⟨its,rv,p,hz⟩:=I.tuple hq
  obtain⟨u,hu,ru⟩:=rv.get hx
  obtain⟨f0,f1,f2,f3,f4,f5⟩:=hf it (by simp)
  refine wpAny_pyNext_tuple_item st (show s.heap.IsTuple a its.toArray from p) (x:=u) (by simpa using hu) fun h' st' sb=>?_
  have I1:Inv X pins σ H { s with heap:=h' }:=I.turned (t':=s.toks) (fun b o hb e=>(sb.2 b hb).trans e) f0 f1 f3 f4 f5
  obtain⟨o,e,c,d⟩:=id st'
  exact⟨u,rfl,go_of (s:={ s with heap:=h' }) e c d (by decide) ⟨x,H,I1,ru,⟨rfl,fun ys hy=>by rw[I.tuple_inj hy hq];exact hx⟩,st',fun b hb=>(hf b hb).1⟩⟩
 done:=by
  intro X hP hw hK hc i pins s σ H E I hf st hg
  subst hP hw hK
  obtain⟨xs,hq,hx⟩:=hg
  obtain⟨its,rv,p,hz⟩:=I.tuple hq
  obtain⟨f0,f1,f2,f3,f4,f5⟩:=hf it (by simp)
  have hl:=rv.length
  exact wpAny_pyNext_tuple_end (I.ok.hd hc) st (show s.heap.IsTuple a its.toArray from p) (by simp;omega) fun h' eb=>⟨rfl,I.turned (t':=s.toks) (fun b o hb e=>eb b o hb e) f0 f1 f3 f4 f5⟩
 self:=fun _ _ _ _ _ st h=>wpAny_pyIter_tupleiter st h
theorem zbe0{P:Program}{w:World}{K:zcl5}{tg:Expr}(it:Addr)(lo:Int)(n:Nat):Turn P w K tg (Itr lo n) [it] it (fun i h=>IsRangeIter h it (lo+(i:Nat)*1) ((n:Int) - (i:Nat)) 1) where
 mem:=by simp
 obj:=fun i h st b hb=>by
  have e:b=it:=by simpa using hb
  subst e
  exact⟨_,st,fun v z=>by
   have z':Data.fields _=Data.cell v:=z
   cases z'⟩
 keep:=fun i h h' st k=>k it (by simp) _ st
 item:=by
  intro X hP hw hK hc i pins s σ H E I hf st hg
  subst hP hw hK
  obtain⟨f0,f1,f2,f3,f4,f5⟩:=hf it (by simp)
  have W:=Walks.range (prog:=X.prog) (w:=X.w) (I.ok.hd hc) it lo 1 n
  refine W.item i s _ _ hg st fun v h' tk hv st' kk=>?_
  obtain⟨t,rfl⟩:=hv
  have I1:Inv X pins σ H { s with heap:=h',toks:=tk }:=I.turned (fun b o hb e=>kk b o (by simpa using hb) e) f0 f1 f3 f4 f5
  refine⟨_,rfl,go_of (s:={ s with heap:=h',toks:=tk }) (n:="range_iterator") st' rfl rfl (by decide) ⟨.int (lo+i),H,I1,⟨t,?_⟩,⟨rfl,rfl⟩,st',fun b hb=>(hf b hb).1⟩⟩
  rw[Int.mul_one]
 done:=by
  intro X hP hw hK hc i pins s σ H E I hf st hg
  subst hP hw hK
  obtain⟨f0,f1,f2,f3,f4,f5⟩:=hf it (by simp)
  exact wpAny_pyNext_range_end (I.ok.hd hc) st (by have:n<=i:=hg;omega) fun h' eb=>⟨rfl,I.turned (t':=s.toks) (fun b o hb e=>eb b o hb e) f0 f1 f3 f4 f5⟩
 self:=fun _ _ _ _ _ st h=>wpAny_pyIter_rangeiter st h
section
variable {X:Cx}{tg:Expr}
theorem zaz7{pins:List (Addr×Obj)}{σ:St}{H:Hp}{s:Shared}{R:It->Hp->Prop}{E:Value->Shared->Prop}{lo hi:Int}{t u v:Tok}{tk:Nat}(I:Inv X pins σ H s)(h1:-(2 ^ 62)<=lo)(h2:lo<2 ^ 62)(h3:-(2 ^ 62)<=hi)(h4:hi<2 ^ 62)(q:R (Itr lo (hi - lo).toNat) H):wpAny (model X.prog X.w) X.A (pyIter (.ref s.heap.objs.size)) (PIE X pins σ tg R) E { s with heap:=s.heap.push { cls:=.type "range",data:=.fields #[.int lo t,.int hi u,.int 1 v] },toks:=tk }:=by
 refine wpAny_pyIter_range (IsRange.new ..) (small_one h1 h2 h3 h4) ?_
 have I1:Inv X pins σ H { s with heap:=s.heap.push { cls:=.type "range",data:=.fields #[.int lo t,.int hi u,.int 1 v] },toks:=tk }:=I.kept fun b o e=>zcl7 _ e
 refine⟨(s.heap.push { cls:=.type "range",data:=.fields #[.int lo t,.int hi u,.int 1 v] }).objs.size,[(s.heap.push { cls:=.type "range",data:=.fields #[.int lo t,.int hi u,.int 1 v] }).objs.size],_,_,H,rfl,
  I1.kept (t':=tk) fun b o e=>zcl7 _ e,zbe0 _ lo (hi - lo).toNat,?_,fun b hb=>?_,q⟩
 ·have e1:lo+((0:Nat):Int)*1=lo:=by simp
  have e2:(((hi - lo).toNat:Nat):Int) - ((0:Nat):Int)=Builtin.Range.rangeSize lo hi 1:=by rw[rangeSize_one];split<;>omega
  show IsRangeIter _ _ (lo+((0:Nat):Int)*1) ((((hi - lo).toNat:Nat):Int) - ((0:Nat):Int)) 1
  rw[e1,e2]
  exact zco2 _ rfl
 ·have e:b=(s.heap.push { cls:=.type "range",data:=.fields #[.int lo t,.int hi u,.int 1 v] }).objs.size:=by simpa using hb
  subst e
  exact I1.fpOk (zcm3 _) (I1.hok.fresh (zcm3 _))
def tFor(wi:TI)(g:TG)(tb:TS):TS:=fun D σ H=>wi σ H fun J H1=>∃ W:Nat->Nat->St->Hp->Prop,(∃ m,W 0 m σ H1)/\∀ i m σ H,W i m σ H ->
 (J.stop i H/\D.nx σ H)∨(J.go i H/\∃ N:St->Hp->Prop,(∀ σ' H',N σ' H'->∃ m',m'<m/\W (i+1) m' σ' H')/\∀ x H',J.yld i H x H'->g x σ H' fun σ2 H2=>tb { D with nx:=N,ct:=N,bk:=D.nx } σ2 H2)
def zah4(fp:List Addr)(h:Heap):List (Addr×Obj):=fp.filterMap fun b=>(h.get? b).map fun o=>(b,o)
theorem zm2{fp:List Addr}{h:Heap}{b:Addr}{o:Obj}(hb:b∈fp)(e:h.get? b=some o):(b,o)∈zah4 fp h:=List.mem_filterMap.mpr ⟨b,hb,by rw[e];rfl⟩
theorem zbh5{fp:List Addr}{h:Heap}{p:Addr×Obj}(hp:p∈zah4 fp h):p.1∈fp/\h.get? p.1=some p.2:=by
 obtain⟨b,hb,e⟩:=List.mem_filterMap.mp hp
 cases q:h.get? b with
 | none=>rw[q] at e;cases e
 | some o=>
  rw[q] at e
  have e':(b,o)=p:=Option.some.inj e
  subst e'
  exact⟨hb,q⟩
theorem Inv.pinned{pins:List (Addr×Obj)}{σ:St}{H:Hp}{s:Shared}{fp:List Addr}(I:Inv X pins σ H s)(hf:∀ b∈fp,FpOk X pins H b)(ho:∀ b∈fp,∃ o,s.heap.get? b=some o/\∀ v,o.data≠.cell v):Inv X (pins++zah4 fp s.heap) σ H s:=
 I.pins_of fun p hp=>(zco0.mp hp).elim (fun z=>I.pin p (zco1 _ z)) fun z=>by
  obtain⟨hb,e⟩:=zbh5 z
  obtain⟨f0,f1,f2,_⟩:=hf p.1 hb
  obtain⟨o,e',d⟩:=ho p.1 hb
  rw[e] at e';cases e'
  exact⟨e,f0,f1,f2,d⟩
theorem Inv.unpinned{pins pl:List (Addr×Obj)}{σ:St}{H:Hp}{s:Shared}(I:Inv X (pins++pl) σ H s):Inv X pins σ H s:=I.pins_of fun p hp=>I.pin p (zco1 _ (zcr8 _ hp))
theorem ps_for{iter:Expr}{body:List Stmt}{wi:TI}{g:TG}{tb:TS}{pos:Pos}(hp:PassesOwn (model X.prog X.w) X.A X.env X.xe)(hc:X.calm=true)(hi:PI X tg iter wi)(hg:PG X tg g)(hb:PSs X body tb)(hs:∀ x,foldedSetIterable iter X.env x=pure x:=by intro _;rfl):PS X (.For tg iter body [] pos) (tFor wi g tb):=by
 intro pins s σ H D I h
 refine wpAny_For (thn (hi pins s σ H _ I h) fun v s1 h1=>thn h1 fun itv s2 h2=>?_) hs
 obtain⟨it,fp,tn,J,H2,e,I2,T,st2,f2,W,⟨m0,w0⟩,turn⟩:=h2
 subst e
 have stat:∀ {H':Hp},(∀ b∈fp,H' b=none)->∀ b∈fp,FpOk X pins H' b:=fun hn b hb=>⟨hn b hb,(f2 b hb).2⟩
 refine codeAny_forLoop_any (fun n s'=>∃ i σ' H',Inv X pins σ' H' s'/\tn i s'.heap/\(∀ b∈fp,H' b=none)/\W i n σ' H') ?_ m0 ⟨0,σ,H2,I2,st2,fun b hb=>(f2 b hb).1,w0⟩
 rintro n s3 ⟨i,σ3,H3,I3,st3,fr3,w3⟩
 rcases turn i n σ3 H3 w3 with ⟨stop,qn⟩|⟨go,N,hN,step⟩
 ·refine wpAny_passesOwn hp (thn (T.done X rfl rfl rfl hc i pins s3 σ3 H3 X.xe I3 (stat fr3) st3 stop) fun r s4 ⟨hr,I4⟩=>?_)
  subst hr
  exact wpAny_execs_nil ⟨σ3,H3,I4,qn⟩
 ·refine wpAny_passesOwn hp (thn (T.item X rfl rfl rfl hc i pins s3 σ3 H3 X.xe I3 (stat fr3) st3 go) fun r s4 ⟨u,hr,h4⟩=>?_)
  subst hr
  refine wpAny_passesOwn hp (thn h4 fun _ s5 ⟨x,H5,I5,r5,y5,st5,fr5⟩=>?_)
  have I5':=I5.pinned (stat fr5) (T.obj _ _ st5)
  refine wpAny_passesOwn hp (thn (hg _ s5 σ3 H5 x u _ I5' r5 (step x H5 y5)) fun _ s6 ⟨σ6,H6,I6,q6⟩=>?_)
  refine wpAny_passesOwn hp (thn (hb _ s6 σ6 H6 _ I6 q6) fun f s7 q7=>?_)
  have again:∀ {σ7:St}{H7:Hp},Inv X (pins++zah4 fp s5.heap) σ7 H7 s7->N σ7 H7->∃ m,m<n/\∃ i σ' H',Inv X pins σ' H' s7/\tn i s7.heap/\(∀ b∈fp,H' b=none)/\W i m σ' H':=fun {σ7 H7} I7 n7=>by
   obtain⟨m',hm,w7⟩:=hN σ7 H7 n7
   refine⟨m',hm,i+1,σ7,H7,I7.unpinned,T.keep _ _ _ st5 fun b hb o e=>(I7.pin (b,o) (zco1 _ (zco1 _ (zm2 hb e)))).1,fun b hb=>?_,w7⟩
   obtain⟨o,e,d⟩:=T.obj _ _ st5 b hb
   exact (I7.pin (b,o) (zco1 _ (zco1 _ (zm2 hb e)))).2.1
  cases f with
  | next=>obtain⟨σ7,H7,I7,n7⟩:=q7;exact again I7 n7
  | cont=>obtain⟨σ7,H7,I7,n7⟩:=q7;exact again I7 n7
  | brk=>obtain⟨σ7,H7,I7,q7⟩:=q7;exact⟨σ7,H7,I7.unpinned,q7⟩
  | ret v=>obtain⟨x7,σ7,H7,I7,r7,q7⟩:=q7;exact⟨x7,σ7,H7,I7.unpinned,r7,q7⟩
end
theorem zbv3{K:zcl5}{a:Addr}{xs:List V}{g:TG}{tb:TS}{D:Ends}{σ:St}{H:Hp}(Pv:Nat->St->Hp->Prop)(h0:Pv 0 σ H)(hl:∀ i σ H,i<=xs.length->Pv i σ H->SqL K H a xs)(hs:∀ i x σ H,xs[i]?=some x->Pv i σ H->g x σ H fun σ2 H2=>tb { D with nx:=Pv (i+1),ct:=Pv (i+1),bk:=D.nx } σ2 H2)(hd:∀ σ H,Pv xs.length σ H->D.nx σ H) :
  ∃ W:Nat->Nat->St->Hp->Prop,(∃ m,W 0 m σ H)/\∀ i m σ H,W i m σ H ->
   ((Itl K a).stop i H/\D.nx σ H)∨((Itl K a).go i H/\∃ N:St->Hp->Prop,(∀ σ' H',N σ' H'->∃ m',m'<m/\W (i+1) m' σ' H')/\∀ x H',(Itl K a).yld i H x H'->g x σ H' fun σ2 H2=>tb { D with nx:=N,ct:=N,bk:=D.nx } σ2 H2):=by
 refine⟨fun i m σ H=>m=xs.length - i/\i<=xs.length/\Pv i σ H,⟨xs.length,by simp,zcp2 _,h0⟩,?_⟩
 rintro i m σ H ⟨rfl,hi,p⟩
 have q:=hl i σ H hi p
 by_cases hlt:i<xs.length
 ·refine .inr ⟨⟨xs,xs[i],q,by simp[hlt]⟩,Pv (i+1),fun σ' H' p'=>⟨xs.length - (i+1),by omega,rfl,hlt,p'⟩,fun x H' y=>?_⟩
  obtain⟨e,y⟩:=y
  subst e
  exact hs i x σ _ (y xs q) p
 ·have e:i=xs.length:=by omega
  subst e
  exact .inl ⟨⟨xs,q,zcm3 _⟩,hd σ H p⟩
theorem zbl1{lo:Int}{n:Nat}{g:TG}{tb:TS}{D:Ends}{σ:St}{H:Hp}(Pv:Nat->St->Hp->Prop)(h0:Pv 0 σ H)(hs:∀ i σ H,i<n->Pv i σ H->g (.int (lo+i)) σ H fun σ2 H2=>tb { D with nx:=Pv (i+1),ct:=Pv (i+1),bk:=D.nx } σ2 H2)(hd:∀ σ H,Pv n σ H->D.nx σ H) :
  ∃ W:Nat->Nat->St->Hp->Prop,(∃ m,W 0 m σ H)/\∀ i m σ H,W i m σ H ->
   ((Itr lo n).stop i H/\D.nx σ H)∨((Itr lo n).go i H/\∃ N:St->Hp->Prop,(∀ σ' H',N σ' H'->∃ m',m'<m/\W (i+1) m' σ' H')/\∀ x H',(Itr lo n).yld i H x H'->g x σ H' fun σ2 H2=>tb { D with nx:=N,ct:=N,bk:=D.nx } σ2 H2):=by
 refine⟨fun i m σ H=>m=n - i/\i<=n/\Pv i σ H,⟨n,by simp,zcp2 _,h0⟩,?_⟩
 rintro i m σ H ⟨rfl,hi,p⟩
 by_cases hlt:i<n
 ·refine .inr ⟨hlt,Pv (i+1),fun σ' H' p'=>⟨n - (i+1),by omega,rfl,hlt,p'⟩,fun x H' y=>?_⟩
  obtain⟨e,y⟩:=y
  subst e y
  exact hs i σ _ hlt p
 ·have e:i=n:=by omega
  subst e
  exact .inl ⟨zcm3 _,hd σ H p⟩
abbrev R2:=V->V->Hp->VK->Prop
def OpR(X:Cx)(f:Value->Value->Sem Value)(r:R2):Prop:=
 ∀ (pins:List (Addr×Obj)) (s:Shared) (σ:St) (H:Hp) (x y:V) (v u:Value) (Q:VK),Inv X pins σ H s->RelV x v->RelV y u->r x y H Q ->
  wpAny (model X.prog X.w) X.A (f v u) (EP X pins σ Q) X.xe s
def UnR(X:Cx)(f:Value->Sem Value)(r:V->Hp->VK->Prop):Prop:=
 ∀ (pins:List (Addr×Obj)) (s:Shared) (σ:St) (H:Hp) (x:V) (v:Value) (Q:VK),Inv X pins σ H s->RelV x v->r x H Q ->
  wpAny (model X.prog X.w) X.A (f v) (EP X pins σ Q) X.xe s
def zl5(X:Cx)(f:Value)(r:List V->Hp->VK->Prop):Prop:=
 ∀ (pins:List (Addr×Obj)) (s:Shared) (σ:St) (H:Hp) (xs:List V) (us:List Value) (Q:VK),Inv X pins σ H s->Vals xs us->r xs H Q ->
  wpAny (model X.prog X.w) X.A (call f us) (EP X pins σ Q) X.xe s
def TruR(X:Cx)(r:V->Hp->(Bool->Hp->Prop)->Prop):Prop:=
 ∀ (pins:List (Addr×Obj)) (s:Shared) (σ:St) (H:Hp) (x:V) (v:Value) (Q:Bool->Hp->Prop),Inv X pins σ H s->RelV x v->r x H Q ->
  wpAny (model X.prog X.w) X.A (truthy v) (TP X pins σ Q) X.xe s
def tOp(r:R2)(ta tb:TE):TE:=fun σ H Q=>ta σ H fun x H1=>tb σ H1 fun y H2=>r x y H2 Q
def tUn(r:V->Hp->VK->Prop)(ta:TE):TE:=fun σ H Q=>ta σ H fun x H1=>r x H1 Q
def rI(C:Int->Int->Prop)(g:Int->Int->V):R2:=fun x y H Q=>∃ i j,x=.int i/\y=.int j/\C i j/\Q (g i j) H
def rI0(g:Int->Int->V):R2:=fun x y H Q=>∃ i j,x=.int i/\y=.int j/\Q (g i j) H
def rU(g:Int->V):V->Hp->VK->Prop:=fun x H Q=>∃ i,x=.int i/\Q (g i) H
section
variable {X:Cx}{a b c:Expr}{ta tb tc:TE}{pos:Pos}
theorem binT(ha:PE X a ta)(hb:PE X b tb){pins:List (Addr×Obj)}{s:Shared}{σ:St}{H:Hp}{R:V->V->Hp->Prop}(I:Inv X pins σ H s)(h:ta σ H fun x H1=>tb σ H1 fun y H2=>R x y H2){Q:Value->Shared->Prop}{f:Value->Value->Sem Value}(hf:∀ v u s2 x y H2,Inv X pins σ H2 s2->RelV x v->RelV y u->R x y H2->wpAny (model X.prog X.w) X.A (f v u) Q X.xe s2) :
  wpAny (model X.prog X.w) X.A (eval a X.env) (fun v s₁=>wpAny (model X.prog X.w) X.A (eval b X.env) (fun u s₂=>wpAny (model X.prog X.w) X.A (f v u) Q X.xe s₂) X.xe s₁) X.xe s:=by
 refine thn (ha pins s σ H _ I h) fun v s1 ⟨x,H1,I1,r1,q1⟩=>?_
 refine thn (hb pins s1 σ H1 _ I1 q1) fun u s2 ⟨y,H2,I2,r2,q2⟩=>?_
 exact hf v u s2 x y H2 I2 r1 r2 q2
theorem zc4{op:Operator}{r:R2}(ho:OpR X (binaryOp op) r)(ha:PE X a ta)(hb:PE X b tb):PE X (.BinOp a op b pos) (tOp r ta tb):=by
 intro pins s σ H Q I h
 exact wpAny_BinOp (binT ha hb I h fun v u s2 x y H2 I2 rx ry q=>ho pins s2 σ H2 x y v u Q I2 rx ry q)
theorem pe_un{op:UnaryOp}{r:V->Hp->VK->Prop}(ho:UnR X (unaryOp op) r)(ha:PE X a ta):PE X (.UnaryOp op a pos) (tUn r ta):=by
 intro pins s σ H Q I h
 exact UnaryOp_ (thn (ha pins s σ H _ I h) fun v s1 ⟨x,H1,I1,r1,q1⟩=>ho pins s1 σ H1 x v Q I1 r1 q1)
theorem opI{f:Value->Value->Sem Value}{C:Int->Int->Prop}{g:Int->Int->Int}(rule:∀ (i j:Int) (t u:Tok) (s:Shared) (Q:Value->Shared->Prop) (E:Value->Shared->Prop),C i j->Q (.int (g i j) s.toks) { s with toks:=s.toks+1 }->wpAny (model X.prog X.w) X.A (f (.int i t) (.int j u)) Q E s) :
  OpR X f (rI C fun i j=>.int (g i j)):=by
 intro pins s σ H x y v u Q I rx ry h
 obtain⟨i,j,rfl,rfl,hc,q⟩:=h
 obtain⟨t,rfl⟩:=rx
 obtain⟨t',rfl⟩:=ry
 exact rule i j t t' s _ _ hc ⟨.int (g i j),H,I.tok _,⟨_,rfl⟩,q⟩
theorem opI0{f:Value->Value->Sem Value}{g:Int->Int->Int}(rule:∀ (i j:Int) (t u:Tok) (s:Shared) (Q:Value->Shared->Prop) (E:Value->Shared->Prop),Q (.int (g i j) s.toks) { s with toks:=s.toks+1 }->wpAny (model X.prog X.w) X.A (f (.int i t) (.int j u)) Q E s) :
  OpR X f (rI0 fun i j=>.int (g i j)):=by
 intro pins s σ H x y v u Q I rx ry h
 obtain⟨i,j,rfl,rfl,q⟩:=h
 obtain⟨t,rfl⟩:=rx
 obtain⟨t',rfl⟩:=ry
 exact rule i j t t' s _ _ ⟨.int (g i j),H,I.tok _,⟨_,rfl⟩,q⟩
theorem opB0{f:Value->Value->Sem Value}{g:Int->Int->Bool}(rule:∀ (i j:Int) (t u:Tok) (s:Shared) (Q:Value->Shared->Prop) (E:Value->Shared->Prop),Q (.bool (g i j)) s->wpAny (model X.prog X.w) X.A (f (.int i t) (.int j u)) Q E s) :
  OpR X f (rI0 fun i j=>.bl (g i j)):=by
 intro pins s σ H x y v u Q I rx ry h
 obtain⟨i,j,rfl,rfl,q⟩:=h
 obtain⟨t,rfl⟩:=rx
 obtain⟨t',rfl⟩:=ry
 exact rule i j t t' s _ _ ⟨.bl (g i j),H,I,rfl,q⟩
def CPow(i j:Int):Prop:=0<=j/\j<=1000000/\i.natAbs<2 ^ 64
theorem op_add:OpR X (binaryOp .Add) (rI0 fun i j=>.int (i+j)):=opI0 fun _ _ _ _ _ _ _ q=>add_int q
theorem op_sub:OpR X (binaryOp .Sub) (rI0 fun i j=>.int (i - j)):=opI0 fun _ _ _ _ _ _ _ q=>sub_int q
theorem zcb4:OpR X (binaryOp .Mod) (rI (fun _ j=>j≠0) fun i j=>.int (i.fmod j)):=opI fun _ _ _ _ _ _ _ hc q=>mod_int' hc q
theorem op_pow:OpR X (binaryOp .Pow) (rI CPow fun i j=>.int (i ^ j.toNat)):=opI fun _ _ _ _ _ _ _ hc q=>pow_int_small hc.1 hc.2.1 hc.2.2 q
theorem zca9:OpR X (inplaceOp .Add) (rI0 fun i j=>.int (i+j)):=opI0 fun _ _ _ _ _ _ _ q=>iadd_int q
theorem zcc5:OpR X (inplaceOp .Sub) (rI0 fun i j=>.int (i - j)):=opI0 fun _ _ _ _ _ _ _ q=>isub_int q
theorem unI{f:Value->Sem Value}{g:Int->Int}(rule:∀ (i:Int) (t:Tok) (s:Shared) (Q:Value->Shared->Prop) (E:Value->Shared->Prop),Q (.int (g i) s.toks) { s with toks:=s.toks+1 }->wpAny (model X.prog X.w) X.A (f (.int i t)) Q E s) :
  UnR X f (rU fun i=>.int (g i)):=by
 intro pins s σ H x v Q I rx h
 obtain⟨i,rfl,q⟩:=h
 obtain⟨t,rfl⟩:=rx
 exact rule i t s _ _ ⟨.int (g i),H,I.tok _,⟨_,rfl⟩,q⟩
theorem un_neg:UnR X (unaryOp .USub) (rU fun i=>.int (-i)):=unI fun _ _ _ _ _ q=>neg_int q
end
def scal:V->V->Bool
 | .non,.non=>true | .non,.int _=>true | .int _,.non=>true | .non,.bl _=>true | .bl _,.non=>true | .non,.str _=>true | .str _,.non=>true
 | .int _,.int _=>true | .bl _,.bl _=>true | .str _,.str _=>true | .byt _,.byt _=>true
 | .int _,.str _=>true | .str _,.int _=>true | .bl _,.str _=>true | .str _,.bl _=>true
 | _,_=>false
def rEq:R2:=fun x y H Q=>scal x y=true/\Q (.bl (decide (x=y))) H
def rNe:R2:=fun x y H Q=>scal x y=true/\Q (.bl (!decide (x=y))) H
theorem zbo4{i j:Int}:decide (V.int i=V.int j)=(i==j):=by
 rw[Bool.eq_iff_iff]
 simp
theorem zby7{i j:Bool}:decide (V.bl i=V.bl j)=(i==j):=by
 rw[Bool.eq_iff_iff]
 simp
theorem zbj3{i j:Str}:decide (V.str i=V.str j)=(i==j):=by
 rw[Bool.eq_iff_iff]
 simp
theorem zbm6{i j:Array UInt8}:decide (V.byt i=V.byt j)=(i.toList==j.toList):=by
 rw[Bool.eq_iff_iff]
 cases i
 cases j
 simp
section
variable {X:Cx}{a b c:Expr}{ta tb tc:TE}{pos:Pos}
theorem zd3{pins:List (Addr×Obj)}{σ:St}{H:Hp}{s:Shared}{Q:VK}{k k':Bool}(I:Inv X pins σ H s)(q:Q (.bl k) H)(e:k=k'):EP X pins σ Q (.bool k') s:=by
 subst e
 exact⟨.bl k,H,I,rfl,q⟩
theorem op_eq:OpR X (compareOp .Eq) rEq:=by
 intro pins s σ H x y v u Q I rx ry h
 obtain⟨hs,q⟩:=h
 cases x with
 | non=>
  cases rx
  cases y with
  | non=>cases ry;exact PySem.EqNone.eq_none_none (zd3 I q (by simp))
  | bl j=>cases ry;exact PySem.EqNone.eq_none_bool (zd3 I q (by simp))
  | int j=>obtain⟨t',rfl⟩:=ry;exact PySem.EqNone.eq_none_int (zd3 I q (by simp))
  | str j=>obtain⟨t',rfl⟩:=ry;exact PySem.EqNone.eq_none_str (zd3 I q (by simp))
  | _=>exact absurd (show false=true from hs) zcm2
 | bl i=>
  cases rx
  cases y with
  | non=>cases ry;exact PySem.EqNone.eq_bool_none (zd3 I q (by simp))
  | bl j=>cases ry;exact eq_bool (zd3 I q zby7)
  | str j=>obtain⟨t',rfl⟩:=ry;exact PySem.EqMixed.eq_bool_str (zd3 I q (by simp))
  | _=>exact absurd (show false=true from hs) zcm2
 | int i=>
  obtain⟨t,rfl⟩:=rx
  cases y with
  | non=>cases ry;exact PySem.EqNone.eq_int_none (zd3 I q (by simp))
  | int j=>obtain⟨t',rfl⟩:=ry;exact eq_int (zd3 I q zbo4)
  | str j=>obtain⟨t',rfl⟩:=ry;exact PySem.EqMixed.eq_int_str (zd3 I q (by simp))
  | _=>exact absurd (show false=true from hs) zcm2
 | str i=>
  obtain⟨t,rfl⟩:=rx
  cases y with
  | non=>cases ry;exact PySem.EqNone.eq_str_none (zd3 I q (by simp))
  | bl j=>cases ry;exact PySem.EqMixed.eq_str_bool (zd3 I q (by simp))
  | int j=>obtain⟨t',rfl⟩:=ry;exact PySem.EqMixed.eq_str_int (zd3 I q (by simp))
  | str j=>obtain⟨t',rfl⟩:=ry;exact eq_str (zd3 I q zbj3)
  | _=>exact absurd (show false=true from hs) zcm2
 | byt i=>
  obtain⟨t,rfl⟩:=rx
  cases y with
  | byt j=>obtain⟨t',rfl⟩:=ry;exact PySem.W.eq_bytes (zd3 I q zbm6)
  | _=>exact absurd (show false=true from hs) zcm2
 | _=>cases y<;>exact absurd (show false=true from hs) zcm2
theorem op_ne:OpR X (compareOp .NotEq) rNe:=by
 intro pins s σ H x y v u Q I rx ry h
 obtain⟨hs,q⟩:=h
 cases x with
 | non=>
  cases rx
  cases y with
  | non=>cases ry;exact PySem.EqNone.ne_none_none (zd3 I q (by simp))
  | bl j=>cases ry;exact PySem.EqNone.ne_none_bool (zd3 I q (by simp))
  | int j=>obtain⟨t',rfl⟩:=ry;exact PySem.EqNone.ne_none_int (zd3 I q (by simp))
  | str j=>obtain⟨t',rfl⟩:=ry;exact PySem.EqNone.ne_none_str (zd3 I q (by simp))
  | _=>exact absurd (show false=true from hs) zcm2
 | bl i=>
  cases rx
  cases y with
  | non=>cases ry;exact PySem.EqNone.ne_bool_none (zd3 I q (by simp))
  | bl j=>cases ry;exact ne_bool (zd3 I q (congrArg not zby7))
  | str j=>obtain⟨t',rfl⟩:=ry;exact PySem.EqMixed.ne_bool_str (zd3 I q (by simp))
  | _=>exact absurd (show false=true from hs) zcm2
 | int i=>
  obtain⟨t,rfl⟩:=rx
  cases y with
  | non=>cases ry;exact PySem.EqNone.ne_int_none (zd3 I q (by simp))
  | int j=>obtain⟨t',rfl⟩:=ry;exact ne_int (zd3 I q (congrArg not zbo4))
  | str j=>obtain⟨t',rfl⟩:=ry;exact PySem.EqMixed.ne_int_str (zd3 I q (by simp))
  | _=>exact absurd (show false=true from hs) zcm2
 | str i=>
  obtain⟨t,rfl⟩:=rx
  cases y with
  | non=>cases ry;exact PySem.EqNone.ne_str_none (zd3 I q (by simp))
  | bl j=>cases ry;exact PySem.EqMixed.ne_str_bool (zd3 I q (by simp))
  | int j=>obtain⟨t',rfl⟩:=ry;exact PySem.EqMixed.ne_str_int (zd3 I q (by simp))
  | str j=>obtain⟨t',rfl⟩:=ry;exact ne_str (zd3 I q (congrArg not zbj3))
  | _=>exact absurd (show false=true from hs) zcm2
 | byt i=>
  obtain⟨t,rfl⟩:=rx
  cases y with
  | byt j=>obtain⟨t',rfl⟩:=ry;exact PySem.W.ne_bytes (zd3 I q (congrArg not zbm6))
  | _=>exact absurd (show false=true from hs) zcm2
 | _=>cases y<;>exact absurd (show false=true from hs) zcm2
theorem op_lt:OpR X (compareOp .Lt) (rI0 fun i j=>.bl (decide (i<j))):=opB0 fun _ _ _ _ _ _ _ q=>lt_int q
theorem op_le:OpR X (compareOp .LtE) (rI0 fun i j=>.bl (decide (i<=j))):=opB0 fun _ _ _ _ _ _ _ q=>le_int q
theorem op_gt:OpR X (compareOp .Gt) (rI0 fun i j=>.bl (decide (j<i))):=opB0 fun _ _ _ _ _ _ _ q=>gt_int q
theorem zbw9(b:Expr){op:CmpOp}(h:op≠.In:=by decide)(h2:op≠.NotIn:=by decide):behindInMarks op b=false:=by
 have e1:(op==CmpOp.In)=false:=by cases op<;>first|rfl|exact absurd rfl h
 have e2:(op==CmpOp.NotIn)=false:=by cases op<;>first|rfl|exact absurd rfl h2
 cases b<;>simp[behindInMarks,e1,e2]
theorem zcb9{op:CmpOp}{r:R2}(ho:OpR X (compareOp op) r)(ha:PE X a ta)(hb:PE X b tb)(hm:behindInMarks op b=false):PE X (.Compare a [op] [b] pos) (tOp r ta tb):=by
 intro pins s σ H Q I h
 exact wpAny_Compare1 (binT ha hb I h fun v u s2 x y H2 I2 rx ry q=>ho pins s2 σ H2 x y v u Q I2 rx ry q) hm
def TruV(K:zcl5)(x:V)(H:Hp)(k:Bool):Prop:=
 match x with
 | .non=>k=false
 | .bl b=>k=b
 | .int i=>k=(i != 0)
 | .str y=>y.length<=sizeLine/\k=((y.length:Int) != 0)
 | .byt y=>y.size<=sizeLine/\k=((y.size:Int) != 0)
 | .ref p=>(∃ xs,SqL K H p xs/\k=!xs.isEmpty)∨(∃ xs,SqT K H p xs/\k=!xs.isEmpty)∨∃ kvs,H p=some (.dK kvs)/\k=!kvs.isEmpty
 | _=>False
theorem zbe9{κ:Type}{kvs:List (κ×V)}{vs:List (κ×Value)}(r:KV kvs vs):(!vs.isEmpty)=!kvs.isEmpty:=by
 cases r<;>rfl
theorem zah3{xs:List V}{its:List Value}(r:Vals xs its):(!its.toArray.isEmpty)=!xs.isEmpty:=by
 cases r<;>simp
theorem zaf7:(sizeLine:Nat)<2 ^ 63:=by rw[zcx6];decide
theorem zbm7:TruR X (fun x H Q=>∃ k,TruV X.K x H k/\Q k H):=by
 intro pins s σ H x v Q I rx h
 obtain⟨k,e,q⟩:=h
 have hl:=zaf7
 have hs:sizeLine=16777216:=zcx6
 cases x with
 | non=>
  cases rx
  have e':k=false:=e
  subst e'
  exact truthy_none ⟨H,I,q⟩
 | bl b=>
  cases rx
  have e':k=b:=e
  subst e'
  exact wpAny_truthy_bool ⟨H,I,q⟩
 | int i=>
  obtain⟨t,rfl⟩:=rx
  have e':k=(i != 0):=e
  subst e'
  exact PySem.P.truthy_int ⟨H,I,q⟩
 | str y=>
  obtain⟨t,rfl⟩:=rx
  obtain⟨hy,e'⟩:y.length<=sizeLine/\k=((y.length:Int) != 0):=e
  subst e'
  exact PySem.P.truthy_str (by omega) ⟨H,I.tok _,q⟩
 | byt y=>
  obtain⟨t,rfl⟩:=rx
  obtain⟨hy,e'⟩:y.size<=sizeLine/\k=((y.size:Int) != 0):=e
  subst e'
  exact PySem.W.truthy_bytes (by omega) ⟨H,I.tok _,q⟩
 | ref p=>
  cases rx
  have e':(∃ xs,SqL X.K H p xs/\k=!xs.isEmpty)∨(∃ xs,SqT X.K H p xs/\k=!xs.isEmpty)∨∃ kvs,H p=some (.dK kvs)/\k=!kvs.isEmpty:=e
  rcases e' with ⟨xs,hx,e'⟩|⟨xs,hx,e'⟩|⟨kvs,hx,e'⟩
  ·subst e'
   obtain⟨its,r,pl,hz⟩:=I.list hx
   have hlen:=r.length
   exact wpAny_truthy_list pl.isList (by simp only[zcl9];omega) ⟨H,I.tok _,by rw[zah3 r];exact q⟩
  ·subst e'
   obtain⟨its,r,pl,hz⟩:=I.tuple hx
   have hlen:=r.length
   exact truthy_tuple pl (by simp only[zcl9];omega) ⟨H,I.tok _,by rw[zah3 r];exact q⟩
  ·subst e'
   obtain⟨hz,hS,vs,r,m⟩:kvs.length<=sizeLine/\(p==sysModules)=false/\∃ vs,KV kvs vs/\s.heap.DictOf (zh5 X.prog X.w) p vs:=I.hok p _ hx
   have hlen:kvs.length=vs.length:=Paired.length r
   exact wpAny_truthy_dict hS m (by omega) ⟨H,I.tok _,by rw[zbe9 r];exact q⟩
 | _=>exact (show False from e).elim
theorem zbe4:OpR X (binaryOp .Add) (fun x y H Q=>∃ i j,x=.str i/\y=.str j/\i.length+j.length<=sizeLine/\Q (.str (i++j)) H):=by
 intro pins s σ H x y v u Q I rx ry h
 obtain⟨i,j,rfl,rfl,hz,q⟩:=h
 obtain⟨t,rfl⟩:=rx
 obtain⟨t',rfl⟩:=ry
 exact add_str (fun t' tk=>⟨.str (i++j),H,I.tok _,⟨_,rfl⟩,q⟩) hz
theorem zac1{x:V}{us:List Value}(r:Vals [x] us):∃ u,us=[u]/\RelV x u:=by
 cases r with
 | cons r1 r2=>cases r2;exact⟨_,rfl,r1⟩
theorem vals2{x y:V}{us:List Value}(r:Vals [x,y] us):∃ u w',us=[u,w']/\RelV x u/\RelV y w':=by
 cases r with
 | cons r1 r2=>
  cases r2 with
  | cons r3 r4=>cases r4;exact⟨_,_,rfl,r1,r3⟩
theorem zbm1(hc:X.calm=true):zl5 X (.builtin "min") (fun xs H Q=>∃ i j,xs=[.int i,.int j]/\Q (.int (if j<i then j else i)) H):=by
 intro pins s σ H xs us Q I r h
 obtain⟨i,j,rfl,q⟩:=h
 obtain⟨u,w',rfl,⟨t,rfl⟩,⟨t',rfl⟩⟩:=vals2 r
 refine min_two_ints (I.ok.hd hc) fun h' tk k=>⟨_,H,I.kept k,?_,q⟩
 by_cases hj:j<i
 ·rw[if_pos hj,if_pos hj];exact⟨_,rfl⟩
 ·rw[if_neg hj,if_neg hj];exact⟨_,rfl⟩
theorem zap0:zl5 X (.type "int") (fun xs H Q=>(∃ i,xs=[.int i]/\Q (.int i) H)∨∃ k,xs=[.bl k]/\Q (.int (if k then 1 else 0)) H):=by
 intro pins s σ H xs us Q I r h
 rcases h with ⟨i,rfl,q⟩|⟨k,rfl,q⟩
 ·obtain⟨u,rfl,t,rfl⟩:=zac1 r
  exact call_int_int ⟨.int i,H,I,⟨_,rfl⟩,q⟩
 ·obtain⟨u,rfl,r1⟩:=zac1 r
  cases r1
  exact call_int_bool ⟨.int (if k then 1 else 0),H,I.tok _,⟨_,rfl⟩,q⟩
end
structure ObjM(h:Heap)(x dx C:Addr)(mA:Str->Option Value):Prop where
 obj:h.get? x=some (PySem.W.instObj C dx)
 ns:h.Ns1 dx mA
 ne:dx≠x
theorem zbg4{h:Heap}{dx:Addr}{mA:Str->Option Value}(n:h.Ns1 dx mA):∃ od,h.get? dx=some od/\∀ name,PySem.W.lookIn name od=some (mA name):=by
 obtain⟨o,es,ep,ho,hd,hk,_,hm⟩:=n
 refine⟨o,ho,fun name=>?_⟩
 have e:=hm name
 unfold nsFind findBy at e
 rw[← Array.find?_toList] at e
 unfold PySem.W.lookIn
 rw[hd]
 dsimp only
 split
 ·rename_i y q
  rw[q] at e
  exact congrArg some e
 ·rename_i q
  rw[q] at e
  have a:es.toList.any (·.refKey)=false:=by
   rw[List.any_eq_false]
   intro y hy
   obtain⟨z,t,hkey⟩:=hk y (zcw4.mp hy)
   simp[DictEntry.refKey,hkey]
  have a':¬ es.toList.any (·.refKey)=true:=by rw[a];exact zcm2
  rw[if_neg a']
  exact congrArg some e
theorem ObjM.look{h:Heap}{x dx C:Addr}{mA:Str->Option Value}(I:ObjM h x dx C mA):∃ od,PySem.W.InstAt h x (PySem.W.instObj C dx) C (some od)/\∀ name,PySem.W.lookIn name od=some (mA name):=
 let ⟨od,ho,hl⟩:=zbg4 I.ns
 ⟨od,⟨I.obj,rfl,rfl,ho⟩,hl⟩
section
variable {prog:Program}{w:World}{A:Around}{E:Value->Shared->Prop}{s:Shared}{K:zcl5}{x dx C f:Addr}{mA:Str->Option Value}{name:Str}{v:Value}
end
theorem RelO.some_of{v:V}{o:Option Value}(r:RelO (some v) o):∃ u,o=some u/\RelV v u:=by
 cases o with
 | none=>exact (show False from r).elim
 | some u=>exact⟨u,rfl,r⟩
section
variable {P:Program}{w:World}{H H':Hp}{h h':Heap}{a C dx:Addr}{fs fs':List (Str×V)}
theorem zcd6(hok:HOk P w H h)(e:H a=some (.ins C dx fs)):∃ mA,ObjM h a dx C mA/\(∀ f,RelO (fs.lookup f) (mA f))/\PySem.Within mA (fs.map (·.1))/\fs.length<=1000/\H dx=some (.own a):=by
 obtain⟨d,z,ne,ob,mA,n,r,q⟩:=(show zf9 P w H h a (.ins C dx fs) from hok a _ e)
 exact⟨mA,⟨ob,n,ne⟩,r,q,z,d⟩
end
structure Cls(K:zcl5)(C:Addr):Prop where
 pg:PySem.W.plainGet K C Str.empty=true
 hd:PySem.W.hasDictIn K C=true
 po:PySem.W.plainOver K C=true
 sa:zcs7 K (.ref C) "__setattr__"=some (some (.builtin "object.__setattr__"))
theorem Cls.get{K:zcl5}{C:Addr}(c:Cls K C)(f:Str):PySem.W.plainGet K C f=true:=c.pg
section
variable {X:Cx}{pins:List (Addr×Obj)}{σ:St}{H:Hp}{s:Shared}{a C dx:Addr}{fs:List (Str×V)}{f:Str}{v:V}{A:Around}{E:Value->Shared->Prop}
end
section
variable {X:Cx}{pins:List (Addr×Obj)}{σ:St}{H:Hp}{s:Shared}{A:Around}{E:Value->Shared->Prop}{Q:Value->Shared->Prop}{c:Value}{b:Bool}
inductive TyOf(K:zcl5)(H:Hp):V->Value->Prop where
 | non:TyOf K H .non (.type "NoneType")
 | bl (x:Bool):TyOf K H (.bl x) (.type "bool")
 | int (i:Int):TyOf K H (.int i) (.type "int")
 | str (x:Str):TyOf K H (.str x) (.type "str")
 | flt (x:UInt64):TyOf K H (.flt x) (.type "float")
 | lst {a:Addr}{xs:List V}(e:H a=some (.lst xs)):TyOf K H (.ref a) (.type "list")
 | frz {a:Addr}{o:Obj}{xs:List V}(e:H a=some (.frz o (.lst xs))):TyOf K H (.ref a) (.type "list")
 | tup {a:Addr}{xs:List V}(e:H a=some (.tup xs)):TyOf K H (.ref a) (.type "tuple")
 | dK {a:Addr}{kvs:List (Key×V)}(e:H a=some (.dK kvs)):TyOf K H (.ref a) (.type "dict")
 | dT {a:Addr}{kvs:List (List Key×V)}(e:H a=some (.dT kvs)):TyOf K H (.ref a) (.type "dict")
 | ins {a C dx:Addr}{fs:List (Str×V)}(e:H a=some (.ins C dx fs)) (cl:Cls K C) (ha:zcs7 K (.ref C) "__class__"=some (some (.builtin "object.__class__")))
   (hn:PySem.W.specialIn K (.builtin "object.__class__") "__get__"=some (some (.builtin "getset_descriptor.__get__"))) (htk:PySem.W.takesIn K (.builtin "object.__class__")=some true)
   (hm:PySem.W.mroIn K C (.type "object")=some true):TyOf K H (.ref a) (.ref C)
theorem zbh0{x:V}{u t:Value}(I:Inv X pins σ H s)(rx:RelV x u)(ty:TyOf X.K H x t)(e:zcp8 X.K t c=some b)(h:∀ tk,Q (.bool b) { s with toks:=tk }) :
  wpAny (model X.prog X.w) A (call (.builtin "isinstance") [u,c]) Q E s:=by
 cases ty with
 | non=>cases (show u=Value.none from rx);exact zcs1 PySem.W.kitx_none I.kIn True.intro e (fun z=>nomatch z) h
 | bl y=>cases (show u=Value.bool y from rx);exact zcs1 PySem.W.kitx_bool I.kIn True.intro e (fun z=>nomatch z) h
 | int i=>obtain⟨t,q⟩:=(show ∃ t,u=Value.int i t from rx);cases q;exact zcs1 PySem.W.kitx_int I.kIn True.intro e (fun z=>nomatch z) h
 | str y=>obtain⟨t,q⟩:=(show ∃ t,u=Value.str y t from rx);cases q;exact zcs1 PySem.W.kitx_str I.kIn True.intro e (fun z=>nomatch z) h
 | flt y=>obtain⟨t,q⟩:=(show ∃ t,u=Value.float y t from rx);cases q;exact zcs1 PySem.W.kitx_float I.kIn True.intro e (fun z=>nomatch z) h
 | @lst a xs ea=>
  cases (show u=Value.ref a from rx)
  obtain⟨_,_,n,_,h1⟩:=(show zf9 X.prog X.w H s.heap a (.lst xs) from I.hok a _ ea)
  exact zcs1 PySem.W.kitx_list I.kIn ⟨_,h1,rfl⟩ e (fun z=>nomatch z) h
 | @frz a ob xs ea=>
  cases (show u=Value.ref a from rx)
  obtain⟨_,_,_,n,_,h1⟩:=(show zf9 X.prog X.w H s.heap a (.frz ob (.lst xs)) from I.hok a _ ea)
  exact zcs1 PySem.W.kitx_list I.kIn ⟨_,h1,rfl⟩ e (fun z=>nomatch z) h
 | @tup a xs ea=>
  cases (show u=Value.ref a from rx)
  obtain⟨_,_,_,p⟩:=(show zf9 X.prog X.w H s.heap a (.tup xs) from I.hok a _ ea)
  obtain⟨o,h1,h2,_⟩:=p
  exact zcs1 PySem.W.kitx_tuple I.kIn ⟨o,h1,h2⟩ e (fun z=>nomatch z) h
 | @dK a kvs ea=>
  cases (show u=Value.ref a from rx)
  obtain⟨_,_,vs,_,p⟩:=(show zf9 X.prog X.w H s.heap a (.dK kvs) from I.hok a _ ea)
  obtain⟨o,es,ep,h1,h2,_⟩:=p
  exact zcs1 PySem.W.kitx_dict I.kIn ⟨o,h1,h2.1⟩ e (fun z=>nomatch z) h
 | @dT a kvs ea=>
  cases (show u=Value.ref a from rx)
  obtain⟨_,_,xs,_,o,es,ep,h1,h2,_⟩:=(show zf9 X.prog X.w H s.heap a (.dT kvs) from I.hok a _ ea)
  exact zcs1 PySem.W.kitx_dict I.kIn ⟨o,h1,h2.1⟩ e (fun z=>nomatch z) h
 | @ins a C dx fs ea cl ha hn htk hm=>
  cases (show u=Value.ref a from rx)
  obtain⟨mA,O,_⟩:=zcd6 I.hok ea
  obtain⟨od,J,_⟩:=O.look
  exact zcs1 (PySem.W.kitx_own (cl.get _) cl.hd ha hn htk hm) I.kIn J e (fun z=>nomatch z) h
end
structure Room(k:Nat)(A:Around):Prop where
 hd:A.handled=none
 dp:A.depth+3*k+5<recursionLimit
 un:A.units+16*k+200<cLine
 gd:A.guards=some []
theorem Room.mono{j k:Nat}{A:Around}(r:Room k A)(h:j<=k):Room j A:=⟨r.hd,by have:=r.dp;omega,by have:=r.un;omega,r.gd⟩
theorem Room.deeper{k:Nat}{A:Around}(r:Room (k+1) A)(env:Env):Room k (A.deeper env):=
 ⟨r.hd,by have:=r.dp;show A.depth+1+3*k+5<_;omega,by have:=r.un;show A.units+3+16*k+200<_;omega,r.gd⟩
theorem Room.depth{k:Nat}{A:Around}(r:Room k A):A.depth<recursionLimit:=by have:=r.dp;omega
theorem Room.units{k:Nat}{A:Around}(r:Room k A):A.units+64<cLine:=by have:=r.un;omega
def tNil:TA:=fun _ H Q=>Q [] H
def tCons(ta:TE)(tr:TA):TA:=fun σ H Q=>ta σ H fun x H1=>tr σ H1 fun xs H2=>Q (x :: xs) H2
section
variable {X:Cx}{e:Expr}{es:List Expr}{te:TE}{t:TA}{pos:Pos}
theorem za1:PA X [] tNil:=fun _ _ _ _ H Q I h=>Calls.spliced_nil ⟨[],H,I,.nil,h⟩
theorem za0(ha:PE X e te)(hr:PA X es t)(hs:starEach (e :: es) X.env=(false,eval e X.env) :: starEach es X.env:=by rfl):PA X (e :: es) (tCons te t):=by
 intro pos pins s σ H Q I h
 rw[hs]
 show wpAny _ _ (spliced ((false,eval e X.env) :: backTo pos (starEach es X.env))) _ _ s
 refine Calls.spliced_cons (thn (ha pins s σ H _ I h) fun u s1 ⟨x,H1,I1,r1,q1⟩=>?_)
 exact thn (hr pos pins s1 σ H1 _ I1 q1) fun us s2 ⟨xs,H2,I2,r2,q2⟩=>⟨x :: xs,H2,I2,.cons r1 r2,q2⟩
end
abbrev Sp:=List V->Hp->VK->XK->Prop
abbrev CXT:=List Env->Hp->Shared->XK->Value->Shared->Prop
structure Env0(P:Program)(w:World)(K:zcl5)(mg:Str->Option Value)(base:Heap)(A:Around)(outer:List Env)(s:Shared)(H:Hp):Prop where
 frames:A.frames=some outer
 mod:Mod K mg base
 bs:∀ b o,base.get? b=some o->s.heap.get? b=some o/\H b=none
 bsz:base.objs.size<=s.heap.objs.size
 funs:s.heap.FunFrames base outer
 frf:∀ b∈frs outer,H b=none
 hok:HOk P w H s.heap
 bare:AllBare s.gens
def CE(outer:List Env)(P:Program)(w:World)(H:Hp)(s:Shared)(Q:VK)(u:Value)(s':Shared):Prop:=
 ∃ v H',s'.os=s.os/\AllBare s'.gens/\Un (frs outer) [] H H' s.heap s'.heap/\HOk P w H' s'.heap/\RelV v u/\Q v H'
def CR(CX:CXT)(outer:List Env)(P:Program)(w:World)(H:Hp)(s:Shared)(Q:VK)(E:XK)(r:Result)(s':Shared):Prop:=
 match r with
 | .ok (.ret u)=>CE outer P w H s Q u s'
 | .ok _=>False
 | .error e=>CX outer H s E e s'
structure FnOk(P:Program)(w:World)(K:zcl5)(mg:Str->Option Value)(base:Heap)(CX:CXT)(k:Nat)(f:Addr)(fd:FuncData)(ps:List Str)(sp:Sp):Prop where
 len:∀ vs H Q E,sp vs H Q E->vs.length=ps.length
 run:∀ (A:Around) (outer:List Env) (s:Shared) (H:Hp) (args:Args) (us:List Value) (vs:List V) (Q:VK) (E:XK),Room k A->Env0 P w K mg base A outer s H->BindsTo s fd args (ps.zip us)->Vals vs us->sp vs H Q E ->
  codeAny (model P w) A (.call (.ref f) args) (CR CX outer P w H s Q E) s
section
variable {X:Cx}{pins:List (Addr×Obj)}{σ:St}{H:Hp}{s s':Shared}
theorem Inv.env0(I:Inv X pins σ H s):Env0 X.prog X.w X.K X.mg X.base X.A X.stack s H:=
 ⟨I.ok.frames,I.ok.mod,I.bs,zcp4 I.ok.bsz I.sz,I.stack,I.stkFree,I.hok,I.bare⟩
theorem Inv.after{Q:VK}{u:Value}(I:Inv X pins σ H s)(h:CE X.stack X.prog X.w H s Q u s'):EP X pins σ Q u s':=by
 obtain⟨v,H',os,bare,un,hok,r,q⟩:=h
 obtain⟨hh,g,d,t,os'⟩:=s'
 obtain rfl:os'=s.os:=os
 exact⟨v,H',I.call (h':=hh) (g':=g) (d':=d) (t':=t) (ch:=[]) un hok bare (fun b z=>absurd z (by simp)),r,q⟩
end
def tCall(sp:Sp)(dvs:List V)(E:XK)(t:TA):TE:=fun σ H Q=>t σ H fun vs H1=>sp (vs++dvs) H1 Q E
def zan8(K:zcl5)(fd:FuncData)(ps:List Str)(ds:List Value):Prop:=
 ∀ (s:Shared) (us:List Value),K.In s.heap->(us++ds).length=ps.length->BindsTo s fd ⟨us,[]⟩ (ps.zip (us++ds))
theorem zan8.all{K:zcl5}{fd:FuncData}{ps:List Str}(h:∀ us:List Value,us.length=ps.length->bindArgs fd ⟨us,[]⟩=pure (ps.zip us)):zan8 K fd ps []:=fun s us _ hl=>by
 rw[zcr6] at hl ⊢
 exact .of_eq (h us hl)
def zai5(CX:CXT)(X:Cx)(E:XK):Prop:=∀ (pins:List (Addr×Obj)) (σ:St) (H:Hp) (s:Shared) (e:Value) (s':Shared),Inv X pins σ H s->CX X.stack H s E e s'->X.xe e s'
section
variable {X:Cx}{CX:CXT}{k:Nat}{f C:Addr}{fd:FuncData}{ps:List Str}{sp:Sp}{dvs:List V}{ds:List Value}{E:XK}{x m:Str}{p pos apos:Pos}{e o:Expr}{es:List Expr}{ta:TE}{t:TA}
theorem run_fn{pins:List (Addr×Obj)}{σ:St}{H:Hp}{s:Shared}{Q:VK}{us:List Value}{vs:List V}(F:FnOk X.prog X.w X.K X.mg X.base CX k f fd ps sp)(hr:Room k X.A)(hb:zan8 X.K fd ps ds)(hd:Vals dvs ds)(hx:zai5 CX X E)(I:Inv X pins σ H s)(r:Vals vs us)(h:sp (vs++dvs) H Q E):wpAny (model X.prog X.w) X.A (call (.ref f) us) (EP X pins σ Q) X.xe s:=by
 have r2:Vals (vs++dvs) (us++ds):=r.append hd
 have hl:(us++ds).length=ps.length:=by rw[← r2.length];exact F.len _ _ _ _ h
 refine wpAny_call (codeAny_mono (F.run X.A X.stack s H ⟨us,[]⟩ (us++ds) (vs++dvs) Q E hr I.env0 (hb s us I.kIn hl) r2 h) fun r s' hq=>?_)
 cases r with
 | error e=>exact hx pins σ H s e s' I hq
 | ok fl=>
  cases fl with
  | ret u=>exact I.after hq
  | next=>exact False.elim hq
  | brk=>exact False.elim hq
  | cont=>exact False.elim hq
theorem zcf8(F:FnOk X.prog X.w X.K X.mg X.base CX k f fd ps sp)(hr:Room k X.A)(hg:Gl X x)(hm:X.mg x=some (.ref f))(hk:zcu4 X.K (.ref f)=true)(hb:zan8 X.K fd ps ds)(hd:Vals dvs ds)(hx:zai5 CX X E)(ha:PA X (e :: es) t)(hdb:(x==("__debug__":Str))=false:=by decide)(he:starEach (e :: es) X.env=(false,eval e X.env) :: starEach es X.env:=by rfl)(hpl:(backTo pos (starEach es X.env)).any (·.1)=false:=by rfl) :
  PE X (.Call (.Name x p) (e :: es) [] pos) (tCall sp dvs E t):=by
 intro pins s σ H Q I h
 refine wpAny_Call_Name_kw (zaw6 I hg hm ?_ hdb)
 refine PySem.W.callWith_K (h₀:=X.base) I.ok.mod.kin hk (thn (ha pos pins s σ H _ I h) fun us s1 ⟨vs,H1,I1,r,q⟩=>⟨I1.kIn,?_⟩) he hpl
 exact run_fn F hr hb hd hx I1 r q
end
structure zb2(N P:List Str)(sc:Scope):Prop where
 kind:sc.kind=.function
 co:sc.isCoroutine=false
 gen:sc.isGenerator=false
 nd:N.Nodup
 pre:N.take P.length=P
 par:∀ x∈P,sc.names.lookup x=some .local∨sc.names.lookup x=some .cell
 nofree:∀ y∈sc.names,y.2≠.free
theorem zan2{kindOf:Str->Option NameKind}{x:Str}:∀ {binds:List (Str×Value)}{m:Str->Option Value},(∀ v,(x,v) ∉ binds)->bindL kindOf binds m x=m x
 | [],_,_=>rfl
 | (n,v) :: r,m,h=>by
  unfold bindL
  rw[zan2 fun w hw=>h w (zcp7 _ hw)]
  split
  ·have:x≠n:=by rintro rfl;exact h v zcq2
   simp[this]
  ·rfl
theorem zar3{kindOf:Str->Option NameKind}{x:Str}:∀ {binds:List (Str×Value)}{m:Str->Option Value},(∀ v,(x,v) ∉ binds)->bindC kindOf binds m x=m x
 | [],_,_=>rfl
 | (n,v) :: r,m,h=>by
  unfold bindC
  rw[zar3 fun w hw=>h w (zcp7 _ hw)]
  split
  ·rfl
  ·have:x≠n:=by rintro rfl;exact h v zcq2
   simp[this]
theorem zaq0{kindOf:Str->Option NameKind}{x:Str}{v:Value}:∀ {P:List Str}{vs:List Value}{i:Nat}{m:Str->Option Value},P.Nodup->P[i]?=some x->vs[i]?=some v->kindOf x=some .local ->
  bindL kindOf (P.zip vs) m x=some v
 | [],_,_,_,_,h,_,_=>by simp at h
 | _ :: _,[],_,_,_,_,h,_=>by simp at h
 | p :: P,w :: vs,0,m,nd,h1,h2,hk=>by
  simp at h1 h2;subst h1;subst h2
  show bindL kindOf ((p,w) :: P.zip vs) m p=_
  unfold bindL
  rw[zan2 fun v hv=>(zcr2.mp nd).1 (List.of_mem_zip hv).1,if_pos hk]
  simp
 | p :: P,w :: vs,i+1,m,nd,h1,h2,hk=>by
  show bindL kindOf ((p,w) :: P.zip vs) m x=_
  unfold bindL
  exact zaq0 (i:=i) (zcr2.mp nd).2 (by simpa using h1) (by simpa using h2) hk
theorem zao4{kindOf:Str->Option NameKind}{x:Str}{v:Value}:∀ {P:List Str}{vs:List Value}{i:Nat}{m:Str->Option Value},P.Nodup->P[i]?=some x->vs[i]?=some v->kindOf x≠some .local ->
  bindC kindOf (P.zip vs) m x=some v
 | [],_,_,_,_,h,_,_=>by simp at h
 | _ :: _,[],_,_,_,_,h,_=>by simp at h
 | p :: P,w :: vs,0,m,nd,h1,h2,hk=>by
  simp at h1 h2;subst h1;subst h2
  show bindC kindOf ((p,w) :: P.zip vs) m p=_
  unfold bindC
  rw[zar3 fun v hv=>(zcr2.mp nd).1 (List.of_mem_zip hv).1,if_neg hk]
  simp
 | p :: P,w :: vs,i+1,m,nd,h1,h2,hk=>by
  show bindC kindOf ((p,w) :: P.zip vs) m x=_
  unfold bindC
  exact zao4 (i:=i) (zcr2.mp nd).2 (by simpa using h1) (by simpa using h2) hk
def zag7(N:List Str)(vs:List V):St:=vs.map some++List.replicate (N.length - vs.length) none
noncomputable def cxOf(CX:CXT)(P:Program)(w:World)(K:zcl5)(mg:Str->Option Value)(base:Heap)(N:List Str)(qual:Str)(scope:Scope)(f:Addr)(cd:Value)(A:Around)(outer:List Env)(s:Shared)(H:Hp)(E:XK):Cx where
 prog:=P
 w:=w
 K:=K
 mg:=mg
 base:=base
 A:=A.deeper (envOfC qual scope s.heap.objs.size f cd)
 N:=N
 s₀:=s
 H₀:=H
 env:=envOfC qual scope s.heap.objs.size f cd
 outer:=outer
 stack:=envOfC qual scope s.heap.objs.size f cd :: outer
 ex:=[]
 calm:=true
 fn:=fun _=>true
 pn:=[]
 xe:=fun e s'=>wpAny (model P w) (A.deeper (envOfC qual scope s.heap.objs.size f cd)) (leaving (envOfC qual scope s.heap.objs.size f cd) e) (fun _ s''=>CX outer H s E e s'') (fun e' s''=>CX outer H s E e' s'') s'
theorem zba4{sc:Scope}{n:Nat}{x:Str}(h:sc.names.lookup x=some .cell):∃ c,(cellsFrom n sc.names []).lookup x=some c:=by
 have q:=PySem.W.cellsFrom_some sc.names n [] (.inl h)
 exact Option.isSome_iff_exists.mp q
theorem zbf7{CX:CXT}{P:Program}{w:World}{K:zcl5}{mg:Str->Option Value}{base:Heap}{N ps:List Str}{qual:Str}{scope:Scope}{f:Addr}{cd:Value}{A:Around}{outer:List Env}{s s1:Shared}{H:Hp}{E:XK}{us:List Value}{vs:List V}(S:zb2 N ps scope)(hd:A.handled=none)(e0:Env0 P w K mg base A outer s H)(hl:vs.length=ps.length)(r:Vals vs us)(x:InCallC s s.heap.objs.size (bindL (envOfC qual scope s.heap.objs.size f cd).kindOf (ps.zip us) fun _=>none) (cellsFrom (s.heap.objs.size+1) scope.names []) (bindC (envOfC qual scope s.heap.objs.size f cd).kindOf (ps.zip us) fun _=>none) s1) :
  Inv (cxOf CX P w K mg base N qual scope f cd A outer s H E) [] (zag7 N vs) H s1:=by
 have hpl:ps.length<=N.length:=by have:=congrArg zct9 S.pre;rw[zcn7] at this;omega
 obtain⟨h1,tk,rfl,hk⟩:=x.done
 have noA:∀ b:Addr,b ∉ (cxOf CX P w K mg base N qual scope f cd A outer s H E).ex:=fun b z=>absurd (show b∈([]:List Addr) from z) (by simp)
 refine⟨⟨e0.mod,S.kind,rfl,rfl,zcm3 _,fun y z c h1 h2=>?_,fun y hy=>?_,fun y c _ h=>?_,fun _=>hd,Around.frames_deeper e0.frames,.inr ⟨rfl,rfl⟩,fun b z=>absurd z (noA b),e0.bs,e0.bsz,fun b _ _=>noA b,fun b z=>absurd z (noA b),e0.funs,e0.frf⟩,
  rfl,e0.bare,Un.kept hk,⟨_,x.toInCall.ns,fun i y v h1 h2 h3=>?_⟩,fun y c h=>⟨_,x.cell y c h⟩,e0.hok.fresh (zcm3 _),fun y c h=>?_,fun p hp=>absurd (show p∈([]:List (Addr×Obj)) from hp) (by simp),e0.hok.kept hk,?_⟩
 ·exact name_of_addr x.apart (PySem.mem_of_lookup h1) (PySem.mem_of_lookup h2)
 ·have hy:scope.names.lookup y=some .cell∨scope.names.lookup y=some .free:=hy
  rcases hy with hy|hy
  ·exact zba4 hy
  ·exact absurd rfl (S.nofree _ (PySem.mem_of_lookup hy))
 ·exact zcu3 (x.above y c (PySem.mem_of_lookup h))
 ·have hi:i<vs.length:=by
   unfold zag7 at h2
   by_cases hi:i<vs.length
   ·exact hi
   ·rw[zcm9 (by simpa using hi)] at h2
    rw[List.getElem?_replicate] at h2
    split at h2<;>cases h2
  have ha:vs[i]?=some v:=by
   unfold zag7 at h2
   rw[zcn2 (by simpa using hi),zcl2] at h2
   cases e:vs[i]? with
   | none=>rw[e] at h2;cases h2
   | some a=>rw[e] at h2;cases h2;rfl
  obtain⟨u,hu,rv⟩:=r.get ha
  have hp:ps[i]?=some y:=by
   rw[← S.pre,List.getElem?_take_of_lt (by omega)];exact h1
  have ndP:ps.Nodup:=by rw[← S.pre];exact S.nd.sublist (List.take_sublist _ _)
  refine⟨u,rv,?_⟩
  rcases S.par y (zcl4 hp) with k|k
  ·exact .inl ⟨k,zaq0 ndP hp hu k⟩
  ·obtain⟨c,e⟩:=zba4 (n:=s.heap.objs.size+1) k
   refine .inr ⟨.inl k,c,e,?_⟩
   have q:=x.cell y c e
   rw[zao4 ndP hp hu (by show scope.names.lookup y≠_;rw[k];decide)] at q
   exact q
 ·exact e0.hok.fresh (zcu3 (x.above y c (PySem.mem_of_lookup h)))
 ·unfold zag7
  show _=N.length
  rw[zcl8,zck9,List.length_replicate]
  omega
theorem fn_of{CX:CXT}{P:Program}{w:World}{K:zcl5}{mg:Str->Option Value}{base:Heap}{k:Nat}{f:Addr}{name qual:Str}{params:Arguments}{body:List Stmt}{scope:Scope}{dV kV doc pm cdv ct oc:Value}{an od:Option Addr}{osl:Array (Option Value)}{N ps:List Str}{sp:Sp}(lk:K.lookup f=some ⟨oc,od,.func (zcs2 name qual params body scope dV kV doc pm an cdv ct),osl⟩)(hcd:PySem.W.codeIn K cdv qual=true)(S:zb2 N ps scope)(len:∀ vs H Q E,sp vs H Q E->vs.length=ps.length)(hbody:∀ (A:Around) (outer:List Env) (s:Shared) (H:Hp) (vs:List V) (Q:VK) (E:XK),Room k (A.deeper (envOfC qual scope s.heap.objs.size f cdv))->sp vs H Q E ->
   ∃ t,PSs (cxOf CX P w K mg base N qual scope f cdv A outer s H E) body t/\t { nx:=fun _ H'=>Q .non H',rt:=Q } (zag7 N vs) H) :
  FnOk P w K mg base CX (k+1) f (zcs2 name qual params body scope dV kV doc pm an cdv ct) ps sp:=by
 refine⟨len,fun A outer s H args us vs Q E hr e0 hb r hsp=>?_⟩
 have hl:=len _ _ _ _ hsp
 have KX:K.In s.heap:=e0.mod.kin.keeps fun b o e=>(e0.bs b o e).1
 have lim:s.heap.NoLimit:=e0.mod.nolimit.keeps fun b o e=>(e0.bs b o e).1
 have hkind:∀ y∈ps.zip us,scope.names.lookup y.1=some .local∨(scope.names.lookup y.1=some .cell/\((cellsFrom (s.heap.objs.size+1) scope.names []).lookup y.1).isSome=true):=fun ⟨n,v⟩ hy=>by
  rcases S.par n (List.of_mem_zip hy).1 with q|q
  ·exact .inl q
  ·exact .inr ⟨q,PySem.W.cellsFrom_some _ _ _ (.inl q)⟩
 refine codeAny_call_function hr.depth (KX _ _ lk) rfl S.co S.gen rfl (PySem.W.codeRec_of KX hcd) (hb _ _ _ _ ?_)
 refine wpAny_newFunctionEnv_cells S.kind hkind fun env he s1 x=>?_
 subst he
 refine⟨lim.keeps x.toInCall.keep,codeAny_func ?_⟩
 obtain⟨t,ht,hq⟩:=hbody A outer s H vs Q E (hr.deeper _) hsp
 have I:Inv (cxOf CX P w K mg base N qual scope f cdv A outer s H E) [] (zag7 N vs) H s1:=zbf7 S hr.hd e0 hl r x
 refine wpAny_mono (ht [] s1 (zag7 N vs) H _ I hq) (fun fl s' hs=>?_) fun e s' hs=>hs
 have fin:∀ {σ':St}{H':Hp}{v:V}{u:Value},Inv (cxOf CX P w K mg base N qual scope f cdv A outer s H E) [] σ' H' s'->RelV v u->Q v H'->CE outer P w H s Q u s':=
  fun {σ' H' v u} J rv q=>⟨v,H',J.os,J.bare,J.base,J.hok,rv,q⟩
 cases fl with
 | ret u=>
  obtain⟨v,σ',H',J,rv,q⟩:=hs
  exact fin J rv q
 | next=>
  obtain⟨σ',H',J,q⟩:=hs
  exact fin (v:=V.non) (u:=Value.none) J rfl q
 | brk=>
  obtain⟨_,_,_,q⟩:=hs
  exact False.elim q
 | cont=>
  obtain⟨_,_,_,q⟩:=hs
  exact False.elim q
section
variable {X:Cx}{x:Str}{p pos:Pos}{e:Expr}{es:List Expr}{t:TA}{id T:String}{r:List V->Hp->VK->Prop}
def tCB(r:List V->Hp->VK->Prop)(t:TA):TE:=fun σ H Q=>t σ H fun vs H1=>r vs H1 Q
theorem zbr0(hc:zl5 X (.builtin id) r)(hg:Gl X x)(hm:X.mg x=none)(hv:bootBuiltins x=some (.builtin id))(ha:PA X (e :: es) t)(hn:x≠"__name__":=by decide)(hdb:(x==("__debug__":Str))=false:=by decide)(he:starEach (e :: es) X.env=(false,eval e X.env) :: starEach es X.env:=by rfl)(hpl:(backTo pos (starEach es X.env)).any (·.1)=false:=by rfl):PE X (.Call (.Name x p) (e :: es) [] pos) (tCB r t):=by
 intro pins s σ H Q I h
 refine wpAny_Call_Name_kw (zai2 I hg hm hv ?_ hn hdb)
 exact PyProof.Rows.callWith_builtin1 (thn (ha pos pins s σ H _ I h) fun us s1 ⟨vs,H1,I1,r1,q1⟩=>hc pins s1 σ H1 vs us Q I1 r1 q1) he hpl
theorem zbo8(hc:zl5 X (.type T) r)(hg:Gl X x)(hm:X.mg x=none)(hv:bootBuiltins x=some (.type T))(ha:PA X (e :: es) t)(hn:x≠"__name__":=by decide)(hdb:(x==("__debug__":Str))=false:=by decide)(he:starEach (e :: es) X.env=(false,eval e X.env) :: starEach es X.env:=by rfl)(hpl:(backTo pos (starEach es X.env)).any (·.1)=false:=by rfl):PE X (.Call (.Name x p) (e :: es) [] pos) (tCB r t):=by
 intro pins s σ H Q I h
 refine wpAny_Call_Name_kw (zai2 I hg hm hv ?_ hn hdb)
 exact PyProof.Rows.callWith_type1 (thn (ha pos pins s σ H _ I h) fun us s1 ⟨vs,H1,I1,r1,q1⟩=>hc pins s1 σ H1 vs us Q I1 r1 q1) he hpl
end
end L2
namespace HT
open PySem PyProof.Rows
section
open PySem.SeqAt
open PySem.AutoSeq1 (wpAny_loadPart')
open PySem.MeetsSeq PySem.MeetsSeq2 PySem.MeetsSeq3
end
section
variable {prog:Program}{w:World}{A:Around}{E:Value->Shared->Prop}{s:Shared}
def sIx(n d:Nat):Option Int->Nat
 | none=>d
 | some v=>if v<0 then (v+(n:Int)).toNat else min v.toNat n
theorem sIx_le(n d:Nat)(hd:d<=n)(o:Option Int):sIx n d o<=n:=by
 cases o with
 | none=>exact hd
 | some v=>
  show (if v<0 then (v+(n:Int)).toNat else min v.toNat n)<=n
  by_cases hv:v<0
  ·rw[if_pos hv];omega
  ·rw[if_neg hv];exact Nat.min_le_right _ _
theorem zbq5(v:Int)(n d:Nat):(if v<0 then max (v+(n:Int)) 0 else min v (n:Int))=((sIx n d (some v):Nat):Int):=by
 show (if v<0 then max (v+(n:Int)) 0 else min v (n:Int))=(((if v<0 then (v+(n:Int)).toNat else min v.toNat n):Nat):Int)
 by_cases hv:v<0
 ·simp only[if_pos hv];omega
 ·simp only[if_neg hv];omega
theorem zbf0(lo hi:Option Int)(n:Nat):Builtin.Slice.sliceAdjust lo hi 1 (n:Int)=(((sIx n 0 lo:Nat):Int),((sIx n n hi:Nat):Int)):=by
 have h1:¬ ((1:Int)<0):=by omega
 unfold Builtin.Slice.sliceAdjust
 simp only[h1,if_false]
 refine Prod.ext ?_ ?_
 ·cases lo with
  | none=>rfl
  | some v=>exact zbq5 v n 0
 ·cases hi with
  | none=>rfl
  | some v=>exact zbq5 v n n
theorem zbc6(i j:Nat):Builtin.Slice.slicePlaces (i:Int) (j:Int) 1=j - i:=by
 unfold Builtin.Slice.slicePlaces
 have h1:(1:Int)>0:=by omega
 simp only[h1,if_true,Int.ediv_one]
 split<;>omega
theorem zah2{v:Value}{o:Option Int}{Q:Option Int->Shared->Prop}(p:IsPart v o)(h:Q o s):wpAny (model prog w) A (Builtin.Slice.slicePartIndex v) Q E s:=by
 cases p with
 | none=>exact slicePart_none h
 | int i t=>exact slicePart_int h
theorem zab2{sl:Addr}{vl vu:Value}{lo hi:Option Int}{n:Nat}{Q:Int×Int×Nat->Shared->Prop}(hs:s.heap.IsSliceOf sl vl vu .none)(pl:IsPart vl lo)(pu:IsPart vu hi)(h:Q (((sIx n 0 lo:Nat):Int),1,sIx n n hi - sIx n 0 lo) s):wpAny (model prog w) A (Builtin.Slice.sliceApplied (.ref sl) (pure (n:Int))) Q E s:=by
 obtain⟨os,hos,hcs,hds⟩:=id hs
 unfold Builtin.Slice.sliceApplied Builtin.Slice.sliceFields
 refine zcx4 (zcx4 (wpAny_field hos hds (x:=vl) rfl (zcx4 (wpAny_field hos hds (x:=vu) rfl (zcx4 (wpAny_field hos hds (x:=.none) rfl (zcx5 ?_)))))))
 refine zcx4 (slicePart_none ?_)
 show wpAny _ _ (if ((1:Int)==0)=true then _ else _) _ _ s
 rw[if_neg (by decide)]
 refine zcx4 (zah2 pl (zcx4 (zah2 pu (zcx4 (zcx5 ?_)))))
 show wpAny _ _ (match Builtin.Slice.sliceAdjust lo hi 1 (n:Int) with|(lo,hi)=>pure (lo,(1:Int),Builtin.Slice.slicePlaces lo hi 1)) _ _ s
 rw[zbf0 lo hi n]
 show wpAny _ _ (pure (((sIx n 0 lo:Nat):Int),(1:Int),Builtin.Slice.slicePlaces ((sIx n 0 lo:Nat):Int) ((sIx n n hi:Nat):Int) 1)) _ _ s
 rw[zbc6]
 exact zcx5 h
theorem zbv1(xs:Array Value)(i k:Nat):((List.range k).filterMap fun (m:Nat)=>xs[((i:Int)+(m:Int)*1).toNat]?).toArray=((xs.toList.drop i).take k).toArray:=by
 have e:(fun (m:Nat)=>xs[((i:Int)+(m:Int)*1).toNat]?)=fun m=>xs[i+m]?:=by
  funext m
  have:((i:Int)+(m:Int)*1).toNat=i+m:=by omega
  rw[this]
 rw[e]
 have:=pick_run xs i k
 rw[List.filterMap_map] at this
 have e2:((fun x=>xs[x]?)∘fun x=>i+x)=fun m=>xs[i+m]?:=rfl
 rw[e2] at this
 rw[this]
theorem getItem_tuple_cut{t sl:Addr}{items:Array Value}{vl vu:Value}{lo hi:Option Int}{Q:Value->Shared->Prop}(ht:IsTup s.heap t items)(hs:s.heap.IsSliceOf sl vl vu .none)(pl:IsPart vl lo)(pu:IsPart vu hi)(hw:¬ (sIx items.size 0 lo=0/\sIx items.size items.size hi=items.size))(h:Q (.ref s.heap.objs.size) { s with heap:=s.heap.push { cls:=.type "tuple",data:=.seq ((items.toList.drop (sIx items.size 0 lo)).take (sIx items.size items.size hi - sIx items.size 0 lo)).toArray } })(hsz:items.size<=sizeLine):wpAny (model prog w) A (getItem (.ref t) (.ref sl)) Q E s:=by
 have htake:sizeOk (.seq ((items.toList.drop (sIx items.size 0 lo)).take (sIx items.size items.size hi - sIx items.size 0 lo)).toArray):=by
  show ((items.toList.drop (sIx items.size 0 lo)).take (sIx items.size items.size hi - sIx items.size 0 lo)).toArray.size<=sizeLine
  rw[zcl9,zcn7,zcp5,zcm7]
  omega
 have hj:sIx items.size items.size hi<=items.size:=sIx_le _ _ (zcm3 _) hi
 obtain⟨os,hos,hcs,hds⟩:=id hs
 have hTs:s.TypeIs (.ref sl) "slice":=⟨os,hos,hcs⟩
 unfold getItem
 try with_reducible refine zcx7 ?_
 first|refine zcx4 (zcx5 ?_)|skip
 refine zcx4 (wpAny_sequenceKey ht.typeIs (by decide) ?_)
 refine zcx4 (wpAny_callSpecial?_slot (name:=Str.ofString "__getitem__") ht.typeIs PyProof.Rows.slot_tuple_getitem
  (wpAny_call_entry PyProof.Rows.slot_tuple_getitem ht.typeIs entry_tuple_getitem ?_ (args_tuple_getitem _ _)))
 show wpAny _ _ (Builtin.Tuple.tupleItemsOf (.ref t) >>= _) _ _ s
 refine zcx4 (tupleItemsOf_ ht ?_)
 refine zcx4 (wpAny_typeOf hTs ?_)
 rw[if_pos (by decide)]
 refine zcx4 (zab2 hs pl pu ?_)
 have hno:¬ ((((sIx items.size 0 lo:Nat):Int)==0&&(1:Int)==1&&(sIx items.size items.size hi - sIx items.size 0 lo)==items.size)=true):=by
  intro q
  rw[zcm4,zcm4] at q
  have q1:((sIx items.size 0 lo:Nat):Int)=0:=eq_of_beq q.1.1
  have q2:sIx items.size items.size hi - sIx items.size 0 lo=items.size:=eq_of_beq q.2
  exact hw ⟨by omega,by omega⟩
 show wpAny _ _ (if (((sIx items.size 0 lo:Nat):Int)==0&&(1:Int)==1&&(sIx items.size items.size hi - sIx items.size 0 lo)==items.size)=true then _ else _) _ _ s
 rw[if_neg hno,zbv1]
 first
  | exact zcx4 (m:=Builtin.Tuple.tupleExact _) (wpAny_newObj_type (zcx5 ⟨_,rfl,zcx5 h⟩) htake)
  | exact zcx4 (m:=Builtin.Tuple.tupleExact _) (wpAny_newObj_type (zcx4 (zcx5 (zcx5 ⟨_,rfl,zcx5 h⟩))) htake)
  | exact zcx4 (zcx4 (m:=Builtin.Tuple.tupleExact _) (wpAny_newObj_type (zcx5 (zcx5 ⟨_,rfl,zcx5 h⟩)) htake))
  | exact zcx4 (zcx4 (m:=Builtin.Tuple.tupleExact _) (wpAny_newObj_type (zcx5 ⟨_,rfl,zcx5 h⟩) htake))
end
end HT
namespace L2
open PySem PySem.Spec PyProof.Rows
abbrev TO:=St->Hp->(Option Int->Hp->Prop)->Prop
def PO(X:Cx)(e:Option Expr)(t:TO):Prop:=
 ∀ (pins:List (Addr×Obj)) (s:Shared) (σ:St) (H:Hp) (Q:Option Int->Hp->Prop),Inv X pins σ H s->t σ H Q ->
  wpAny (model X.prog X.w) X.A (evalPart e X.env) (fun u s'=>∃ o H',Inv X pins σ H' s'/\IsPart u o/\Q o H') X.xe s
def zca5:TO:=fun _ H Q=>Q none H
theorem zy1{ns:List Int}:∀ {us:List Value},Vals (ns.map V.int) us->IntsAre us ns:=by
 induction ns with
 | nil=>intro us r;rw[zcu5] at r;cases r;exact .nil
 | cons n ns ih=>
  intro us r
  rw[zcn5] at r
  cases r with
  | cons r1 r2=>
   obtain⟨t,e⟩:=r1
   subst e
   exact .cons n t (ih r2)
section
variable {X:Cx}{e:Expr}{te:TE}{lo hi:Option Expr}{tl th:TO}{pos p2:Pos}
theorem zo1:PO X none zca5:=by
 intro pins s σ H Q I h
 rw[evalPart_none]
 exact zcx5 ⟨none,H,I,.none,h⟩
noncomputable def SlR(X:Cx)(r:V->Option Int->Option Int->Hp->VK->Prop):Prop:=
 ∀ (pins:List (Addr×Obj)) (s:Shared) (σ:St) (H:Hp) (x:V) (v vl vu:Value) (lo hi:Option Int) (sl:Addr) (Q:VK),Inv X pins σ H s->RelV x v->s.heap.IsSliceOf sl vl vu .none->IsPart vl lo->IsPart vu hi->r x lo hi H Q ->
  ∃ T id,typeLookup (.type T) "__getitem__"=pure (some (.builtin id))/\s.TypeIs v T/\wpAny (model X.prog X.w) X.A (getItem v (.ref sl)) (EP X pins σ Q) X.xe s
def tSl(r:V->Option Int->Option Int->Hp->VK->Prop)(te:TE)(tl th:TO):TE:=fun σ H Q=>te σ H fun x H1=>tl σ H1 fun l H2=>th σ H2 fun u H3=>r x l u H3 Q
theorem zk7{r:V->Option Int->Option Int->Hp->VK->Prop}(hr:SlR X r)(he:PE X e te)(hl:PO X lo tl)(hu:PO X hi th):PE X (.Subscript e (.Slice lo hi none p2) pos) (tSl r te tl th):=by
 intro pins s σ H Q I h
 refine Subscript_ (thn (he pins s σ H _ I h) fun v s1 ⟨x,H1,I1,r1,q1⟩=>?_)
 refine wpAny_Slice (thn (hl pins s1 σ H1 _ I1 q1) fun vl s2 ⟨l,H2,I2,pl,q2⟩=>thn (hu pins s2 σ H2 _ I2 q2) fun vu s3 ⟨u,H3,I3,pu,q3⟩=>?_)
 rw[evalPart_none]
 refine zcx5 ?_
 have I4:Inv X pins σ H3 { s3 with heap:=s3.heap.push { cls:=.type "slice",data:=.fields #[vl,vu,.none] } }:=I3.kept (t':=s3.toks) fun b ob q=>zcl7 _ q
 obtain⟨T,id,hT,ht,hg⟩:=hr pins { s3 with heap:=s3.heap.push { cls:=.type "slice",data:=.fields #[vl,vu,.none] } } σ H3 x v vl vu l u s3.heap.objs.size Q I4 r1 (Heap.IsSliceOf.new ..) pl pu q3
 show wpAny (model X.prog X.w) X.A (subscriptTail e (.Slice lo hi none p2) v (.ref s3.heap.objs.size)) (EP X pins σ Q) X.xe { s3 with heap:=s3.heap.push { cls:=.type "slice",data:=.fields #[vl,vu,.none] } }
 exact tail_any (ops:=[.ref s3.heap.objs.size,v]) ht hT hg (by with_unfolding_all rfl)
def cutV(xs:List V)(lo hi:Option Int):List V:=(xs.drop (HT.sIx xs.length 0 lo)).take (HT.sIx xs.length xs.length hi - HT.sIx xs.length 0 lo)
theorem zaf3(xs:List V)(lo hi:Option Int):(cutV xs lo hi).length<=xs.length:=by
 unfold cutV
 rw[zcn7,zcp5]
 omega
def rSlT(K:zcl5):V->Option Int->Option Int->Hp->VK->Prop:=fun x lo hi H Q=>∃ a xs,x=.ref a/\SqT K H a xs /\
 ¬ (HT.sIx xs.length 0 lo=0/\HT.sIx xs.length xs.length hi=xs.length)/\∀ p,H p=none->Q (.ref p) (upd H p (.tup (cutV xs lo hi)))
theorem sl_tup:SlR X (rSlT X.K):=by
 intro pins s σ H x v vl vu lo hi sl Q I rx hs pl pu h
 obtain⟨a,xs,rfl,hx,hw,q⟩:=h
 cases rx
 obtain⟨its,r,ht,hz⟩:=I.tuple hx
 have hlen:its.toArray.size=xs.length:=by rw[zcl9];exact r.length.symm
 refine⟨"tuple",_,PyProof.Rows.slot_tuple_getitem.lookup,ht.typeIs,?_⟩
 refine HT.getItem_tuple_cut ht hs pl pu (by rw[hlen];exact hw) ?_ (by rw[hlen];exact hz)
 rw[hlen]
 refine⟨.ref s.heap.objs.size,_,I.laid (t':=s.toks) (o:=.tup (cutV xs lo hi)) (fun b ob q=>zcl7 _ q) (zcm3 _) ?_,rfl,q _ (I.hok.fresh (zcm3 _))⟩
 exact⟨zcp4 (zaf3 xs lo hi) hz,_,(r.drop (HT.sIx xs.length 0 lo)).take (HT.sIx xs.length xs.length hi - HT.sIx xs.length 0 lo),IsTup.new _ _⟩
end
def ixN(n:Nat)(i:Int):Option Nat:=if 0<=i then (if i<n then some i.toNat else none) else if -(n:Int)<=i then some (i+n).toNat else none
def atI{α:Type}(xs:List α)(i:Int):Option α:=(ixN xs.length i).bind fun j=>xs[j]?
theorem zbi0{n:Nat}{i:Int}{j:Nat}(h:ixN n i=some j):seqIndex? i n=some j/\j<n/\-(n:Int)<=i/\i<n:=by
 unfold ixN at h
 by_cases h0:0<=i
 ·rw[if_pos h0] at h
  by_cases h1:i<n
  ·rw[if_pos h1] at h
   have e:i.toNat=j:=Option.some.inj h
   exact⟨by rw[seqIndex_of h0 h1,e],by omega,by omega,h1⟩
  ·rw[if_neg h1] at h;cases h
 ·rw[if_neg h0] at h
  by_cases h1:-(n:Int)<=i
  ·rw[if_pos h1] at h
   have e:(i+n).toNat=j:=Option.some.inj h
   exact⟨by rw[seqIndex_neg (by omega) h1,e],by omega,h1,by omega⟩
  ·rw[if_neg h1] at h;cases h
theorem zau2{α:Type}{xs:List α}{i:Int}{v:α}(h:atI xs i=some v):∃ j,seqIndex? i xs.length=some j/\xs[j]?=some v/\j<xs.length/\-(xs.length:Int)<=i/\i<xs.length:=by
 unfold atI at h
 cases e:ixN xs.length i with
 | none=>rw[e] at h;cases h
 | some j=>
  rw[e] at h
  obtain⟨h1,h2,h3,h4⟩:=zbi0 e
  exact⟨j,h1,h,h2,h3,h4⟩
theorem zh4{α:Type}{xs:List α}{j:Nat}{v:α}(h:xs[j]?=some v):atI xs (j:Int)=some v:=by
 have hj:j<xs.length:=(zcl1.mp h).1
 have e:ixN xs.length (j:Int)=some j:=by
  unfold ixN
  rw[if_pos (by omega),if_pos (by omega)];simp
 unfold atI;rw[e];exact h
def zau0(b:Expr):Prop:=∀ o i,subscripted b false o i=operate [o,i] (getItem o i)
def IxR(X:Cx)(r:R2):Prop:=
 ∀ (value slice:Expr) (pins:List (Addr×Obj)) (s:Shared) (σ:St) (H:Hp) (x y:V) (v u:Value) (Q:VK),Inv X pins σ H s->RelV x v->RelV y u->r x y H Q ->
  subscripted slice false v u=operate [v,u] (getItem v u)->wpAny (model X.prog X.w) X.A (subscriptTail value slice v u) (EP X pins σ Q) X.xe s
section
variable {X:Cx}{a b:Expr}{ta tb:TE}{pos:Pos}
theorem pe_ix{r:R2}(hr:IxR X r)(ha:PE X a ta)(hb:PE X b tb)(hs:zau0 b):PE X (.Subscript a b pos) (tOp r ta tb):=by
 intro pins s σ H Q I h
 exact Subscript_ (binT ha hb I h fun v u s2 x y H2 I2 rx ry q=>hr a b pins s2 σ H2 x y v u Q I2 rx ry q (hs _ _))
def rIxL(K:zcl5):R2:=fun x y H Q=>∃ p xs i v,x=.ref p/\y=.int i/\SqL K H p xs/\atI xs i=some v/\Q v H
def rIxT(K:zcl5):R2:=fun x y H Q=>∃ p xs i v,x=.ref p/\y=.int i/\SqT K H p xs/\atI xs i=some v/\Q v H
def rIxS:R2:=fun x y H Q=>∃ z i c,x=.str z/\y=.int i/\z.length<=sizeLine/\atI z.cps.toList i=some c/\Q (.str ⟨#[c]⟩) H
theorem zcc1:IxR X (rIxL X.K):=by
 intro value slice pins s σ H x y v u Q I rx ry h hs
 obtain⟨p,xs,i,z,rfl,rfl,hq,he,q⟩:=h
 cases rx
 obtain⟨t,rfl⟩:=ry
 obtain⟨its,r,pl,hz⟩:=I.list hq
 obtain⟨j,h1,h2,h3,h4,h5⟩:=zau2 he
 obtain⟨w,ew,rw'⟩:=r.get h2
 have hl:=r.length
 have hn:=zaf7
 have fin:EP X pins σ Q w s:=⟨z,H,I,rw',q⟩
 by_cases h0:0<=i
 ·have hj:i.toNat=j:=by
   rw[seqIndex_of h0 h5] at h1
   exact Option.some.inj h1
  exact item_listR pl.isList h0 (by omega) (by rw[hj];simpa using ew) fin hs
 ·have hj:(i+(its.toArray.size:Int)).toNat=j:=by
   rw[seqIndex_neg (by omega) h4] at h1
   rw[zcl9,← hl]
   exact Option.some.inj h1
  exact subscriptTail_builtinR (x:=w) pl.isList.typeIs slot_list_getitem.lookup
   (wpAny_getItem_list_neg (Q:=fun r s'=>r=w/\EP X pins σ Q r s') pl.isList (by omega) (by rw[zcl9]<;>omega) (by omega) (by rw[hj];simpa using ew) ⟨rfl,fin⟩) hs
theorem ix_tup:IxR X (rIxT X.K):=by
 intro value slice pins s σ H x y v u Q I rx ry h hs
 obtain⟨p,xs,i,z,rfl,rfl,hq,he,q⟩:=h
 cases rx
 obtain⟨t,rfl⟩:=ry
 obtain⟨its,r,pl,hz⟩:=I.tuple hq
 obtain⟨j,h1,h2,h3,h4,h5⟩:=zau2 he
 obtain⟨w,ew,rw'⟩:=r.get h2
 have hl:=r.length
 have hn:=zaf7
 have fin:EP X pins σ Q w s:=⟨z,H,I,rw',q⟩
 exact subscriptTail_builtinR (x:=w) pl.typeIs slot_tuple_getitem.lookup
  (getItem_tuple (j:=j) (Q:=fun r s'=>r=w/\EP X pins σ Q r s') pl (by omega) (by omega) (by rw[zcl9,← hl];exact h1) (by simpa using ew) ⟨rfl,fin⟩) hs
theorem ix_str:IxR X rIxS:=by
 intro value slice pins s σ H x y v u Q I rx ry h hs
 obtain⟨z,i,c,rfl,rfl,hz,he,q⟩:=h
 obtain⟨t,rfl⟩:=rx
 obtain⟨t',rfl⟩:=ry
 obtain⟨j,h1,h2,h3,h4,h5⟩:=zau2 he
 have hl:z.cps.toList.length=z.length:=by simp[Str.length]
 rw[hl] at h1 h4 h5
 have hn:=zaf7
 exact tail_any (typeIs_str s z t) slot_str_getitem.lookup (getItem_str (c:=c) (by
  have e1:decide (i < -(2 ^ 63:Int))=false:=decide_eq_false (by omega)
  have e2:decide (i≥2 ^ 63)=false:=decide_eq_false (by omega)
  rw[e1,e2,Bool.or_false]) (by rw[h1];simpa using h2) ⟨.str ⟨#[c]⟩,H,I.tok _,⟨_,rfl⟩,q⟩) hs
theorem zbc9(its:List Value)(n j:Nat)(u:Value):Obj.mapSeq (·.setIfInBounds j u) { cls:=.type "list",data:=.seq its.toArray n }={ cls:=.type "list",data:=.seq (its.set j u).toArray n }:=by
 simp[Obj.mapSeq]
theorem Inv.lst{pins:List (Addr×Obj)}{σ:St}{H:Hp}{s:Shared}{p:Addr}{xs:List V}(I:Inv X pins σ H s)(h:H p=some (.lst xs)) :
  ∃ (its:List Value) (n:Nat),Vals xs its/\s.heap.get? p=some { cls:=.type "list",data:=.seq its.toArray n }/\xs.length<=sizeLine:=by
 obtain⟨z,its,n,r,e⟩:=I.hok p _ h
 exact⟨its,n,r,e,z⟩
theorem Inv.lstUpd{pins:List (Addr×Obj)}{σ:St}{H:Hp}{s:Shared}{p:Addr}{xs ys:List V}{its its':List Value}{n n':Nat}{f:Obj->Obj}(I:Inv X pins σ H s)(h:H p=some (.lst xs))(ho:s.heap.get? p=some { cls:=.type "list",data:=.seq its.toArray n })(hf:f { cls:=.type "list",data:=.seq its.toArray n }={ cls:=.type "list",data:=.seq its'.toArray n' })(r:Vals ys its')(hz:ys.length<=sizeLine)(t:Nat) :
  Inv X pins σ (upd H p (.lst ys)) { s with heap:=s.heap.update p f,toks:=t }:=by
 have e:(s.heap.update p f).get? p=some { cls:=.type "list",data:=.seq its'.toArray n' }:=by
  rw[zcu2 f ho (by rw[hf]<;>rfl),hf]
 refine I.write (x:=p) (e:=p) (by rw[h];trivial) (.inl rfl) (fun b u hb q=>(zcp3 _ _ (Ne.symm hb)).trans q) ⟨_,e⟩ ?_
 exact⟨hz,its',n',r,e⟩
def rSetL:V->V->V->Hp->(Hp->Prop)->Prop:=fun o i v H Q=>∃ p xs k j,o=.ref p/\i=.int k/\H p=some (.lst xs)/\ixN xs.length k=some j/\Q (upd H p (.lst (xs.set j v)))
theorem zbq9:PSet X rSetL:=by
 intro pins s σ H o i v ov iv u Q I ro ri rv h
 obtain⟨p,xs,k,j,rfl,rfl,hp,hj,q⟩:=h
 cases ro
 obtain⟨t,rfl⟩:=ri
 obtain⟨its,n,r,ho,hz⟩:=I.lst hp
 obtain⟨h1,h2,h3,h4⟩:=zbi0 hj
 have hl:=r.length
 have hn:=zaf7
 have I':Inv X pins σ (upd H p (.lst (xs.set j v))) { s with heap:=s.heap.update p (Obj.mapSeq (·.setIfInBounds j u)) }:=
  I.lstUpd hp ho (zbc9 its n j u) (r.set rv j) (by rw[List.length_set];exact hz) s.toks
 by_cases h0:0<=k
 ·have hk:k.toNat=j:=by
   rw[seqIndex_of h0 h4] at h1
   exact Option.some.inj h1
  exact PySem.W.ki_setAt ho h0 (by omega) (by rw[zcl9,← hl];exact h4) (by rw[hk];exact⟨_,I',q⟩)
 ·have hk:(k+(its.toArray.size:Int)).toNat=j:=by
   rw[seqIndex_neg (by omega) h3] at h1
   rw[zcl9,← hl]
   exact Option.some.inj h1
  exact PySem.W.ki_setBack ho (by omega) (by rw[zcl9,← hl];exact h3) (by omega) (by rw[hk];exact⟨_,I',q⟩)
theorem zan4(lo hi:Option Int)(n:Nat):(sliceBounds lo hi none n).1=((HT.sIx n 0 lo:Nat):Int)/\(sliceBounds lo hi none n).2.1=((HT.sIx n n hi:Nat):Int)/\(sliceBounds lo hi none n).2.2=1:=by
 refine⟨?_,?_,rfl⟩
 ·cases lo with
  | none=>simp[sliceBounds,HT.sIx]
  | some i=>
   simp only[sliceBounds,HT.sIx,Option.getD_none,show (1:Int)>0 by decide,if_true]
   by_cases h:i<0
   ·simp only[h,if_true]<;>omega
   ·simp only[h,if_false]<;>omega
 ·cases hi with
  | none=>simp[sliceBounds,HT.sIx]
  | some i=>
   simp only[sliceBounds,HT.sIx,Option.getD_none,show (1:Int)>0 by decide,if_true]
   by_cases h:i<0
   ·simp only[h,if_true]<;>omega
   ·simp only[h,if_false]<;>omega
theorem zaj5(its:List Value)(lo hi:Option Int):slicePick its.toArray lo hi none=((its.drop (HT.sIx its.length 0 lo)).take (HT.sIx its.length its.length hi - HT.sIx its.length 0 lo)).toArray:=by
 obtain⟨h1,h2,h3⟩:=zan4 lo hi its.toArray.size
 unfold slicePick
 rw[h1,h2,h3]
 simp only[sliceRange_one,pick_run,zcl9]<;>rfl
def rSlL(K:zcl5):V->Option Int->Option Int->Hp->VK->Prop:=fun x lo hi H Q=>∃ a xs,x=.ref a/\SqL K H a xs/\∀ p,H p=none->Q (.ref p) (upd H p (.lst (cutV xs lo hi)))
theorem zce0:SlR X (rSlL X.K):=by
 intro pins s σ H x v vl vu lo hi sl Q I rx hs pl pu h
 obtain⟨a,xs,rfl,hx,q⟩:=h
 cases rx
 obtain⟨its,r,ht,hz⟩:=I.list hx
 have hlen:=r.length
 refine⟨"list",_,slot_list_getitem.lookup,ht.isList.typeIs,?_⟩
 refine wpAny_getItem_list_slice ht.isList hs pl pu .none (by simp) ?_ (by rw[zcl9]<;>omega)
 rw[zaj5,← hlen]
 refine⟨.ref s.heap.objs.size,_,I.laid (t':=s.toks) (o:=.lst (cutV xs lo hi)) (fun b ob q=>zcl7 _ q) (zcm3 _) ?_,rfl,q _ (I.hok.fresh (zcm3 _))⟩
 exact⟨zcp4 (zaf3 xs lo hi) hz,_,0,(r.drop (HT.sIx xs.length 0 lo)).take (HT.sIx xs.length xs.length hi - HT.sIx xs.length 0 lo),zco2 _ rfl⟩
def zbm2:V->Bool
 | .non=>true
 | .bl _=>true
 | .int _=>true
 | .str _=>true
 | _=>false
def eqV:V->V->Bool
 | .non,.non=>true
 | .bl a,.bl b=>a==b
 | .bl a,.int b=>(if a then 1 else 0)==b
 | .int a,.bl b=>a==(if b then 1 else 0)
 | .int a,.int b=>a==b
 | .str a,.str b=>a==b
 | _,_=>false
theorem zbz2{A:Around}{s:Shared}{y x:V}{u v:Value}(ry:RelV y u)(rx:RelV x v)(fy:zbm2 y=true)(fx:zbm2 x=true):SeqAt.EqAt A s u v (eqV y x):=by
 cases y with
 | non=>
  cases ry
  cases x with
  | non=>cases rx;exact SeqAt.EqAt.same _
  | bl b=>cases rx;exact SeqAt.EqAt.none_bool b
  | int b=>obtain⟨t,rfl⟩:=rx;exact SeqAt.EqAt.none_int b t
  | str b=>obtain⟨t,rfl⟩:=rx;exact SeqAt.EqAt.none_str b t
  | _=>exact absurd (show false=true from fx) zcm2
 | bl a=>
  cases ry
  cases x with
  | non=>cases rx;exact SeqAt.EqAt.bool_none a
  | bl b=>cases rx;exact SeqAt.EqAt.bool_bool a b
  | int b=>obtain⟨t,rfl⟩:=rx;exact SeqAt.EqAt.bool_int a b t
  | str b=>obtain⟨t,rfl⟩:=rx;exact SeqAt.EqAt.bool_str a b t
  | _=>exact absurd (show false=true from fx) zcm2
 | int a=>
  obtain⟨t',rfl⟩:=ry
  cases x with
  | non=>cases rx;exact SeqAt.EqAt.int_none a t'
  | bl b=>cases rx;exact SeqAt.EqAt.int_bool a t' b
  | int b=>obtain⟨t,rfl⟩:=rx;exact SeqAt.EqAt.int_int a t' b t
  | str b=>obtain⟨t,rfl⟩:=rx;exact SeqAt.EqAt.int_str a t' b t
  | _=>exact absurd (show false=true from fx) zcm2
 | str a=>
  obtain⟨t',rfl⟩:=ry
  cases x with
  | non=>cases rx;exact SeqAt.EqAt.str_none a t'
  | bl b=>cases rx;exact SeqAt.EqAt.str_bool a t' b
  | int b=>obtain⟨t,rfl⟩:=rx;exact SeqAt.EqAt.str_int a t' b t
  | str b=>obtain⟨t,rfl⟩:=rx;exact SeqAt.EqAt.str_str a t' b t
  | _=>exact absurd (show false=true from fx) zcm2
 | _=>exact absurd (show false=true from fy) zcm2
theorem zap2:zl5 X (.builtin "len") (fun xs H Q=>∃ p ys,xs=[.ref p]/\(SqL X.K H p ys∨SqT X.K H p ys)/\Q (.int ys.length) H):=by
 intro pins s σ H xs us Q I r h
 obtain⟨p,ys,rfl,hq,q⟩:=h
 obtain⟨u,rfl,rx⟩:=zac1 r
 cases rx
 have hn:=zaf7
 rcases hq with hq|hq
 ·obtain⟨its,r',pl,hz⟩:=I.list hq
  have hlen:=r'.length
  exact Calls.call_len_list pl.isList (by simp only[zcl9]<;>omega) ⟨.int ys.length,H,I.tok _,⟨s.toks+1,by rw[zcl9,hlen]⟩,q⟩
 ·obtain⟨its,r',pl,hz⟩:=I.tuple hq
  have hlen:=r'.length
  exact len_tuple pl (by simp only[zcl9]<;>omega) ⟨.int ys.length,H,I.tok _,⟨s.toks+1,by rw[zcl9,hlen]⟩,q⟩
theorem zao5:zl5 X (.builtin "len") (fun xs H Q=>∃ z,xs=[.str z]/\z.length<=sizeLine/\Q (.int z.length) H):=by
 intro pins s σ H xs us Q I r h
 obtain⟨z,rfl,hz,q⟩:=h
 obtain⟨u,rfl,t,rfl⟩:=zac1 r
 have hn:=zaf7
 exact len_str (by omega) ⟨.int z.length,H,I.tok _,⟨_,rfl⟩,q⟩
theorem zao1:zl5 X (.type "list") (fun xs H Q=>∃ p ys,xs=[.ref p]/\(SqL X.K H p ys∨SqT X.K H p ys)/\∀ l,H l=none->Q (.ref l) (upd H l (.lst ys))):=by
 intro pins s σ H xs us Q I r h
 obtain⟨p,ys,rfl,hq,q⟩:=h
 obtain⟨u,rfl,rx⟩:=zac1 r
 cases rx
 have fin:∀ (its:List Value),Vals ys its->ys.length<=sizeLine->∀ (h':Heap) (c':Nat),(∀ b o',s.heap.get? b=some o'->h'.get? b=some o') ->
   h'.get? s.heap.objs.size=some { cls:=.type "list",dict:=none,data:=.seq its.toArray c',slots:=#[] }->EP X pins σ Q (.ref s.heap.objs.size) { s with heap:=h' }:=fun its r' hz h' c' kp e=>
  ⟨.ref s.heap.objs.size,_,I.laid (t':=s.toks) kp (zcm3 _) (show zf9 X.prog X.w _ h' _ (.lst ys) from ⟨hz,its,c',r',e⟩),rfl,q _ (I.hok.fresh (zcm3 _))⟩
 rcases hq with hq|hq
 ·obtain⟨its,r',pl,hz⟩:=I.list hq
  have hlen:=r'.length
  obtain⟨o,ho,hc,n,hd⟩:=pl.isList
  exact call_list_seq p (.inl rfl) ho hc hd (fun h' c' kp e=>fin its r' hz h' c' kp e) (by simp only[zcl9]<;>omega)
 ·obtain⟨its,r',pl,hz⟩:=I.tuple hq
  have hlen:=r'.length
  obtain⟨o,ho,hc,n,hd⟩:=pl
  exact call_list_seq p (.inr rfl) ho hc hd (fun h' c' kp e=>fin its r' hz h' c' kp e) (by simp only[zcl9]<;>omega)
theorem zaj6:zl5 X (.type "tuple") (fun xs H Q=>∃ p ys,xs=[.ref p]/\((SqL X.K H p ys/\∀ l,H l=none->Q (.ref l) (upd H l (.tup ys)))∨(SqT X.K H p ys/\Q (.ref p) H))):=by
 intro pins s σ H xs us Q I r h
 obtain⟨p,ys,rfl,h⟩:=h
 obtain⟨u,rfl,rx⟩:=zac1 r
 cases rx
 rcases h with ⟨hq,q⟩|⟨hq,q⟩
 ·obtain⟨its,r',pl,hz⟩:=I.list hq
  have hlen:=r'.length
  refine call_tuple_list pl.isList (fun h' kp=>?_) (by simp only[zcl9]<;>omega)
  have I1:Inv X pins σ H { s with heap:=h' }:=I.kept (t':=s.toks) kp
  have I2:Inv X pins σ (upd H h'.objs.size (.tup ys)) { s with heap:=h'.push { cls:=.type "tuple",data:=.seq its.toArray } }:=
   I1.laid (t':=s.toks) (fun b o e=>zcl7 _ e) (zcm3 _) (show zf9 X.prog X.w _ _ _ (.tup ys) from ⟨hz,its,r',IsTup.new _ _⟩)
  exact⟨.ref h'.objs.size,_,I2,rfl,q _ (I1.hok.fresh (zcm3 _))⟩
 ·obtain⟨its,r',pl,hz⟩:=I.tuple hq
  exact call_tuple_same pl ⟨.ref p,H,I,rfl,q⟩
def tyV(K:zcl5)(T:String)(x:V)(H:Hp):Prop:=match x with
 | .str _=>T="str"
 | .int _=>T="int"
 | .ref p=>(T="list"/\∃ xs,SqL K H p xs)∨(T="tuple"/\∃ o,K.lookup p=some o/\o.cls=.type "tuple"/\o.dict=none) ∨
   (T="dict"/\((∃ kvs,H p=some (.dK kvs))∨∃ kvs,H p=some (.dT kvs)))∨(T="set"/\∃ S n,H p=some (.set S n))
 | _=>False
theorem tyV_is{pins:List (Addr×Obj)}{σ:St}{H:Hp}{s:Shared}{T:String}{x:V}{v:Value}(I:Inv X pins σ H s)(r:RelV x v)(ty:tyV X.K T x H) :
  s.TypeIs v T/\∀ a,v=.ref a->∃ ob,s.heap.get? a=some ob/\ob.dict=none:=by
 cases x with
 | str z=>
  obtain⟨t,rfl⟩:=r
  cases (show T="str" from ty)
  exact⟨typeIs_str s z t,fun _ e=>nomatch e⟩
 | int i=>
  obtain⟨t,rfl⟩:=r
  cases (show T="int" from ty)
  exact⟨typeIs_int s i t,fun _ e=>nomatch e⟩
 | ref p=>
  cases r
  rcases ty with ⟨rfl,xs,hq⟩|⟨rfl,o,hk,hc,hd⟩|⟨rfl,hk⟩|⟨rfl,S,n,hk⟩
  ·obtain⟨its,_,pl,_⟩:=I.list hq
   refine⟨pl.isList.typeIs,fun a e=>?_⟩
   cases e
   obtain⟨o,n,e,c,hd,_⟩:=pl
   exact⟨o,e,hd⟩
  ·refine⟨⟨o,I.kIn p o hk,hc⟩,fun a e=>?_⟩
   cases e
   exact⟨o,I.kIn _ o hk,hd⟩
  ·have z:∃ o,s.heap.get? p=some o/\o.ExactDict:=by
    rcases hk with ⟨kvs,hk⟩|⟨kvs,hk⟩
    ·obtain⟨_,_,_,_,o,_,_,e,ex,_⟩:=I.hok p _ hk
     exact⟨o,e,ex⟩
    ·obtain⟨_,_,_,_,o,_,_,e,ex,_⟩:=I.hok p _ hk
     exact⟨o,e,ex⟩
   obtain⟨o,e,ex⟩:=z
   refine⟨⟨o,e,ex.1⟩,fun a e2=>?_⟩
   cases e2
   exact⟨o,e,ex.2.1⟩
  ·obtain⟨o,_,_,_,e,ex,_⟩:=I.hok p _ hk
   refine⟨⟨o,e,ex.1⟩,fun a e2=>?_⟩
   cases e2
   exact⟨o,e,ex.2.1⟩
 | _=>exact False.elim ty
variable {o e:Expr}{es:List Expr}{to:TE}{t:TA}{name:Str}{apos cpos:Pos}{T id:String}{r:V->List V->Hp->VK->Prop}
end
def MtM(X:Cx)(id:String)(r:V->List V->Hp->VK->Prop):Prop:=
 ∀ (pins:List (Addr×Obj)) (s:Shared) (σ:St) (H:Hp) (x:V) (xs:List V) (v:Value) (us:List Value) (Q:VK),Inv X pins σ H s->RelV x v->Vals xs us->r x xs H Q ->
  wpAny (model X.prog X.w) X.A (call (.builtin id) (v :: us)) (EP X pins σ Q) X.xe s
theorem Vals.one:∀ {x:V}{us:List Value},Vals [x] us->∃ u,us=[u]/\RelV x u
 | _,_,.cons r .nil=>⟨_,rfl,r⟩
theorem Vals.rep{xs:List V}{us:List Value}(h:Vals xs us):∀ k:Nat,Vals (List.replicate k xs).flatten (List.replicate k us).flatten
 | 0=>.nil
 | k+1=>by
  rw[zcu0,zcu0,zcw2,zcw2]
  exact Vals.append h (Vals.rep h k)
theorem zao2(its:List Value):∀ (k:Nat) (acc:List Value),
  List.foldl (fun x1 x2=>x1++x2) acc.toArray (List.replicate k its.toArray)=(acc++(List.replicate k its).flatten).toArray
 | 0,acc=>by simp
 | k+1,acc=>by
  have e:acc.toArray++its.toArray=(acc++its).toArray:=by simp
  have e2:(acc++its)++(List.replicate k its).flatten=acc++(List.replicate (k+1) its).flatten:=by
   rw[zcu0,zcw2,zcp9]
  rw[← e2,← zao2 its k (acc++its),← e,zcu0,List.foldl_cons]
section
variable {X:Cx}{pins:List (Addr×Obj)}{σ:St}{H:Hp}{s:Shared}{l b:Addr}{xs ys zs:List V}
theorem Inv.lset{its its':List Value}{n:Nat}{f:Array Value->Array Value}{t':Nat}(I:Inv X pins σ H s)(hH:H l=some (.lst xs))(e:s.heap.get? l=some { cls:=.type "list",data:=.seq its.toArray n })(hf:f its.toArray=its'.toArray)(hv:Vals ys its')(hz:ys.length<=sizeLine) :
  Inv X pins σ (upd H l (.lst ys)) { s with heap:=s.heap.update l (Obj.mapSeq f),toks:=t' }:=by
 have q:=PySem.IsL.update e f
 rw[hf] at q
 refine I.write (x:=l) (e:=l) (by rw[hH];exact trivial) (.inl rfl) (fun b' u hb hu=>(zcp3 s.heap (Obj.mapSeq f) (Ne.symm hb)).trans hu) ⟨_,q⟩ ?_
 exact⟨hz,its',_,hv,q⟩
theorem Inv.lnew{its:List Value}{t':Nat}(I:Inv X pins σ H s)(hv:Vals ys its)(hz:ys.length<=sizeLine) :
  Inv X pins σ (upd H s.heap.objs.size (.lst ys)) { s with heap:=s.heap.push { cls:=.type "list",data:=.seq its.toArray },toks:=t' }:=
 I.laid (fun _ _ q=>zcl7 _ q) (zcm3 _) ⟨hz,its,0,hv,zco2 _ rfl⟩
theorem Inv.fresh(I:Inv X pins σ H s):H s.heap.objs.size=none:=I.hok.fresh (zcm3 _)
theorem Inv.lstM(I:Inv X pins σ H s)(hH:H l=some (.lst xs)):xs.length<=sizeLine/\∃ (its:List Value) (n:Nat),Vals xs its/\xs.length=its.length/\s.heap.get? l=some { cls:=.type "list",data:=.seq its.toArray n }:=by
 obtain⟨z,its,n,r,e⟩:=I.hok l _ hH
 exact⟨z,its,n,r,r.length,e⟩
theorem zay2{n:Nat}(h:n<=sizeLine):Builtin.List.listTooLong n=false:=by
 unfold Builtin.List.listTooLong
 exact decide_eq_false (by omega)
end
section
variable {X:Cx}
def zcb1:V->List V->Hp->VK->Prop:=fun x vs H Q=>∃ l xs y,x=.ref l/\vs=[y]/\H l=some (.lst xs)/\xs.length<sizeLine/\Q .non (upd H l (.lst (xs++[y])))
theorem zac4:MtM X "list.append" zcb1:=by
 intro pins s σ H x vs v us Q I rx rv h
 obtain⟨l,xs,y,rfl,rfl,hH,hz,q⟩:=h
 cases rx
 obtain⟨u,rfl,ru⟩:=rv.one
 obtain⟨z,its,n,r,hl,e⟩:=I.lstM hH
 refine call_meets F.slot_list_append ⟨_,e,rfl⟩ F.entry_list_append (F.args_list_append_2 _ _) (PySem.list_append l its.toArray n u (by rw[zcl9];omega)) ⟨e,?_⟩
 refine⟨.non,_,I.lset (its':=its++[u]) hH e (by simp) (r.append (.cons ru .nil)) ?_,rfl,q⟩
 rw[zcl8,zcs3]
 omega
def zcf6:V->List V->Hp->VK->Prop:=fun x vs H Q=>∃ l b xs zs,x=.ref l/\vs=[.ref b]/\H l=some (.lst xs)/\H b=some (.lst zs)/\xs.length+zs.length<=sizeLine/\Q .non (upd H l (.lst (xs++zs)))
theorem mt_extend:MtM X "list.extend" zcf6:=by
 intro pins s σ H x vs v us Q I rx rv h
 obtain⟨l,b,xs,zs,rfl,rfl,hH,hB,hz,q⟩:=h
 cases rx
 obtain⟨u,rfl,ru⟩:=rv.one
 cases ru
 obtain⟨z,its,n,r,hl,e⟩:=I.lstM hH
 obtain⟨z2,its2,n2,r2,hl2,e2⟩:=I.lstM hB
 have hsz:its.toArray.size+its2.toArray.size<=sizeLine:=by rw[zcl9,zcl9];omega
 have hlong:¬ (!its.toArray.isEmpty&&Builtin.List.listTooLong (its.toArray.size+its2.toArray.size))=true:=by
  rw[zay2 hsz,Bool.and_false]
  exact zcm2
 refine call_meets F.slot_list_extend ⟨_,e,rfl⟩ F.entry_list_extend (F.args_list_extend_2 _ _)
  (AutoSeq1.list_extend_list_list_0 l its.toArray n b its2.toArray n2 hlong (by rw[zcl9];omega) (by omega)) ⟨e,e2,?_⟩
 refine⟨.non,_,I.lset (its':=its++its2) hH e (by simp) (r.append r2) ?_,rfl,q⟩
 rw[zcl8]
 omega
def rCat:R2:=fun x y H Q=>∃ l b xs zs,x=.ref l/\y=.ref b/\H l=some (.lst xs)/\H b=some (.lst zs)/\xs.length+zs.length<=sizeLine/\∀ p,H p=none->Q (.ref p) (upd H p (.lst (xs++zs)))
theorem op_cat:OpR X (binaryOp .Add) rCat:=by
 intro pins s σ H x y v u Q I rx ry h
 obtain⟨l,b,xs,zs,rfl,rfl,hH,hB,hz,q⟩:=h
 cases rx
 cases ry
 obtain⟨z,its,n,r,hl,e⟩:=I.lstM hH
 obtain⟨z2,its2,n2,r2,hl2,e2⟩:=I.lstM hB
 refine PySem.P.add_list e e2 ?_ (by rw[zcl9,zcl9];omega)
 have ea:its.toArray++its2.toArray=(its++its2).toArray:=by simp
 rw[ea]
 exact⟨.ref _,_,I.lnew (t':=s.toks) (r.append r2) (by rw[zcl8];omega),rfl,q _ I.fresh⟩
def rRep:R2:=fun x y H Q=>∃ l k xs,x=.ref l/\y=.int k/\H l=some (.lst xs)/\-(2 ^ 63)<=k/\k<2 ^ 63/\xs.length*k.toNat<=sizeLine /\
 ∀ p,H p=none->Q (.ref p) (upd H p (.lst (List.replicate k.toNat xs).flatten))
theorem zcb7{α:Type}(xs:List α)(k:Nat):(List.replicate k xs).flatten.length=k*xs.length:=by
 induction k with
 | zero=>simp
 | succ k ih=>rw[zcu0,zcw2,zcl8,ih,Nat.succ_mul,Nat.add_comm]
theorem op_rep:OpR X (binaryOp .Mult) rRep:=by
 intro pins s σ H x y v u Q I rx ry h
 obtain⟨l,k,xs,rfl,rfl,hH,h1,h2,hz,q⟩:=h
 cases rx
 obtain⟨t,rfl⟩:=ry
 obtain⟨z,its,n,r,hl,e⟩:=I.lstM hH
 have hlen:its.toArray.size*k.toNat<=sizeLine:=by rw[zcl9,← hl];exact hz
 have hcap:¬ its.toArray.size*k.toNat>(2 ^ 63 - 1) / 8:=by
  have:(sizeLine:Nat)<=(2 ^ 63 - 1) / 8:=by decide
  omega
 have hfit:¬ (!Builtin.List.listFitsIndex k)=true:=by
  rw[fitsIndex_both h1 h2]
  exact zcm2
 have hlong:¬ Builtin.List.listTooLong (its.toArray.size*k.toNat)=true:=by
  rw[zay2 hlen]
  exact zcm2
 have hnew:List.foldl (fun x1 x2=>x1++x2) #[] (List.replicate (if its.toArray.isEmpty=true then 0 else k.toNat) its.toArray)=(List.replicate k.toNat its).flatten.toArray:=by
  have f0:∀ m:Nat,List.foldl (fun x1 x2=>x1++x2) #[] (List.replicate m its.toArray)=(List.replicate m its).flatten.toArray:=fun m=>by
   have:=zao2 its m []
   rw[List.nil_append] at this
   exact this
  rw[f0]
  cases its with
  | nil=>simp
  | cons a r'=>rw[if_neg (by simp)]
 refine wpAny_binaryOp_repeat_ref (T:="list") (U:="int") (by decide) ⟨_,e,rfl⟩ (fun s'=>typeIs_int s' k t) noFill_list_mul F.fills_int_mul F.slot_int_rmul repeat_list F.slot_int_index.lookup
  (call_meets F.slot_int_rmul (typeIs_int s k t) F.entry_int_rmul (F.args_int_rmul_2 _ _) (int___rmul___int_list k t l its.toArray n)
   ⟨e,rfl,⟨_,e,rfl⟩,call_meets F.slot_list_mul ⟨_,e,rfl⟩ F.entry_list_mul (F.args_list_mul_2 _ _) (AutoListH.list___mul___list_int_3 l its.toArray n k t hfit hcap hlong) ⟨e,?_⟩⟩)
 rw[hnew]
 exact⟨.ref _,_,I.lnew (t':=s.toks) (r.rep k.toNat) (by rw[zcb7,Nat.mul_comm];exact hz),rfl,q _ I.fresh⟩
end
end L2
namespace Att
open PySem PySem.W PySem.Calls PyProof.Rows
theorem zae0{P:Params}{h:Heap}:∀ (ns:List Int) (vs:List Value),WellAll P h vs (ns.map WData.int)->IntsAre vs ns:=by
 intro ns
 induction ns with
 | nil=>
  intro vs w
  rw[zcu5] at w
  cases w
  exact .nil
 | cons n ns ih=>
  intro vs w
  rw[zcn5] at w
  cases w with
  | cons a b=>
   cases a
   exact .cons _ _ (ih _ b)
theorem zbk0{l:OpenLaw}{n:Nat}(hn:l.most=some n){P:Params}{h:Heap}{args:List WData}{vals:List Value}(hpre:l.row.toRowW.claim.pre args=true)(hwl:WellAll P h vals args) :
  ∃ a vs ns,vals=[Value.ref a]/\args=[WData.list (ns.map WData.int)]/\h.get? a=some { cls:=.type "list",data:=.seq vs.toArray }/\IntsAre vs ns/\ns.length<=n:=by
 have hsh:WShape.hasAll [] args [.list .int]=true:=(pre_splitW hpre).1
 have hc:l.pre.holds [] { args:=args }=true:=(pre_splitW hpre).2
 obtain⟨d,r,rfl,h1,h2⟩:=hasAllW_cons hsh
 obtain rfl:=hasAllW_nil h2
 obtain⟨xs,rfl,h3⟩:=hasW_list h1
 obtain⟨ns,rfl⟩:=items_int h3
 have hlen:ns.length<=n:=by
  unfold OpenLaw.pre at hc
  have h4:(WTm.not (.lt (.lit (.int (n:Int))) (.len (.arg 0)))).holds [] { args:=[.list (ns.map .int)] }=true:=by
   have h4:=(holds_andW hc).1
   rw[hn] at h4
   exact h4
  have h5:=condW_of h4 (w_not (w_lt w_lit (w_len_list (w_arg rfl))))
  rw[zck9] at h5
  refine Nat.le_of_not_lt fun q=>?_
  have q':(n:Int)<((ns.length:Nat):Int):=by omega
  first
   | (rw[decide_eq_true q'] at h5;exact absurd h5 (by decide))
   | (simp at h5;omega)
 cases hwl with
 | cons w1 w2=>
  cases w2
  cases w1 with
  | list ho hall=>exact⟨_,_,ns,rfl,rfl,ho,zae0 ns _ hall,hlen⟩
theorem zbg5(l:OpenLaw)(args:List WData):l.row.toRowW.claim.post args (.bool true) args=true:=
 postW_of (r:=l.row.toRowW) (X:=(true==true))
  (show WShape.has [] (.bool true) .bool=true by first|rfl|decide|simp[WShape.has,WShape.arms,WShape.armsAll])
  (show (WTm.eq .res (.lit (.bool true))).value [] { args:=args,res:=some (.bool true),after:=args }=some (.bool (true==true)) from w_eq_bool (w_res rfl) w_lit) rfl
theorem attach_call{l:OpenLaw}{n:Nat}{q:Program}{loose:List Str}{XP:(Str->Option Value)->Heap->Prop}{YP:World->Heap->Prop}{d:DefRec}(hn:l.most=some n)(hdf:d.params.defaults=[])(call:∀ (w:World) (s₀ s₁:Shared) (mg mb:Str->Option Value) (fa:Addr) (o:Obj) (pm cd doc:Value) (a:Addr) (vs:List Value) (ns:List Int),
   Ground q loose [] XP w s₀ mg mb s₁.heap->YP w s₁.heap ->
   s₁.heap.get? fa=some o->o.data=.func (docDef d.name d.params d.body d.scope pm cd doc)->s₁.heap.CodeRec cd d.name->mg d.name=some (.ref fa) ->
   s₁.heap.get? a=some { cls:=.type "list",data:=.seq vs.toArray }->IntsAre vs ns->ns.length<=n->s₁.gens=#[] ->
   codeAny (model l.prog w) callerA (.call (.ref fa) ⟨[.ref a],[]⟩) (fun r s'=>r=.ok (.ret (.bool true))/\OldK s₁.heap s'.heap/\s'.os=s₁.os/\AllBare s'.gens) s₁) :
  WalkO q loose XP YP l.row.toRowW d [] (fun f vs=>PySem.call f vs):=by
 intro w s₀ s₁ mg mb G Y fa o pm cd doc dV kV ho hd hcd hD hmg hg args vals as hpre hlay hrd hwl hlo
 obtain rfl:dV=.none:=Dflts.none hD hdf
 obtain rfl:kV=.none:=Dflts.noKw hD
 obtain⟨a,vs,ns,rfl,rfl,hobj,hints,hlen⟩:=zbk0 hn hpre hwl
 refine enter_call (codeAny_mono (call w s₀ s₁ mg mb fa o pm cd doc a vs ns G Y ho (fd_plain hd) hcd hmg hobj hints hlen hg) fun r s' hq=>?_)
 obtain⟨rfl,h2,h3,h4⟩:=hq
 exact⟨.inl ⟨.bool true,.bool true,[],rfl,fun _=>rfl,.bool true,zbg5 l _,fun _=>⟨List.Pairwise.nil,fun _ hm=>(nomatch hm)⟩⟩,h2,h3,h4⟩
section
variable {prog:Program}{w:World}{A:Around}{E:Value->Shared->Prop}{s:Shared}{K:Frag}
def noObjs(h:Heap):Heap:={ h with objs:=#[] }
theorem noObjs_get(h:Heap)(b:Addr):(noObjs h).get? b=none:=by
 cases e:(noObjs h).get? b with
 | none=>rfl
 | some o=>exact absurd (zcm5 e) (Nat.not_lt_zero _)
def ledger(h:Heap)(L d:Addr):List (Addr×Obj):=(List.range h.objs.size).filterMap fun a=>if a=L∨a=d then none else (h.get? a).map fun o=>(a,o)
theorem mem_ledger{h:Heap}{L d a:Addr}{o:Obj}:(a,o)∈ledger h L d↔a≠L/\a≠d/\h.get? a=some o:=by
 unfold ledger
 rw[List.mem_filterMap]
 constructor
 ·rintro⟨b,_,e⟩
  split at e
  ·cases e
  ·rename_i hb
   obtain⟨o',ho,e'⟩:=zcl6.mp e
   cases e'
   exact⟨fun q=>hb (.inl q),fun q=>hb (.inr q),ho⟩
 ·rintro⟨n1,n2,ho⟩
  refine⟨a,zcq7.mpr (zcm5 ho),?_⟩
  rw[if_neg (show ¬ (a=L∨a=d) from fun q=>q.elim n1 n2),ho]<;>rfl
theorem fr_all{h:Heap}{L:Addr}{m:Str->Option Value}(n:h.Ns L m):Fr (noObjs h) L h m:=
 ⟨n,fun b o e=>(by rw[noObjs_get] at e;cases e),zcp2 _⟩
end
end Att
namespace L2
open PySem PySem.Spec PyProof.Rows
theorem zas2:∀ {vs:List Value}{ns:List Int},IntsAre vs ns->Vals (ns.map V.int) vs
 | _,_,.nil=>.nil
 | _,_,.cons n t h=>.cons ⟨t,rfl⟩ (zas2 h)
def zo2(s:Stmt):Arguments:=match s with
 | .FunctionDef _ a _ _ _ _ _ _ _ _=>a
 | _=>{ posonlyargs:=[],args:=[],vararg:=none,kwonlyargs:=[],kw_defaults:=[],kwarg:=none,defaults:=[] }
def zk1(s:Stmt):List Stmt:=match s with
 | .FunctionDef _ _ b _ _ _ _ _ _ _=>b
 | _=>[]
def za5(s:Stmt):Scope:=match s with
 | .FunctionDef _ _ _ _ _ _ sc _ _ _=>sc
 | _=>{ kind:=.function,names:=[],isGenerator:=false,isCoroutine:=false }
abbrev CX0:CXT:=fun _ _ _ _ _ _=>False
abbrev E0:XK:=fun _ _ _=>False
theorem zb6{X:Cx}:zai5 CX0 X E0:=fun _ _ _ _ _ _ _ h=>h.elim
structure Fun(K:zcl5)(x qual:Str)(st:Stmt)(f:Addr)(fd:FuncData):Prop where
 ex:∃ (oc:Value) (od:Option Addr) (kV doc pm:Value) (an:Option Addr) (cdv ct:Value) (osl:Array (Option Value)),
  fd=zcs2 x qual (zo2 st) (zk1 st) (za5 st) .none kV doc pm an cdv ct/\K.lookup f=some ⟨oc,od,.func fd,osl⟩/\PySem.W.codeIn K cdv qual=true
 kp:zcu4 K (.ref f)=true
section
variable {P:Program}{w:World}{K:zcl5}{mg:Str->Option Value}{base:Heap}
theorem Fun.ok{x qual:Str}{st:Stmt}{f:Addr}{fd:FuncData}{N ps:List Str}{k:Nat}{sp:Sp}(F:Fun K x qual st f fd)(S:zb2 N ps (za5 st))(len:∀ vs H Q E,sp vs H Q E->vs.length=ps.length)(hbody:∀ (cdv:Value) (A:Around) (outer:List Env) (s:Shared) (H:Hp) (vs:List V) (Q:VK) (E:XK),Room k (A.deeper (envOfC qual (za5 st) s.heap.objs.size f cdv))->sp vs H Q E ->
   ∃ t,PSs (cxOf CX0 P w K mg base N qual (za5 st) f cdv A outer s H E).nox (zk1 st) t/\t { nx:=fun _ H'=>Q .non H',rt:=Q } (zag7 N vs) H):FnOk P w K mg base CX0 (k+1) f fd ps sp:=by
 obtain⟨oc,od,kV,doc,pm,an,cdv,ct,osl,rfl,lk,hcd⟩:=F.ex
 refine fn_of lk hcd S len fun A outer s H vs Q E hr hsp=>?_
 obtain⟨t,h,q⟩:=hbody cdv A outer s H vs Q E hr hsp
 exact⟨t,h.nox,q⟩
theorem Fun.binds{x qual:Str}{st:Stmt}{f:Addr}{fd:FuncData}{ps:List Str}(F:Fun K x qual st f fd)(h:∀ (kV doc pm:Value) (an:Option Addr) (cdv ct:Value) (us:List Value),us.length=ps.length->bindArgs (zcs2 x qual (zo2 st) (zk1 st) (za5 st) .none kV doc pm an cdv ct) ⟨us,[]⟩=pure (ps.zip us)):zan8 K fd ps []:=by
 obtain⟨oc,od,kV,doc,pm,an,cdv,ct,osl,rfl,lk,hcd⟩:=F.ex
 exact .all (h kV doc pm an cdv ct)
theorem zbg8{x qual:Str}{st:Stmt}{f:Addr}{oc:Value}{od an:Option Addr}{osl:Array (Option Value)}{kV doc pm cdv ct:Value}(l:K.lookup f=some ⟨oc,od,.func (zcs2 x qual (zo2 st) (zk1 st) (za5 st) .none kV doc pm an cdv ct),osl⟩)(c:PySem.W.codeIn K cdv qual=true)(k:zcu4 K (.ref f)=true):Fun K x qual st f (zcs2 x qual (zo2 st) (zk1 st) (za5 st) .none kV doc pm an cdv ct):=⟨⟨oc,od,kV,doc,pm,an,cdv,ct,osl,rfl,l,c⟩,k⟩
end
section
variable {X:Cx}
theorem pv(i:Nat){x:Str}{pos:Pos}(hN:X.N[i]?=some x:=by rfl)(hv:Vis X.env.scope x:=by first|exact Or.inl rfl|exact Or.inr (Or.inl rfl)|exact Or.inr (Or.inr rfl))(hd:(x==("__debug__":Str))=false:=by decide)(hcd:(x==("__classdict__":Str))=false:=by decide):PE X (.Name x pos) (tVar i):=zbz1 hN hv hd hcd
end
theorem iteF{A B:Prop}(h:B):if false=true then A else B:=by
 rw[if_neg zcm2]
 exact h
theorem iteT{A B:Prop}(h:A):if true=true then A else B:=by
 rw[if_pos rfl]
 exact h
theorem ite2{c A B:Prop}[Decidable c](h1:c->A)(h2:¬ c->B):if c then A else B:=by
 by_cases h:c
 ·rw[if_pos h]
  exact h1 h
 ·rw[if_neg h]
  exact h2 h
def Same(H H':Hp):Prop:=∀ b o,H b=some o->H' b=some o
theorem Same.refl(H:Hp):Same H H:=fun _ _ h=>h
theorem Same.trans{H H1 H2:Hp}(a:Same H H1)(b:Same H1 H2):Same H H2:=fun c o h=>b c o (a c o h)
theorem Same.free{H H':Hp}(e:Same H H'){l:Addr}(h:H' l=Option.none):H l=Option.none:=by
 cases q:H l with
 | none=>rfl
 | some o=>
  rw[e l o q] at h
  cases h
theorem Same.seq{K:zcl5}{H H':Hp}{a:Addr}{xs:List V}(e:Same H H')(h:SqL K H a xs):SqL K H' a xs:=by
 rcases h with (h|⟨o,h⟩)|h
 ·exact .inl (.inl (e _ _ h))
 ·exact .inl (.inr ⟨o,e _ _ h⟩)
 ·exact .inr h
set_option maxHeartbeats 1000000
@[irreducible] def br(c:Bool)(A B:Prop):Prop:=if c=true then A else B
section
variable {A B p:Prop}{c:Bool}
theorem zah1:br c A B=(if c=true then A else B):=by unfold br;rfl
theorem br_T(h:A):br true A B:=by unfold br;exact iteT h
theorem br_F(h:B):br false A B:=by unfold br;exact iteF h
theorem br_any(h1:c=true->A)(h2:c=false->B):br c A B:=by
 cases c with
 | true=>exact br_T (h1 rfl)
 | false=>exact br_F (h2 rfl)
theorem zn3 [Decidable p](h1:p->A)(h2:¬ p->B):br (decide p) A B:=br_any (fun h=>h1 (of_decide_eq_true h)) fun h=>h2 (of_decide_eq_false h)
theorem zat1 [Decidable p](hp:p)(h:A):br (decide p) A B:=zn3 (fun _=>h) fun n=>absurd hp n
theorem zau9 [Decidable p](hp:¬ p)(h:B):br (decide p) A B:=zn3 (fun n=>absurd n hp) fun _=>h
theorem zc6(h:br c B A):br (!c) A B:=by
 cases c with
 | true=>unfold br at h ⊢;simpa using h
 | false=>unfold br at h ⊢;simpa using h
end
def Chg(a:Addr)(H H':Hp):Prop:=∀ b o,b≠a->H b=some o->H' b=some o
theorem Chg.upd{H:Hp}{a:Addr}{o:HO}:Chg a H (upd H a o):=fun b u hb e=>by rw[zc3 hb];exact e
theorem Same.upd{H:Hp}{a:Addr}{o:HO}(h:H a=none):Same H (L2.upd H a o):=fun b u e=>by rw[zc3 (za7 e h)];exact e
theorem Same.chg{H0 H H':Hp}{a:Addr}(s:Same H0 H)(n:H0 a=none)(c:Chg a H H'):Same H0 H':=fun b o e=>c b o (za7 e n) (s b o e)
theorem Chg.refl(a:Addr)(H:Hp):Chg a H H:=fun _ _ _ e=>e
theorem Chg.trans{H H1 H2:Hp}{a:Addr}(x:Chg a H H1)(y:Chg a H1 H2):Chg a H H2:=fun b o h e=>y b o h (x b o h e)
theorem Chg.same{H H1 H2:Hp}{a:Addr}(x:Chg a H H1)(y:Same H1 H2):Chg a H H2:=fun b o h e=>y b o (x b o h e)
theorem Same.toChg{H H1:Hp}{a:Addr}(x:Same H H1):Chg a H H1:=fun b o _ e=>x b o e
theorem Same.at{H H':Hp}{b:Addr}{o:HO}(s:Same H H')(e:H b=some o):H' b=some o:=s b o e
theorem Chg.at{H H':Hp}{a b:Addr}{o:HO}(s:Chg a H H')(e:H b=some o)(n:b≠a):H' b=some o:=s b o n e
def qV(i:Nat):TE:=fun σ H Q=>match σ[i]? with
 | some (some v)=>Q v H
 | _=>False
section
variable {X:Cx}
theorem pq(i:Nat){x:Str}{pos:Pos}(hN:X.N[i]?=some x:=by rfl)(hv:Vis X.env.scope x:=by first|exact Or.inl rfl|exact Or.inr (Or.inl rfl)|exact Or.inr (Or.inr rfl))(hd:(x==("__debug__":Str))=false:=by decide)(hcd:(x==("__classdict__":Str))=false:=by decide):PE X (.Name x pos) (qV i):=fun pins s σ H Q I h=>by
 refine zbz1 hN hv hd hcd pins s σ H Q I ?_
 unfold qV at h
 split at h
 ·rename_i v e
  exact⟨v,e,h⟩
 ·exact h.elim
@[irreducible] def zbf4(i j:Int)(H:Hp)(Q:VK):Prop:=IntMulOk i j/\Q (.int (i*j)) H
@[irreducible] def rDivI(i j:Int)(H:Hp)(Q:VK):Prop:=(j≠0/\j.natAbs.log2<9000)/\Q (.int (i.fdiv j)) H
@[irreducible] def zbm0(i j:Int)(H:Hp)(Q:VK):Prop:=j≠0/\Q (.int (i.fmod j)) H
@[irreducible] def rPowI(i j:Int)(H:Hp)(Q:VK):Prop:=CPow i j/\Q (.int (i ^ j.toNat)) H
@[irreducible] def rCatL(a b:Addr)(H:Hp)(Q:VK):Prop:=∃ xs zs,H a=some (.lst xs)/\H b=some (.lst zs)/\xs.length+zs.length<=sizeLine /\
 ∀ p H',H p=none->Same H H'->H' p=some (.lst (xs++zs))->Q (.ref p) H'
@[irreducible] def rRepL(a:Addr)(k:Int)(H:Hp)(Q:VK):Prop:=∃ xs,H a=some (.lst xs)/\-(2 ^ 63)<=k/\k<2 ^ 63/\xs.length*k.toNat<=sizeLine /\
 ∀ p H',H p=none->Same H H'->H' p=some (.lst (List.replicate k.toNat xs).flatten)->Q (.ref p) H'
def rAddM:R2:=fun x y H Q=>match x,y with
 | .int i,.int j=>Q (.int (i+j)) H
 | .ref a,.ref b=>rCatL a b H Q
 | .str a,.str b=>a.length+b.length<=sizeLine/\Q (.str (a++b)) H
 | _,_=>False
def rSubM:R2:=fun x y H Q=>match x,y with
 | .int i,.int j=>Q (.int (i - j)) H
 | _,_=>False
def rMulM:R2:=fun x y H Q=>match x,y with
 | .int i,.int j=>zbf4 i j H Q
 | .ref a,.int k=>rRepL a k H Q
 | _,_=>False
def rDivM:R2:=fun x y H Q=>match x,y with
 | .int i,.int j=>rDivI i j H Q
 | _,_=>False
def rModM:R2:=fun x y H Q=>match x,y with
 | .int i,.int j=>zbm0 i j H Q
 | _,_=>False
def rPowM:R2:=fun x y H Q=>match x,y with
 | .int i,.int j=>rPowI i j H Q
 | _,_=>False
theorem oAdd:OpR X (binaryOp .Add) rAddM:=by
 intro pins s σ H x y v u Q I rx ry h
 unfold rAddM at h
 split at h
 ·exact op_add pins s σ H _ _ v u Q I rx ry ⟨_,_,rfl,rfl,h⟩
 ·unfold rCatL at h
  obtain⟨xs,zs,h1,h2,h3,h4⟩:=h
  exact op_cat pins s σ H _ _ v u Q I rx ry ⟨_,_,xs,zs,rfl,rfl,h1,h2,h3,fun p hp=>h4 p _ hp (Same.upd hp) zb4⟩
 ·exact zbe4 pins s σ H _ _ v u Q I rx ry ⟨_,_,rfl,rfl,h.1,h.2⟩
 ·exact h.elim
theorem oSub:OpR X (binaryOp .Sub) rSubM:=by
 intro pins s σ H x y v u Q I rx ry h
 unfold rSubM at h
 split at h
 ·exact op_sub pins s σ H _ _ v u Q I rx ry ⟨_,_,rfl,rfl,h⟩
 ·exact h.elim
theorem oMul:OpR X (binaryOp .Mult) rMulM:=by
 intro pins s σ H x y v u Q I rx ry h
 unfold rMulM at h
 split at h
 ·unfold zbf4 at h
  obtain⟨t,rfl⟩:=rx
  obtain⟨t',rfl⟩:=ry
  exact mul_int ⟨.int _,H,I.tok _,⟨_,rfl⟩,h.2⟩ h.1
 ·unfold rRepL at h
  obtain⟨xs,h1,h2,h3,h4,h5⟩:=h
  exact op_rep pins s σ H _ _ v u Q I rx ry ⟨_,_,xs,rfl,rfl,h1,h2,h3,h4,fun p hp=>h5 p _ hp (Same.upd hp) zb4⟩
 ·exact h.elim
theorem oDiv:OpR X (binaryOp .FloorDiv) rDivM:=by
 intro pins s σ H x y v u Q I rx ry h
 unfold rDivM at h
 split at h
 ·unfold rDivI at h
  obtain⟨⟨h1,h2⟩,h3⟩:=h
  obtain⟨t,rfl⟩:=rx
  obtain⟨t',rfl⟩:=ry
  exact floordiv_int h1 ⟨.int _,H,I.tok _,⟨_,rfl⟩,h3⟩ (.inl (PyProof.noPylong_of_log2 h2))
 ·exact h.elim
theorem oMod:OpR X (binaryOp .Mod) rModM:=by
 intro pins s σ H x y v u Q I rx ry h
 unfold rModM at h
 split at h
 ·unfold zbm0 at h
  exact zcb4 pins s σ H _ _ v u Q I rx ry ⟨_,_,rfl,rfl,h.1,h.2⟩
 ·exact h.elim
theorem oPow:OpR X (binaryOp .Pow) rPowM:=by
 intro pins s σ H x y v u Q I rx ry h
 unfold rPowM at h
 split at h
 ·unfold rPowI at h
  exact op_pow pins s σ H _ _ v u Q I rx ry ⟨_,_,rfl,rfl,h.1,h.2⟩
 ·exact h.elim
def rNegM:V->Hp->VK->Prop:=fun x H Q=>match x with
 | .int i=>Q (.int (-i)) H
 | _=>False
theorem uNeg:UnR X (unaryOp .USub) rNegM:=by
 intro pins s σ H x v Q I rx h
 unfold rNegM at h
 split at h
 ·exact un_neg pins s σ H _ v Q I rx ⟨_,rfl,h⟩
 ·exact h.elim
section
variable {i j:Int}{H:Hp}{Q:VK}
theorem zbx4(h:IntMulOk i j)(q:Q (.int (i*j)) H):zbf4 i j H Q:=by unfold zbf4;exact⟨h,q⟩
theorem log2_lt{n k:Nat}(h:n<2 ^ k)(hk:0<k):n.log2<k:=by
 by_cases h0:n=0
 ·subst h0;simpa using hk
 ·exact (Nat.log2_lt h0).mpr h
theorem zcd9{j:Int}(h1:-(10 ^ 240)<j)(h2:j<10 ^ 240):j.natAbs<2 ^ 2000:=by
 have e:(10:Int) ^ 240=((10 ^ 240:Nat):Int):=by norm_cast
 have e2:(10:Nat) ^ 240<2 ^ 2000:=by decide +kernel
 rw[e] at h1 h2
 generalize hN:(10:Nat) ^ 240=N at h1 h2 e2
 generalize hM:(2:Nat) ^ 2000=M at e2
 omega
theorem div_rd(h1:0<j)(h2:j<10 ^ 240)(q:Q (.int (i / j)) H):rDivI i j H Q:=by
 unfold rDivI
 refine⟨⟨by omega,?_⟩,?_⟩
 ·have h:=log2_lt (zcd9 (j:=j) (by have:(0:Int)<10 ^ 240:=(by decide +kernel);generalize (10:Int) ^ 240=N at this;omega) h2) (by decide)
  omega
 ·rw[Int.fdiv_eq_ediv_of_nonneg _ (by omega)];exact q
theorem mod_rd(h1:0<j)(q:Q (.int (i % j)) H):zbm0 i j H Q:=by
 unfold zbm0
 refine⟨by omega,?_⟩
 rw[Int.fmod_eq_emod_of_nonneg _ (by omega)];exact q
theorem zbz4(h:CPow i j)(q:Q (.int (i ^ j.toNat)) H):rPowI i j H Q:=by unfold rPowI;exact⟨h,q⟩
theorem zar7{a b:Addr}{xs zs:List V}(h1:H a=some (.lst xs))(h2:H b=some (.lst zs))(h3:xs.length+zs.length<=sizeLine)(q:∀ p H',H p=none->Same H H'->H' p=some (.lst (xs++zs))->Q (.ref p) H'):rCatL a b H Q:=by unfold rCatL;exact⟨xs,zs,h1,h2,h3,q⟩
theorem zbz3{a:Addr}{k:Int}{xs:List V}(h1:H a=some (.lst xs))(h2:-(2 ^ 63)<=k)(h3:k<2 ^ 63)(h4:xs.length*k.toNat<=sizeLine)(q:∀ p H',H p=none->Same H H'->H' p=some (.lst (List.replicate k.toNat xs).flatten)->Q (.ref p) H'):rRepL a k H Q:=by unfold rRepL;exact⟨xs,h1,h2,h3,h4,q⟩
end
def rLeM:R2:=fun x y H Q=>match x,y with
 | .int i,.int j=>Q (.bl (decide (i<=j))) H
 | _,_=>False
def rGtM:R2:=fun x y H Q=>match x,y with
 | .int i,.int j=>Q (.bl (decide (j<i))) H
 | _,_=>False
theorem oLe:OpR X (compareOp .LtE) rLeM:=by
 intro pins s σ H x y v u Q I rx ry h
 unfold rLeM at h
 split at h
 ·exact op_le pins s σ H _ _ v u Q I rx ry ⟨_,_,rfl,rfl,h⟩
 ·exact h.elim
theorem oGt:OpR X (compareOp .Gt) rGtM:=by
 intro pins s σ H x y v u Q I rx ry h
 unfold rGtM at h
 split at h
 ·exact op_gt pins s σ H _ _ v u Q I rx ry ⟨_,_,rfl,rfl,h⟩
 ·exact h.elim
inductive EqR(K:zcl5)(H:Hp):Nat->V->V->Bool->Prop where
 | flat {n:Nat}{x y:V}(fx:zbm2 x=true) (fy:zbm2 y=true):EqR K H n x y (eqV x y)
 | tup {n:Nat}{a b:Addr}{xs ys:List V}(e:Nat->Bool) (ha:SqT K H a xs) (hb:SqT K H b ys) (h:∀ (j:Nat) (x y:V),xs[j]?=some x->ys[j]?=some y->EqR K H n x y (e j)) :
   EqR K H (n+1) (.ref a) (.ref b) ((List.range (min xs.length ys.length)).all e&&xs.length==ys.length)
 | lst {n:Nat}{a b:Addr}{xs ys:List V}(e:Nat->Bool) (ha:SqL K H a xs) (hb:SqL K H b ys) (hl:xs.length=ys.length) (h:∀ (j:Nat) (x y:V),xs[j]?=some x->ys[j]?=some y->EqR K H n x y (e j)) :
   EqR K H (n+1) (.ref a) (.ref b) ((List.range xs.length).all e)
 | lstN {n:Nat}{a b:Addr}{xs ys:List V}(ha:SqL K H a xs) (hb:SqL K H b ys) (hl:xs.length≠ys.length):EqR K H (n+1) (.ref a) (.ref b) false
theorem zbt0{x:V}(f:zbm2 x=true):eqV x x=true:=by
 cases x<;>first|rfl|(simp[eqV];done)|exact absurd (show false=true from f) zcm2
section
variable {pins:List (Addr×Obj)}{σ:St}{H:Hp}{s:Shared}
theorem EqR.self(I:Inv X pins σ H s){n:Nat}{x y:V}{b:Bool}(h:EqR X.K H n x y b):x=y->b=true:=by
 induction h with
 | flat fx fy=>rintro rfl;exact zbt0 fx
 | tup e ha hb h ih=>
  intro q
  cases q
  have q:=I.tuple_inj ha hb
  subst q
  rw[Nat.min_self,zcm4]
  refine⟨zcn1.mpr fun j hj=>?_,by simp⟩
  have hj:=zcq7.mp hj
  exact ih j _ _ (zcl0 hj) (zcl0 hj) rfl
 | lst e ha hb hl h ih=>
  intro q
  cases q
  have q:=I.list_inj ha hb
  subst q
  refine zcn1.mpr fun j hj=>?_
  have hj:=zcq7.mp hj
  exact ih j _ _ (zcl0 hj) (zcl0 hj) rfl
 | lstN ha hb hl=>
  intro q
  cases q
  exact absurd (congrArg zct9 (I.list_inj ha hb)) hl
theorem zr8(A:Around):A.in1.units=A.units+1:=rfl
mutual
theorem EqR.at(I:Inv X pins σ H s):∀ {n:Nat}{x y:V}{b:Bool},EqR X.K H n x y b->∀ {u v:Value}{A:Around},RelV x u->RelV y v->A.units+n<cLine->SeqAt.EqAt A s u v b
 | _,_,_,_,.flat fx fy,u,v,A,rx,ry,_=>zbz2 rx ry fx fy
 | _,.ref a,.ref b,_,h,u,v,A,rx,ry,hu=>by
  cases rx
  cases ry
  by_cases e:a=b
  ·subst e
   rw[h.self I rfl]
   exact SeqAt.EqAt.same _
  ·exact SeqAt.EqAt.of_refs e (EqR.rc I h hu)
theorem EqR.rc(I:Inv X pins σ H s):∀ {n:Nat}{a b:Addr}{c:Bool},EqR X.K H n (.ref a) (.ref b) c->∀ {A:Around},A.units+n<cLine->SeqAt.RcAt A s (.ref a) (.ref b) c
 | _,_,_,_,.flat fx _,_,_=>absurd (show false=true from fx) zcm2
 | _,a,b,_,.tup (xs:=xs) (ys:=ys) e ha hb h,A,hu=>by
  obtain⟨its,r1,t1,z1⟩:=I.tuple ha
  obtain⟨its2,r2,t2,z2⟩:=I.tuple hb
  have l1:its.toArray.size=xs.length:=by rw[zcl9];exact r1.length.symm
  have l2:its2.toArray.size=ys.length:=by rw[zcl9];exact r2.length.symm
  have q:=SeqAt.RcAt.tuples (A:=A) (e:=e) t1 t2 (by omega) fun j h1 h2=>by
   rw[l1] at h1
   rw[l2] at h2
   obtain⟨u1,e1,q1⟩:=r1.get (zcl0 h1)
   obtain⟨u2,e2,q2⟩:=r2.get (zcl0 h2)
   have i1:its.toArray[j]=u1:=by
    have:=(zcl1.mp e1).2
    simpa using this
   have i2:its2.toArray[j]=u2:=by
    have:=(zcl1.mp e2).2
    simpa using this
   rw[i1,i2]
   exact EqR.at I (h j _ _ (zcl0 h1) (zcl0 h2)) q1 q2 (by rw[zr8];omega)
  rw[l1,l2] at q
  exact q
 | _,a,b,_,.lst (xs:=xs) (ys:=ys) e ha hb hl h,A,hu=>by
  obtain⟨its,r1,t1,z1⟩:=I.list ha
  obtain⟨its2,r2,t2,z2⟩:=I.list hb
  have l1:its.toArray.size=xs.length:=by rw[zcl9];exact r1.length.symm
  have l2:its2.toArray.size=ys.length:=by rw[zcl9];exact r2.length.symm
  have q:=SeqAt.RcAt.lists (A:=A) (e:=e) t1.isList t2.isList (by rw[l1,l2];exact hl) (by omega) fun j h1 h2=>by
   rw[l1] at h1
   rw[l2] at h2
   obtain⟨u1,e1,q1⟩:=r1.get (zcl0 h1)
   obtain⟨u2,e2,q2⟩:=r2.get (zcl0 h2)
   have i1:its.toArray[j]=u1:=by
    have:=(zcl1.mp e1).2
    simpa using this
   have i2:its2.toArray[j]=u2:=by
    have:=(zcl1.mp e2).2
    simpa using this
   rw[i1,i2]
   exact EqR.at I (h j _ _ (zcl0 h1) (zcl0 h2)) q1 q2 (by rw[zr8];omega)
  rw[l1] at q
  exact q
 | _,a,b,_,.lstN (xs:=xs) (ys:=ys) ha hb hl,A,hu=>by
  obtain⟨its,r1,t1,z1⟩:=I.list ha
  obtain⟨its2,r2,t2,z2⟩:=I.list hb
  have l1:its.toArray.size=xs.length:=by rw[zcl9];exact r1.length.symm
  have l2:its2.toArray.size=ys.length:=by rw[zcl9];exact r2.length.symm
  exact SeqAt.RcAt.lists_lengths t1.isList t2.isList (by rw[l1,l2];simpa using hl) (by omega)
end
theorem EqR.rcNe(I:Inv X pins σ H s):∀ {n:Nat}{a b:Addr}{c:Bool},EqR X.K H n (.ref a) (.ref b) c->∀ {A:Around},A.units+n<cLine->SeqAt.RcNeAt A s (.ref a) (.ref b) (!c)
 | _,_,_,_,.flat fx _,_,_=>absurd (show false=true from fx) zcm2
 | _,a,b,_,.tup (xs:=xs) (ys:=ys) e ha hb h,A,hu=>by
  obtain⟨its,r1,t1,z1⟩:=I.tuple ha
  obtain⟨its2,r2,t2,z2⟩:=I.tuple hb
  have l1:its.toArray.size=xs.length:=by rw[zcl9];exact r1.length.symm
  have l2:its2.toArray.size=ys.length:=by rw[zcl9];exact r2.length.symm
  have q:=SeqAt.RcNeAt.tuples (A:=A) (e:=e) t1 t2 (by omega) fun j h1 h2=>by
   rw[l1] at h1
   rw[l2] at h2
   obtain⟨u1,e1,q1⟩:=r1.get (zcl0 h1)
   obtain⟨u2,e2,q2⟩:=r2.get (zcl0 h2)
   have i1:its.toArray[j]=u1:=by
    have:=(zcl1.mp e1).2
    simpa using this
   have i2:its2.toArray[j]=u2:=by
    have:=(zcl1.mp e2).2
    simpa using this
   rw[i1,i2]
   exact EqR.at I (h j _ _ (zcl0 h1) (zcl0 h2)) q1 q2 (by rw[zr8];omega)
  rw[l1,l2] at q
  exact q
 | _,a,b,_,.lst (xs:=xs) (ys:=ys) e ha hb hl h,A,hu=>by
  obtain⟨its,r1,t1,z1⟩:=I.list ha
  obtain⟨its2,r2,t2,z2⟩:=I.list hb
  have l1:its.toArray.size=xs.length:=by rw[zcl9];exact r1.length.symm
  have l2:its2.toArray.size=ys.length:=by rw[zcl9];exact r2.length.symm
  have q:=SeqAt.RcNeAt.lists (A:=A) (e:=e) t1.isList t2.isList (by rw[l1,l2];exact hl) (by omega) fun j h1 h2=>by
   rw[l1] at h1
   rw[l2] at h2
   obtain⟨u1,e1,q1⟩:=r1.get (zcl0 h1)
   obtain⟨u2,e2,q2⟩:=r2.get (zcl0 h2)
   have i1:its.toArray[j]=u1:=by
    have:=(zcl1.mp e1).2
    simpa using this
   have i2:its2.toArray[j]=u2:=by
    have:=(zcl1.mp e2).2
    simpa using this
   rw[i1,i2]
   exact EqR.at I (h j _ _ (zcl0 h1) (zcl0 h2)) q1 q2 (by rw[zr8];omega)
  rw[l1] at q
  exact q
 | _,a,b,_,.lstN (xs:=xs) (ys:=ys) ha hb hl,A,hu=>by
  obtain⟨its,r1,t1,z1⟩:=I.list ha
  obtain⟨its2,r2,t2,z2⟩:=I.list hb
  have l1:its.toArray.size=xs.length:=by rw[zcl9];exact r1.length.symm
  have l2:its2.toArray.size=ys.length:=by rw[zcl9];exact r2.length.symm
  exact SeqAt.RcNeAt.lists_lengths t1.isList t2.isList (by rw[l1,l2];simpa using hl) (by omega)
end
@[irreducible] def rEqO(K:zcl5)(a b:Addr)(H:Hp)(Q:VK):Prop:=∃ n c,n<=40/\EqR K H n (.ref a) (.ref b) c/\Q (.bl c) H
def rEqM(K:zcl5):R2:=fun x y H Q=>match x,y with
 | .int i,.int j=>Q (.bl (decide (i=j))) H
 | .bl i,.bl j=>Q (.bl (decide (i=j))) H
 | .str i,.str j=>Q (.bl (decide (i=j))) H
 | .ref a,.ref b=>rEqO K a b H Q
 | x,y=>scal x y=true/\Q (.bl (decide (x=y))) H
def rNeM(K:zcl5):R2:=fun x y H Q=>rEqM K x y H fun v H'=>match v with
 | .bl b=>Q (.bl (!b)) H'
 | _=>False
theorem zz5{α β:Type}[DecidableEq α][DecidableEq β]{f:α->β}(hf:∀ a b,f a=f b->a=b)(a b:α):decide (f a=f b)=decide (a=b):=by
 by_cases h:a=b
 ·subst h;simp
 ·rw[decide_eq_false h,decide_eq_false fun e=>h (hf _ _ e)]
def qB(t:TE):TT:=fun σ H Q=>t σ H fun x H1=>match x with
 | .bl c=>Q c H1
 | .int i=>Q (!decide (i=0)) H1
 | _=>False
theorem ptV{e:Expr}{t:TE}(h:PE X e t)(he:∀ whole,isTrue e X.env whole=(do let v ← whole;standAt e.pos;holding [v] (truthy v)):=by intro _;rfl):PT X e (qB t):=fun pins s σ H Q I hw=>by
 refine isTrue_plain (thn (h pins s σ H _ I hw) fun v s1 ⟨x,H1,I1,r1,q1⟩=>?_) (he _)
 dsimp only at q1
 split at q1
 ·exact zbm7 pins s1 σ H1 _ v Q I1 r1 ⟨_,rfl,q1⟩
 ·rename_i i
  refine zbm7 pins s1 σ H1 _ v Q I1 r1 ⟨_,rfl,?_⟩
  have e:(i != 0)=!decide (i=0):=by by_cases h:i=0<;>simp[h]
  rw[e];exact q1
 ·exact q1.elim
theorem ptC{a b:Expr}{ta tb:TE}{pos:Pos}{op:CmpOp}{r:R2}(ho:OpR X (compareOp op) r)(ha:PE X a ta)(hb:PE X b tb)(hm:behindInMarks op b=false:=by first|exact zbw9 _|with_unfolding_all rfl):PT X (.Compare a [op] [b] pos) (qB (tOp r ta tb)):=by
 intro pins s σ H Q I h
 refine wpAny_isTrue_Compare1 (thn (ha pins s σ H _ I h) fun v s1 ⟨x,H1,I1,r1,q1⟩=>thn (hb pins s1 σ H1 _ I1 q1) fun u s2 ⟨y,H2,I2,r2,q2⟩=>
  thn (ho pins s2 σ H2 x y v u _ I2 r1 r2 q2) fun c s3 ⟨z,H3,I3,r3,q3⟩=>?_) hm
 dsimp only at q3
 split at q3
 ·cases r3
  exact wpAny_truthy_bool ⟨H3,I3,q3⟩
 ·rename_i i
  refine zbm7 pins s3 σ H3 _ c Q I3 r3 ⟨_,rfl,?_⟩
  have e:(i != 0)=!decide (i=0):=by by_cases h:i=0<;>simp[h]
  rw[e];exact q3
 ·exact q3.elim
theorem peC{a b:Expr}{ta tb:TE}{pos:Pos}{op:CmpOp}{r:R2}(ho:OpR X (compareOp op) r)(ha:PE X a ta)(hb:PE X b tb)(hm:behindInMarks op b=false:=by first|exact zbw9 _|with_unfolding_all rfl):PE X (.Compare a [op] [b] pos) (tOp r ta tb):=
 zcb9 ho ha hb hm
variable {a b:Expr}{rest:List Expr}{tA tB':TT}{ta tb:TE}{pos:Pos}
def qAnd(t u:TT):TT:=fun σ H Q=>t σ H fun c H1=>br c (u σ H1 Q) (Q false H1)
def qOr(t u:TT):TT:=fun σ H Q=>t σ H fun c H1=>br c (Q true H1) (u σ H1 Q)
theorem pwAnd(ha:PT X a tA)(hb:PW X (.BoolOp .And (b :: rest) pos) tB'):PW X (.BoolOp .And (a :: b :: rest) pos) (qAnd tA tB'):=fun wh pins s σ H Q I h=>
 pw_and ha hb wh pins s σ H Q I (by unfold qAnd at h;simp only[zah1] at h;exact h)
theorem pwOr(ha:PT X a tA)(hb:PW X (.BoolOp .Or (b :: rest) pos) tB'):PW X (.BoolOp .Or (a :: b :: rest) pos) (qOr tA tB'):=fun wh pins s σ H Q I h=>
 pw_or ha hb wh pins s σ H Q I (by unfold qOr at h;simp only[zah1] at h;exact h)
def qAndV(ta tb:TE):TE:=fun σ H Q=>ta σ H fun x H1=>match x with
 | .bl c=>br c (tb σ H1 Q) (Q (.bl false) H1)
 | _=>False
def qNotV(ta:TE):TE:=fun σ H Q=>ta σ H fun x H1=>match x with
 | .bl c=>Q (.bl (!c)) H1
 | _=>False
theorem zo8(ha:PE X a ta)(hb:PE X (.BoolOp .And (b :: rest) pos) tb):PE X (.BoolOp .And (a :: b :: rest) pos) (qAndV ta tb):=by
 intro pins s σ H Q I h
 refine BoolOp_and (thn (ha pins s σ H _ I h) fun v s1 ⟨x,H1,I1,r1,q1⟩=>?_)
 dsimp only at q1
 split at q1
 ·rename_i c
  cases r1
  refine wpAny_truthy_bool ?_
  rw[zah1] at q1
  cases c with
  | true=>exact hb pins s1 σ H1 Q I1 (by simpa using q1)
  | false=>exact⟨.bl false,H1,I1,rfl,by simpa using q1⟩
 ·exact q1.elim
theorem peNot(ha:PE X a ta):PE X (.UnaryOp .Not a pos) (qNotV ta):=by
 intro pins s σ H Q I h
 refine UnaryOp_ (thn (ha pins s σ H _ I h) fun v s1 ⟨x,H1,I1,r1,q1⟩=>?_)
 dsimp only at q1
 split at q1
 ·rename_i c
  cases r1
  exact not_of (wpAny_truthy_bool ⟨.bl (!c),H1,I1,rfl,q1⟩)
 ·exact q1.elim
variable {st:Stmt}{t u:TS}{e:Expr}{te:TE}
def qIfS(c:TT)(t u:TS):TS:=fun D σ H=>c σ H fun b H1=>br b (t D σ H1) (u D σ H1)
theorem psIf{c:Expr}{a b:List Stmt}{tc:TT}(hc:PT X c tc)(ha:PSs X a t)(hb:PSs X b u):PS X (.If c a b pos) (qIfS tc t u):=fun pins s σ H D I h=>
 ps_if hc ha hb pins s σ H D I (by unfold qIfS at h;simp only[zah1] at h;exact h)
@[irreducible] def zbc1(J:It)(g:TG)(tb:TS)(D:Ends)(σ:St)(H1:Hp):Prop:=∃ W:Nat->Nat->St->Hp->Prop,(∃ m,W 0 m σ H1)/\∀ i m σ H,W i m σ H ->
 (J.stop i H/\D.nx σ H)∨(J.go i H/\∃ N:St->Hp->Prop,(∀ σ' H',N σ' H'->∃ m',m'<m/\W (i+1) m' σ' H')/\∀ x H',J.yld i H x H'->g x σ H' fun σ2 H2=>tb { D with nx:=N,ct:=N,bk:=D.nx } σ2 H2)
def qFor(wi:TI)(g:TG)(tb:TS):TS:=fun D σ H=>wi σ H fun J H1=>zbc1 J g tb D σ H1
theorem zx4{iter tg:Expr}{body:List Stmt}{wi:TI}{g:TG}{tb:TS}{pos:Pos}(hp:PassesOwn (model X.prog X.w) X.A X.env X.xe)(hc:X.calm=true)(hi:PI X tg iter wi)(hg:PG X tg g)(hb:PSs X body tb)(hs:∀ x,foldedSetIterable iter X.env x=pure x:=by intro _;rfl):PS X (.For tg iter body [] pos) (qFor wi g tb):=fun pins s σ H D I h=>
 ps_for hp hc hi hg hb hs pins s σ H D I (by unfold qFor at h;unfold zbc1 at h;exact h)
@[irreducible] def zbe3(K:zcl5)(a:Addr)(H:Hp)(R:It->Hp->Prop):Prop:=((∃ xs,SqL K H a xs)/\R (Itl K a) H)∨((∃ xs,SqT K H a xs)/\R (Itt K a) H)
def qiSeq(K:zcl5)(tl:TE):TI:=fun σ H R=>tl σ H fun x H1=>match x with
 | .ref a=>zbe3 K a H1 R
 | _=>False
theorem piSeq{tg l:Expr}{tl:TE}(hl:PE X l tl):PI X tg l (qiSeq X.K tl):=by
 intro pins s σ H R I h
 refine thn (hl pins s σ H _ I h) fun v s1 ⟨x,H1,I1,r1,q1⟩=>?_
 dsimp only at q1
 split at q1
 ·rename_i a
  unfold zbe3 at q1
  cases r1
  have fp:∀ b∈[s1.heap.objs.size],FpOk X pins H1 b:=fun b hb=>by
   have e:b=s1.heap.objs.size:=by simpa using hb
   subst e
   exact I1.fpOk (zcm3 _) (I1.hok.fresh (zcm3 _))
  rcases q1 with ⟨⟨xs,hq⟩,q⟩|⟨⟨xs,hq⟩,q⟩
  ·obtain⟨its,rv,p,hz⟩:=I1.list hq
   refine wpAny_pyIter_list p.isList ?_
   exact⟨s1.heap.objs.size,[s1.heap.objs.size],_,_,H1,rfl,I1.kept (t':=s1.toks) fun b o e=>zcl7 _ e,zbl2 a _,⟨_,zco2 _ rfl,rfl,rfl⟩,fp,q⟩
  ·obtain⟨its,rv,p,hz⟩:=I1.tuple hq
   refine wpAny_pyIter_tuple (show s1.heap.IsTuple a its.toArray from p) ?_
   exact⟨s1.heap.objs.size,[s1.heap.objs.size],_,_,H1,rfl,I1.kept (t':=s1.toks) fun b o e=>zcl7 _ e,zbc2 a _,⟨_,zco2 _ rfl,rfl,rfl⟩,fp,q⟩
 ·exact q1.elim
@[irreducible] def zai6(i j:Int)(H:Hp)(R:It->Hp->Prop):Prop:=(-(2 ^ 62)<=i/\i<2 ^ 62/\-(2 ^ 62)<=j/\j<2 ^ 62)/\R (Itr i (j - i).toNat) H
def qiRng(ta:TA):TI:=fun σ H R=>ta σ H fun vs H1=>match vs with
 | [.int j]=>zai6 0 j H1 R
 | [.int i,.int j]=>zai6 i j H1 R
 | _=>False
theorem zx1{tg a:Expr}{ta:TA}{p pos:Pos}(hm:X.mg "range"=none)(ha:PA X [a] ta)(hg:Gl X "range":=by rfl)(hs:starEach [a] X.env=[(false,eval a X.env)]:=by rfl):PI X tg (.Call (.Name "range" p) [a] [] pos) (qiRng ta):=by
 intro pins s σ H R I h
 refine Call_ (zai2 I hg hm boot_range (PyProof.Rows.callWith_type1 (thn (ha pos pins s σ H _ I h) fun us s1 ⟨vs,H1,I1,r1,q1⟩=>?_) hs rfl))
 dsimp only at q1
 split at q1
 ·unfold zai6 at q1
  obtain⟨⟨a1,a2,a3,a4⟩,q⟩:=q1
  cases r1 with
  | cons r rr=>
   cases rr
   obtain⟨t,rfl⟩:=r
   exact call_range_1 (zaz7 I1 a1 a2 a3 a4 q)
 ·unfold zai6 at q1
  cases r1 with
  | cons r rr=>
   cases rr with
   | cons r' rr=>
    cases rr
    obtain⟨t,rfl⟩:=r
    obtain⟨t',rfl⟩:=r'
    obtain⟨⟨a1,a2,a3,a4⟩,q⟩:=q1
    exact call_range_2 (zaz7 I1 a1 a2 a3 a4 q)
 ·exact q1.elim
section
variable {K:zcl5}{g:TG}{tb:TS}{D:Ends}{σ:St}{H:Hp}{R:It->Hp->Prop}
theorem za9{a:Addr}{xs:List V}(h:H a=some (.lst xs))(q:R (Itl K a) H):zbe3 K a H R:=by unfold zbe3;exact .inl ⟨⟨xs,SqL.of h⟩,q⟩
theorem zbr5{a:Addr}{xs:List V}(h:H a=some (.tup xs))(q:R (Itt K a) H):zbe3 K a H R:=by unfold zbe3;exact .inr ⟨⟨xs,SqT.of h⟩,q⟩
theorem zl6{i j:Int}(h1:-(2 ^ 62)<=i)(h2:i<2 ^ 62)(h3:-(2 ^ 62)<=j)(h4:j<2 ^ 62)(q:R (Itr i (j - i).toNat) H):zai6 i j H R:=by unfold zai6;exact⟨⟨h1,h2,h3,h4⟩,q⟩
theorem zj1{a:Addr}{xs:List V}(Pv:Nat->St->Hp->Prop)(h0:Pv 0 σ H)(hl:∀ i σ H,i<=xs.length->Pv i σ H->SqL K H a xs)(hs:∀ i x σ H,xs[i]?=some x->Pv i σ H->g x σ H fun σ2 H2=>tb { D with nx:=Pv (i+1),ct:=Pv (i+1),bk:=D.nx } σ2 H2)(hd:∀ σ H,Pv xs.length σ H->D.nx σ H):zbc1 (Itl K a) g tb D σ H:=by
 unfold zbc1;exact zbv3 Pv h0 hl hs hd
theorem zm1{lo:Int}{n:Nat}(Pv:Nat->St->Hp->Prop)(h0:Pv 0 σ H)(hs:∀ i σ H,i<n->Pv i σ H->g (.int (lo+i)) σ H fun σ2 H2=>tb { D with nx:=Pv (i+1),ct:=Pv (i+1),bk:=D.nx } σ2 H2)(hd:∀ σ H,Pv n σ H->D.nx σ H):zbc1 (Itr lo n) g tb D σ H:=by
 unfold zbc1;exact zbl1 Pv h0 hs hd
end
@[irreducible] def wIf(W:Nat->St->Hp->Prop)(m:Nat)(tb:TS)(D:Ends)(σ:St)(b:Bool)(H1:Hp):Prop:=
 if b=true then ∃ N:St->Hp->Prop,(∀ σ' H',N σ' H'->∃ m',m'<m/\W m' σ' H')/\tb { D with nx:=N,ct:=N,bk:=D.nx } σ H1 else D.nx σ H1
@[irreducible] def zaz2(c:TT)(tb:TS):TS:=fun D σ H=>∃ W:Nat->St->Hp->Prop,(∃ m,W m σ H)/\∀ m σ H,W m σ H->c σ H fun b H1=>wIf W m tb D σ b H1
theorem zcb8{c:Expr}{body:List Stmt}{tc:TT}{tb:TS}(hp:PassesOwn (model X.prog X.w) X.A X.env X.xe)(hc:PT X c tc)(hb:PSs X body tb):PS X (.While c body [] pos) (zaz2 tc tb):=fun pins s σ H D I h=>
 zbu5 hp hc hb pins s σ H D I (by unfold zaz2 at h;unfold wIf at h;exact h)
section
variable {c:TT}{tb:TS}{D:Ends}{σ:St}{H H1:Hp}{W:Nat->St->Hp->Prop}{m:Nat}{p:Prop}
theorem zbv5(Pv:St->Hp->Prop)(μ:St->Hp->Nat)(h0:Pv σ H)(hs:∀ σ H,Pv σ H->c σ H fun b H1=>wIf (fun m σ H=>m=μ σ H/\Pv σ H) (μ σ H) tb D σ b H1):zaz2 c tb D σ H:=by
 unfold zaz2
 refine⟨fun m σ H=>m=μ σ H/\Pv σ H,⟨_,rfl,h0⟩,?_⟩
 rintro m σ H ⟨rfl,p⟩
 exact hs σ H p
theorem zcb5{Pv:St->Hp->Prop}{μ:St->Hp->Nat}[Decidable p](h1:p->tb { D with nx:=fun σ' H'=>Pv σ' H'/\μ σ' H'<m,ct:=fun σ' H'=>Pv σ' H'/\μ σ' H'<m,bk:=D.nx } σ H1)(h2:¬ p->D.nx σ H1) :
  wIf (fun m σ H=>m=μ σ H/\Pv σ H) m tb D σ (decide p) H1:=by
 unfold wIf
 refine ite2 (fun h=>⟨_,fun σ' H' ⟨a,b⟩=>⟨_,b,rfl,a⟩,h1 (of_decide_eq_true h)⟩) fun h=>h2 fun hp=>h (decide_eq_true hp)
end
@[irreducible] def rNewT(xs:List V)(H:Hp)(Q:VK):Prop:=xs.length<=sizeLine/\∀ p H',H p=none->Same H H'->H' p=some (.tup xs)->Q (.ref p) H'
@[irreducible] def rNewL(xs:List V)(H:Hp)(Q:VK):Prop:=xs.length<=sizeLine/\∀ p H',H p=none->Same H H'->H' p=some (.lst xs)->Q (.ref p) H'
def qTup(t:TA):TE:=fun σ H Q=>t σ H fun xs H1=>rNewT xs H1 Q
def qLst(t:TA):TE:=fun σ H Q=>t σ H fun xs H1=>rNewL xs H1 Q
theorem zp0{es:List Expr}{x1}{t:TA}(h:PA X es t):PE X (.Tuple es x1 pos) (qTup t):=by
 intro pins s σ H Q I hq
 refine wpAny_Tuple_spliced (thn (h pos pins s σ H _ I hq) fun us s1 ⟨xs,H1,I1,r,z⟩=>?_)
 unfold rNewT at z
 obtain⟨z,q⟩:=z
 refine⟨by rw[← r.length];exact z,?_⟩
 have hf:H1 s1.heap.objs.size=none:=I1.hok.fresh (zcm3 _)
 refine⟨.ref s1.heap.objs.size,upd H1 s1.heap.objs.size (.tup xs),I1.laid (t':=s1.toks) (fun b u e=>zcl7 _ e) (zcm3 _) ?_,rfl,q _ _ hf (Same.upd hf) zb4⟩
 exact⟨z,us,r,⟨_,zco2 _ rfl,rfl,_,rfl⟩⟩
theorem zn1{es:List Expr}{t:TA}(h:PA X es t):PE X (.List es pos) (qLst t):=by
 intro pins s σ H Q I hq
 refine wpAny_List_spliced (thn (h pos pins s σ H _ I hq) fun us s1 ⟨xs,H1,I1,r,z⟩=>?_)
 unfold rNewL at z
 obtain⟨z,q⟩:=z
 refine⟨by rw[← r.length];exact z,?_⟩
 have hf:H1 s1.heap.objs.size=none:=I1.hok.fresh (zcm3 _)
 refine⟨.ref s1.heap.objs.size,upd H1 s1.heap.objs.size (.lst xs),I1.laid (t':=s1.toks) (fun b u e=>zcl7 _ e) (zcm3 _) ?_,rfl,q _ _ hf (Same.upd hf) zb4⟩
 exact⟨z,us,0,r,zco2 _ rfl⟩
@[irreducible] def rIxA(K:zcl5)(p:Addr)(i:Int)(H:Hp)(Q:VK):Prop:=∃ xs v,(SqL K H p xs∨SqT K H p xs)/\atI xs i=some v/\Q v H
def rIxM(K:zcl5):R2:=fun x y H Q=>match x,y with
 | .ref p,.int i=>rIxA K p i H Q
 | .str z,.int i=>∃ c,z.length<=sizeLine/\atI z.cps.toList i=some c/\Q (.str ⟨#[c]⟩) H
 | _,_=>False
theorem ixM:IxR X (rIxM X.K):=by
 intro value slice pins s σ H x y v u Q I rx ry h hs
 unfold rIxM at h
 split at h
 ·unfold rIxA at h
  obtain⟨xs,z,h1,h2,q⟩:=h
  rcases h1 with h1|h1
  ·exact zcc1 value slice pins s σ H _ _ v u Q I rx ry ⟨_,xs,_,z,rfl,rfl,h1,h2,q⟩ hs
  ·exact ix_tup value slice pins s σ H _ _ v u Q I rx ry ⟨_,xs,_,z,rfl,rfl,h1,h2,q⟩ hs
 ·obtain⟨c,h1,h2,q⟩:=h
  exact ix_str value slice pins s σ H _ _ v u Q I rx ry ⟨_,_,c,rfl,rfl,h1,h2,q⟩ hs
 ·exact h.elim
theorem peIx(ha:PE X a ta)(hb:PE X b tb)(hs:zau0 b:=by exact fun _ _=>rfl):PE X (.Subscript a b pos) (tOp (rIxM X.K) ta tb):=pe_ix ixM ha hb hs
@[irreducible] def rSetA(p:Addr)(k:Int)(v:V)(H:Hp)(Q:Hp->Prop):Prop:=∃ xs j,H p=some (.lst xs)/\ixN xs.length k=some j/\∀ H',Chg p H H'->H' p=some (.lst (xs.set j v))->Q H'
def rSetM:TSet:=fun o i v H Q=>match o,i with
 | .ref p,.int k=>rSetA p k v H Q
 | _,_=>False
theorem setM:PSet X rSetM:=by
 intro pins s σ H o i v ov iv u Q I ro ri rv h
 unfold rSetM at h
 split at h
 ·unfold rSetA at h
  obtain⟨xs,j,h1,h2,q⟩:=h
  exact zbq9 pins s σ H _ _ v ov iv u Q I ro ri rv ⟨_,xs,_,j,rfl,rfl,h1,h2,q _ Chg.upd zb4⟩
 ·exact h.elim
def qPart(t:TE):TO:=fun σ H Q=>t σ H fun x H1=>match x with
 | .int i=>Q (some i) H1
 | _=>False
theorem zu3(h:PE X e te):PO X (some e) (qPart te):=by
 intro pins s σ H Q I hw
 rw[evalPart_some]
 refine thn (h pins s σ H _ I hw) fun u s1 ⟨x,H1,I1,r1,q1⟩=>?_
 dsimp only at q1
 split at q1
 ·rename_i i
  obtain⟨t,rfl⟩:=r1
  exact⟨some i,H1,I1,.int i t,q1⟩
 ·exact q1.elim
section
variable {K:zcl5}{H:Hp}{Q:VK}{p:Addr}{xs:List V}{v:V}{i:Int}
theorem zd6(q:∀ p H',H p=none->Same H H'->H' p=some (.tup xs)->Q (.ref p) H')(h:xs.length<=sizeLine:=by first|assumption|(simp only[zcn6,zcq5,zcu6,Nat.reduceAdd];decide)):rNewT xs H Q:=by unfold rNewT;exact⟨h,q⟩
theorem zd5(q:∀ p H',H p=none->Same H H'->H' p=some (.lst xs)->Q (.ref p) H')(h:xs.length<=sizeLine:=by first|assumption|(simp only[zcn6,zcq5,zcu6,Nat.reduceAdd];decide)):rNewL xs H Q:=by unfold rNewL;exact⟨h,q⟩
theorem zd2(h:H p=some (.tup xs))(e:atI xs i=some v)(q:Q v H):rIxA K p i H Q:=by unfold rIxA;exact⟨xs,v,.inr (SqT.of h),e,q⟩
theorem zb8(h:H p=some (.lst xs))(e:atI xs i=some v)(q:Q v H):rIxA K p i H Q:=by unfold rIxA;exact⟨xs,v,.inl (SqL.of h),e,q⟩
theorem zba5{R:Hp->Prop}{j:Nat}(h:H p=some (.lst xs))(e:ixN xs.length i=some j)(q:∀ H',Chg p H H'->H' p=some (.lst (xs.set j v))->R H'):rSetA p i v H R:=by unfold rSetA;exact⟨xs,j,h,e,q⟩
end
def qgNil:TGs:=fun vs σ H Q=>match vs with
 | []=>Q σ H
 | _=>False
def zbz8(t:TG)(u:TGs):TGs:=fun vs σ H Q=>match vs with
 | v :: r=>t v σ H fun σ' H'=>u r σ' H' Q
 | _=>False
theorem zj2:PGs X [] qgNil:=fun pins s σ H vs us Q I r h=>by
 unfold qgNil at h
 split at h
 ·exact zcf9 pins s σ H _ us Q I r ⟨rfl,h⟩
 ·exact h.elim
theorem zb0{e:Expr}{es:List Expr}{t:TG}{u:TGs}(h1:PG X e t)(h2:PGs X es u)(hs:(assignEach (e :: es) X.env).map (·.2)=assign e X.env :: (assignEach es X.env).map (·.2):=by rfl):PGs X (e :: es) (zbz8 t u):=fun pins s σ H vs us Q I r h=>by
 unfold zbz8 at h
 split at h
 ·exact zbr4 h1 h2 hs pins s σ H _ us Q I r ⟨_,_,rfl,h⟩
 ·exact h.elim
end
section
variable {X:Cx}
def rAbsM:List V->Hp->VK->Prop:=fun xs H Q=>match xs with
 | [.int i]=>Q (.int (i.natAbs:Int)) H
 | _=>False
def rIntM:List V->Hp->VK->Prop:=fun xs H Q=>match xs with
 | [.int i]=>Q (.int i) H
 | [.bl k]=>Q (.int (if k=true then 1 else 0)) H
 | _=>False
theorem cInt:zl5 X (.type "int") rIntM:=fun pins s σ H xs us Q I r h=>by
 unfold rIntM at h
 split at h
 ·exact zap0 pins s σ H _ us Q I r (.inl ⟨_,rfl,h⟩)
 ·exact zap0 pins s σ H _ us Q I r (.inr ⟨_,rfl,h⟩)
 ·exact h.elim
@[irreducible] def zbd1(K:zcl5)(p:Addr)(H:Hp)(Q:VK):Prop:=∃ ys,(SqL K H p ys∨SqT K H p ys)/\Q (.int ys.length) H
def rLenM(K:zcl5):List V->Hp->VK->Prop:=fun xs H Q=>match xs with
 | [.ref p]=>zbd1 K p H Q
 | [.str z]=>z.length<=sizeLine/\Q (.int z.length) H
 | _=>False
theorem cLen:zl5 X (.builtin "len") (rLenM X.K):=fun pins s σ H xs us Q I r h=>by
 unfold rLenM at h
 split at h
 ·unfold zbd1 at h
  obtain⟨ys,h1,h2⟩:=h
  exact zap2 pins s σ H _ us Q I r ⟨_,ys,rfl,h1,h2⟩
 ·exact zao5 pins s σ H _ us Q I r ⟨_,rfl,h.1,h.2⟩
 ·exact h.elim
@[irreducible] def zv1(K:zcl5)(x c:V)(H:Hp)(Q:VK):Prop:=∃ t b,TyOf K H x t/\(∀ cv,RelV c cv->zcp8 K t cv=some b)/\Q (.bl b) H
def rIsiM(K:zcl5):List V->Hp->VK->Prop:=fun xs H Q=>match xs with
 | [x,c]=>zv1 K x c H Q
 | _=>False
theorem cIsi:zl5 X (.builtin "isinstance") (rIsiM X.K):=fun pins s σ H xs us Q I r h=>by
 unfold rIsiM at h
 split at h
 ·unfold zv1 at h
  obtain⟨t,b,h1,h2,h3⟩:=h
  obtain⟨u,w,rfl,r1,r2⟩:=vals2 r
  exact zbh0 I r1 h1 (h2 _ r2) fun tk=>⟨.bl b,H,I.tok _,rfl,h3⟩
 ·exact h.elim
section
variable {K:zcl5}{H:Hp}{Q:VK}{p:Addr}{xs:List V}
theorem zc9(h:H p=some (.lst xs))(q:Q (.int xs.length) H):zbd1 K p H Q:=by unfold zbd1;exact⟨xs,.inl (SqL.of h),q⟩
theorem zaj9(h:H p=some (.tup xs))(q:Q (.int xs.length) H):zbd1 K p H Q:=by unfold zbd1;exact⟨xs,.inr (SqT.of h),q⟩
theorem zac2{i:Int}{n:String}{b:Bool}(q:Q (.bl b) H)(e:zcp8 K (.type "int") (.type n)=some b:=by rfl):zv1 K (.int i) (.ty n) H Q:=by
 unfold zv1;exact⟨_,b,.int i,fun cv r=>by cases r;exact e,q⟩
theorem zaf8{i:Bool}{n:String}{b:Bool}(q:Q (.bl b) H)(e:zcp8 K (.type "bool") (.type n)=some b:=by rfl):zv1 K (.bl i) (.ty n) H Q:=by
 unfold zv1;exact⟨_,b,.bl i,fun cv r=>by cases r;exact e,q⟩
theorem zbl4{n:String}{b:Bool}(q:Q (.bl b) H)(e:zcp8 K (.type "NoneType") (.type n)=some b:=by rfl):zv1 K .non (.ty n) H Q:=by
 unfold zv1;exact⟨_,b,.non,fun cv r=>by cases r;exact e,q⟩
theorem zbj8{x:Str}{n:String}{b:Bool}(q:Q (.bl b) H)(e:zcp8 K (.type "str") (.type n)=some b:=by rfl):zv1 K (.str x) (.ty n) H Q:=by
 unfold zv1;exact⟨_,b,.str x,fun cv r=>by cases r;exact e,q⟩
theorem zbh1{n:String}{b:Bool}(h:H p=some (.tup xs))(q:Q (.bl b) H)(e:zcp8 K (.type "tuple") (.type n)=some b:=by rfl):zv1 K (.ref p) (.ty n) H Q:=by
 unfold zv1;exact⟨_,b,.tup h,fun cv r=>by cases r;exact e,q⟩
theorem zbi9{n:String}{b:Bool}(h:H p=some (.lst xs))(q:Q (.bl b) H)(e:zcp8 K (.type "list") (.type n)=some b:=by rfl):zv1 K (.ref p) (.ty n) H Q:=by
 unfold zv1;exact⟨_,b,.lst h,fun cv r=>by cases r;exact e,q⟩
end
theorem bt_min:bootBuiltins "min"=some (.builtin "min"):=by decide +kernel
theorem ze9:bootBuiltins "len"=some (.builtin "len"):=by decide +kernel
theorem zw5:bootBuiltins "sum"=some (.builtin "sum"):=by decide +kernel
theorem zx3:bootBuiltins "all"=some (.builtin "all"):=by decide +kernel
theorem zb3:bootBuiltins "isinstance"=some (.builtin "isinstance"):=by decide +kernel
theorem zab8:bootBuiltins "sorted"=some (.builtin "sorted"):=by decide +kernel
theorem zbn6:bootBuiltins "int"=some (.type "int"):=by decide +kernel
theorem zbm9:bootBuiltins "bool"=some (.type "bool"):=by decide +kernel
theorem zq5:bootBuiltins "list"=some (.type "list"):=by decide +kernel
theorem zx0:bootBuiltins "tuple"=some (.type "tuple"):=by decide +kernel
theorem pTy{x:Str}{n:String}{pos:Pos}(hm:X.mg x=none)(hv:bootBuiltins x=some (.type n))(hg:Gl X x:=by rfl)(hn:x≠"__name__":=by decide)(hd:(x==("__debug__":Str))=false:=by decide):PE X (.Name x pos) (tC (.ty n)):=
 zcf1 hg hm hv rfl hn hd
theorem pB{x:Str}{p pos:Pos}{e:Expr}{es:List Expr}{t:TA}{id:String}{r:List V->Hp->VK->Prop}(hc:zl5 X (.builtin id) r)(hm:X.mg x=none)(hv:bootBuiltins x=some (.builtin id))(ha:PA X (e :: es) t)(hg:Gl X x:=by rfl)(hn:x≠"__name__":=by decide)(hdb:(x==("__debug__":Str))=false:=by decide)(he:starEach (e :: es) X.env=(false,eval e X.env) :: starEach es X.env:=by rfl)(hpl:(backTo pos (starEach es X.env)).any (·.1)=false:=by rfl):PE X (.Call (.Name x p) (e :: es) [] pos) (tCB r t):=zbr0 hc hg hm hv ha hn hdb he hpl
theorem pT{x:Str}{p pos:Pos}{e:Expr}{es:List Expr}{t:TA}{id:String}{r:List V->Hp->VK->Prop}(hc:zl5 X (.type id) r)(hm:X.mg x=none)(hv:bootBuiltins x=some (.type id))(ha:PA X (e :: es) t)(hg:Gl X x:=by rfl)(hn:x≠"__name__":=by decide)(hdb:(x==("__debug__":Str))=false:=by decide)(he:starEach (e :: es) X.env=(false,eval e X.env) :: starEach es X.env:=by rfl)(hpl:(backTo pos (starEach es X.env)).any (·.1)=false:=by rfl):PE X (.Call (.Name x p) (e :: es) [] pos) (tCB r t):=zbo8 hc hg hm hv ha hn hdb he hpl
structure Def(P:Program)(w:World)(K:zcl5)(mg:Str->Option Value)(base:Heap)(CX:CXT)(k:Nat)(x:Str)(ps:List Str)(sp:Sp):Prop where
 ex:∃ (f:Addr) (fd:FuncData),FnOk P w K mg base CX k f fd ps sp/\mg x=some (.ref f)/\zcu4 K (.ref f)=true/\zan8 K fd ps []
def qCall(sp:Sp)(E:XK)(t:TA):TE:=fun σ H Q=>t σ H fun vs H1=>sp vs H1 Q E
theorem pD{CX:CXT}{k j:Nat}{x:Str}{ps:List Str}{sp:Sp}{E:XK}{p pos:Pos}{e:Expr}{es:List Expr}{t:TA}(F:Def X.prog X.w X.K X.mg X.base CX k x ps sp)(hr:Room j X.A)(hx:zai5 CX X E)(ha:PA X (e :: es) t)(hk:k<=j:=by decide)(hg:Gl X x:=by rfl)(hdb:(x==("__debug__":Str))=false:=by decide)(he:starEach (e :: es) X.env=(false,eval e X.env) :: starEach es X.env:=by rfl)(hpl:(backTo pos (starEach es X.env)).any (·.1)=false:=by rfl) :
  PE X (.Call (.Name x p) (e :: es) [] pos) (qCall sp E t):=by
 obtain⟨f,fd,F1,F2,F3,F4⟩:=F.ex
 intro pins s σ H Q I h
 refine zcf8 F1 (hr.mono hk) hg F2 F3 F4 .nil hx ha hdb he hpl pins s σ H Q I ?_
 unfold tCall
 simp only[zcr6]
 exact h
theorem psS{i:Nat}{x:Str}{e:Expr}{te:TE}{pos' pos:Pos}(hN:X.N.Nodup)(he:PE X e te)(hi:X.N[i]?=some x:=by rfl)(hx:Loc X.env.scope x:=by first|exact Or.inl rfl|exact Or.inr rfl)(hs:swapsWith e (some (.Name x pos')) pos.line X.env=pure false:=by rfl)(hf:X.fn x=true∨X.env.scope.names.lookup x=some .local:=by first|exact .inl rfl|exact .inr rfl|assumption) :
  PS X (.Assign [.Name x pos'] e pos) (tAsg te (gName i)):=ps_set hN hi hx he hs hf
section
variable {K:zcl5}{H:Hp}{Q:VK}{p:Addr}{xs:List V}{i j:Int}
theorem zv3(h1:-18446744073709551616<i)(h2:i<18446744073709551616)(q:Q (.int (i*j)) H):zbf4 i j H Q:=zbx4 (.of_left (intBits_le_64 (by simpa using h1) (by simpa using h2))) q
theorem zcc9(h1:-18446744073709551616<j)(h2:j<18446744073709551616)(q:Q (.int (i*j)) H):zbf4 i j H Q:=zbx4 (.of_right (intBits_le_64 (by simpa using h1) (by simpa using h2))) q
theorem zac8(h:0<j)(q:∀ r:Int,0<=r->r<j->Q (.int r) H):zbm0 i j H Q:=mod_rd h (q _ (Int.emod_nonneg _ (by omega)) (Int.emod_lt_of_pos _ h))
theorem zam4(h:H p=some (.lst xs))(h0:0<=i)(h1:i<xs.length)(q:∀ v,v∈xs->Q v H):rIxA K p i H Q:=by
 have hl:i.toNat<xs.length:=by omega
 refine zb8 h (v:=xs[i.toNat]) ?_ (q _ (zcv3 hl))
 have e:((i.toNat:Nat):Int)=i:=by omega
 have z:=zh4 (zcl0 hl)
 rw[e] at z
 exact z
theorem hu40{A:Around}{k:Nat}(hr:Room k A):A.units+40<cLine:=by have:=hr.units;omega
end
end
set_option maxHeartbeats 2000000
theorem zy4{env:Env}:∀ (names:List (Str×NameKind)) (acc:List (Str×Addr)),(∀ x∈names,x.2=.free->∃ c,env.cells.lookup x.1=some c) ->
  ∃ acc',(forIn (m:=Sem) names acc (fun (x:Str×NameKind) (r:List (Str×Addr))=>if (x.2==.free)=true then (do let c ← cellOf env x.1;pure (ForInStep.yield ((x.1,c) :: r))) else pure (ForInStep.yield r)))=pure acc' /\
   (∀ x c,acc'.lookup x=some c->acc.lookup x=some c∨env.cells.lookup x=some c)/\(∀ x c,acc.lookup x=some c->∃ c',acc'.lookup x=some c')/\∀ x∈names,x.2=.free->∃ c,acc'.lookup x.1=some c
 | [],acc,_=>⟨acc,rfl,fun _ _ h=>.inl h,fun _ c h=>⟨c,h⟩,fun _ h=>by cases h⟩
 | (n,k) :: r,acc,h=>by
  by_cases hk:k=.free
  ·subst hk
   obtain⟨c,hc⟩:=h (n,.free) zcq2 rfl
   obtain⟨acc',e,h1,h2,h3⟩:=zy4 r ((n,c) :: acc) fun x hx=>h x (zcp7 _ hx)
   have hco:cellOf env n=pure c:=by unfold cellOf;rw[hc]
   refine⟨acc',?_,fun x d hd=>?_,fun x d hd=>?_,fun x hx hf=>?_⟩
   ·rw[List.forIn_cons]
    simp only[hco]
    exact e
   ·rcases h1 x d hd with q|q
    ·rw[zco3] at q
     split at q
     ·rename_i hx
      have hx:x=n:=by simpa using hx
      subst hx
      cases q
      exact .inr hc
     ·exact .inl q
    ·exact .inr q
   ·by_cases hx:x=n
    ·subst hx
     exact h2 x c (by simp[zco3])
    ·refine h2 x d ?_
     rw[zco3]
     have:(x==n)=false:=by simpa using hx
     rw[this];exact hd
   ·rcases zcm1.mp hx with rfl|hx
    ·exact h2 n c (by simp[zco3])
    ·exact h3 x hx hf
  ·obtain⟨acc',e,h1,h2,h3⟩:=zy4 r acc fun x hx=>h x (zcp7 _ hx)
   refine⟨acc',?_,h1,h2,fun x hx hf=>?_⟩
   ·rw[List.forIn_cons]
    have:(k==NameKind.free)=false:=by simpa using hk
    simp only[this]
    exact e
   ·rcases zcm1.mp hx with rfl|hx
    ·exact absurd hf hk
    ·exact h3 x hx hf
theorem zz1{scope:Scope}{env:Env}(h:∀ x∈scope.names,x.2=.free->∃ c,env.cells.lookup x.1=some c) :
  ∃ cl,closureFor scope env=pure cl/\(∀ x c,cl.lookup x=some c->env.cells.lookup x=some c)/\∀ x∈scope.names,x.2=.free->∃ c,cl.lookup x.1=some c:=by
 obtain⟨cl,e,h1,_,h3⟩:=zy4 (env:=env) scope.names [] h
 refine⟨cl,?_,fun x c hc=>(h1 x c hc).elim (fun q=>by cases q) id,h3⟩
 unfold closureFor
 show (forIn (m:=Sem) scope.names ([]:List (Str×Addr)) _ >>= fun r=>pure r)=_
 rw[e]
 rfl
theorem zr7{env:Env}:∀ {names:List (Str×NameKind)}{x:Str},names.lookup x=some .free ->
  (names.map fun (n,k)=>if (k==NameKind.free&&env.scope.kind==.function&&env.kindOf n==some .cell) then (n,NameKind.cell) else (n,k)).lookup x=some .cell ∨
  (names.map fun (n,k)=>if (k==NameKind.free&&env.scope.kind==.function&&env.kindOf n==some .cell) then (n,NameKind.cell) else (n,k)).lookup x=some .free
 | [],_,h=>by simp at h
 | (n,k) :: r,x,h=>by
  have ih:=@zr7 env r x
  show List.lookup x ((if (k==NameKind.free&&env.scope.kind==.function&&env.kindOf n==some .cell)=true then (n,NameKind.cell) else (n,k)) :: _)=_∨List.lookup x ((if (k==NameKind.free&&env.scope.kind==.function&&env.kindOf n==some .cell)=true then (n,NameKind.cell) else (n,k)) :: _)=_
  cases hx:x==n with
  | true=>
   simp only[zco3,hx] at h
   cases h
   by_cases hc:(NameKind.free==NameKind.free&&env.scope.kind==.function&&env.kindOf n==some .cell)=true
   ·left;rw[if_pos hc];simp only[zco3,hx]
   ·right;rw[if_neg hc];simp only[zco3,hx]
  | false=>
   simp only[zco3,hx] at h
   by_cases hc:(k==NameKind.free&&env.scope.kind==.function&&env.kindOf n==some .cell)=true
   ·rw[if_pos hc];simp only[zco3,hx];exact ih h
   ·rw[if_neg hc];simp only[zco3,hx];exact ih h
theorem zs5{env:Env}:∀ {names:List (Str×NameKind)}{x:Str}{k':NameKind},(∀ y∈names,y.2≠.cell)->(k'=.cell∨k'=.free) ->
  (names.map fun (n,k)=>if (k==NameKind.free&&env.scope.kind==.function&&env.kindOf n==some .cell) then (n,NameKind.cell) else (n,k)).lookup x=some k'->∃ y∈names,y.1=x/\y.2=.free
 | [],_,_,_,_,h=>by simp at h
 | (n,k) :: r,x,k',hn,hk,h=>by
  have ih:=@zs5 env r x k' (fun y hy=>hn y (zcp7 _ hy)) hk
  replace h:List.lookup x ((if (k==NameKind.free&&env.scope.kind==.function&&env.kindOf n==some .cell)=true then (n,NameKind.cell) else (n,k)) :: List.map (fun (n,k)=>if (k==NameKind.free&&env.scope.kind==.function&&env.kindOf n==some .cell) then (n,NameKind.cell) else (n,k)) r)=some k':=h
  cases hx:x==n with
  | true=>
   have hx':x=n:=by simpa using hx
   by_cases hf:k=.free
   ·exact⟨(n,k),zcq2,hx'.symm,hf⟩
   ·have hc:¬ (k==NameKind.free&&env.scope.kind==.function&&env.kindOf n==some .cell)=true:=by
     have:(k==NameKind.free)=false:=by simpa using hf
     rw[this];simp
    rw[if_neg hc] at h
    simp only[zco3,hx] at h
    have:k=k':=Option.some.inj h
    subst this
    rcases hk with hk|hk
    ·exact absurd hk (hn (n,k) zcq2)
    ·exact absurd hk hf
  | false=>
   have h':List.lookup x (List.map (fun (n,k)=>if (k==NameKind.free&&env.scope.kind==.function&&env.kindOf n==some .cell) then (n,NameKind.cell) else (n,k)) r)=some k':=by
    by_cases hc:(k==NameKind.free&&env.scope.kind==.function&&env.kindOf n==some .cell)=true
    ·rw[if_pos hc] at h;simp only[zco3,hx] at h;exact h
    ·rw[if_neg hc] at h;simp only[zco3,hx] at h;exact h
   obtain⟨y,hy,h1,h2⟩:=ih h'
   exact⟨y,zcp7 _ hy,h1,h2⟩
def blk(X:Cx)(N:List Str)(scope:Scope)(cl:List (Str×Addr))(C:Addr)(s3:Shared)(H3:Hp)(fp:List Addr):Cx:=
 { X with N:=N,s₀:=s3,H₀:=H3,env:=compEnvC scope cl C X.env,outer:=X.stack,ex:=fp,fn:=fun _=>false,pn:=[],xe:=fun _ _=>False }
def PTs(X:Cx)(ifs:List Expr)(t:TT):Prop:=
 ∀ (pins:List (Addr×Obj)) (s:Shared) (σ:St) (H:Hp) (Q:Bool->Hp->Prop),Inv X pins σ H s->t σ H Q ->
  wpAny (model X.prog X.w) X.A (forIn ifs true fun c r=>if r=true then do let ok ← isTrue c X.env (eval c X.env);pure (ForInStep.yield ok) else pure (ForInStep.yield r)) (TP X pins σ Q) X.xe s
theorem zb7{X:Cx}:PTs X [] (fun _ H Q=>Q true H):=fun _ _ _ H _ I h=>wpAny_tests_nil ⟨H,I,h⟩
theorem zca3{X:Cx}{c:Expr}{t:TT}(h:PT X c t):PTs X [c] t:=fun pins s σ H Q I hq=>wpAny_tests_one (h pins s σ H Q I hq)
@[irreducible] def cPut(W:Nat->Nat->List V->St->Hp->Prop)(acc:Addr)(ys:List V)(i m:Nat)(σ2:St)(v:V)(H5:Hp):Prop:=
 H5 acc=some (.lst ys)/\∀ H6,Chg acc H5 H6->H6 acc=some (.lst (ys++[v]))->∃ m',m'<m/\W (i+1) m' (ys++[v]) σ2 H6
@[irreducible] def zar8(W:Nat->Nat->List V->St->Hp->Prop)(ys:List V)(i m:Nat)(σ2:St)(H4:Hp):Prop:=∃ m',m'<m/\W (i+1) m' ys σ2 H4
@[irreducible] noncomputable def zac3(J:It)(g:TG)(tt:TT)(te:TE)(σ0:St)(H1:Hp)(Q:VK):Prop:=
 ∀ acc H2,H1 acc=none->Same H1 H2->H2 acc=some (.lst [])->∃ W:Nat->Nat->List V->St->Hp->Prop,(∃ m,W 0 m [] σ0 H2)/\∀ i m ys σ H,W i m ys σ H->H acc=some (.lst ys)/\ys.length<sizeLine /\
  ((J.stop i H/\Q (.ref acc) H)∨(J.go i H/\∀ x H',J.yld i H x H'->g x σ H' fun σ2 H3=>tt σ2 H3 fun b H4=>
   br b (te σ2 H4 fun v H5=>cPut W acc ys i m σ2 v H5) (zar8 W ys i m σ2 H4)))
section
variable {X:Cx}{pins:List (Addr×Obj)}{σ:St}{H:Hp}{s2:Shared}
theorem zca6{N:List Str}{scope:Scope}{cl:List (Str×Addr)}{C:Addr}{s3 s4:Shared}{H3:Hp}{fp:List Addr}{σc:St}(I:Inv X pins σ H3 s3)(hcl1:∀ x c,cl.lookup x=some c->X.env.cells.lookup x=some c)(hcl2:∀ x∈scope.names,x.2=.free->∃ c,cl.lookup x.1=some c)(hkind:scope.kind=.function)(hcell:∀ y∈scope.names,y.2≠.cell)(hcap:∀ (i:Nat) (x:Str) (v:V),N[i]?=some x->σc[i]?=some (some v)->∃ j:Nat,X.N[j]?=some x/\σ[j]?=some (some v)/\scope.names.lookup x=some .free/\(X.env.kindOf x=some .cell∨X.env.kindOf x=some .free))(hlen:σc.length=N.length)(hC:s3.heap.objs.size=C)(hfp:∀ b∈fp,FpOk X pins H3 b)(hfpl:∀ b∈fp,b<C)(hex:∀ b o,X.base.get? b=some o->b ∉ fp)(hns:∃ m,s4.heap.Ns C m)(hk:∀ b o,s3.heap.get? b=some o->s4.heap.get? b=some o)(h4:s4.os=s3.os)(h5:s4.gens=s3.gens) :
  Inv (blk X N scope cl C s3 H3 fp) [] σc H3 s4:=by
 subst hC
 have look:∀ x,(blk X N scope cl s3.heap.objs.size s3 H3 fp).env.kindOf x=(relabel scope X.env).names.lookup x:=fun x=>rfl
 have cne:∀ x c,cl.lookup x=some c->c<s3.heap.objs.size:=fun x c h=>by
  obtain⟨v,o,ho,_⟩:=I.cell x c (hcl1 x c h)
  exact zcm5 ho
 refine⟨⟨I.ok.mod,?_,I.ok.glob,I.ok.blt,zcm3 _,fun x y c h1 h2=>I.ok.inj x y c (hcl1 _ _ h1) (hcl1 _ _ h2),fun x hx=>?_,fun x c h=>?_,I.ok.hd,I.ok.frames,.inl rfl,fun b hb=>⟨zco6 (hfpl b hb),fun x c h=>?_⟩,fun b o e=>I.bs b o e,zcp4 I.ok.bsz I.sz,fun b o e=>hex b o e,fun b hb=>?_,I.stack,I.stkFree⟩,
  h4,by rw[h5];exact I.bare,Un.kept hk,?_,fun x c h=>?_,I.hok.fresh (zcm3 _),fun x c h=>I.freeC x c (hcl1 _ _ h),fun p hp=>(by cases hp),I.hok.kept hk,hlen⟩
 ·exact hkind
 ·have hx':(relabel scope X.env).names.lookup x=some .cell∨(relabel scope X.env).names.lookup x=some .free:=hx
  have hz:∃ y∈scope.names,y.1=x/\y.2=.free:=by
   rcases hx' with q|q
   ·exact zs5 hcell (.inl rfl) q
   ·exact zs5 hcell (.inr rfl) q
  obtain⟨y,hy,rfl,hf⟩:=hz
  exact hcl2 y hy hf
 ·exact absurd (show false=true from h) zcm2
 ·exact (hfp b hb).2.2.2.2.1 x c (hcl1 x c h)
 ·have:=(hfp b hb).1
  intro hz
  obtain⟨f0,f1,f2,_⟩:=hfp b hb
  have hz:b∈frs X.stack:=hz
  rcases zcm1.mp (I.stkSub b hz) with q|q
  ·exact f1 q
  ·exact f2 q
 ·obtain⟨m,hm⟩:=hns
  refine⟨m,hm,fun i x v h1 h2 h3=>?_⟩
  obtain⟨j,e1,e2,e3,e4⟩:=hcap i x v h1 h2
  obtain⟨mX,_,hl⟩:=I.loc
  obtain⟨u,r,q⟩:=hl j x v e1 e2 (by rcases e4 with e4|e4;exact .inr (.inl e4);exact .inr (.inr e4))
  refine⟨u,r,.inr ⟨zr7 e3,?_⟩⟩
  obtain⟨c,hc⟩:=hcl2 (x,.free) (PySem.mem_of_lookup e3) rfl
  refine⟨c,hc,?_⟩
  have hc':=hcl1 x c hc
  rcases q with ⟨k,_⟩|⟨_,c2,e5,o,ho,hd⟩
  ·rcases e4 with e4|e4<;>rw[e4] at k<;>cases k
  ·rw[hc'] at e5
   cases e5
   exact⟨o,hk _ _ ho,hd⟩
 ·obtain⟨v,o,ho,hd⟩:=I.cell x c (hcl1 x c h)
  exact⟨v,o,hk _ _ ho,hd⟩
theorem zar4{prog:Program}{w:World}{A:Around}{R:Result->Shared->Prop}{s:Shared}{elt target iter:Expr}{ifs:List Expr}{scope:Scope}{pos:Pos}{it acc:Value}{env:Env}(I:Nat->Shared->Prop)(turn:∀ n s,I n s->wpAny (model prog w) A (pyNext it) (fun r s₁=>match r with
   | none=>R (.ok .next) s₁
   | some v=>wpAny (model prog w) A (letOwnedTupleGo target it v) (fun _ s₁'=>wpAny (model prog w) A (assign target env v) (fun _ s₂=>
     wpAny (model prog w) A (forIn ifs true fun c r=>if r=true then do let ok ← isTrue c env (eval c env);pure (ForInStep.yield ok) else pure (ForInStep.yield r)) (fun ok s₃=>
      if ok=true then wpAny (model prog w) A (eval elt env) (fun x s₄=>
       wpAny (model prog w) A (call (.builtin "list.append") [acc,x]) (fun _ s₅=>∃ m,m<n/\I m s₅) (fun _ _=>False) s₄) (fun _ _=>False) s₃
      else ∃ m,m<n/\I m s₃) (fun _ _=>False) s₂) (fun _ _=>False) s₁') (fun _ _=>False) s₁) (fun _ _=>False) s)(n:Nat)(h:I n s):codeAny (model prog w) A (.compLoop (.ListComp elt [⟨target,iter,ifs,0⟩] scope pos) 0 it acc env) R s:=by
 refine codeAny_loop rfl I (fun n s hI=>?_) n h
 show wpAny _ A ((compTurn (.ListComp elt [⟨target,iter,ifs,0⟩] scope pos) 0 it acc env).onRaise (fun x=>do noteFrame x env;theTreesLotGoes x)) _ _ s
 refine wpAny_noted ?_
 rw[compTurn_list]
 refine zcx4 (wpAny_standAt (zcx4 (wpAny_mono (turn n s hI) (fun r s₁ h₁=>?_) fun _ _ h'=>h'.elim)))
 cases r with
 | none=>exact zcx5 h₁
 | some v=>
  refine zcx4 (wpAny_mono h₁ (fun _ s₁' h₁'=>?_) fun _ _ h'=>h'.elim)
  refine zcx4 (wpAny_mono h₁' (fun _ s₂ h₂=>zcx4 (wpAny_mono h₂ (fun ok s₃ h₃=>?_) fun _ _ h'=>h'.elim)) fun _ _ h'=>h'.elim)
  cases ok with
  | false=>exact zcx5 ⟨rfl,h₃⟩
  | true=>
   exact zcx4 (zcx4 (wpAny_mono h₃ (fun x s₄ h₄=>zcx4 (wpAny_mono h₄ (fun _ s₅ h₅=>zcx5 (zcx5 ⟨rfl,h₅⟩)) fun _ _ h'=>h'.elim)) fun _ _ h'=>h'.elim))
theorem zaq4{E:Value->Shared->Prop}{elt tg iter:Expr}{ifs:List Expr}{scope:Scope}{pos:Pos}{cl:List (Str×Addr)}{N:List Str}{σc:St}{J:It}{fp:List Addr}{it:Addr}{tn:Nat->Heap->Prop}{g:TG}{tt:TT}{te:TE}{Q:VK}{RR:Value->Addr->Result->Shared->Prop}(hcl1:∀ x c,cl.lookup x=some c->X.env.cells.lookup x=some c)(hcl2:∀ x∈scope.names,x.2=.free->∃ c,cl.lookup x.1=some c)(hkind:scope.kind=.function)(hcell:∀ y∈scope.names,y.2≠.cell)(hcap:∀ (i:Nat) (x:Str) (v:V),N[i]?=some x->σc[i]?=some (some v)->∃ j:Nat,X.N[j]?=some x/\σ[j]?=some (some v)/\scope.names.lookup x=some .free/\(X.env.kindOf x=some .cell∨X.env.kindOf x=some .free))(hlen:σc.length=N.length)(hc:X.calm=true)(I:Inv X pins σ H s2)(T:Turn X.prog X.w X.K tg J fp it tn)(st:tn 0 s2.heap)(fpok:∀ b∈fp,FpOk X pins H b)(hg:∀ C s3 H3 fp,PG (blk X N scope cl C s3 H3 fp) tg g)(ht:∀ C s3 H3 fp,PTs (blk X N scope cl C s3 H3 fp) ifs tt)(he:∀ C s3 H3 fp,PE (blk X N scope cl C s3 H3 fp) elt te)(h:zac3 J g tt te σc H Q)(hRR:∀ (acc C:Addr) (H':Hp) (s':Shared),Inv X pins σ H' s'->FpOk X pins H' C->(∃ m,s'.heap.Ns C m)->Q (.ref acc) H'->RR (.ref acc) C (.ok .next) s') :
  wpAny (model X.prog X.w) X.A (newList []) (fun acc s₃=>wpAny (model X.prog X.w) X.A (newFunctionEnv scope X.env.globals cl [] X.env.qual none .none (some X.env)) (fun cenv s₄=>
   codeAny (model X.prog X.w) X.A (.compStart (.ListComp elt [⟨tg,iter,ifs,0⟩] scope pos) 0 (.ref it) acc { cenv with scope:=relabel scope X.env }) (RR acc cenv.locals) s₄) E s₃) E s2:=by
 refine wpAny_newObj_type (wpAny_newFunctionEnv hcell (by intro y hy;simp at hy) (fun h₁ hns₁ hsb₁=>?_) hkind)
 dsimp only at hns₁ hsb₁ ⊢
 have hf:H s2.heap.objs.size=none:=I.fresh
 have I3:Inv X pins σ (upd H s2.heap.objs.size (.lst [])) { s2 with heap:=s2.heap.push { cls:=.type "list",data:=.seq ([]:List Value).toArray } }:=I.lnew (t':=s2.toks) (its:=[]) .nil (zcp2 _)
 generalize hs3:({ s2 with heap:=s2.heap.push { cls:=.type "list",data:=.seq ([]:List Value).toArray } }:Shared)=s3 at I3
 have hH:s2.heap.push { cls:=.type "list",dict:=none,data:=.seq ([]:List Value).toArray }=s3.heap:=by rw[← hs3]
 rw[hH] at hns₁ hsb₁ ⊢
 have hsz:s3.heap.objs.size=s2.heap.objs.size+1:=by rw[← hH,Heap.size_push]
 have old23:∀ b o,s2.heap.get? b=some o->s3.heap.get? b=some o:=fun b o e=>by rw[← hH];exact zcl7 _ e
 have fplt:∀ b∈fp,b<s2.heap.objs.size:=fun b hb=>by
  obtain⟨o,e,_⟩:=T.obj 0 _ st b hb
  exact zcm5 e
 have fp3:∀ b∈fp,FpOk X pins (upd H s2.heap.objs.size (.lst [])) b:=fun b hb=>by
  obtain⟨f0,f1⟩:=fpok b hb
  refine⟨?_,f1⟩
  rw[zc3 (zco6 (fplt b hb))]
  exact f0
 have old34:∀ b o,s3.heap.get? b=some o->h₁.get? b=some o:=fun b o e=>hsb₁.extBut b o (zco6 (zcm5 e)) (zcl7 _ e)
 have nob:∀ b o,X.base.get? b=some o->b ∉ fp:=fun b o e hb=>by
  obtain⟨_,_,_,f3,_,_⟩:=fpok b hb
  rcases f3 with f3|f3
  ·exact I.ok.noex b o e f3
  ·exact absurd (zcn8 (zcm5 e) I.ok.bsz) (Nat.not_lt.mpr f3)
 have hs4e:({ s2 with heap:=h₁,toks:=s2.toks+([]:List (Str×Value)).length }:Shared).os=s3.os:=by rw[← hs3]
 have hs4g:({ s2 with heap:=h₁,toks:=s2.toks+([]:List (Str×Value)).length }:Shared).gens=s3.gens:=by rw[← hs3]
 have I4:Inv (blk X N scope cl s3.heap.objs.size s3 (upd H s2.heap.objs.size (.lst [])) fp) [] σc (upd H s2.heap.objs.size (.lst [])) { s2 with heap:=h₁,toks:=s2.toks+([]:List (Str×Value)).length }:=
  zca6 (s4:={ s2 with heap:=h₁,toks:=s2.toks+([]:List (Str×Value)).length }) I3 hcl1 hcl2 hkind hcell hcap hlen rfl fp3 (fun b hb=>zcn8 (fplt b hb) (by rw[hsz];exact zcv9 _)) nob ⟨_,hns₁⟩ old34 hs4e hs4g
 have st4:tn 0 h₁:=T.keep _ _ _ st fun b hb o e=>old34 b o (old23 b o e)
 unfold zac3 at h
 obtain⟨W,⟨m0,w0⟩,turn⟩:=h s2.heap.objs.size _ hf (Same.upd hf) zb4
 have loop:codeAny (model X.prog X.w) X.A (.compLoop (.ListComp elt [⟨tg,iter,ifs,0⟩] scope pos) 0 (.ref it) (.ref s2.heap.objs.size) (blk X N scope cl s3.heap.objs.size s3 (upd H s2.heap.objs.size (.lst [])) fp).env)
   (RR (.ref s2.heap.objs.size) s3.heap.objs.size) { s2 with heap:=h₁,toks:=s2.toks+([]:List (Str×Value)).length }:=by
  refine zar4 (fun n s'=>∃ i ys σ' H',Inv (blk X N scope cl s3.heap.objs.size s3 (upd H s2.heap.objs.size (.lst [])) fp) [] σ' H' s'/\tn i s'.heap/\(∀ b∈fp,H' b=none)/\W i n ys σ' H') ?_ m0 ⟨0,[],σc,_,I4,st4,fun b hb=>(fp3 b hb).1,w0⟩
  rintro n s5 ⟨i,ys,σ5,H5,I5,st5,fr5,w5⟩
  obtain⟨hacc,hl5,hcase⟩:=turn i n ys σ5 H5 w5
  have stat:∀ {H':Hp},(∀ b∈fp,H' b=none)->∀ b∈fp,FpOk (blk X N scope cl s3.heap.objs.size s3 (upd H s2.heap.objs.size (.lst [])) fp) [] H' b:=fun hn b hb=>by
   obtain⟨_,f1,f2,f3,f4,_⟩:=fpok b hb
   refine⟨hn b hb,zco6 (zcn8 (fplt b hb) (by rw[hsz];exact zcv9 _)),fun hz=>?_,.inl hb,fun x c hx=>f4 x c (hcl1 x c hx),fun p hp=>by cases hp⟩
   rcases zcm1.mp (I.stkSub b hz) with q|q
   ·exact f1 q
   ·exact f2 q
  rcases hcase with ⟨stop,hq⟩|⟨go,step⟩
  ·refine thn (T.done (blk X N scope cl s3.heap.objs.size s3 (upd H s2.heap.objs.size (.lst [])) fp) rfl rfl rfl hc i [] s5 σ5 H5 (fun _ _=>False) I5 (stat fr5) st5 stop) fun r s6 ⟨hr,I6⟩=>?_
   subst hr
   have u1:Un (frs X.stack) fp H (upd H s2.heap.objs.size (.lst [])) s2.heap s3.heap:=Un.laid old23 (zcm3 _) hf
   have u2:Un (frs X.stack) fp (upd H s2.heap.objs.size (.lst [])) H5 s3.heap s6.heap:=I6.base
   have hC:H5 s3.heap.objs.size=none:=I6.free
   obtain⟨m6,hm6,_⟩:=I6.loc
   have hos:s6.os=s2.os:=by rw[I6.os];show s3.os=s2.os;rw[← hs3]
   have hok6:=I6.hok
   have bare6:=I6.bare
   obtain⟨hh,gg,dd,tt',os'⟩:=s6
   obtain rfl:os'=s2.os:=hos
   exact hRR _ _ H5 _ (I.call (h':=hh) (g':=gg) (d':=dd) (t':=tt') (ch:=fp) (u1.trans u2) hok6 bare6 fun b hb=>⟨(fpok b hb).2.2.2.1,(fpok b hb).2.1,(fpok b hb).2.2.2.2.1,(fpok b hb).2.2.2.2.2⟩)
    (I.fpOk (by rw[hsz];exact zcv9 _) hC) ⟨m6,hm6⟩ hq
  ·refine thn (T.item (blk X N scope cl s3.heap.objs.size s3 (upd H s2.heap.objs.size (.lst [])) fp) rfl rfl rfl hc i [] s5 σ5 H5 (fun _ _=>False) I5 (stat fr5) st5 go) fun r s6 ⟨u,hr,h6⟩=>?_
   subst hr
   refine thn h6 fun _ s7 ⟨x,H7,I7,r7,y7,st7,fr7⟩=>?_
   have I7':=I7.pinned (stat fr7) (T.obj _ _ st7)
   refine thn (hg _ _ _ _ _ s7 σ5 H7 x u _ I7' r7 (step x H7 y7)) fun _ s8 ⟨σ8,H8,I8,q8⟩=>?_
   refine thn (ht _ _ _ _ _ s8 σ8 H8 _ I8 q8) fun ok s9 ⟨H9,I9,q9⟩=>?_
   have again:∀ {s10:Shared}{σ10:St}{H10:Hp}{zs:List V},Inv (blk X N scope cl s3.heap.objs.size s3 (upd H s2.heap.objs.size (.lst [])) fp) ([]++zah4 fp s7.heap) σ10 H10 s10->(∃ m',m'<n/\W (i+1) m' zs σ10 H10) ->
     ∃ m,m<n/\∃ i ys σ' H',Inv (blk X N scope cl s3.heap.objs.size s3 (upd H s2.heap.objs.size (.lst [])) fp) [] σ' H' s10/\tn i s10.heap/\(∀ b∈fp,H' b=none)/\W i m ys σ' H':=fun {s10 σ10 H10 zs} I10 ⟨m',hm,w10⟩=>by
    refine⟨m',hm,i+1,zs,σ10,H10,I10.unpinned,T.keep _ _ _ st7 fun b hb o e=>(I10.pin (b,o) (zco1 _ (zco1 _ (zm2 hb e)))).1,fun b hb=>?_,w10⟩
    obtain⟨o,e,d⟩:=T.obj _ _ st7 b hb
    exact (I10.pin (b,o) (zco1 _ (zco1 _ (zm2 hb e)))).2.1
   dsimp only at q9
   rw[zah1] at q9
   cases ok with
   | false=>
    have q9:∃ m',m'<n/\W (i+1) m' ys σ8 H9:=by rw[if_neg zcm2] at q9;unfold zar8 at q9;exact q9
    exact again I9 q9
   | true=>
    have q9:=(if_pos rfl▸q9:te σ8 H9 _)
    refine thn (he _ _ _ _ _ s9 σ8 H9 _ I9 q9) fun v s10 ⟨y,H10,I10,r10,q10⟩=>?_
    unfold cPut at q10
    obtain⟨e10,q10⟩:=q10
    refine thn (zac4 _ s10 σ8 H10 (.ref s2.heap.objs.size) [y] (.ref s2.heap.objs.size) [v] (fun _ H11=>∃ m',m'<n/\W (i+1) m' (ys++[y]) σ8 H11) I10 rfl (.cons r10 .nil) ⟨_,ys,y,rfl,rfl,e10,hl5,q10 _ Chg.upd zb4⟩) fun _ s11 ⟨z,H11,I11,_,q11⟩=>?_
    exact again I11 q11
 exact codeAny_compStart_list loop (T.self _ 0 _ _ _ st4 loop)
def capS(ks:List (Option Nat))(σ:St):St:=ks.map fun k=>match k with
 | none=>none
 | some j=>(σ[j]?).join
inductive zab5(X:Cx)(scope:Scope):List Str->List (Option Nat)->Prop where
 | nil:zab5 X scope [] []
 | skip {x:Str}{N:List Str}{ks:List (Option Nat)}(t:zab5 X scope N ks):zab5 X scope (x :: N) (none :: ks)
 | take {x:Str}{N:List Str}{ks:List (Option Nat)}{j:Nat}(h1:X.N[j]?=some x) (h2:scope.names.lookup x=some .free) (h3:X.env.kindOf x=some .cell∨X.env.kindOf x=some .free) (t:zab5 X scope N ks):zab5 X scope (x :: N) (some j :: ks)
theorem zab5.cap{scope:Scope}{N:List Str}{ks:List (Option Nat)}(h:zab5 X scope N ks)(σ:St):∀ (i:Nat) (x:Str) (v:V),N[i]?=some x->(capS ks σ)[i]?=some (some v)->∃ j:Nat,X.N[j]?=some x/\σ[j]?=some (some v)/\scope.names.lookup x=some .free/\(X.env.kindOf x=some .cell∨X.env.kindOf x=some .free):=by
 induction h with
 | nil=>intro i x v h;simp at h
 | skip t ih=>
  intro i x v h1 h2
  cases i with
  | zero=>simp[capS] at h2
  | succ i=>exact ih i x v (by simpa using h1) (by simpa [capS] using h2)
 | take a b c t ih=>
  intro i x v h1 h2
  cases i with
  | zero=>
   simp only[List.getElem?_cons_zero,Option.some.injEq] at h1
   subst h1
   refine⟨_,a,?_,b,c⟩
   simpa [capS,Option.join_eq_some_iff] using h2
  | succ i=>exact ih i x v (by simpa using h1) (by simpa [capS] using h2)
theorem zab5.len{scope:Scope}{N:List Str}{ks:List (Option Nat)}(h:zab5 X scope N ks)(σ:St):(capS ks σ).length=N.length:=by
 have:ks.length=N.length:=by
  induction h with
  | nil=>rfl
  | skip t ih=>simp[ih]
  | take a b c t ih=>simp[ih]
 simp[capS,this]
def qComp(ks:List (Option Nat))(wi:TI)(g:TG)(tt:TT)(te:TE):TE:=fun σ H Q=>wi σ H fun J H1=>zac3 J g tt te (capS ks σ) H1 Q
def freeB(scope:Scope)(f:Str->Option NameKind):Bool:=scope.names.all fun x=>x.2 != .free || (f x.1==some .cell || f x.1==some .free)
def zay4(scope:Scope):Bool:=scope.names.all (fun x=>x.2 != .cell)&&scope.names.all fun x=>x.2 != .local || scope.names.lookup x.1==some .local
theorem zak7{scope:Scope}{f:Str->Option NameKind}(h:freeB scope f=true):∀ x∈scope.names,x.2=.free->f x.1=some .cell∨f x.1=some .free:=fun x hx hf=>by
 have:=zcn1.mp h x hx
 simpa [hf] using this
theorem zap5{scope:Scope}(h:zay4 scope=true):(∀ y∈scope.names,y.2≠.cell)/\∀ x∈scope.names,x.2=.local->scope.names.lookup x.1=some .local:=by
 unfold zay4 at h
 rw[zcm4] at h
 refine⟨fun y hy=>?_,fun x hx hl=>?_⟩
 ·have:=zcn1.mp h.1 y hy
  simpa using this
 ·have:=zcn1.mp h.2 x hx
  simpa [hl] using this
theorem zd4{elt tg iter:Expr}{ifs:List Expr}{scope:Scope}{pos:Pos}{N:List Str}{ks:List (Option Nat)}{wi:TI}{g:TG}{tt:TT}{te:TE}(hi:PI X tg iter wi)(hg:∀ cl C s3 H3 fp,PG (blk X N scope cl C s3 H3 fp) tg g)(ht:∀ cl C s3 H3 fp,PTs (blk X N scope cl C s3 H3 fp) ifs tt)(he:∀ cl C s3 H3 fp,PE (blk X N scope cl C s3 H3 fp) elt te)(hcap:zab5 X scope N ks)(hc:X.calm=true:=by rfl)(hkind:scope.kind=.function:=by rfl)(hb:freeB scope X.env.kindOf=true:=by rfl)(hn:zay4 scope=true:=by rfl)(hs:∀ x,foldedSetIterable iter X.env x=pure x:=by intro _;rfl) :
  PE X (.ListComp elt [⟨tg,iter,ifs,0⟩] scope pos) (qComp ks wi g tt te):=by
 intro pins s σ H Q I h
 obtain⟨hcell,hnames⟩:=zap5 hn
 obtain⟨cl,hcl,hcl1,hcl2⟩:=zz1 (scope:=scope) (env:=X.env) fun x hx hf=>I.ok.has x.1 (zak7 hb x hx hf)
 rw[eval_ListComp]
 refine wpAny_comprehension_free (use:=none) rfl hs hcl hkind hnames ?_
 show wpAny _ _ (eval iter X.env) _ _ s
 refine thn (hi pins s σ H _ I h) fun v s1 h1=>thn h1 fun itv s2 h2=>?_
 obtain⟨it,fp,tn,J,H2,e,I2,T,st2,f2,q2⟩:=h2
 subst e
 refine zaq4 (RR:=fun acc C=>compPost (model X.prog X.w) X.A X.xe none (EP X pins σ Q) acc C) hcl1 hcl2 hkind hcell (hcap.cap σ) (hcap.len σ) hc I2 T st2 f2 (hg cl) (ht cl) (he cl) q2 ?_
 rintro acc C H' s' I' hC ⟨m,hm⟩ hq
 refine⟨m,hm,fun h' hsb=>⟨.ref acc,H',?_,rfl,hq⟩⟩
 exact I'.turned (t':=s'.toks) (fun b o hb e=>hsb.extBut b o hb e) hC.1 hC.2.1 hC.2.2.2.1 hC.2.2.2.2.1 hC.2.2.2.2.2
theorem psC{i:Nat}{y:Str}{py spos:Pos}{elt tg iter:Expr}{ifs:List Expr}{scope:Scope}{pos:Pos}{N:List Str}{ks:List (Option Nat)}{wi:TI}{g:TG}{tt:TT}{te:TE}(hN:X.N.Nodup)(hi:PI X tg iter wi)(hg:∀ cl C s3 H3 fp,PG (blk X N scope cl C s3 H3 fp) tg g)(ht:∀ cl C s3 H3 fp,PTs (blk X N scope cl C s3 H3 fp) ifs tt)(he:∀ cl C s3 H3 fp,PE (blk X N scope cl C s3 H3 fp) elt te)(hcap:zab5 X scope N ks)(hy:X.N[i]?=some y:=by rfl)(hl:X.env.scope.names.lookup y=some .local:=by rfl)(hsw:swapsWith (.ListComp elt [⟨tg,iter,ifs,0⟩] scope pos) (some (.Name y py)) spos.line X.env=pure true:=by rfl)(hc:X.calm=true:=by rfl)(hkind:scope.kind=.function:=by rfl)(hb:freeB scope X.env.kindOf=true:=by rfl)(hn:zay4 scope=true:=by rfl)(hs:∀ x,foldedSetIterable iter X.env x=pure x:=by intro _;rfl) :
  PS X (.Assign [.Name y py] (.ListComp elt [⟨tg,iter,ifs,0⟩] scope pos) spos) (tAsg (qComp ks wi g tt te) (gName i)):=by
 intro pins s σ H D I h
 obtain⟨hcell,hnames⟩:=zap5 hn
 obtain⟨cl,hcl,hcl1,hcl2⟩:=zz1 (scope:=scope) (env:=X.env) fun x hx hf=>I.ok.has x.1 (zak7 hb x hx hf)
 rw[exec_Assign_Name_used _ _ _ _ hsw]
 refine zcx4 (wpAny_standAt (zcx4 ?_))
 show wpAny _ X.A (do let _ ← comprehension (.ListComp elt [⟨tg,iter,ifs,0⟩] scope pos) scope X.env _ (newList []) false (eval iter X.env) (some (assign (.Name y py) X.env))) _ _ s
 refine zcx4 (wpAny_mono (wpAny_comprehension_free (use:=some (assign (.Name y py) X.env)) (Q:=fun _ s'=>SP X pins D .next s') rfl hs hcl hkind hnames ?_) (fun _ s' hq=>zcx5 (zcx5 hq)) fun _ _ e=>e)
 refine thn (hi pins s σ H _ I h) fun v s1 h1=>thn h1 fun itv s2 h2=>?_
 obtain⟨it,fp,tn,J,H2,e,I2,T,st2,f2,q2⟩:=h2
 subst e
 refine zaq4 (RR:=fun acc C=>compPost (model X.prog X.w) X.A X.xe (some (assign (.Name y py) X.env)) (fun _ s'=>SP X pins D .next s') acc C) hcl1 hcl2 hkind hcell (hcap.cap σ) (hcap.len σ) hc I2 T st2 f2 (hg cl) (ht cl) (he cl) q2 ?_
 rintro acc C H' s' I' hC ⟨m,hm⟩ hq
 show wpAny _ _ (assign (.Name y py) X.env (.ref acc)) _ _ _
 refine wpAny_assign_Name (zar5 I' hN hy (.inl hl) (v:=.ref acc) rfl (fun s'' I'' hsb=>?_) (.inr hl))
 obtain⟨a,hsb,ha⟩:=hsb
 have hCa:C≠a:=by
  rcases ha with ha|ha
  ·rw[ha];exact hC.2.1
  ·exact (hC.2.2.2.2.1 y a ha).symm
 refine⟨m,hm.sameBut hsb hCa,fun h' hsb'=>⟨σ.set i (some (.ref acc)),H',?_,hq⟩⟩
 exact I''.turned (t':=s''.toks) (fun b o hb e=>hsb'.extBut b o hb e) hC.1 hC.2.1 hC.2.2.2.1 hC.2.2.2.2.1 hC.2.2.2.2.2
end
section
variable {X:Cx}
@[irreducible] def rSumA(K:zcl5)(p:Addr)(H:Hp)(Q:VK):Prop:=∃ ns:List Int,SqL K H p (ns.map V.int)/\Q (.int ns.sum) H
def rSumM(K:zcl5):List V->Hp->VK->Prop:=fun xs H Q=>match xs with
 | [.ref p]=>rSumA K p H Q
 | _=>False
theorem cSum(hc:X.calm=true):zl5 X (.builtin "sum") (rSumM X.K):=fun pins s σ H xs us Q I r h=>by
 unfold rSumM at h
 split at h
 ·unfold rSumA at h
  obtain⟨ns,h1,h2⟩:=h
  obtain⟨u,rfl,rx⟩:=zac1 r
  cases rx
  obtain⟨its,r',pl,hz⟩:=I.list h1
  have hi:=zy1 r'
  obtain⟨ys,hx⟩:=hi.allInts.items
  have hl':s.heap.IsList _ (intItems ys):=hx▸pl.isList
  refine sum_intListG (I.ok.hd hc) hl' fun h' tk t' hk=>?_
  have e1:ns=ys.toList.map (·.1):=by
   rw[← nums_intItems,← hx]
   exact (show numsOf its.toArray.toList=ns from hi.numsOf).symm
  have e2:preSum (numAt ys) ys.size=ns.sum:=by
   rw[preSum_eq,zco9 (by simp),e1]
  rw[e2]
  exact⟨.int ns.sum,H,I.kept hk,⟨_,rfl⟩,h2⟩
 ·exact h.elim
theorem zaa7{K:zcl5}{p:Addr}{H:Hp}{Q:VK}{ns:List Int}(h:H p=some (.lst (ns.map V.int)))(q:Q (.int ns.sum) H):rSumA K p H Q:=by unfold rSumA;exact⟨ns,SqL.of h,q⟩
theorem zad2:∀ {bs:List Bool}{us:List Value},Vals (bs.map V.bl) us->LSm.BoolsAre us bs
 | [],us,r=>by rw[zcu5] at r;cases r;exact .nil
 | b :: bs,us,r=>by
  rw[zcn5] at r
  cases r with
  | cons r1 r2=>
   cases r1
   exact .cons b (zad2 r2)
@[irreducible] def rAllA(K:zcl5)(p:Addr)(H:Hp)(Q:VK):Prop:=∃ bs:List Bool,SqL K H p (bs.map V.bl)/\Q (.bl (bs.all id)) H
def rAllM(K:zcl5):List V->Hp->VK->Prop:=fun xs H Q=>match xs with
 | [.ref p]=>rAllA K p H Q
 | _=>False
theorem cAll(hc:X.calm=true):zl5 X (.builtin "all") (rAllM X.K):=fun pins s σ H xs us Q I r h=>by
 unfold rAllM at h
 split at h
 ·rename_i p
  unfold rAllA at h
  obtain⟨bs,h1,h2⟩:=h
  obtain⟨u,rfl,rx⟩:=zac1 r
  cases rx
  obtain⟨its,r',pl,hz⟩:=I.list h1
  have hb:=zad2 r'
  have hlt:p<s.heap.objs.size:=by obtain⟨_,e,_⟩:=pl.isList;exact zcm5 e
  refine call_all_walk (wpAny_pyIter_list pl.isList ?_)
  refine⟨s.heap.objs.size,[s.heap.objs.size,_],[s.heap.objs.size],its.toArray.size,_,_,fun i=>(bs[i]?).getD true,rfl,Walks.list (A:=X.A.in1) (I.ok.hd hc) _ _ (zco6 hlt) its.toArray,
   ⟨⟨_,zco2 _ rfl,rfl,rfl⟩,pl.isList.push _⟩,fun i v s' Q' E' hP hQ=>?_,fun h' tk hk=>?_⟩
  ·obtain⟨b,e,rfl⟩:=hb.get i v (by simpa using hP)
   simp only[e,Option.getD_some] at hQ
   exact wpAny_truthy_bool hQ
  ·have e:((List.range its.toArray.size).all fun i=>(bs[i]?).getD true)=bs.all id:=by
    rw[zcl9,hb.length];exact LSm.range_all bs
   rw[e]
   exact⟨.bl _,H,I.kept (LSm.kept_iter hk),rfl,h2⟩
 ·exact h.elim
theorem zx6{K:zcl5}{p:Addr}{H:Hp}{Q:VK}{bs:List Bool}(h:H p=some (.lst (bs.map V.bl)))(q:Q (.bl (bs.all id)) H):rAllA K p H Q:=by unfold rAllA;exact⟨bs,SqL.of h,q⟩
@[irreducible] def zbb0(K:zcl5)(p:Addr)(H:Hp)(Q:VK):Prop:=∃ ys,(SqL K H p ys∨SqT K H p ys)/\∀ l H',H l=none->Same H H'->H' l=some (.lst ys)->Q (.ref l) H'
def zbh6(K:zcl5):List V->Hp->VK->Prop:=fun xs H Q=>match xs with
 | [.ref p]=>zbb0 K p H Q
 | _=>False
theorem cList:zl5 X (.type "list") (zbh6 X.K):=fun pins s σ H xs us Q I r h=>by
 unfold zbh6 at h
 split at h
 ·unfold zbb0 at h
  obtain⟨ys,h1,h2⟩:=h
  exact zao1 pins s σ H _ us Q I r ⟨_,ys,rfl,h1,fun l hl=>h2 l _ hl (Same.upd hl) zb4⟩
 ·exact h.elim
theorem zax9{K:zcl5}{p:Addr}{H:Hp}{Q:VK}{ys:List V}(h:SqL K H p ys)(q:∀ l H',H l=none->Same H H'->H' l=some (.lst ys)->Q (.ref l) H'):zbb0 K p H Q:=by unfold zbb0;exact⟨ys,.inl h,q⟩
@[irreducible] def zba6(K:zcl5)(p:Addr)(H:Hp)(R:Prop):Prop:=(∃ xs,SqL K H p xs)/\R
def qBM(K:zcl5)(r:Addr->List V->Hp->VK->Prop)(to:TE)(t:TA):TE:=fun σ H Q=>to σ H fun x H1=>match x with
 | .ref p=>zba6 K p H1 (t σ H1 fun xs H2=>r p xs H2 Q)
 | _=>False
theorem zv7{K:zcl5}{p:Addr}{H:Hp}{R:Prop}{xs:List V}(h:H p=some (.lst xs))(q:R):zba6 K p H R:=by unfold zba6;exact⟨⟨xs,SqL.of h⟩,q⟩
def MtA(X:Cx)(id:String)(r:Addr->List V->Hp->VK->Prop):Prop:=
 ∀ (pins:List (Addr×Obj)) (s:Shared) (σ:St) (H:Hp) (p:Addr) (xs:List V) (us:List Value) (Q:VK),Inv X pins σ H s->Vals xs us->r p xs H Q ->
  wpAny (model X.prog X.w) X.A (call (.builtin id) (.ref p :: us)) (EP X pins σ Q) X.xe s
theorem peBM{o e:Expr}{es:List Expr}{to:TE}{t:TA}{name:Str}{apos cpos:Pos}{id:String}{r:Addr->List V->Hp->VK->Prop}(slot:Slot "list" name id)(hty:typeOf (.builtin id)=pure (.type "method_descriptor"))(hm:MtA X id r)(ho:PE X o to)(ha:PA X (e :: es) t)(hbase:attributeBase o name X.env (eval o X.env)=eval o X.env:=by rfl)(hfew:((backTo cpos (starEach (e :: es) X.env)).all (fun x=>!x.1)&&(backToKw cpos (keywordEach [] X.env)).all (fun x=>x.1.isSome)
   && decide ((e :: es).length+([]:List Keyword).length+(if ([]:List Keyword).isEmpty then 0 else 1)<30))=true:=by rfl)(hline:(apos.endLine==cpos.line)=true:=by rfl)(hs:starEach (e :: es) X.env=(false,eval e X.env) :: starEach es X.env:=by rfl)(hplain:(backTo cpos (starEach es X.env)).any (·.1)=false:=by rfl) :
  PE X (.Call (.Attribute o name apos) (e :: es) [] cpos) (qBM X.K r to t):=by
 intro pins s σ H Q I h
 refine wpAny_Call_method_late hbase hfew hline rfl (thn (ho pins s σ H _ I h) fun v s1 ⟨x,H1,I1,r1,q1⟩=>?_)
 dsimp only at q1
 split at q1
 ·rename_i p
  unfold zba6 at q1
  obtain⟨hq,q1⟩:=q1
  obtain⟨h1,h2⟩:=tyV_is (T:="list") I1 r1 (.inl ⟨rfl,hq⟩)
  refine⟨"list",id,PySem.F.plainAttrs_list,slot,hty,h1,h2,?_⟩
  have hA:=ha cpos pins s1 σ H1 _ I1 q1
  rw[hs] at hA ⊢
  refine Calls.callWith_builtin (by show (false || (backTo cpos (starEach es X.env)).any (·.1))=false;rw[hplain]<;>rfl) (Calls.evalArgs_plain ?_)
  cases r1
  exact thn hA fun us s2 ⟨vs,H2,I2,r2,q2⟩=>hm pins s2 σ H2 p vs us Q I2 r2 q2
 ·exact q1.elim
@[irreducible] def rAppA(p:Addr)(v:V)(H:Hp)(Q:VK):Prop:=∃ xs,H p=some (.lst xs)/\xs.length<sizeLine/\∀ H',Chg p H H'->H' p=some (.lst (xs++[v]))->Q .non H'
def rAppM:Addr->List V->Hp->VK->Prop:=fun p vs H Q=>match vs with
 | [v]=>rAppA p v H Q
 | _=>False
theorem zce9:MtA X "list.append" rAppM:=fun pins s σ H p xs us Q I r h=>by
 unfold rAppM at h
 split at h
 ·unfold rAppA at h
  obtain⟨ys,h1,h2,h3⟩:=h
  exact zac4 pins s σ H (.ref p) _ (.ref p) us Q I rfl r ⟨p,ys,_,rfl,rfl,h1,h2,h3 _ Chg.upd zb4⟩
 ·exact h.elim
theorem zw9{p:Addr}{v:V}{H:Hp}{Q:VK}{xs:List V}(h:H p=some (.lst xs))(hz:xs.length<sizeLine)(q:∀ H',Chg p H H'->H' p=some (.lst (xs++[v]))->Q .non H'):rAppA p v H Q:=by unfold rAppA;exact⟨xs,h,hz,q⟩
theorem zi1{o e:Expr}{to:TE}{t:TA}{apos cpos:Pos}(ho:PE X o to)(ha:PA X [e] t)(hbase:attributeBase o "append" X.env (eval o X.env)=eval o X.env:=by rfl)(hfew:((backTo cpos (starEach [e] X.env)).all (fun x=>!x.1)&&(backToKw cpos (keywordEach [] X.env)).all (fun x=>x.1.isSome)
   && decide ([e].length+([]:List Keyword).length+(if ([]:List Keyword).isEmpty then 0 else 1)<30))=true:=by rfl)(hline:(apos.endLine==cpos.line)=true:=by rfl)(hs:starEach [e] X.env=(false,eval e X.env) :: starEach [] X.env:=by rfl)(hplain:(backTo cpos (starEach [] X.env)).any (·.1)=false:=by rfl):PE X (.Call (.Attribute o "append" apos) [e] [] cpos) (qBM X.K rAppM to t):=
 peBM PySem.F.slot_list_append PySem.F.type_list_append zce9 ho ha hbase hfew hline hs hplain
def qAug(i:Nat)(te:TE)(r:R2):TS:=fun D σ H=>match σ[i]? with
 | some (some x)=>te σ H fun y H1=>r x y H1 fun z H2=>D.nx (σ.set i (some z)) H2
 | _=>False
theorem ipAdd:OpR X (inplaceOp .Add) (fun x y H Q=>match x,y with|.int i,.int j=>Q (.int (i+j)) H|_,_=>False):=by
 intro pins s σ H x y v u Q I rx ry h
 split at h
 ·exact zca9 pins s σ H _ _ v u Q I rx ry ⟨_,_,rfl,rfl,h⟩
 ·exact h.elim
theorem ipSub:OpR X (inplaceOp .Sub) (fun x y H Q=>match x,y with|.int i,.int j=>Q (.int (i - j)) H|_,_=>False):=by
 intro pins s σ H x y v u Q I rx ry h
 split at h
 ·exact zcc5 pins s σ H _ _ v u Q I rx ry ⟨_,_,rfl,rfl,h⟩
 ·exact h.elim
theorem psAug{i:Nat}{x:Str}{e:Expr}{te:TE}{op:Operator}{r:R2}{pos pos':Pos}(hN:X.N.Nodup)(ho:OpR X (inplaceOp op) r)(he:PE X e te)(hi:X.N[i]?=some x:=by rfl)(hx:Loc X.env.scope x:=by first|exact Or.inl rfl|exact Or.inr rfl)(hf:X.fn x=true∨X.env.scope.names.lookup x=some .local:=by first|exact .inl rfl|exact .inr rfl|assumption) :
  PS X (.AugAssign (.Name x pos') op e pos) (qAug i te r):=fun pins s σ H D I h=>by
 unfold qAug at h
 split at h
 ·rename_i v e
  exact ps_aug hN hi hx he (fun pins s σ H x y v u Q I rx ry q=>ho pins s σ H x y v u Q I rx ry q) hf pins s σ H D I ⟨v,e,h⟩
 ·exact h.elim
section
variable {prog:Program}{w:World}{A:Around}{E:Value->Shared->Prop}{s:Shared}
theorem zar0{it t:Addr}{items:Array Value}(hne:t≠it):∀ (n i:Nat) (s:Shared) (Q:List Value->Shared->Prop),s.heap.IsListIter it t i->s.heap.IsList t items->i+n<=items.size ->
  (∀ h',h'.IsListIter it t (i+n)->Heap.SameBut it s.heap h'->Q ((items.toList.drop i).take n) { s with heap:=h' })->wpAny (model prog w) A (draw (.ref it) n) Q E s
 | 0,i,s,Q,hit,_,_,hQ=>by
  show wpAny _ _ (pure []) Q E s
  exact zcx5 (by simpa using hQ s.heap hit (Heap.SameBut.refl ..))
 | n+1,i,s,Q,hit,ht,hle,hQ=>by
  have hlt:i<items.size:=by omega
  show wpAny _ _ (pyNext (.ref it) >>= _) Q E s
  refine zcx4 (wpAny_pyNext_list_item hit ht (x:=items[i]) (by simp[hlt]) fun h₁ hit₁ hs₁=>?_)
  refine zcx4 (zcx7 (zar0 hne n (i+1) _ _ hit₁ (ht.extBut hs₁.extBut hne) (by omega) fun h₂ hit₂ hs₂=>zcx5 ?_))
  have hd:items.toList.drop i=items[i] :: items.toList.drop (i+1):=by simp[zcq9,hlt]
  have:=hQ h₂ (by rw[show i+(n+1)=i+1+n by omega];exact hit₂) (hs₁.trans hs₂)
  rw[hd,List.take_succ_cons] at this
  exact this
theorem zy8{env:Env}{elts:List Expr}{x1}{pos:Pos}{t:Addr}{items:Array Value}{Q:Unit->Shared->Prop}(hh:A.handled=none)(ht:s.heap.IsList t items)(hn:(assignEach elts env).length=items.size)(hstar:(assignEach elts env).findIdx? (·.1)=none)(h:∀ h',Heap.ExtBut s.heap.objs.size s.heap h'->wpAny (model prog w) A (assignInOrder ((assignEach elts env).map (·.2)) items.toList) Q E { s with heap:=h' }) :
  wpAny (model prog w) A (assign (.Tuple elts x1 pos) env (.ref t)) Q E s:=by
 rw[assign_Tuple]
 refine zcx4 (wpAny_standAt ?_)
 unfold unpack
 rw[hn,hstar]
 refine zcx4 (zcx7 ?_)
 have hlt:t≠s.heap.objs.size:=by obtain⟨o,ho,_⟩:=ht;exact zco6 (zcm5 ho)
 unfold unpackItems
 refine zcx4 ?_
 unfold notIterableAtAll
 refine zcx4 (wpAny_specialOf ht.typeIs F.slot_list_iter.lookup ?_)
 refine zcx5 ?_
 simp only[zcs0,if_false]
 refine zcx4 (zcx7 (wpAny_pyIter_list ht ?_))
 refine zcx4 (zcx7 (zar0 hlt items.size 0 _ _ ⟨_,zco2 _ rfl,rfl,rfl⟩ (ht.push _) (by omega) fun h₁ hit₁ hs₁=>?_))
 have hall:List.take items.size (List.drop 0 items.toList)=items.toList:=by
  rw[List.drop_zero];exact zco9 (by simp)
 rw[hall]
 rw[if_neg (by simp)]
 have ht₁:h₁.IsList t items:=(ht.push _).extBut hs₁.extBut hlt
 refine zcx4 (zcx7 (wpAny_pyNext_list_end hh hit₁ ht₁ (by simp) fun h₂ he₂=>?_))
 simp only[Option.isSome_none,zcs0,if_false]
 exact zcx5 (h h₂ fun b o hb e=>he₂ b o hb (hs₁.extBut b o hb (zcl7 _ e)))
end
@[irreducible] def rUnpA(K:zcl5)(a:Addr)(n:Nat)(t:TGs)(σ:St)(H:Hp)(Q:St->Hp->Prop):Prop:=∃ xs,(SqT K H a xs∨SqL K H a xs)/\xs.length=n/\t xs σ H Q
def qgAny(K:zcl5)(n:Nat)(t:TGs):TG:=fun v σ H Q=>match v with
 | .ref a=>rUnpA K a n t σ H Q
 | _=>False
theorem pgAny{pos:Pos}{es:List Expr}{k:Nat}{t:TGs}{n:Nat}(hc:X.calm=true)(h:PGs X es t)(hn:(assignEach es X.env).length=n:=by rfl)(hst:(assignEach es X.env).findIdx? (·.1)=none:=by rfl):PG X (.Tuple es k pos) (qgAny X.K n t):=fun pins s σ H v u Q I r hq=>by
 unfold qgAny at hq
 split at hq
 ·unfold rUnpA at hq
  obtain⟨xs,a1,a2,a3⟩:=hq
  rcases a1 with a1|a1
  ·exact pg_tup hc h hn hst pins s σ H _ u Q I r ⟨_,xs,rfl,a1,a2,a3⟩
  ·cases r
   obtain⟨its,rv,pl,hz⟩:=I.list a1
   refine zy8 (I.ok.hd hc) pl.isList (by simp[hn,← a2,rv.length]) hst fun h' hx=>?_
   have I1:Inv X pins σ H { s with heap:=h' }:=I.kept (t':=s.toks) fun b o e=>hx b o (zco6 (zcm5 e)) e
   exact h pins _ σ H xs _ Q I1 (by simpa using rv) a3
 ·exact hq.elim
theorem zf1{K:zcl5}{a:Addr}{n:Nat}{t:TGs}{σ:St}{H:Hp}{Q:St->Hp->Prop}{xs:List V}(h:H a=some (.tup xs))(q:t xs σ H Q)(e:xs.length=n:=by rfl):rUnpA K a n t σ H Q:=by
 unfold rUnpA;exact⟨xs,.inl (SqT.of h),e,q⟩
end
section
variable {X:Cx}{K:zcl5}
theorem zb5{a b:Expr}{ta tb:TE}{pos:Pos}(hK:X.K=K)(ha:PE X a ta)(hb:PE X b tb)(hs:zau0 b:=by exact fun _ _=>rfl):PE X (.Subscript a b pos) (tOp (rIxM K) ta tb):=by subst hK;exact peIx ha hb hs
theorem zk0(hK:X.K=K):zl5 X (.builtin "len") (rLenM K):=by subst hK;exact cLen
theorem zv2(hK:X.K=K):zl5 X (.builtin "isinstance") (rIsiM K):=by subst hK;exact cIsi
theorem zan5(hK:X.K=K)(hc:X.calm=true):zl5 X (.builtin "sum") (rSumM K):=by subst hK;exact cSum hc
theorem zam0(hK:X.K=K)(hc:X.calm=true):zl5 X (.builtin "all") (rAllM K):=by subst hK;exact cAll hc
theorem zbw0(hK:X.K=K):zl5 X (.type "list") (zbh6 K):=by subst hK;exact cList
theorem zc2{tg l:Expr}{tl:TE}(hK:X.K=K)(hl:PE X l tl):PI X tg l (qiSeq K tl):=by subst hK;exact piSeq hl
theorem zi9{pos:Pos}{es:List Expr}{k:Nat}{t:TGs}{n:Nat}(hK:X.K=K)(hc:X.calm=true)(h:PGs X es t)(hn:(assignEach es X.env).length=n:=by rfl)(hst:(assignEach es X.env).findIdx? (·.1)=none:=by rfl):PG X (.Tuple es k pos) (qgAny K n t):=by subst hK;exact pgAny hc h hn hst
end
theorem zcb2{X:Cx}{pins:List (Addr×Obj)}{H:Hp}{fp:List Addr}(hf:∀ b∈fp,FpOk X pins H b):∀ b∈fp,(b∈X.ex∨X.s₀.heap.objs.size<=b)/\b≠X.env.locals/\(∀ x c,X.env.cells.lookup x=some c->c≠b)/\∀ p∈X.pn++pins,p.1≠b:=fun b hb=>by
 obtain⟨f0,f1,f2,f3,f4,f5⟩:=hf b hb
 exact⟨f3,f1,f4,f5⟩
theorem Inv.hide{X:Cx}{pins:List (Addr×Obj)}{σ:St}{H H':Hp}{s:Shared}{fp:List Addr}{h':Heap}{t':Nat}(I:Inv X pins σ H s)(hf:∀ b∈fp,FpOk X pins H b)(kp:∀ b o,b ∉ fp->s.heap.get? b=some o->h'.get? b=some o)(s1:Same H H')(f1:∀ b o,s.heap.get? b=some o->H b=none->H' b=none)(n1:∀ b v,H' b=some v->H b=some v∨(H b=none/\zf9 X.prog X.w H' h' b v)):Inv X pins σ H' { s with heap:=h',toks:=t' }:=by
 have nof:∀ b v,H b=some v->b ∉ fp:=fun b v hb m=>by
  have:=(hf b m).1
  rw[this] at hb
  cases hb
 have chs:=zcb2 hf
 refine I.step (g':=s.gens) (d':=s.drawn) (t':=t') (ch:=fp) chs (fun b o _ _ hb x _=>kp b o hb x) (fun b o _ _ hb x _=>⟨o.slots,kp b o hb x⟩) (fun b o _ x n=>f1 b o x n) (fun b o hb x=>⟨o,kp b o hb x⟩) (fun b ys q=>s1 _ _ q) (fun b o v q=>s1 _ _ q) (fun b ps q=>⟨#[],by rw[s1 _ _ q];simp⟩)
  (fun m hm=>by
   obtain⟨o,es,ep,ho,r⟩:=hm
   exact⟨o,es,ep,kp _ o (fun m=>(chs _ m).2.1 rfl) ho,r⟩) (fun b v' hb=>?_) I.bare
 rcases n1 b v' hb with hb|⟨_,hb⟩
 ·refine (I.hok b v' hb).stay (fun c w' hc q=>?_) (fun c q=>s1 _ _ q) (fun c ys q=>s1 _ _ q)
  rcases hc with rfl|hc
  ·exact kp _ _ (nof _ _ hb) q
  ·exact kp _ _ (nof _ _ hc) q
 ·exact hb
theorem Inv.hidT{X:Cx}{pins:List (Addr×Obj)}{σ:St}{H:Hp}{s:Shared}{fp:List Addr}{h':Heap}{t':Nat}(I:Inv X pins σ H s)(hf:∀ b∈fp,FpOk X pins H b)(kp:∀ b o,b ∉ fp->s.heap.get? b=some o->h'.get? b=some o):Inv X pins σ H { s with heap:=h',toks:=t' }:=
 I.hide hf kp (Same.refl _) (fun _ _ _ n=>n) fun _ _ h=>.inl h
theorem Inv.newTup{X:Cx}{pins:List (Addr×Obj)}{σ:St}{H:Hp}{s:Shared}{fp:List Addr}{h':Heap}{t':Nat}{us:List Value}{xs:List V}(I:Inv X pins σ H s)(hf:∀ b∈fp,FpOk X pins H b)(kp:∀ b o,b ∉ fp->s.heap.get? b=some o->h'.get? b=some o)(lt:∀ b∈fp,b<s.heap.objs.size)(ht:h'.get? s.heap.objs.size=some { cls:=.type "tuple",data:=.seq us.toArray })(rv:Vals xs us)(hl:xs.length<=sizeLine) :
  ∃ H',Inv X pins σ H' { s with heap:=h',toks:=t' }/\H s.heap.objs.size=none/\Same H H'/\H' s.heap.objs.size=some (.tup xs)/\∀ b∈fp,H' b=none:=by
 have hfr:H s.heap.objs.size=none:=I.fresh
 refine⟨upd H s.heap.objs.size (.tup xs),I.hide hf kp (Same.upd hfr) (fun b o x n=>by rw[zc3 (zco6 (zcm5 x))];exact n) (fun b v hb=>?_),hfr,Same.upd hfr,zb4,fun b hb=>by rw[zc3 (zco6 (lt b hb))];exact (hf b hb).1⟩
 by_cases e1:b=s.heap.objs.size
 ·subst e1
  rw[zb4] at hb
  cases hb
  exact .inr ⟨hfr,hl,us,rv,⟨_,ht,rfl,_,rfl⟩⟩
 ·rw[zc3 e1] at hb
  exact .inl hb
theorem zt2{xs:List V}{k:Int}(h:0<=k):cutV xs (some k) none=xs.drop k.toNat:=by
 show List.take (xs.length - (if k<0 then (k+(xs.length:Int)).toNat else min k.toNat xs.length)) (List.drop (if k<0 then (k+(xs.length:Int)).toNat else min k.toNat xs.length) xs)=_
 rw[if_neg (by omega)]
 by_cases hk:k.toNat<=xs.length
 ·rw[zcs8 hk,zco9 (by rw[zcp5];omega)]
 ·rw[Nat.min_eq_right (by omega),zcv4 (by omega),zcv4 (by omega),List.take_nil]
theorem zad8{xs:List V}{k:Int}(h:0<=k):cutV xs none (some k)=xs.take k.toNat:=by
 show List.take ((if k<0 then (k+(xs.length:Int)).toNat else min k.toNat xs.length) - 0) (List.drop 0 xs)=_
 rw[if_neg (by omega),List.drop_zero,Nat.sub_zero]
 by_cases hk:k.toNat<=xs.length
 ·rw[zcs8 hk]
 ·rw[Nat.min_eq_right (by omega),zco9 (zcm3 _),zco9 (by omega)]
theorem ref_at{ps:List Addr}{i:Int}{p:Addr}(h0:0<=i)(h:ps[i.toNat]?=some p):atI (ps.map V.ref) i=some (.ref p):=by
 have:=zh4 (xs:=ps.map V.ref) (j:=i.toNat) (v:=.ref p) (by rw[zcl2,h];rfl)
 rw[show ((i.toNat:Nat):Int)=i by omega] at this
 exact this
theorem zbw7{ns:List Int}{i:Int}{n:Int}(h0:0<=i)(h:ns[i.toNat]?=some n):atI (ns.map V.int) i=some (.int n):=by
 have:=zh4 (xs:=ns.map V.int) (j:=i.toNat) (v:=.int n) (by rw[zcl2,h];rfl)
 rw[show ((i.toNat:Nat):Int)=i by omega] at this
 exact this
theorem zbq2{xs:List V}{v:V}{n:Nat}(h:xs.length=n+1)(e:xs[n]?=some v):atI xs (-1)=some v:=by
 unfold atI ixN
 rw[if_neg (by decide),if_pos (by omega)]
 show xs[((-1:Int)+xs.length).toNat]?=_
 rw[show ((-1:Int)+xs.length).toNat=n by omega];exact e
theorem zby4{n:Nat}{i:Int}(h0:0<=i)(h1:i<n):ixN n i=some i.toNat:=by unfold ixN;rw[if_pos h0,if_pos h1]
structure Wk(J:It)(n:Nat)(H1:Hp)(X:Nat->V->Hp->Prop):Prop where
 go:∀ i H,Same H1 H->i<n->J.go i H
 stop:∀ H,Same H1 H->J.stop n H
 yld:∀ i H x H',Same H1 H->i<n->J.yld i H x H'->Same H H'/\X i x H'
theorem Wk.range{lo:Int}{n:Nat}{H1:Hp}:Wk (Itr lo n) n H1 fun i x _=>x=.int (lo+i):=
 ⟨fun i H _ h=>h,fun H _=>zcm3 _,fun i H x H' _ _ y=>by obtain⟨rfl,rfl⟩:=y;exact⟨Same.refl _,rfl⟩⟩
theorem Wk.list{K:zcl5}{a:Addr}{xs:List V}{H1:Hp}(h:SqL K H1 a xs):Wk (Itl K a) xs.length H1 fun i x _=>xs[i]?=some x:=
 ⟨fun i H s hi=>⟨xs,xs[i],s.seq h,by simp[hi]⟩,fun H s=>⟨xs,s.seq h,zcm3 _⟩,fun i H x H' s _ y=>by
  obtain⟨e,y⟩:=y
  subst e
  exact⟨Same.refl _,y xs (s.seq h)⟩⟩
structure zaz9(H1 H:Hp)(acc:Addr)(ps:List Addr)(n:Nat)(f:Nat->HO):Prop where
 facc:H1 acc=none
 same:Same H1 H
 out:H acc=some (.lst (ps.map V.ref))
 len:ps.length=n
 nd:ps.Nodup
 nin:acc ∉ ps
 row:∀ i p,ps[i]?=some p->H1 p=none/\H p=some (f i)
theorem zaz9.some{H1 H:Hp}{acc:Addr}{ps:List Addr}{n:Nat}{f:Nat->HO}(F:zaz9 H1 H acc ps n f){i:Nat}(hi:i<n):∃ p,ps[i]?=.some p/\H p=.some (f i):=by
 have hl:i<ps.length:=by rw[F.len];exact hi
 exact⟨ps[i],zcl0 hl,(F.row i _ (zcl0 hl)).2⟩
section
variable {K:zcl5}{g:TG}{tt:TT}{te:TE}{σ0:St}{H1:Hp}{Q:VK}{J:It}{n:Nat}{X:Nat->V->Hp->Prop}
theorem zw7(w:Wk J n H1 X)(hn:n<sizeLine)(f:Nat->HO)(Ps:Nat->St->Prop)(h0:Ps 0 σ0)(turn:∀ i x σ H (R:St->V->Hp->Prop) (S:St->Hp->Prop),i<n->Same H1 H->X i x H->Ps i σ->(∀ σ2 p H5,H p=none->Same H H5->H5 p=some (f i)->Ps (i+1) σ2->R σ2 (.ref p) H5)->g x σ H fun σ2 H3=>tt σ2 H3 fun b H4=>br b (te σ2 H4 fun v H5=>R σ2 v H5) (S σ2 H4))(fin:∀ acc ps H,zaz9 H1 H acc ps n f->Q (.ref acc) H):zac3 J g tt te σ0 H1 Q:=by
 unfold zac3
 intro acc H2 hf hs ha
 refine⟨fun i m ys σ H=>m=n - i/\i<=n/\∃ ps:List Addr,ys=ps.map V.ref/\zaz9 H1 H acc ps i f/\Ps i σ,⟨n,by simp,zcp2 _,[],rfl,⟨hf,hs,ha,rfl,zcu7,by simp,fun i p e=>by simp at e⟩,h0⟩,?_⟩
 rintro i m ys σ H ⟨rfl,hi,ps,rfl,F,P⟩
 refine⟨F.out,by rw[zck9,F.len];omega,?_⟩
 by_cases hlt:i<n
 ·refine .inr ⟨w.go i H F.same hlt,fun x H' y=>?_⟩
  obtain⟨s1,x1⟩:=w.yld i H x H' F.same hlt y
  refine turn i x σ H' (fun σ2 v H5=>cPut _ acc (ps.map V.ref) i (n - i) σ2 v H5) (fun σ2 H4=>zar8 _ (ps.map V.ref) i (n - i) σ2 H4) hlt (F.same.trans s1) x1 P ?_
  intro σ2 p H5 fp s5 hp P2
  have fp0:H p=none:=s1.free fp
  have s15:=s1.trans s5
  have na:p≠acc:=Ne.symm (za7 F.out fp0)
  unfold cPut
  refine⟨s15 _ _ F.out,fun H6 c6 h6=>⟨n - (i+1),by omega,rfl,hlt,ps++[p],by rw[zcn4];rfl,⟨F.facc,(F.same.trans s15).chg F.facc c6,by rw[zcn4];exact h6,by rw[zcl8,F.len];rfl,?_,?_,?_⟩,P2⟩⟩
  ·rw[List.nodup_append]
   refine⟨F.nd,by simp,fun a ha b hb=>?_⟩
   have:b=p:=by simpa using hb
   subst this
   obtain⟨k,hk⟩:=zco7 ha
   exact za7 (F.row k a hk).2 fp0
  ·intro hz
   rcases zco0.mp hz with hz|hz
   ·exact F.nin hz
   ·exact na (by simpa using hz:acc=p).symm
  ·intro k q e
   by_cases hk:k<ps.length
   ·rw[zcn2 hk] at e
    obtain⟨z1,z2⟩:=F.row k q e
    exact⟨z1,c6 _ _ (fun z=>F.nin (z▸zcl4 e)) (s15 _ _ z2)⟩
   ·rw[zcm9 (by omega)] at e
    have hk2:k - ps.length=0:=by
     have:=(zcl1.mp e).1
     simp at this;omega
    rw[hk2] at e
    have:p=q:=by simpa using e
    subst this
    have:k=i:=by have:=F.len;omega
    subst this
    exact⟨F.same.free fp0,c6 _ _ na hp⟩
 ·have e:i=n:=by omega
  subst e
  exact .inl ⟨w.stop H F.same,fin acc ps H F⟩
theorem zk9(w:Wk J n H1 X)(hn:n<sizeLine)(f:Nat->V)(p:Nat->Bool)(Ps:Nat->St->Prop)(h0:Ps 0 σ0)(turn:∀ i x σ H (R:St->V->Hp->Prop) (S:St->Hp->Prop),i<n->Same H1 H->X i x H->Ps i σ->(p i=true->∀ σ2 H5,Same H H5->Ps (i+1) σ2->R σ2 (f i) H5)->(p i=false->∀ σ2 H5,Same H H5->Ps (i+1) σ2->S σ2 H5) ->
   g x σ H fun σ2 H3=>tt σ2 H3 fun b H4=>br b (te σ2 H4 fun v H5=>R σ2 v H5) (S σ2 H4))(fin:∀ acc H,H1 acc=none->Same H1 H->H acc=some (.lst (((List.range n).filter p).map f))->Q (.ref acc) H):zac3 J g tt te σ0 H1 Q:=by
 unfold zac3
 intro acc H2 hf hs ha
 refine⟨fun i m ys σ H=>m=n - i/\i<=n/\ys=((List.range i).filter p).map f/\Same H1 H/\H acc=some (.lst ys)/\Ps i σ,⟨n,by simp,zcp2 _,rfl,hs,ha,h0⟩,?_⟩
 rintro i m ys σ H ⟨rfl,hi,rfl,s,hy,P⟩
 have hlen:(((List.range i).filter p).map f).length<=i:=by
  rw[zck9]
  have:=List.length_filter_le p (List.range i)
  rwa [zcn3] at this
 refine⟨hy,by omega,?_⟩
 by_cases hlt:i<n
 ·refine .inr ⟨w.go i H s hlt,fun x H' y=>?_⟩
  obtain⟨s1,x1⟩:=w.yld i H x H' s hlt y
  refine turn i x σ H' (fun σ2 v H5=>cPut _ acc _ i (n - i) σ2 v H5) (fun σ2 H4=>zar8 _ _ i (n - i) σ2 H4) hlt (s.trans s1) x1 P ?_ ?_
  ·intro hp σ2 H5 s5 P2
   unfold cPut
   refine⟨s5 _ _ (s1 _ _ hy),fun H6 c6 h6=>⟨n - (i+1),by omega,rfl,hlt,?_,((s.trans s1).trans s5).chg hf c6,h6,P2⟩⟩
   rw[List.range_succ,List.filter_append,zcn4]
   congr 1
   simp[hp]
  ·intro hp σ2 H5 s5 P2
   unfold zar8
   refine⟨n - (i+1),by omega,rfl,hlt,?_,(s.trans s1).trans s5,s5 _ _ (s1 _ _ hy),P2⟩
   rw[List.range_succ,List.filter_append,zcn4]
   simp[hp]
 ·have e:i=n:=by omega
  subst e
  exact .inl ⟨w.stop H s,fin acc H hf s hy⟩
theorem ze7(n:Nat):(List.range n).filter (fun _=>true)=List.range n:=by simp
end
theorem EqR.intL{K:zcl5}{H:Hp}{a b:Addr}{xs ys:List Int}(ha:SqL K H a (xs.map V.int))(hb:SqL K H b (ys.map V.int)):EqR K H 1 (.ref a) (.ref b) (decide (xs=ys)):=by
 by_cases hl:xs.length=ys.length
 ·have h:=EqR.lst (K:=K) (H:=H) (n:=0) (fun j=>decide (xs[j]?=ys[j]?)) ha hb (by simpa using hl) (fun j x y hx hy=>by
   rw[zcl2] at hx hy
   obtain⟨i,e1,rfl⟩:=zcl6.mp hx
   obtain⟨k,e2,rfl⟩:=zcl6.mp hy
   have e:eqV (.int i) (.int k)=decide (xs[j]?=ys[j]?):=by
    rw[e1,e2]
    by_cases z:i=k
    ·subst z;simp[eqV]
    ·simp[eqV,z]
   rw[← e]
   exact EqR.flat rfl rfl)
  have e:(List.range (xs.map V.int).length).all (fun j=>decide (xs[j]?=ys[j]?))=decide (xs=ys):=by
   rw[Bool.eq_iff_iff,zcn1,decide_eq_true_iff]
   constructor
   ·intro q
    apply zcp0
    intro j
    by_cases hj:j<xs.length
    ·exact of_decide_eq_true (q j (zcq7.mpr (by simpa using hj)))
    ·rw[zcn0 (by omega),zcn0 (by omega)]
   ·rintro rfl j _
    exact decide_eq_true rfl
  rw[e] at h
  exact h
 ·have:decide (xs=ys)=false:=decide_eq_false fun e=>hl (by rw[e])
  rw[this]
  exact EqR.lstN ha hb (by simpa using hl)
def Itd(hi:Int)(n:Nat):It:=⟨fun i _=>i<n,fun i H x H'=>H'=H/\x=.int (hi - i),fun i _=>n<=i⟩
section
variable {X:Cx}{tg:Expr}
@[irreducible] def zce6(i j:Int)(H:Hp)(R:It->Hp->Prop):Prop:=(-(2 ^ 62)<=i/\i<2 ^ 62/\-(2 ^ 62)<=j/\j<2 ^ 62)/\R (Itd i (i - j).toNat) H
def qiRngD(ta:TA):TI:=fun σ H R=>ta σ H fun vs H1=>match vs with
 | [.int i,.int j,.int (-1)]=>zce6 i j H1 R
 | _=>False
end
section
variable {X:Cx}{K:zcl5}
@[irreducible] def rMinL(K:zcl5)(p:Addr)(H:Hp)(Q:VK):Prop:=∃ ns:List Int,SqL K H p (ns.map V.int)/\0<ns.length/\∀ M:Int,M∈ns->(∀ a∈ns,M<=a)->Q (.int M) H
def zbz9(K:zcl5):List V->Hp->VK->Prop:=fun xs H Q=>match xs with
 | [.ref p]=>rMinL K p H Q
 | [.int i,.int j]=>Q (.int (if j<i then j else i)) H
 | _=>False
theorem cMinK(hK:X.K=K)(hc:X.calm=true):zl5 X (.builtin "min") (zbz9 K):=by
 subst hK
 intro pins s σ H xs us Q I r h
 unfold zbz9 at h
 split at h
 ·unfold rMinL at h
  obtain⟨ns,h1,h2,h3⟩:=h
  obtain⟨u,rfl,rx⟩:=zac1 r
  cases rx
  obtain⟨its,r',pl,hz⟩:=I.list h1
  have hi:=zy1 r'
  obtain⟨ys,hx⟩:=hi.allInts.items
  have e1:ns=ys.toList.map (·.1):=by
   rw[← nums_intItems,← hx]
   exact (show numsOf its.toArray.toList=ns from hi.numsOf).symm
  have hs:0<ys.size:=by
   have z:ns.length=ys.size:=by
    conv=>lhs;rw[e1]
    rw[zck9,zcm7]
   omega
  have hl':s.heap.IsList _ (intItems ys):=hx▸pl.isList
  refine min_intList (I.ok.hd hc) hl' hs fun v h' tk hv hk=>?_
  obtain⟨t,rfl⟩:=intItems_at hv
  have best:=argBest_lt (numAt ys) (ys.size - 1)
  refine⟨.int _,H,I.kept hk,⟨t,rfl⟩,h3 _ ?_ fun a ha=>?_⟩
  ·rw[e1,numAt_eq]
   exact getD_mem (by rw[zck9,zcm7];omega)
  ·rw[e1] at ha
   obtain⟨j,hj,rfl⟩:=mem_getD ha
   rw[zck9,zcm7] at hj
   rw[← numAt_eq]
   exact best.2 j (by omega)
 ·exact zbm1 hc pins s σ H _ us Q I r ⟨_,_,rfl,h⟩
 ·exact h.elim
theorem ptW{e:Expr}{t:TT}(h:PW X e t):PT X e t:=h.pt
end
def zcg0(o:Obj):Bool:=match o.data with
 | .cls cd=>cd.name=="NoText"
 | _=>false
def Chd(B:Heap)(cls:Value):Prop:=∃ (C:Addr) (o:Obj),cls=.ref C/\B.get? C=some o/\zcg0 o=true
def ExAt(B h:Heap)(e:Addr)(cls:Value)(dx:Option Addr):Prop:=
 ∃ (oe:Obj) (vs:Array Value),h.get? e=some oe/\oe.cls=cls/\oe.dict=dx/\oe.data=.fields vs/\1<vs.size /\
  (vs[1]?=some .none∨∃ (T:Addr) (oT:Obj) (ts:Array Value),vs[1]?=some (.ref T)/\B.get? T=none/\T≠e/\h.get? T=some oT/\oT.data=.fields ts/\3<ts.size/\ts[3]?=some .none)/\(vs[2]?=some .none∨Chd B cls)
def Th(h h':Heap):Prop:=∀ b o,h.get? b=some o->∃ o',h'.get? b=some o'
structure FlyX(B:Heap)(l:List Env)(e:Addr)(cls:Value)(dx:Option Addr)(h:Heap):Prop where
 stays:B.StaysIn h
 new:B.get? e=none
 frames:h.FunFrames B l
 ex:ExAt B h e cls dx
section
variable {M:Model}{A:Around}{E:Value->Shared->Prop}{s:Shared}{B:Heap}{env:Env}{outer:List Env}{L e:Addr}{cls:Value}{dx:Option Addr}{Q:Unit->Shared->Prop}
theorem zad3(f:Array Value->Array Value)(o:Obj):(Obj.mapFields f o).cls=o.cls/\(Obj.mapFields f o).dict=o.dict:=by
 obtain⟨c,d,dt,sl⟩:=o
 cases dt<;>exact⟨rfl,rfl⟩
theorem zap1{head:Value}{hn:Bool}{oe:Obj}{vs:Array Value}(hfr:A.frames=some (env :: outer))(hf:env.frame=some L)(f1:B.StaysIn s.heap)(f2:B.get? e=none)(f3:s.heap.FunFrames B (env :: outer))(he:s.heap.get? e=some oe)(hc:oe.cls=cls)(hdx:oe.dict=dx)(hd:oe.data=.fields vs)(hsz:1<vs.size)(h2c:vs[2]?=some .none∨Chd B cls)(hQ:∀ h',FlyX B (env :: outer) e cls dx h'->s.heap.UpToSlots h'->Th s.heap h'->Q () { s with heap:=h' }) :
  wpAny M A (do let a ← frameOf env;let pl ← entryPlaceOf L hn;let b ← EntryCells.newEntry head a .none (rawInt L) .none pl;setField (.ref e) 1 b) (fun _ s1=>wpAny M A (setFlight (.ref e) none) Q E s1) E s:=by
 have hene:e ∉ (env :: outer).filterMap (·.frame):=fun hm=>by
  obtain⟨_,o,ho,hnf⟩:=f3.mem hm
  rw[he] at ho
  cases ho
  exact hnf vs hd
 refine zcx4 (wpAny_frameOf_fun hfr f3 hf fun g hg=>zcx4 (wpAny_entryPlaceOf fun pl hpl=>?_))
 refine zcx4 (wpAny_newObj_type ?_ (hpl.sizeOk5 _ _ _ _ _))
 have e1:g.get? e=some oe:=(hg.2.1 e hene).trans he
 have lt1:=zcm5 e1
 generalize hO:({ cls:=.type "traceback",data:=.fields ([head,.ref L,.none,rawInt L,.none]++(if pl.isEmpty then List.replicate 6 Value.none else pl)).toArray }:Obj)=O
 have hOd:O.data=.fields ([head,.ref L,.none,rawInt L,.none]++(if pl.isEmpty then List.replicate 6 Value.none else pl)).toArray:=by rw[← hO]
 have hOz:3<([head,.ref L,.none,rawInt L,.none]++(if pl.isEmpty then List.replicate 6 Value.none else pl)).toArray.size:=by simp
 have hOf:O.isFreed=false:=by rw[← hO];rfl
 generalize ([head,.ref L,.none,rawInt L,.none]++(if pl.isEmpty then List.replicate 6 Value.none else pl)).toArray=ts at hOd hOz
 have e2:(g.push O).get? e=some oe:=zcl7 _ e1
 have t2:(g.push O).get? g.objs.size=some O:=zco2 _ hOf
 have nT:g.objs.size≠e:=zcu1 lt1
 refine wpAny_setField e2 hd hsz ?_
 have d3:=Obj.data_mapFields hd (fun a=>a.setIfInBounds 1 (Value.ref g.objs.size))
 have e3:=zcu2 (Obj.mapFields fun a=>a.setIfInBounds 1 (Value.ref g.objs.size)) e2 (Obj.isFreed_of_fields d3)
 have t3:=(zcp3 (g.push O) (Obj.mapFields fun a=>a.setIfInBounds 1 (Value.ref g.objs.size)) (Ne.symm nT)).trans t2
 unfold setFlight
 refine zcx4 (wpAny_field e3 d3 (x:=.ref g.objs.size) (by simp[hsz]) ?_)
 rw[if_pos (by simp)]
 refine wpAny_setField t3 hOd hOz (hQ _ ?_ ?_ ?_)
 ·have kp:∀ b o,b≠e->g.get? b=some o->(((g.push O).update e (Obj.mapFields fun a=>a.setIfInBounds 1 (Value.ref g.objs.size))).update g.objs.size (Obj.mapFields fun a=>a.setIfInBounds 3 Value.none)).get? b=some o:=fun b o hb hz=>by
   rw[zcp3 _ _ (zcu1 (zcm5 hz)),zcp3 _ _ (Ne.symm hb)]
   exact zcl7 _ hz
  have d4:=Obj.data_mapFields hOd (fun a=>a.setIfInBounds 3 Value.none)
  have t4:=zcu2 (Obj.mapFields fun a=>a.setIfInBounds 3 Value.none) t3 (Obj.isFreed_of_fields d4)
  have e4:=(zcp3 ((g.push O).update e (Obj.mapFields fun a=>a.setIfInBounds 1 (Value.ref g.objs.size))) (Obj.mapFields fun a=>a.setIfInBounds 3 Value.none) nT).trans e3
  have pf:=zad3 (fun a=>a.setIfInBounds 1 (Value.ref g.objs.size)) oe
  refine⟨fun b o hb=>kp b o (fun z=>by rw[z,f2] at hb;cases hb) ((hg.2.1 b fun hm=>by rw[(f3.mem hm).1] at hb;cases hb).trans (f1 b o hb)),f2,f3.of_keeps fun b o hb hnf=>?_,_,_,e4,pf.1.trans hc,pf.2.trans hdx,d3,by simpa using hsz,.inr ⟨_,_,_,by simp[hsz],?_,nT,t4,d4,by simpa using hOz,by simp[hOz]⟩,h2c.imp (fun z=>by rw[Array.getElem?_setIfInBounds_ne (by decide)];exact z) id⟩
  ·obtain⟨sl,hs⟩:=hg.2.2 b o hb
   refine⟨_,kp b _ (fun z=>?_) hs,rfl⟩
   rw[z,he] at hb
   cases hb
   exact hnf vs hd
  ·cases q:B.get? g.objs.size with
   | none=>rfl
   | some o=>
    have z1:=f1 _ _ q
    have z2:=(hg.2.1 _ fun hm=>by rw[(f3.mem hm).1] at q;cases q).trans z1
    exact absurd (zcm5 z2) (zct0 _)
 ·intro b o hb hnf
  obtain⟨sl,hs⟩:=hg.2.2 b o hb
  refine⟨sl,?_⟩
  rw[zcp3 _ _ (zcu1 (zcm5 hs)),zcp3 _ _ (fun z=>?_)]
  ·exact zcl7 _ hs
  ·rw[← z,he] at hb
   cases hb
   exact hnf vs hd
 ·intro b o hb
  by_cases hbe:b=e
  ·subst hbe
   exact⟨_,(zcp3 _ _ nT).trans e3⟩
  ·obtain⟨sl,hs⟩:=hg.2.2 b o hb
   refine⟨{ o with slots:=sl },?_⟩
   rw[zcp3 _ _ (zcu1 (zcm5 hs)),zcp3 _ _ (Ne.symm hbe)]
   exact zcl7 _ hs
theorem zbu0(hfr:A.frames=some (env :: outer))(hf:env.frame=some L)(F:FlyX B (env :: outer) e cls dx s.heap)(hQ:∀ h',FlyX B (env :: outer) e cls dx h'->s.heap.UpToSlots h'->Th s.heap h'->Q () { s with heap:=h' }):wpAny M A (noteFrame (.ref e) env) (fun _ s1=>wpAny M A (setFlight (.ref e) none) Q E s1) E s:=by
 obtain⟨f1,f2,f3,oe,vs,he,hc,hdx,hd,hsz,hT,h2c⟩:=F
 unfold noteFrame
 rw[hf]
 rcases hT with h1|⟨T,oT,ts,h1,bT,nT,gT,dT,zT,vT⟩
 ·refine zcx4 (wpAny_field he hd h1 ?_)
  dsimp only
  rw[if_neg (by simp)]
  exact zap1 hfr hf f1 f2 f3 he hc hdx hd hsz h2c hQ
 ·refine zcx4 (wpAny_field he hd h1 ?_)
  dsimp only
  rw[if_pos (by simp)]
  refine zcx4 (wpAny_field gT dT vT ?_)
  rw[if_neg (by simp[rawInt])]
  refine zcx4 (wpAny_setField gT dT zT ?_)
  have ne:∀ b o,s.heap.get? b=some o->(∀ vs,o.data≠.fields vs)->b≠T:=fun b o hb hnf z=>by
   rw[z,gT] at hb
   cases hb
   exact hnf ts dT
  have kp:∀ b o,b≠T->s.heap.get? b=some o->(s.heap.update T (Obj.mapFields fun a=>a.setIfInBounds 3 Value.none)).get? b=some o:=fun b o hb hz=>by
   rw[zcp3 _ _ (Ne.symm hb)];exact hz
  refine zap1 (s:={ s with heap:=s.heap.update T (Obj.mapFields fun a=>a.setIfInBounds 3 Value.none) }) hfr hf (fun b o hb=>kp b o (fun z=>by rw[z,bT] at hb;cases hb) (f1 b o hb)) f2 (f3.of_keeps fun b o hb hnf=>⟨o,kp b o (ne b o hb hnf) hb,rfl⟩)
   (kp e oe (Ne.symm nT) he) hc hdx hd hsz h2c fun h' F' U W=>hQ h' F' (fun b o hb hnf=>U b o (kp b o (ne b o hb hnf) hb) hnf) fun b o hb=>?_
  by_cases hbT:b=T
  ·subst hbT
   exact W b _ (zcu2 (Obj.mapFields fun a=>a.setIfInBounds 3 Value.none) gT (Obj.isFreed_of_fields (Obj.data_mapFields dT _)))
  ·exact W b o (kp b o hbT hb)
theorem zbq0(hfr:A.frames=some (env :: outer))(hf:env.frame=some L)(F:FlyX B (env :: outer) e cls dx s.heap)(hQ:∀ h',FlyX B outer e cls dx h'->s.heap.UpToSlots h'->Th s.heap h'->Q () { s with heap:=h' }):wpAny M A (leaving env (.ref e)) Q E s:=by
 unfold leaving
 exact zcx4 (zbu0 hfr hf F fun h' F' U W=>hQ h' ⟨F'.stays,F'.new,F'.frames.2.2,F'.ex⟩ U W)
end
structure zaw4(X:Cx)(pins:List (Addr×Obj))(σ:St)(H:Hp)(B:Heap)(e:Addr)(cls:Value)(dx:Option Addr)(s:Shared):Prop where
 inv:Inv X pins σ H s
 hok:HOk X.prog X.w H B
 fly:FlyX B X.stack e cls dx s.heap
 kb:∀ b o,X.s₀.heap.get? b=some o->X.H₀ b=none->b ∉ X.fs->b ∉ X.ex->B.get? b=some o
 en:∀ o,X.s₀.heap.get? e=some o->e∈X.ex
def CXR(P:Program)(w:World):CXT:=fun outer H s E e s'=>∃ (ea:Addr) (cls:Value) (dx:Option Addr) (H':Hp) (B:Heap),e=.ref ea/\s'.os=s.os/\AllBare s'.gens/\HOk P w H' B/\FlyX B outer ea cls dx s'.heap /\
 Un (frs outer) [] H H' s.heap s'.heap/\(∀ b o,s.heap.get? b=some o->H b=none->b ∉ frs outer->B.get? b=some o)/\(∀ o,s.heap.get? ea≠some o)/\E cls dx H'
section
variable {X:Cx}{pins:List (Addr×Obj)}{σ:St}{H:Hp}{s s':Shared}
theorem zap8(I:Inv X pins σ H s){b:Addr}{o:Obj}(e:X.s₀.heap.get? b=some o)(h:b ∉ X.fs):b ∉ frs X.stack:=fun hm=>by
 rcases zcm1.mp (I.stkSub b hm) with z|z
 ·exact absurd (zcn8 (zcm5 e) I.ok.above) (by rw[z];exact zct0 _)
 ·exact h z
theorem zaw4.of_call{E:XK}{e:Value}(I:Inv X pins σ H s)(h:CXR X.prog X.w X.stack H s E e s'):∃ (ea:Addr) (cls:Value) (dx:Option Addr) (H':Hp) (B:Heap),e=.ref ea/\zaw4 X pins σ H' B ea cls dx s'/\E cls dx H':=by
 obtain⟨ea,cls,dx,H',B,rfl,os,bare,hok,fly,un,kb,en,hE⟩:=h
 refine⟨ea,cls,dx,H',B,rfl,⟨I.call' os un (hok.kept fly.stays) bare (fun b hb=>absurd hb (by simp)),hok,fly,fun b o e n h1 h2=>?_,fun o e=>?_⟩,hE⟩
 ·have k:=I.base.keep b o e n h1 h2
  exact kb b o k (I.base.free b o e n h2) (zap8 I e h1)
 ·apply Classical.byContradiction
  intro hx
  obtain⟨o',k⟩:=I.base.there ea o e hx
  exact en o' k
theorem zaw4.of_raise{e:Addr}{cls:Value}{args:List Value}{h':Heap}{t':Nat}(I:Inv X pins σ H s)(m:Heap.MadeExcOf s.heap h' e cls args):zaw4 X pins σ H (PySem.W.hideAll s.heap (frs X.stack)) e cls none { s with heap:=h',toks:=t' }:=by
 have nofr:∀ b o,H b=some o->b ∉ frs X.stack:=fun b o hb hm=>by rw[I.stkFree b hm] at hb;cases hb
 refine⟨I.kept m.keeps,fun a o ha=>?_,⟨fun b o hb=>m.keeps _ _ (PySem.W.of_hideAll _ hb),?_,?_,?_⟩,fun b o e n h1 h2=>?_,fun o hz=>?_⟩
 ·refine (I.hok a o ha).stay (fun b u hb hu=>PySem.W.hideAll_get _ hu ?_) (fun _ q=>q) fun _ _ q=>q
  rcases hb with rfl|hb
  ·exact nofr _ _ ha
  ·exact nofr _ _ hb
 ·cases q:(PySem.W.hideAll s.heap (frs X.stack)).get? e with
  | none=>rfl
  | some o=>
   have:=PySem.W.of_hideAll _ q
   rw[m.new] at this
   cases this
 ·refine Heap.FunFrames.of_keeps (fun b o hb _=>⟨o,m.keeps b o hb,rfl⟩) (PySem.W.funFrames_hide I.stack fun env he a hf=>?_)
  exact List.mem_filterMap.mpr ⟨env,he,hf⟩
 ·obtain⟨t,h1,_,_⟩:=m.there
  exact⟨_,_,h1,rfl,rfl,rfl,by simp,.inl rfl,.inl rfl⟩
 ·exact PySem.W.hideAll_get _ (I.base.keep b o e n h1 h2) (zap8 I e h1)
 ·apply Classical.byContradiction
  intro hx
  obtain⟨o',k⟩:=I.base.there _ o hz hx
  rw[m.new] at k
  cases k
def XOut(X:Cx)(E:XK):Prop:=∀ (pins:List (Addr×Obj)) (σ:St) (H:Hp) (B:Heap) (e:Addr) (cls:Value) (dx:Option Addr) (s:Shared),zaw4 X pins σ H B e cls dx s->E cls dx H->X.xe (.ref e) s
theorem passR{E:XK}(hx:XOut X E):zai5 (CXR X.prog X.w) X E:=fun pins σ H s e s' I h=>by
 obtain⟨ea,cls,dx,H',B,rfl,F,hE⟩:=zaw4.of_call I h
 exact hx _ _ _ _ _ _ _ _ F hE
theorem zu1{P:Program}{w:World}:zai5 (CXR P w) X E0:=fun _ _ _ _ _ _ _ h=>by
 obtain⟨_,_,_,_,_,_,_,_,_,_,_,_,_,h⟩:=h
 exact (show False from h).elim
end
theorem xout{P:Program}{w:World}{K:zcl5}{mg:Str->Option Value}{base:Heap}{N:List Str}{qual:Str}{scope:Scope}{f:Addr}{cd:Value}{A:Around}{outer:List Env}{s:Shared}{H:Hp}{E:XK} :
  XOut (cxOf (CXR P w) P w K mg base N qual scope f cd A outer s H E) E:=fun pins σ H' B e cls dx s' F hE=>by
 have I:=F.inv
 refine zbq0 (outer:=outer) I.ok.frames (rfl:(envOfC qual scope s.heap.objs.size f cd).frame=some s.heap.objs.size) F.fly fun h' F' U W=>?_
 have kb:∀ b o,s.heap.get? b=some o->H b=none->b ∉ frs outer->B.get? b=some o:=fun b o e n h1=>F.kb b o e n h1 (by exact zcq3)
 refine⟨e,cls,dx,H',B,rfl,I.os,I.bare,F.hok,F',?_,kb,fun o z=>absurd (F.en o z) (by exact zcq3),hE⟩
 have un:Un (frs outer) [] H H' s.heap s'.heap:=I.base
 refine⟨fun b o e n h1 _=>F'.stays _ _ (kb b o e n h1),fun b o e n h1 h2=>?_,un.free,fun b o e h2=>?_,un.tups,un.frzs,un.tbls⟩
 ·obtain⟨sl,k⟩:=un.slot b o e n h1 h2
  obtain⟨_,o2,ho2,hd⟩:=I.ok.funs.mem h1
  have:o2=o:=Option.some.inj (ho2.symm.trans e)
  subst this
  obtain⟨sl',k'⟩:=U b _ k hd
  exact⟨sl',k'⟩
 ·obtain⟨o',k⟩:=un.there b o e h2
  exact W b o' k
section
variable {X:Cx}{x:Str}{C:Addr}{bm:List Value}{B newId initId:String}{np cpos pos:Pos}{e₀:Expr}{rest:List Expr}{t:TA}{E:XK}
def qRaise(C:Addr)(E:XK)(t:TA):TS:=fun _ σ H=>t σ H fun vs H1=>vs.length<=sizeLine/\E (.ref C) none H1
theorem zbh9(O:OwnCls x C bm newId X.mg X.base)(FB:ExcBaseFacts B newId initId bm)(hc:X.calm=true)(hout:XOut X E)(ha:PA X (e₀ :: rest) t)(hg:Gl X x:=by rfl)(hd:(x==("__debug__":Str))=false:=by decide)(he:starEach (e₀ :: rest) X.env=(false,eval e₀ X.env) :: starEach rest X.env:=by rfl)(hpl:(backTo cpos (starEach rest X.env)).any (·.1)=false:=by rfl) :
  PS X (.Raise (some (.Call (.Name x np) (e₀ :: rest) [] cpos)) none pos) (qRaise C E t):=by
 intro pins s σ H D I h
 obtain⟨tl,N,nm,q,bs,hdct,sn,sub,ab,col,dd,k0,k1,k2,k3,k5,mN,hC,hN,hni,T⟩:=O.obj
 refine wpAny_Raise_call_subT (C:=C) (nm:=nm) (q:=q) (N:=N) (bs:=bs) (bm:=tl) (hdct:=hdct) (sn:=sn) (sub:=sub) (ab:=ab) (col:=col) (dd:=dd) (k0:=k0) (k1:=k1) (k2:=k2) (k3:=k3) (k5:=k5) FB (mN:=mN)
  (T.hasType FB.hasBase) (I.ok.hd hc) (by rw[he];show (false || (backTo cpos (starEach rest X.env)).any (·.1))=false;rw[hpl];rfl) hni (zaw6 I hg O.bound ⟨rfl,?_⟩ hd)
 have hA:=ha cpos pins s σ H _ I h
 rw[he] at hA ⊢
 refine Calls.evalArgs_plain (thn hA fun us s2 ⟨vs,H1,I1,r,hz,q⟩=>⟨rfl,by rw[← r.length];exact hz,I1.bk _ _ hC,hN.keeps I1.bk,T.keeps I1.bk,fun h' e m=>?_⟩)
 exact hout _ _ _ _ _ _ _ _ (zaw4.of_raise (t':=s2.toks) I1 m) q
end
section
variable {P:Program}{w:World}{K:zcl5}{mg:Str->Option Value}{base:Heap}
theorem Fun.okR{x qual:Str}{st:Stmt}{f:Addr}{fd:FuncData}{N ps:List Str}{k:Nat}{sp:Sp}(F:Fun K x qual st f fd)(S:zb2 N ps (za5 st))(len:∀ vs H Q E,sp vs H Q E->vs.length=ps.length)(hbody:∀ (cdv:Value) (A:Around) (outer:List Env) (s:Shared) (H:Hp) (vs:List V) (Q:VK) (E:XK),Room k (A.deeper (envOfC qual (za5 st) s.heap.objs.size f cdv))->XOut (cxOf (CXR P w) P w K mg base N qual (za5 st) f cdv A outer s H E) E->sp vs H Q E ->
   ∃ t,PSs (cxOf (CXR P w) P w K mg base N qual (za5 st) f cdv A outer s H E) (zk1 st) t/\t { nx:=fun _ H'=>Q .non H',rt:=Q } (zag7 N vs) H):FnOk P w K mg base (CXR P w) (k+1) f fd ps sp:=by
 obtain⟨oc,od,kV,doc,pm,an,cdv,ct,osl,rfl,lk,hcd⟩:=F.ex
 refine fn_of lk hcd S len fun A outer s H vs Q E hr hsp=>?_
 exact hbody cdv A outer s H vs Q E hr xout hsp
end
set_option maxHeartbeats 4000000
structure ExcK(K:zcl5)(D:Addr):Prop where
 h1:zcs7 K (.ref D) "__getattribute__"=some (some (.builtin "BaseException.__getattribute__"))
 h2:zcs7 K (.ref D) "__getattr__"=some none
 h3:zcs7 K (.ref D) "__class__"=some (some (.builtin "object.__class__"))
 h4:zcr5 K (.ref D) (.type "BaseException")=some true
 h5:PySem.W.mroIn K D (.type "object")=some true
section
variable {X:Cx}{pins:List (Addr×Obj)}{σ:St}{H:Hp}{s:Shared}
theorem zf9.ex{P:Program}{w:World}{H:Hp}{h:Heap}{a:Addr}{o:HO}(x:zf9 P w H h a o):∃ u,h.get? a=some u:=by
 cases o with
 | lst xs=>obtain⟨_,_,_,_,e⟩:=x;exact⟨_,e⟩
 | tup xs=>obtain⟨_,_,_,ob,e,_⟩:=x;exact⟨ob,e⟩
 | dK kvs=>obtain⟨_,_,_,_,ob,_,_,e,_⟩:=x;exact⟨ob,e⟩
 | dT kvs=>obtain⟨_,_,_,_,ob,_,_,e,_⟩:=x;exact⟨ob,e⟩
 | set S n=>obtain⟨ob,_,_,_,e,_⟩:=x;exact⟨ob,e⟩
 | ins C dx fs=>obtain⟨_,_,_,e,_⟩:=x;exact⟨_,e⟩
 | own y=>exact x
 | xd fs=>obtain⟨_,⟨ob,_,_,e,_⟩,_⟩:=x;exact⟨ob,e⟩
 | rng lo hi=>obtain⟨_,_,_,e⟩:=x;exact⟨_,e⟩
 | frz ob u=>obtain⟨e,_⟩:=x;exact⟨_,e⟩
 | tbl ps=>exact⟨_,(show h.get? a=some _ from x)⟩
 | met f y=>exact⟨_,(show h.get? a=some _ from x)⟩
 | ext φ=>obtain⟨_,e,_⟩:=x;exact e
end
section
open PySem.W
theorem zaz5{K:Frag}{h:Heap}{mg:Str->Option Value}{x:Str}{C:Addr}{bmB:List Value}{newId:String}(X:K.In h)(G:h.Ns zcx8 mg)(e:nsIn K zcx8 x=some (some (.ref C)))(q:excIn K C bmB newId=true):OwnCls x C bmB newId mg h:=by
 have bd:=mg_of X G e
 unfold excIn at q
 split at q
 case h_2=>cases q
 rename_i dd cd sl ho
 split at q
 case h_2=>cases q
 rename_i C1 bm k0 k1 k2 k3 n k5 hm hs
 simp only[zcm4,beq_iff_eq,Bool.not_eq_true'] at q
 obtain⟨⟨⟨⟨⟨q1,q2⟩,q3⟩,q4⟩,q5⟩,q6⟩:=q
 have z:sl=#[k0,k1,k2,k3,some (.builtin n),k5]:=by
  cases sl with
  | mk l=>rw[show l=[k0,k1,k2,k3,some (.builtin n),k5] from hs]
 cases cd with
 | mk nm bs mro ns qn hd sn sub ab col del=>
  have hm:mro=.ref C1 :: bm:=hm
  have q3:del=false:=q3
  subst q1 q2 z hm q3
  exact⟨bd,bm,ns,nm,qn,bs,hd,sn,sub,ab,col,dd,k0,k1,k2,k3,k5,_,X _ _ ho,.of_isNs (isNs_of_in X q5),nsMap_none_of_in X q5 q6,tail_of_in X q4⟩
theorem zy2{K:Frag}{t:Value}{C:Addr}{cd:ClassData}{b:Bool}(h1:clsIn K C=some cd)(h2:typeIn K (.ref C)=some (.type "type"))(h3:subIn K t (.ref C)=some b):kitCls K t (.ref C)=some b:=by
 unfold kitCls
 dsimp only
 rw[h1,h2,if_pos (by simp)]
 exact h3
theorem zz0{K:Frag}{t:Value}{C:Addr}{cd:ClassData}{b:Bool}(h1:clsIn K C=some cd)(h2:typeIn K (.ref C)=some (.type "type"))(h3:subIn K t (.ref C)=some b)(h4:subIn K t t=some true):kitOne K t (.ref C)=some b:=by
 unfold kitOne
 split
 ·rename_i z
  have z:t=.ref C:=by simpa using z
  subst z
  rw[h3] at h4
  exact h4.symm
 ·exact zy2 h1 h2 h3
theorem zai9{K:Frag}{C:Addr}{cd:ClassData}{b:Bool}(h1:clsIn K C=some cd)(h2:typeIn K (.ref C)=some (.type "type"))(h3:subIn K (.type "NoneType") (.ref C)=some b):kitOne K (.type "NoneType") (.ref C)=some b:=by
 unfold kitOne
 rw[if_neg (by simp)]
 exact zy2 h1 h2 h3
theorem zt9{K:Frag}{D:Addr}{b:Bool}(h:subIn K (.ref D) (.type "ValueError")=some b):kitOne K (.ref D) (.type "ValueError")=some b:=by
 unfold kitOne kitCls
 rw[if_neg (by simp)]
 dsimp only
 rw[if_pos (by decide +kernel)]
 exact h
theorem zbq1{K:Frag}{t:Value}{C:Addr}{cd:ClassData}{b:Bool}(h0:subIn K (.ref C) (.type "BaseException")=some true)(h1:clsIn K C=some cd)(h2:typeIn K (.ref C)=some (.type "type"))(h3:subIn K t (.ref C)=some b):exmOne K t (.ref C)=some b:=by
 unfold exmOne
 rw[if_pos (by rw[h0];simp)]
 exact zy2 h1 h2 h3
end
theorem PS.nox'{X:Cx}{st:Stmt}{t:TS}(h:PS X.nox st t):PS X st t:=fun pins s σ H D I hw=>
 wpAny_mono (h pins s σ H D (I.wish _) hw) (fun f s' q=>SP.unwish q) fun _ _ z=>(show False from z).elim
abbrev bmV:List Value:=[.type "ValueError",.type "Exception",.type "BaseException",.type "object"]
abbrev newV:String:="ValueError.__new__"
set_option maxHeartbeats 1000000
set_option maxHeartbeats 2000000
def Itz(K:zcl5)(a b:Addr):It:=
 ⟨fun i H=>∃ xs ys x y,SqL K H a xs/\SqL K H b ys/\xs[i]?=some x/\ys[i]?=some y,
  fun i H v H'=>∃ p x y,v=.ref p/\H p=none/\Same H H'/\H' p=some (.tup [x,y])/\(∀ xs,SqL K H a xs->xs[i]?=some x)/\∀ ys,SqL K H b ys->ys[i]?=some y,
  fun i H=>∃ xs ys,SqL K H a xs/\SqL K H b ys/\(xs.length<=i∨ys.length<=i)⟩
theorem zbs4{P:Program}{w:World}{K:zcl5}{elts:List Expr}{k:Nat}{pos:Pos}(l1 l2 z TI TO i1 i2:Addr)(D:ZipApart z TI TO i1 i2 l1 l2) :
  Turn P w K (.Tuple elts k pos) (Itz K l1 l2) [z,TI,TO,i1,i2] z (fun i h=>IsZip h z TI TO .none/\IsPair h TI (.ref i1) (.ref i2)/\(∃ a b,IsPair h TO a b)/\h.IsListIter i1 l1 i/\h.IsListIter i2 l2 i) where
 mem:=by simp
 obj:=fun i h st b hb=>by
  obtain⟨hz,hTI,⟨a,b',hTO⟩,⟨o1,e1,c1,d1⟩,⟨o2,e2,c2,d2⟩⟩:=st
  simp only[zcm1,zcq3,or_false] at hb
  rcases hb with rfl|rfl|rfl|rfl|rfl
  ·exact⟨_,hz,fun v z=>by cases z⟩
  ·exact⟨_,hTI,fun v z=>by cases z⟩
  ·exact⟨_,hTO,fun v z=>by cases z⟩
  ·exact⟨o1,e1,fun v z=>by rw[d1] at z;cases z⟩
  ·exact⟨o2,e2,fun v z=>by rw[d2] at z;cases z⟩
 keep:=fun i h h' st kp=>by
  obtain⟨hz,hTI,⟨a,b',hTO⟩,h1,h2⟩:=st
  exact⟨kp z (by simp) _ hz,kp TI (by simp) _ hTI,⟨a,b',kp TO (by simp) _ hTO⟩,h1.at fun o x=>kp i1 (by simp) o x,h2.at fun o x=>kp i2 (by simp) o x⟩
 item:=by
  intro X hP hw hK hc i pins s σ H E I hf st hg
  subst hP hw hK
  obtain⟨hz,hTI,⟨a0,b0,hTO⟩,h1,h2⟩:=st
  obtain⟨xs,ys,x,y,hq1,hq2,hx,hy⟩:=hg
  obtain⟨its1,rv1,p1,_⟩:=I.list hq1
  obtain⟨its2,rv2,p2,_⟩:=I.list hq2
  obtain⟨u,hu,ru⟩:=rv1.get hx
  obtain⟨v,hv,rv⟩:=rv2.get hy
  have hzl:z<s.heap.objs.size:=zcm5 hz
  refine wpAny_pyNext_zip_item D hz hTI hTO h1 h2 p1.isList p2.isList (x:=u) (y:=v) (by simpa using hu) (by simpa using hv) fun h3 z3 TO3 j1 j2 T3 sz3 kp3=>?_
  refine⟨_,rfl,wpAny_letOwnedTupleGo_zip z3 fun h4 z4 hs4=>?_⟩
  replace hs4:Heap.SameBut z h3 h4:=hs4
  have kp:∀ b o,b ∉ [z,TI,TO,i1,i2]->s.heap.get? b=some o->h4.get? b=some o:=fun b o hb x=>by
   simp only[zcm1,zcq3,or_false,not_or] at hb
   obtain⟨b1,b2,b3,b4,b5⟩:=hb
   exact (hs4.2 b b1).trans (kp3 b o b1 b3 b4 b5 x)
  have ht4:h4.get? s.heap.objs.size=some { cls:=.type "tuple",data:=.seq #[u,v] }:=(hs4.2 _ (zcu1 hzl)).trans T3
  obtain⟨H',I2,hfr,sH,hH,nH⟩:=I.newTup (t':=s.toks) hf kp (fun b hb=>by
   simp only[zcm1,zcq3,or_false] at hb
   rcases hb with rfl|rfl|rfl|rfl|rfl
   ·exact hzl
   ·exact zcm5 hTI
   ·exact zcm5 hTO
   ·obtain⟨o,ho,_⟩:=h1;exact zcm5 ho
   ·obtain⟨o,ho,_⟩:=h2;exact zcm5 ho) (us:=[u,v]) (xs:=[x,y]) ht4 (.cons ru (.cons rv .nil)) (show 2<=sizeLine by decide)
  exact⟨.ref s.heap.objs.size,_,I2,rfl,⟨_,x,y,rfl,hfr,sH,hH,fun ys hy'=>by rw[I.list_inj hy' hq1];exact hx,fun ys hy'=>by rw[I.list_inj hy' hq2];exact hy⟩,⟨z4,(hs4.2 _ D.TIz).trans (kp3 _ _ D.TIz D.TITO D.TIi1 D.TIi2 hTI),⟨u,v,(hs4.2 _ D.TOz).trans TO3⟩,j1.extBut hs4.extBut D.i1z,j2.extBut hs4.extBut D.i2z⟩,nH⟩
 done:=by
  intro X hP hw hK hc i pins s σ H E I hf st hg
  subst hP hw hK
  obtain⟨hz,hTI,⟨a0,b0,hTO⟩,h1,h2⟩:=st
  obtain⟨xs,ys,hq1,hq2,hx⟩:=hg
  obtain⟨its1,rv1,p1,_⟩:=I.list hq1
  obtain⟨its2,rv2,p2,_⟩:=I.list hq2
  have hl1:=rv1.length
  have hl2:=rv2.length
  refine wpAny_pyNext_zip_end (I.ok.hd hc) D hz hTI hTO h1 h2 p1.isList p2.isList ?_ fun h' kp3=>⟨rfl,?_⟩
  ·rcases hx with hx|hx
   ·exact .inl (by simp;omega)
   ·exact .inr (by simp;omega)
  ·exact I.hidT (t':=s.toks) hf fun b o hb x=>by
    simp only[zcm1,zcq3,or_false,not_or] at hb
    obtain⟨b1,b2,b3,b4,b5⟩:=hb
    exact kp3 b o b1 b3 b4 b5 x
 self:=fun _ _ _ _ _ st h=>wpAny_pyIter_zip st.1 h
section
variable {X:Cx}{K:zcl5}
theorem bt_zip:bootBuiltins "zip"=some (.type "zip"):=by decide +kernel
@[irreducible] def rZip(K:zcl5)(a b:Addr)(H:Hp)(R:It->Hp->Prop):Prop:=(∃ xs,SqL K H a xs)/\(∃ ys,SqL K H b ys)/\R (Itz K a b) H
def qiZip(K:zcl5)(ta:TA):TI:=fun σ H R=>ta σ H fun vs H1=>match vs with
 | [.ref a,.ref b]=>rZip K a b H1 R
 | _=>False
theorem zbv9{elts:List Expr}{k:Nat}{pt:Pos}{a b:Expr}{ta:TA}{p pos:Pos}(hK:X.K=K)(hm:X.mg "zip"=none)(ha:PA X [a,b] ta)(hg:Gl X "zip":=by rfl)(hs:starEach [a,b] X.env=(false,eval a X.env) :: starEach [b] X.env:=by rfl)(hpl:(backTo pos (starEach [b] X.env)).any (·.1)=false:=by rfl) :
  PI X (.Tuple elts k pt) (.Call (.Name "zip" p) [a,b] [] pos) (qiZip K ta):=by
 subst hK
 intro pins s σ H R I h
 refine Call_ (zai2 I hg hm bt_zip (PyProof.Rows.callWith_type1 (thn (ha pos pins s σ H _ I h) fun us s1 ⟨vs,H1,I1,r1,q1⟩=>?_) hs hpl))
 dsimp only at q1
 split at q1
 ·rename_i l m
  unfold rZip at q1
  obtain⟨⟨xs,hq1⟩,⟨ys,hq2⟩,q⟩:=q1
  obtain⟨u1,u2,rfl,rx,ry⟩:=vals2 r1
  cases rx
  cases ry
  obtain⟨its1,rv1,p1,_⟩:=I1.list hq1
  obtain⟨its2,rv2,p2,_⟩:=I1.list hq2
  have l1:@LT.lt Nat _ l s1.heap.objs.size:=by obtain⟨o,ho,_⟩:=p1.isList;exact zcm5 ho
  have l2:@LT.lt Nat _ m s1.heap.objs.size:=by obtain⟨o,ho,_⟩:=p2.isList;exact zcm5 ho
  refine call_zip_2 p1.isList p2.isList fun h' hz hTI hTO j1 j2 hsz hk=>?_
  refine wpAny_pyIter_zip hz ?_
  have I2:Inv X pins σ H1 { s1 with heap:=h' }:=I1.kept (t':=s1.toks) hk
  have D:ZipApart (s1.heap.objs.size+4) (s1.heap.objs.size+2) (s1.heap.objs.size+3) s1.heap.objs.size (s1.heap.objs.size+1) l m:=by
   constructor<;>(intro z;have z:(_:Nat)=_:=z;omega)
  refine⟨_,_,_,Itz X.K l m,H1,rfl,I2,zbs4 l m _ _ _ _ _ D,⟨hz,hTI,⟨_,_,hTO⟩,j1,j2⟩,fun b hb=>?_,q⟩
  have hb':s1.heap.objs.size<=b:=by
   simp only[zcm1,zcq3,or_false] at hb
   rcases hb with rfl|rfl|rfl|rfl|rfl
   ·exact zcv5 _ _
   ·exact zcv5 _ _
   ·exact zcv5 _ _
   ·exact zcm3 _
   ·exact zcv5 _ _
  exact I1.fpOk hb' (I1.hok.fresh hb')
 ·exact q1.elim
end
section
variable {K:zcl5}{g:TG}{tb:TS}{D:Ends}{σ:St}{H:Hp}{R:It->Hp->Prop}
theorem zby3{a b:Addr}{xs ys:List V}(h:SqL K H a xs)(h':SqL K H b ys)(q:R (Itz K a b) H):rZip K a b H R:=by unfold rZip;exact⟨⟨xs,h⟩,⟨ys,h'⟩,q⟩
end
section
variable {X:Cx}{K:zcl5}
end
section
variable {J:It}{n:Nat}{H1:Hp}{X:Nat->V->Hp->Prop}{g:TG}{tt:TT}{te:TE}{σ0:St}{Q:VK}
theorem zac6(w:Wk J n H1 X)(hn:n<sizeLine)(Pv:Addr->Nat->List V->St->Hp->Prop)(h0:∀ acc H,H1 acc=none->Same H1 H->H acc=some (.lst [])->Pv acc 0 [] σ0 H)(hP:∀ acc i ys σ H H',Same H H'->Pv acc i ys σ H->Pv acc i ys σ H')(turn:∀ acc i x ys σ H (R:St->V->Hp->Prop) (S:St->Hp->Prop),i<n->H1 acc=none->Same H1 H->H acc=some (.lst ys)->X i x H->Pv acc i ys σ H ->
   (∀ σ2 v H5,Same H H5->(∀ H6,Chg acc H5 H6->Pv acc (i+1) (ys++[v]) σ2 H6)->R σ2 v H5)->(∀ σ2 H5,Same H H5->Pv acc (i+1) ys σ2 H5->S σ2 H5) ->
   g x σ H fun σ2 H3=>tt σ2 H3 fun b H4=>br b (te σ2 H4 fun v H5=>R σ2 v H5) (S σ2 H4))(fin:∀ acc ys σ H,H1 acc=none->Same H1 H->H acc=some (.lst ys)->Pv acc n ys σ H->Q (.ref acc) H):zac3 J g tt te σ0 H1 Q:=by
 unfold zac3
 intro acc H2 hf hs ha
 refine⟨fun i m ys σ H=>m=n - i/\i<=n/\ys.length<=i/\Same H1 H/\H acc=some (.lst ys)/\Pv acc i ys σ H,⟨n,by simp,zcp2 _,zcm3 _,hs,ha,h0 acc H2 hf hs ha⟩,?_⟩
 rintro i m ys σ H ⟨rfl,hi,hl,s,hy,P⟩
 refine⟨hy,by omega,?_⟩
 by_cases hlt:i<n
 ·refine .inr ⟨w.go i H s hlt,fun x H' y=>?_⟩
  obtain⟨s1,x1⟩:=w.yld i H x H' s hlt y
  refine turn acc i x ys σ H' (fun σ2 v H5=>cPut _ acc ys i (n - i) σ2 v H5) (fun σ2 H4=>zar8 _ ys i (n - i) σ2 H4) hlt hf (s.trans s1) (s1 _ _ hy) x1 (hP _ _ _ _ _ _ s1 P) ?_ ?_
  ·intro σ2 v H5 s5 q
   have s15:=s1.trans s5
   unfold cPut
   refine⟨s15 _ _ hy,fun H6 c6 h6=>⟨n - (i+1),by omega,rfl,hlt,by rw[zcl8];simp;omega,(s.trans s15).chg hf c6,h6,q H6 c6⟩⟩
  ·intro σ2 H5 s5 q
   have s15:=s1.trans s5
   unfold zar8
   exact⟨n - (i+1),by omega,rfl,hlt,by omega,s.trans s15,s15 _ _ hy,q⟩
 ·have e:i=n:=by omega
  subst e
  exact .inl ⟨w.stop H s,fin acc ys σ H hf s hy P⟩
end
end L2
set_option maxHeartbeats 2000000
namespace L2
open PySem PySem.Spec PyProof.Rows
section
variable {X:Cx}{K:zcl5}
@[irreducible] def rTupA(K:zcl5)(p:Addr)(H:Hp)(Q:VK):Prop:=∃ ys,SqL K H p ys/\∀ l H',H l=none->Same H H'->H' l=some (.tup ys)->Q (.ref l) H'
def rTupM(K:zcl5):List V->Hp->VK->Prop:=fun xs H Q=>match xs with
 | [.ref p]=>rTupA K p H Q
 | _=>False
theorem cTupK(hK:X.K=K):zl5 X (.type "tuple") (rTupM K):=fun pins s σ H xs us Q I r h=>by
 subst hK
 unfold rTupM at h
 split at h
 ·unfold rTupA at h
  obtain⟨ys,h1,h2⟩:=h
  exact zaj6 pins s σ H _ us Q I r ⟨_,ys,rfl,.inl ⟨h1,fun l hl=>h2 l _ hl (Same.upd hl) zb4⟩⟩
 ·exact h.elim
theorem zcc2{p:Addr}{H:Hp}{Q:VK}{ys:List V}(h:SqL K H p ys)(q:∀ l H',H l=none->Same H H'->H' l=some (.tup ys)->Q (.ref l) H'):rTupA K p H Q:=by unfold rTupA;exact⟨ys,h,q⟩
end
theorem Same.seqT{K:zcl5}{H H':Hp}{a:Addr}{xs:List V}(e:Same H H')(h:H a=some (.tup xs)):SqT K H' a xs:=SqT.of (e _ _ h)
theorem Wk.tup{K:zcl5}{a:Addr}{xs:List V}{H1:Hp}(h:H1 a=some (.tup xs)):Wk (Itt K a) xs.length H1 fun i x _=>xs[i]?=some x:=
 ⟨fun i H s hi=>⟨xs,xs[i],Same.seqT s h,by simp[hi]⟩,fun H s=>⟨xs,Same.seqT s h,zcm3 _⟩,fun i H x H' s _ y=>by
  obtain⟨e,y⟩:=y
  subst e
  exact⟨Same.refl _,y xs (Same.seqT s h)⟩⟩
set_option maxHeartbeats 4000000
section
variable {X:Cx}{K:zcl5}
end
section
variable {X:Cx}{K:zcl5}{H:Hp}{Q:VK}
end
set_option maxHeartbeats 2000000
def zz6(x0:Str)(names:List (Str×NameKind)):Prop:=names.filter (fun y=>y.2==.cell)=[(x0,.cell)]/\names.lookup x0=some .cell
theorem zah7{x0:Str}:∀ {names:List (Str×NameKind)},names.filter (fun y=>y.2==.cell)=[(x0,.cell)]->∀ (n:Nat) (acc:List (Str×Addr)) (h:Heap),cellsFrom n names acc=(x0,n) :: acc/\pushCells h names=h.push { cls:=.type "cell",data:=.cell none }
 | [],e,_,_,_=>by cases e
 | (y,k) :: r,e,n,acc,h=>by
  by_cases hk:(k==NameKind.cell)=true
  ·have hk':k=.cell:=by simpa using hk
   subst hk'
   rw[List.filter_cons_of_pos (by simp)] at e
   have e1:y=x0:=by have:=congrArg (fun l=>l.head?.map (·.1)) e;simpa using this
   have e2:r.filter (fun y=>y.2==.cell)=[]:=by have:=congrArg List.tail e;simpa using this
   subst e1
   have none:∀ (r:List (Str×NameKind)),r.filter (fun y=>y.2==.cell)=[]->∀ n acc h,cellsFrom n r acc=acc/\pushCells h r=h:=by
    intro r
    induction r with
    | nil=>intro _ n acc h;exact⟨rfl,rfl⟩
    | cons z r ih=>
     obtain⟨z1,z2⟩:=z
     intro e n acc h
     by_cases hz:(z2==NameKind.cell)=true
     ·rw[List.filter_cons_of_pos (by simpa using hz)] at e;cases e
     ·rw[List.filter_cons_of_neg (by simpa using hz)] at e
      unfold cellsFrom pushCells
      rw[if_neg hz,if_neg hz]
      exact ih e n acc h
   unfold cellsFrom pushCells
   rw[if_pos hk,if_pos hk]
   exact⟨(none r e2 _ _ h).1,(none r e2 0 [] _).2⟩
  ·rw[List.filter_cons_of_neg (by simpa using hk)] at e
   unfold cellsFrom pushCells
   rw[if_neg hk,if_neg hk]
   exact zah7 e n acc h
theorem zz6.only{x0:Str}{names:List (Str×NameKind)}(h:zz6 x0 names):∀ y∈names,y.2=.cell->y.1=x0:=fun y hy hc=>by
 have:y∈names.filter (fun y=>y.2==.cell):=List.mem_filter.mpr ⟨hy,by rw[hc];rfl⟩
 rw[h.1] at this
 rw[zcn9.mp this]
theorem zce5{M:Model}{A:Around}{E:Value->Shared->Prop}{s:Shared}{x0:Str}{scope:Scope}{globals:Addr}{cl:List (Str×Addr)}{qual:Str}{env:Env}{Q:Env->Shared->Prop}(hone:zz6 x0 scope.names)(hQ:∀ h₁,h₁=(s.heap.push { cls:=.type "dict",data:=.dict #[] }).push { cls:=.type "cell",data:=.cell none }->Q { scope,locals:=s.heap.objs.size,globals,cells:=(x0,s.heap.objs.size+1) :: cl,qual,func:=none,code:=env.code,frame:=env.frame,builtins:=env.builtins } { s with heap:=h₁ }) :
  wpAny M A (newFunctionEnv scope globals cl [] qual none .none (some env)) Q E s:=by
 simp only[newFunctionEnv,Option.isSome_some,if_true]
 refine zcx4 (wpAny_alloc ?_)
 refine zcx4 (wpAny_layCells _ (fun name kind cells=>by cases hkc:kind==NameKind.cell<;>simp[hkc]) _ _ _ _ ?_)
 have o:=zah7 hone.1 (s.heap.push { cls:=.type "dict",data:=.dict #[] }).objs.size cl (s.heap.push { cls:=.type "dict",data:=.dict #[] })
 rw[show ({ s with heap:=s.heap.push { cls:=.type "dict",data:=.dict #[] } }:Shared).heap=s.heap.push { cls:=.type "dict",data:=.dict #[] } from rfl,o.1,o.2]
 rw[Heap.size_push]
 refine zcx4 ?_
 rw[List.forIn_nil]
 exact zcx5 (zcx5 (hQ _ rfl))
def blk1(x0:Str)(X:Cx)(N:List Str)(scope:Scope)(cl:List (Str×Addr))(C:Addr)(s3:Shared)(H3:Hp)(fp:List Addr):Cx:=
 { X with N:=N,s₀:=s3,H₀:=H3,env:=compEnvC scope ((x0,C+1) :: cl) C X.env,outer:=X.stack,ex:=fp,fn:=fun x=>x==x0,pn:=[],xe:=fun _ _=>False }
theorem zaa9{x0 x:Str}{n c:Addr}{cl:List (Str×Addr)}(h:List.lookup x ((x0,n) :: cl)=some c):(x=x0/\c=n)∨cl.lookup x=some c:=by
 rw[zco3] at h
 cases hx:x==x0 with
 | true=>rw[hx] at h;cases h;exact .inl ⟨by simpa using hx,rfl⟩
 | false=>rw[hx] at h;exact .inr h
theorem zq3{env:Env}{x0:Str}:∀ {names:List (Str×NameKind)}{x:Str}{k':NameKind},(∀ y∈names,y.2=.cell->y.1=x0)->(k'=.cell∨k'=.free) ->
  (names.map fun (n,k)=>if (k==NameKind.free&&env.scope.kind==.function&&env.kindOf n==some .cell) then (n,NameKind.cell) else (n,k)).lookup x=some k'->x=x0∨∃ y∈names,y.1=x/\y.2=.free
 | [],_,_,_,_,h=>by simp at h
 | (n,k) :: r,x,k',hn,hk,h=>by
  have ih:=@zq3 env x0 r x k' (fun y hy=>hn y (zcp7 _ hy)) hk
  replace h:List.lookup x ((if (k==NameKind.free&&env.scope.kind==.function&&env.kindOf n==some .cell)=true then (n,NameKind.cell) else (n,k)) :: List.map (fun (n,k)=>if (k==NameKind.free&&env.scope.kind==.function&&env.kindOf n==some .cell) then (n,NameKind.cell) else (n,k)) r)=some k':=h
  cases hx:x==n with
  | true=>
   have hx':x=n:=by simpa using hx
   by_cases hf:k=.free
   ·exact .inr ⟨(n,k),zcq2,hx'.symm,hf⟩
   ·have hc:¬ (k==NameKind.free&&env.scope.kind==.function&&env.kindOf n==some .cell)=true:=by
     have:(k==NameKind.free)=false:=by simpa using hf
     rw[this];simp
    rw[if_neg hc] at h
    simp only[zco3,hx] at h
    have:k=k':=Option.some.inj h
    subst this
    rcases hk with hk|hk
    ·exact .inl (hx'.trans (hn (n,k) zcq2 hk))
    ·exact absurd hk hf
  | false=>
   have h':List.lookup x (List.map (fun (n,k)=>if (k==NameKind.free&&env.scope.kind==.function&&env.kindOf n==some .cell) then (n,NameKind.cell) else (n,k)) r)=some k':=by
    by_cases hc:(k==NameKind.free&&env.scope.kind==.function&&env.kindOf n==some .cell)=true
    ·rw[if_pos hc] at h;simp only[zco3,hx] at h;exact h
    ·rw[if_neg hc] at h;simp only[zco3,hx] at h;exact h
   rcases ih h' with q|⟨y,hy,h1,h2⟩
   ·exact .inl q
   ·exact .inr ⟨y,zcp7 _ hy,h1,h2⟩
section
variable {X:Cx}{pins:List (Addr×Obj)}{σ:St}{H:Hp}{s2:Shared}
theorem zbt4{x0:Str}{N:List Str}{scope:Scope}{cl:List (Str×Addr)}{C:Addr}{s3 s4:Shared}{H3:Hp}{fp:List Addr}{σc:St}(I:Inv X pins σ H3 s3)(hcl1:∀ x c,cl.lookup x=some c->X.env.cells.lookup x=some c)(hcl2:∀ x∈scope.names,x.2=.free->∃ c,cl.lookup x.1=some c)(hkind:scope.kind=.function)(hone:zz6 x0 scope.names)(hcap:∀ (i:Nat) (x:Str) (v:V),N[i]?=some x->σc[i]?=some (some v)->∃ j:Nat,X.N[j]?=some x/\σ[j]?=some (some v)/\scope.names.lookup x=some .free/\(X.env.kindOf x=some .cell∨X.env.kindOf x=some .free))(hlen:σc.length=N.length)(hC:s3.heap.objs.size=C)(hfp:∀ b∈fp,FpOk X pins H3 b)(hfpl:∀ b∈fp,b<C)(hex:∀ b o,X.base.get? b=some o->b ∉ fp)(hns:∃ m,s4.heap.Ns C m)(hce:s4.heap.IsCell (C+1) none)(hk:∀ b o,s3.heap.get? b=some o->s4.heap.get? b=some o)(h4:s4.os=s3.os)(h5:s4.gens=s3.gens) :
  Inv (blk1 x0 X N scope cl C s3 H3 fp) [] σc H3 s4:=by
 subst hC
 have cne:∀ x c,cl.lookup x=some c->c<s3.heap.objs.size:=fun x c h=>by
  obtain⟨v,o,ho,_⟩:=I.cell x c (hcl1 x c h)
  exact zcm5 ho
 refine⟨⟨I.ok.mod,?_,I.ok.glob,I.ok.blt,zcm3 _,fun x y c h1 h2=>?_,fun x hx=>?_,fun x c hf h=>?_,I.ok.hd,I.ok.frames,.inl rfl,fun b hb=>⟨zco6 (hfpl b hb),fun x c h=>?_⟩,fun b o e=>I.bs b o e,zcp4 I.ok.bsz I.sz,fun b o e=>hex b o e,fun b hb=>?_,I.stack,I.stkFree⟩,
  h4,by rw[h5];exact I.bare,Un.kept hk,?_,fun x c h=>?_,I.hok.fresh (zcm3 _),fun x c h=>?_,fun p hp=>(by cases hp),I.hok.kept hk,hlen⟩
 ·exact hkind
 ·rcases zaa9 h1 with ⟨e1,e2⟩|h1'
  ·rcases zaa9 h2 with ⟨e3,_⟩|h2'
   ·rw[e1,e3]
   ·exact absurd (Nat.lt_trans (Nat.lt_succ_self _) (e2▸cne _ _ h2')) (zct0 _)
  ·rcases zaa9 h2 with ⟨e3,e4⟩|h2'
   ·exact absurd (Nat.lt_trans (Nat.lt_succ_self _) (e4▸cne _ _ h1')) (zct0 _)
   ·exact I.ok.inj x y c (hcl1 _ _ h1') (hcl1 _ _ h2')
 ·have hx':(relabel scope X.env).names.lookup x=some .cell∨(relabel scope X.env).names.lookup x=some .free:=hx
  show ∃ c,List.lookup x ((x0,s3.heap.objs.size+1) :: cl)=some c
  by_cases e0:x=x0
  ·subst e0;exact⟨_,List.lookup_cons_self⟩
  ·have hz:x=x0∨∃ y∈scope.names,y.1=x/\y.2=.free:=by
    rcases hx' with q|q
    ·exact zq3 hone.only (.inl rfl) q
    ·exact zq3 hone.only (.inr rfl) q
   rcases hz with hz|⟨y,hy,rfl,hf⟩
   ·exact absurd hz e0
   ·obtain⟨c,hc⟩:=hcl2 y hy hf
    exact⟨c,by rw[zco3,beq_eq_false_iff_ne.mpr e0];exact hc⟩
 ·have hf:(x==x0)=true:=hf
  have e0:x=x0:=by simpa using hf
  subst e0
  rcases zaa9 h with ⟨_,rfl⟩|h'
  ·exact zcv9 _
  ·have h:List.lookup x ((x,s3.heap.objs.size+1) :: cl)=some c:=h
   rw[zco3,hf] at h
   cases h
   exact zcv9 _
 ·rcases zaa9 h with ⟨_,rfl⟩|h
  ·exact zcu1 (zct1 (hfpl b hb))
  ·exact (hfp b hb).2.2.2.2.1 x c (hcl1 x c h)
 ·intro hz
  obtain⟨f0,f1,f2,_⟩:=hfp b hb
  have hz:b∈frs X.stack:=hz
  rcases zcm1.mp (I.stkSub b hz) with q|q
  ·exact f1 q
  ·exact f2 q
 ·obtain⟨m,hm⟩:=hns
  refine⟨m,hm,fun i x v h1 h2 h3=>?_⟩
  obtain⟨j,e1,e2,e3,e4⟩:=hcap i x v h1 h2
  obtain⟨mX,_,hl⟩:=I.loc
  obtain⟨u,r,q⟩:=hl j x v e1 e2 (by rcases e4 with e4|e4;exact .inr (.inl e4);exact .inr (.inr e4))
  have n0:x≠x0:=fun z=>by rw[z,hone.2] at e3;cases e3
  refine⟨u,r,.inr ⟨zr7 e3,?_⟩⟩
  obtain⟨c,hc⟩:=hcl2 (x,.free) (PySem.mem_of_lookup e3) rfl
  refine⟨c,by show List.lookup x ((x0,s3.heap.objs.size+1) :: cl)=some c;rw[zco3,beq_eq_false_iff_ne.mpr n0];exact hc,?_⟩
  have hc':=hcl1 x c hc
  rcases q with ⟨k,_⟩|⟨_,c2,e5,o,ho,hd⟩
  ·rcases e4 with e4|e4<;>rw[e4] at k<;>cases k
  ·rw[hc'] at e5
   cases e5
   exact⟨o,hk _ _ ho,hd⟩
 ·rcases zaa9 h with ⟨_,rfl⟩|h
  ·exact⟨none,hce⟩
  ·obtain⟨v,o,ho,hd⟩:=I.cell x c (hcl1 x c h)
   exact⟨v,o,hk _ _ ho,hd⟩
 ·rcases zaa9 h with ⟨_,rfl⟩|h
  ·exact I.hok.fresh (zcv9 _)
  ·exact I.freeC x c (hcl1 _ _ h)
theorem zbc5{x0:Str}{E:Value->Shared->Prop}{elt tg iter:Expr}{ifs:List Expr}{scope:Scope}{pos:Pos}{cl:List (Str×Addr)}{N:List Str}{σc:St}{J:It}{fp:List Addr}{it:Addr}{tn:Nat->Heap->Prop}{g:TG}{tt:TT}{te:TE}{Q:VK}{RR:Value->Addr->Result->Shared->Prop}(hcl1:∀ x c,cl.lookup x=some c->X.env.cells.lookup x=some c)(hcl2:∀ x∈scope.names,x.2=.free->∃ c,cl.lookup x.1=some c)(hkind:scope.kind=.function)(hone:zz6 x0 scope.names)(hcap:∀ (i:Nat) (x:Str) (v:V),N[i]?=some x->σc[i]?=some (some v)->∃ j:Nat,X.N[j]?=some x/\σ[j]?=some (some v)/\scope.names.lookup x=some .free/\(X.env.kindOf x=some .cell∨X.env.kindOf x=some .free))(hlen:σc.length=N.length)(hc:X.calm=true)(I:Inv X pins σ H s2)(T:Turn X.prog X.w X.K tg J fp it tn)(st:tn 0 s2.heap)(fpok:∀ b∈fp,FpOk X pins H b)(hg:∀ C s3 H3 fp,PG (blk1 x0 X N scope cl C s3 H3 fp) tg g)(ht:∀ C s3 H3 fp,PTs (blk1 x0 X N scope cl C s3 H3 fp) ifs tt)(he:∀ C s3 H3 fp,PE (blk1 x0 X N scope cl C s3 H3 fp) elt te)(h:zac3 J g tt te σc H Q)(hRR:∀ (acc C:Addr) (H':Hp) (s':Shared),Inv X pins σ H' s'->FpOk X pins H' C->(∃ m,s'.heap.Ns C m)->Q (.ref acc) H'->RR (.ref acc) C (.ok .next) s') :
  wpAny (model X.prog X.w) X.A (newList []) (fun acc s₃=>wpAny (model X.prog X.w) X.A (newFunctionEnv scope X.env.globals cl [] X.env.qual none .none (some X.env)) (fun cenv s₄=>
   codeAny (model X.prog X.w) X.A (.compStart (.ListComp elt [⟨tg,iter,ifs,0⟩] scope pos) 0 (.ref it) acc { cenv with scope:=relabel scope X.env }) (RR acc cenv.locals) s₄) E s₃) E s2:=by
 refine wpAny_newObj_type (zce5 hone fun h₁ hh₁=>?_)
 dsimp only at hh₁ ⊢
 have hf:H s2.heap.objs.size=none:=I.fresh
 have I3:Inv X pins σ (upd H s2.heap.objs.size (.lst [])) { s2 with heap:=s2.heap.push { cls:=.type "list",data:=.seq ([]:List Value).toArray } }:=I.lnew (t':=s2.toks) (its:=[]) .nil (zcp2 _)
 generalize hs3:({ s2 with heap:=s2.heap.push { cls:=.type "list",data:=.seq ([]:List Value).toArray } }:Shared)=s3 at I3
 have hH:s2.heap.push { cls:=.type "list",dict:=none,data:=.seq ([]:List Value).toArray }=s3.heap:=by rw[← hs3]
 rw[hH] at hh₁ ⊢
 have hsz:s3.heap.objs.size=s2.heap.objs.size+1:=by rw[← hH,Heap.size_push]
 have old23:∀ b o,s2.heap.get? b=some o->s3.heap.get? b=some o:=fun b o e=>by rw[← hH];exact zcl7 _ e
 have fplt:∀ b∈fp,b<s2.heap.objs.size:=fun b hb=>by
  obtain⟨o,e,_⟩:=T.obj 0 _ st b hb
  exact zcm5 e
 have fp3:∀ b∈fp,FpOk X pins (upd H s2.heap.objs.size (.lst [])) b:=fun b hb=>by
  obtain⟨f0,f1⟩:=fpok b hb
  refine⟨?_,f1⟩
  rw[zc3 (zco6 (fplt b hb))]
  exact f0
 have old34:∀ b o,s3.heap.get? b=some o->h₁.get? b=some o:=fun b o e=>by rw[hh₁];exact zcl7 _ (zcl7 _ e)
 have hns₁:h₁.Ns s3.heap.objs.size (fun _=>none):=by rw[hh₁];exact (Heap.Ns.new s3.heap (.type "dict")).keeps fun b o e=>zcl7 _ e
 have hce:h₁.IsCell (s3.heap.objs.size+1) none:=⟨{ cls:=.type "cell",data:=.cell none },by rw[hh₁];exact Heap.get?_push_at (by rw[Heap.size_push]) rfl,rfl⟩
 have nob:∀ b o,X.base.get? b=some o->b ∉ fp:=fun b o e hb=>by
  obtain⟨_,_,_,f3,_,_⟩:=fpok b hb
  rcases f3 with f3|f3
  ·exact I.ok.noex b o e f3
  ·exact absurd (zcn8 (zcm5 e) I.ok.bsz) (Nat.not_lt.mpr f3)
 have hs4e:({ s2 with heap:=h₁,toks:=s2.toks }:Shared).os=s3.os:=by rw[← hs3]
 have hs4g:({ s2 with heap:=h₁,toks:=s2.toks }:Shared).gens=s3.gens:=by rw[← hs3]
 have I4:Inv (blk1 x0 X N scope cl s3.heap.objs.size s3 (upd H s2.heap.objs.size (.lst [])) fp) [] σc (upd H s2.heap.objs.size (.lst [])) { s2 with heap:=h₁,toks:=s2.toks }:=
  zbt4 (s4:={ s2 with heap:=h₁,toks:=s2.toks }) I3 hcl1 hcl2 hkind hone hcap hlen rfl fp3 (fun b hb=>zcn8 (fplt b hb) (by rw[hsz];exact zcv9 _)) nob ⟨_,hns₁⟩ hce old34 hs4e hs4g
 have st4:tn 0 h₁:=T.keep _ _ _ st fun b hb o e=>old34 b o (old23 b o e)
 unfold zac3 at h
 obtain⟨W,⟨m0,w0⟩,turn⟩:=h s2.heap.objs.size _ hf (Same.upd hf) zb4
 have loop:codeAny (model X.prog X.w) X.A (.compLoop (.ListComp elt [⟨tg,iter,ifs,0⟩] scope pos) 0 (.ref it) (.ref s2.heap.objs.size) (blk1 x0 X N scope cl s3.heap.objs.size s3 (upd H s2.heap.objs.size (.lst [])) fp).env)
   (RR (.ref s2.heap.objs.size) s3.heap.objs.size) { s2 with heap:=h₁,toks:=s2.toks }:=by
  refine zar4 (fun n s'=>∃ i ys σ' H',Inv (blk1 x0 X N scope cl s3.heap.objs.size s3 (upd H s2.heap.objs.size (.lst [])) fp) [] σ' H' s'/\tn i s'.heap/\(∀ b∈fp,H' b=none)/\W i n ys σ' H') ?_ m0 ⟨0,[],σc,_,I4,st4,fun b hb=>(fp3 b hb).1,w0⟩
  rintro n s5 ⟨i,ys,σ5,H5,I5,st5,fr5,w5⟩
  obtain⟨hacc,hl5,hcase⟩:=turn i n ys σ5 H5 w5
  have stat:∀ {H':Hp},(∀ b∈fp,H' b=none)->∀ b∈fp,FpOk (blk1 x0 X N scope cl s3.heap.objs.size s3 (upd H s2.heap.objs.size (.lst [])) fp) [] H' b:=fun hn b hb=>by
   obtain⟨_,f1,f2,f3,f4,_⟩:=fpok b hb
   refine⟨hn b hb,zco6 (zcn8 (fplt b hb) (by rw[hsz];exact zcv9 _)),fun hz=>?_,.inl hb,fun x c hx=>?_,fun p hp=>by cases hp⟩
   rotate_left
   ·rcases zaa9 hx with ⟨_,rfl⟩|hx
    ·exact zcu1 (zct1 (zcn8 (fplt b hb) (by rw[hsz];exact zcv9 _)))
    ·exact f4 x c (hcl1 x c hx)
   rcases zcm1.mp (I.stkSub b hz) with q|q
   ·exact f1 q
   ·exact f2 q
  rcases hcase with ⟨stop,hq⟩|⟨go,step⟩
  ·refine thn (T.done (blk1 x0 X N scope cl s3.heap.objs.size s3 (upd H s2.heap.objs.size (.lst [])) fp) rfl rfl rfl hc i [] s5 σ5 H5 (fun _ _=>False) I5 (stat fr5) st5 stop) fun r s6 ⟨hr,I6⟩=>?_
   subst hr
   have u1:Un (frs X.stack) fp H (upd H s2.heap.objs.size (.lst [])) s2.heap s3.heap:=Un.laid old23 (zcm3 _) hf
   have u2:Un (frs X.stack) fp (upd H s2.heap.objs.size (.lst [])) H5 s3.heap s6.heap:=I6.base
   have hC:H5 s3.heap.objs.size=none:=I6.free
   obtain⟨m6,hm6,_⟩:=I6.loc
   have hos:s6.os=s2.os:=by rw[I6.os];show s3.os=s2.os;rw[← hs3]
   have hok6:=I6.hok
   have bare6:=I6.bare
   obtain⟨hh,gg,dd,tt',os'⟩:=s6
   obtain rfl:os'=s2.os:=hos
   exact hRR _ _ H5 _ (I.call (h':=hh) (g':=gg) (d':=dd) (t':=tt') (ch:=fp) (u1.trans u2) hok6 bare6 fun b hb=>⟨(fpok b hb).2.2.2.1,(fpok b hb).2.1,(fpok b hb).2.2.2.2.1,(fpok b hb).2.2.2.2.2⟩)
    (I.fpOk (by rw[hsz];exact zcv9 _) hC) ⟨m6,hm6⟩ hq
  ·refine thn (T.item (blk1 x0 X N scope cl s3.heap.objs.size s3 (upd H s2.heap.objs.size (.lst [])) fp) rfl rfl rfl hc i [] s5 σ5 H5 (fun _ _=>False) I5 (stat fr5) st5 go) fun r s6 ⟨u,hr,h6⟩=>?_
   subst hr
   refine thn h6 fun _ s7 ⟨x,H7,I7,r7,y7,st7,fr7⟩=>?_
   have I7':=I7.pinned (stat fr7) (T.obj _ _ st7)
   refine thn (hg _ _ _ _ _ s7 σ5 H7 x u _ I7' r7 (step x H7 y7)) fun _ s8 ⟨σ8,H8,I8,q8⟩=>?_
   refine thn (ht _ _ _ _ _ s8 σ8 H8 _ I8 q8) fun ok s9 ⟨H9,I9,q9⟩=>?_
   have again:∀ {s10:Shared}{σ10:St}{H10:Hp}{zs:List V},Inv (blk1 x0 X N scope cl s3.heap.objs.size s3 (upd H s2.heap.objs.size (.lst [])) fp) ([]++zah4 fp s7.heap) σ10 H10 s10->(∃ m',m'<n/\W (i+1) m' zs σ10 H10) ->
     ∃ m,m<n/\∃ i ys σ' H',Inv (blk1 x0 X N scope cl s3.heap.objs.size s3 (upd H s2.heap.objs.size (.lst [])) fp) [] σ' H' s10/\tn i s10.heap/\(∀ b∈fp,H' b=none)/\W i m ys σ' H':=fun {s10 σ10 H10 zs} I10 ⟨m',hm,w10⟩=>by
    refine⟨m',hm,i+1,zs,σ10,H10,I10.unpinned,T.keep _ _ _ st7 fun b hb o e=>(I10.pin (b,o) (zco1 _ (zco1 _ (zm2 hb e)))).1,fun b hb=>?_,w10⟩
    obtain⟨o,e,d⟩:=T.obj _ _ st7 b hb
    exact (I10.pin (b,o) (zco1 _ (zco1 _ (zm2 hb e)))).2.1
   dsimp only at q9
   rw[zah1] at q9
   cases ok with
   | false=>
    have q9:∃ m',m'<n/\W (i+1) m' ys σ8 H9:=by rw[if_neg zcm2] at q9;unfold zar8 at q9;exact q9
    exact again I9 q9
   | true=>
    have q9:=(if_pos rfl▸q9:te σ8 H9 _)
    refine thn (he _ _ _ _ _ s9 σ8 H9 _ I9 q9) fun v s10 ⟨y,H10,I10,r10,q10⟩=>?_
    unfold cPut at q10
    obtain⟨e10,q10⟩:=q10
    refine thn (zac4 _ s10 σ8 H10 (.ref s2.heap.objs.size) [y] (.ref s2.heap.objs.size) [v] (fun _ H11=>∃ m',m'<n/\W (i+1) m' (ys++[y]) σ8 H11) I10 rfl (.cons r10 .nil) ⟨_,ys,y,rfl,rfl,e10,hl5,q10 _ Chg.upd zb4⟩) fun _ s11 ⟨z,H11,I11,_,q11⟩=>?_
    exact again I11 q11
 exact codeAny_compStart_list loop (T.self _ 0 _ _ _ st4 loop)
def zau1(x0:Str)(scope:Scope):Bool:=scope.names.filter (fun y=>y.2==.cell)==[(x0,.cell)]&&scope.names.lookup x0==some .cell&&scope.names.all fun x=>x.2 != .local || scope.names.lookup x.1==some .local
theorem zbc0{x0:Str}{scope:Scope}(h:zau1 x0 scope=true):zz6 x0 scope.names/\∀ x∈scope.names,x.2=.local->scope.names.lookup x.1=some .local:=by
 unfold zau1 at h
 rw[zcm4,zcm4] at h
 refine⟨⟨by simpa using h.1.1,by simpa using h.1.2⟩,fun x hx hl=>?_⟩
 have:=zcn1.mp h.2 x hx
 simpa [hl] using this
theorem zce7{x0:Str}{elt tg iter:Expr}{ifs:List Expr}{scope:Scope}{pos:Pos}{N:List Str}{ks:List (Option Nat)}{wi:TI}{g:TG}{tt:TT}{te:TE}(hi:PI X tg iter wi)(hg:∀ cl C s3 H3 fp,PG (blk1 x0 X N scope cl C s3 H3 fp) tg g)(ht:∀ cl C s3 H3 fp,PTs (blk1 x0 X N scope cl C s3 H3 fp) ifs tt)(he:∀ cl C s3 H3 fp,PE (blk1 x0 X N scope cl C s3 H3 fp) elt te)(hcap:zab5 X scope N ks)(hc:X.calm=true:=by rfl)(hkind:scope.kind=.function:=by rfl)(hb:freeB scope X.env.kindOf=true:=by rfl)(hn:zau1 x0 scope=true:=by rfl)(hs:∀ x,foldedSetIterable iter X.env x=pure x:=by intro _;rfl) :
  PE X (.ListComp elt [⟨tg,iter,ifs,0⟩] scope pos) (qComp ks wi g tt te):=by
 intro pins s σ H Q I h
 obtain⟨hone,hnames⟩:=zbc0 hn
 obtain⟨cl,hcl,hcl1,hcl2⟩:=zz1 (scope:=scope) (env:=X.env) fun x hx hf=>I.ok.has x.1 (zak7 hb x hx hf)
 rw[eval_ListComp]
 refine wpAny_comprehension_free (use:=none) rfl hs hcl hkind hnames ?_
 show wpAny _ _ (eval iter X.env) _ _ s
 refine thn (hi pins s σ H _ I h) fun v s1 h1=>thn h1 fun itv s2 h2=>?_
 obtain⟨it,fp,tn,J,H2,e,I2,T,st2,f2,q2⟩:=h2
 subst e
 refine zbc5 (RR:=fun acc C=>compPost (model X.prog X.w) X.A X.xe none (EP X pins σ Q) acc C) hcl1 hcl2 hkind hone (hcap.cap σ) (hcap.len σ) hc I2 T st2 f2 (hg cl) (ht cl) (he cl) q2 ?_
 rintro acc C H' s' I' hC ⟨m,hm⟩ hq
 refine⟨m,hm,fun h' hsb=>⟨.ref acc,H',?_,rfl,hq⟩⟩
 exact I'.turned (t':=s'.toks) (fun b o hb e=>hsb.extBut b o hb e) hC.1 hC.2.1 hC.2.2.2.1 hC.2.2.2.2.1 hC.2.2.2.2.2
end
set_option maxHeartbeats 1000000
section
variable {κ:Type}[DecidableEq κ]
def valV(kvs:List (κ×V))(k:κ):Option V:=(kvs.find? fun kv=>decide (kv.1=k)).map (·.2)
def putK(kvs:List (κ×V))(k:κ)(v:V):List (κ×V):=
 if (kvs.any fun kv=>decide (kv.1=k))=true then kvs.map (fun kv=>if kv.1=k then (kv.1,v) else kv) else kvs++[(k,v)]
theorem zx5{p:κ×V}{r:List (κ×V)}{k:κ}(e:p.1=k):valV (p :: r) k=some p.2:=by simp[valV,zcs9,e]
theorem zv8{p:κ×V}{r:List (κ×V)}{k:κ}(e:¬ p.1=k):valV (p :: r) k=valV r k:=by simp[valV,zcs9,e]
theorem zbb2(k:κ):∀ kvs:List (κ×V),(kvs.any fun kv=>decide (kv.1=k))=(valV kvs k).isSome
 | []=>rfl
 | p :: r=>by
  rw[List.any_cons]
  by_cases e:p.1=k
  ·simp only[zx5 e,decide_eq_true e,Bool.true_or,Option.isSome_some]
  ·rw[zv8 e,decide_eq_false e,Bool.false_or];exact zbb2 k r
theorem zae6(kvs:List (κ×V))(k:κ)(v:V):(putK kvs k v).length<=kvs.length+1:=by
 unfold putK
 split
 ·rw[zck9];omega
 ·rw[zcl8,zcn6,zcq5];omega
theorem RelO.isSome_eq{o:Option V}{u:Option Value}(r:RelO o u):o.isSome=u.isSome:=by
 cases o with
 | none=>cases u with
  | none=>rfl
  | some _=>exact (show False from r).elim
 | some _=>cases u with
  | none=>exact (show False from r).elim
  | some _=>rfl
theorem RelO.getD{o:Option V}{u:Option Value}{d:V}{d':Value}(r:RelO o u)(rd:RelV d d'):RelV (o.getD d) (u.getD d'):=by
 cases o with
 | none=>cases u with
  | none=>exact rd
  | some _=>exact (show False from r).elim
 | some _=>cases u with
  | none=>exact (show False from r).elim
  | some _=>exact r
theorem KV.val{kvs:List (κ×V)}{vs:List (κ×Value)}(r:KV kvs vs)(k:κ):RelO (valV kvs k) (valueAt vs k):=by
 unfold KV at r
 induction r with
 | nil=>exact True.intro
 | @cons p q ps qs h t ih=>
  obtain⟨h1,h2⟩:=h
  by_cases e:p.1=k
  ·have e':q.1=k:=h1.symm.trans e
   have b:valueAt (q :: qs) k=some q.2:=by simp[valueAt,zcs9,e']
   rw[zx5 e,b];exact h2
  ·have e':¬ q.1=k:=fun z=>e (h1.trans z)
   have b:valueAt (q :: qs) k=valueAt qs k:=by simp[valueAt,zcs9,e']
   rw[zv8 e,b];exact ih
theorem KV.any{kvs:List (κ×V)}{vs:List (κ×Value)}(r:KV kvs vs)(k:κ):(kvs.any fun kv=>decide (kv.1=k))=vs.any fun kv=>decide (kv.1=k):=by
 unfold KV at r
 induction r with
 | nil=>rfl
 | cons h t ih=>rw[List.any_cons,List.any_cons,ih,h.1]
theorem KV.repl{kvs:List (κ×V)}{vs:List (κ×Value)}(r:KV kvs vs)(k:κ){y:V}{u:Value}(ry:RelV y u) :
  KV (kvs.map fun kv=>if kv.1=k then (kv.1,y) else kv) (vs.map fun kv=>if kv.1=k then (kv.1,u) else kv):=by
 unfold KV at r ⊢
 induction r with
 | nil=>exact .nil
 | @cons p q ps qs h t ih=>
  rw[zcn5,zcn5]
  refine .cons ?_ ih
  obtain⟨h1,h2⟩:=h
  by_cases e:p.1=k
  ·rw[if_pos e,if_pos (h1.symm.trans e)];exact⟨h1,ry⟩
  ·rw[if_neg e,if_neg (fun z=>e (h1.trans z))];exact⟨h1,h2⟩
theorem KV.put{kvs:List (κ×V)}{vs:List (κ×Value)}(r:KV kvs vs)(k:κ){y:V}{u:Value}(ry:RelV y u):KV (putK kvs k y) (stored vs k u):=by
 unfold putK stored
 rw[r.any k]
 by_cases e:(vs.any fun kv=>decide (kv.1=k))=true
 ·rw[if_pos e,if_pos e];exact r.repl k ry
 ·rw[if_neg e,if_neg e];exact Paired.snoc r ⟨rfl,ry⟩
theorem KV.length{kvs:List (κ×V)}{vs:List (κ×Value)}(r:KV kvs vs):kvs.length=vs.length:=Paired.length r
end
theorem kV_is{P:Program}{w:World}{k:Key}{u:Value}(r:RelV (kV k) u):(zh5 P w).is k u=true:=by
 cases k with
 | inl i=>obtain⟨t,e⟩:=(show ∃ t,u=Value.int i t from r);subst e;exact zax0 P w i t
 | inr x=>obtain⟨t,e⟩:=(show ∃ t,u=Value.str x t from r);subst e;exact zav7 P w x t
theorem zas3{P:Program}{w:World}:∀ {ks:List Key}{us:List Value},Vals (ks.map kV) us->ItemsAre (zh5 P w) ks us
 | [],_,r=>by rw[zcu5] at r;cases r;exact .nil
 | k :: ks,_,r=>by
  rw[zcn5] at r
  cases r with
  | cons h t=>exact .cons (kV_is h) (zas3 t)
abbrev KT(H:Hp):List (List Key×V)->List (List Key×Addr×Value)->Prop:=Paired fun p q=>p.1=q.1/\H q.2.1=some (.tup (p.1.map kV))/\RelV p.2 q.2.2
theorem KT.val{H:Hp}{kvs:List (List Key×V)}{xs:List (List Key×Addr×Value)}(r:KT H kvs xs)(k:List Key):RelO (valV kvs k) ((atKey xs k).map (·.2)):=by
 induction r with
 | nil=>exact True.intro
 | @cons p q ps qs h t ih=>
  obtain⟨h1,_,h2⟩:=h
  by_cases e:p.1=k
  ·have e':q.1=k:=h1.symm.trans e
   have b:atKey (q :: qs) k=some q.2:=by simp[atKey,zcs9,e']
   rw[zx5 e,b];exact h2
  ·have e':¬ q.1=k:=fun z=>e (h1.trans z)
   have b:atKey (q :: qs) k=atKey qs k:=by simp[atKey,zcs9,e']
   rw[zv8 e,b];exact ih
theorem KT.repl{H:Hp}{kvs:List (List Key×V)}{xs:List (List Key×Addr×Value)}(r:KT H kvs xs)(k:List Key){y:V}{u:Value}(ry:RelV y u) :
  KT H (kvs.map fun kv=>if kv.1=k then (kv.1,y) else kv) (xs.map (putAt k u)):=by
 induction r with
 | nil=>exact .nil
 | @cons p q ps qs h t ih=>
  rw[zcn5,zcn5]
  refine .cons ?_ ih
  obtain⟨h1,h2,h3⟩:=h
  unfold putAt
  by_cases e:p.1=k
  ·rw[if_pos e,if_pos (h1.symm.trans e)];exact⟨h1,h2,ry⟩
  ·rw[if_neg e,if_neg (fun z=>e (h1.trans z))];exact⟨h1,h2,h3⟩
theorem KT.put{H:Hp}{kvs:List (List Key×V)}{xs:List (List Key×Addr×Value)}(r:KT H kvs xs)(k:List Key){b:Addr}{y:V}{u:Value}(hb:H b=some (.tup (k.map kV)))(ry:RelV y u) :
  KT H (putK kvs k y) (storedH xs k b u):=by
 have e:(kvs.any fun kv=>decide (kv.1=k))=(atKey xs k).isSome:=by
  rw[zbb2,(r.val k).isSome_eq,Option.isSome_map]
 unfold putK storedH
 rw[e]
 by_cases q:(atKey xs k).isSome=true
 ·rw[if_pos q,if_pos q];exact r.repl k ry
 ·rw[if_neg q,if_neg q];exact Paired.snoc r ⟨rfl,hb,ry⟩
theorem KT.keeps{H H':Hp}{kvs:List (List Key×V)}{xs:List (List Key×Addr×Value)}(r:KT H kvs xs)(ht:∀ b ys,H b=some (.tup ys)->H' b=some (.tup ys)):KT H' kvs xs:=
 Paired.mapP r fun _ _ z=>⟨z.1,ht _ _ z.2.1,z.2.2⟩
section
variable {P:Program}{w:World}{H:Hp}{h:Heap}{a:Addr}
theorem rd_of{u:HO}(ok:HOk P w H h)(e:Rd H a u):zf9 P w H h a u:=e.ok ok
theorem zbi5{kvs:List (Key×V)}(ok:HOk P w H h)(e:Rd H a (.dK kvs)):kvs.length<=sizeLine/\(a==sysModules)=false/\∃ vs,KV kvs vs/\h.DictOf (zh5 P w) a vs:=
 show zf9 P w H h a (.dK kvs) from rd_of ok e
theorem zbp5{kvs:List (Key×V)}(ok:HOk P w H h)(e:H a=some (.dK kvs)):kvs.length<=sizeLine/\(a==sysModules)=false/\∃ vs,KV kvs vs/\h.DictOf (zh5 P w) a vs:=zbi5 ok (.inl e)
theorem zay3{ks:List Key}(ok:HOk P w H h)(e:H a=some (.tup (ks.map kV))):(tupleKind (zh5 P w)).is h ks a:=by
 obtain⟨_,its,r,o,h1,h2,n,h3⟩:=(show zf9 P w H h a (.tup (ks.map kV)) from ok a _ e)
 exact⟨o,its.toArray,n,h1,h2,h3,by simpa using zas3 r⟩
theorem zbj2{kvs:List (List Key×V)}(ok:HOk P w H h)(e:Rd H a (.dT kvs)):kvs.length<=sizeLine/\(a==sysModules)=false /\
  ∃ xs,KT H kvs xs/\h.DictOfH (tupleKind (zh5 P w)) a xs:=by
 obtain⟨z,y,xs,r,o,es,ep,h1,h2,h3,h4,h5⟩:=(show zf9 P w H h a (.dT kvs) from rd_of ok e)
 refine⟨z,y,xs,r,o,es,ep,h1,h2,h3,h4,fun x hx=>?_,h5⟩
 have all:∀ {l:List (List Key×V)}{m:List (List Key×Addr×Value)},KT H l m->∀ x∈m,(tupleKind (zh5 P w)).is h x.1 x.2.1:=by
  intro l m q
  induction q with
  | nil=>intro x hx;exact nomatch hx
  | @cons p q ps qs hq t ih=>
   intro x hx
   rcases zcm1.mp hx with e|hx
   ·subst e
    exact zay3 ok (by rw[← hq.1];exact hq.2.1)
   ·exact ih x hx
 exact all r x hx
theorem dt_of{kvs:List (List Key×V)}(ok:HOk P w H h)(e:H a=some (.dT kvs)):kvs.length<=sizeLine/\(a==sysModules)=false /\
  ∃ xs,KT H kvs xs/\h.DictOfH (tupleKind (zh5 P w)) a xs:=zbj2 ok (.inl e)
end
def DGet(H:Hp)(a:Addr)(y:V)(r:Option V):Prop:=
 (∃ kvs k,Rd H a (.dK kvs)/\y=kV k/\r=valV kvs k)∨∃ kvs k b,Rd H a (.dT kvs)/\y=.ref b/\H b=some (.tup (k.map kV))/\r=valV kvs k
def DPut(H:Hp)(a:Addr)(y v:V)(H':Hp):Prop:=
 (∃ kvs k,H a=some (.dK kvs)/\y=kV k/\kvs.length<sizeLine/\H'=upd H a (.dK (putK kvs k v))) ∨
 ∃ kvs k b,H a=some (.dT kvs)/\y=.ref b/\H b=some (.tup (k.map kV))/\kvs.length<sizeLine/\H'=upd H a (.dT (putK kvs k v))
theorem DGet.k{H:Hp}{a:Addr}{kvs:List (Key×V)}{k:Key}(e:H a=some (.dK kvs)):DGet H a (kV k) (valV kvs k):=.inl ⟨kvs,k,.inl e,rfl,rfl⟩
theorem DGet.t{H:Hp}{a b:Addr}{kvs:List (List Key×V)}{k:List Key}(e:H a=some (.dT kvs))(eb:H b=some (.tup (k.map kV))):DGet H a (.ref b) (valV kvs k):=.inr ⟨kvs,k,b,.inl e,rfl,eb,rfl⟩
theorem DPut.k{H:Hp}{a:Addr}{kvs:List (Key×V)}{k:Key}{v:V}(e:H a=some (.dK kvs))(hl:kvs.length<sizeLine):DPut H a (kV k) v (upd H a (.dK (putK kvs k v))):=.inl ⟨kvs,k,e,rfl,hl,rfl⟩
theorem DPut.t{H:Hp}{a b:Addr}{kvs:List (List Key×V)}{k:List Key}{v:V}(e:H a=some (.dT kvs))(eb:H b=some (.tup (k.map kV)))(hl:kvs.length<sizeLine) :
  DPut H a (.ref b) v (upd H a (.dT (putK kvs k v))):=.inr ⟨kvs,k,b,e,rfl,eb,hl,rfl⟩
section
variable {X:Cx}{pins:List (Addr×Obj)}{σ:St}{H:Hp}{s:Shared}{a:Addr}{y v:V}{u r:Value}{o:Option V}{A:Around}{E:Value->Shared->Prop}
theorem Inv.big(I:Inv X pins σ H s):sysModules<s.heap.objs.size:=by
 have h:zcx8<s.heap.objs.size:=(I.mod.glob.keeps I.bk).lt
 exact Nat.lt_trans (by decide) h
theorem zbn9{Q:Value->Shared->Prop}(hu:A.units+1<cLine)(I:Inv X pins σ H s)(g:DGet H a y (some v))(ry:RelV y u)(h:∀ w' s',Inv X pins σ H s'->RelV v w'->Q w' s') :
  wpAny (model X.prog X.w) A (getItem (.ref a) u) Q E s:=by
 rcases g with ⟨kvs,k,e,ey,l⟩|⟨kvs,k,b,e,ey,eb,l⟩
 ·subst ey
  obtain⟨z,hd,vs,rel,dd⟩:=zbi5 I.hok e
  obtain⟨w',hw,rw'⟩:=RelO.some_of (v:=v) (o:=valueAt vs k) (by rw[l];exact rel.val k)
  exact wpAny_getItem_of (kV_is ry) dd.mapOf hw (h w' _ (I.tok _) rw')
 ·subst ey
  cases (show u=Value.ref b from ry)
  obtain⟨z,hd,xs,rel,dd⟩:=zbj2 I.hok e
  obtain⟨w',hw,rw'⟩:=RelO.some_of (v:=v) (o:=(atKey xs k).map (·.2)) (by rw[l];exact rel.val k)
  obtain⟨p,hp,hp2⟩:=zcl6.mp hw
  refine wpAny_getItem_heap (tupleKind_room_in1 hu) (zay3 I.hok eb) dd hp ?_
  rw[hp2]
  exact h w' _ (I.tok _) rw'
theorem zbo3{h':Heap}{t':Nat}{ob:HO}(I:Inv X pins σ H s)(mu:Mut (H a))(hs:Heap.SameBut a s.heap h')(he:∃ q,h'.get? a=some q)(new:zf9 X.prog X.w (upd H a ob) h' a ob) :
  Inv X pins σ (upd H a ob) { s with heap:=h',toks:=t' }:=
 I.write (x:=a) (e:=a) mu (.inl rfl) (fun b q hb z=>(hs.2 b hb).trans z) he new
theorem dk_new{P:Program}{w:World}{H':Hp}{h':Heap}{kvs:List (Key×V)}{vs:List (Key×Value)}(z:kvs.length<=sizeLine)(hd:(a==sysModules)=false)(rel:KV kvs vs)(dd:h'.DictOf (zh5 P w) a vs) :
  zf9 P w H' h' a (.dK kvs):=⟨z,hd,vs,rel,dd⟩
theorem zbk1{H':Hp}{Q:Unit->Shared->Prop}(hu:A.units+1<cLine)(I:Inv X pins σ H s)(g:DPut H a y v H')(ry:RelV y u)(rv:RelV v r)(h:∀ s',Inv X pins σ H' s'->Q () s') :
  wpAny (model X.prog X.w) A (setItem (.ref a) u r) Q E s:=by
 rcases g with ⟨kvs,k,e,ey,l,eH⟩|⟨kvs,k,b,e,ey,eb,l,eH⟩
 ·subst ey eH
  obtain⟨z,hd,vs,rel,dd⟩:=zbp5 I.hok e
  have hz:vs.length<=sizeLine:=by rw[← rel.length];exact z
  have hl:(putK kvs k v).length<=sizeLine:=by have:=zae6 kvs k v;omega
  refine wpAny_setItem_pairs (hsz:=hz) (kV_is ry) dd fun h' dd' hs=>h _ ?_
  have he:∃ q,h'.get? a=some q:=let ⟨q,_,_,hq,_⟩:=dd';⟨q,hq⟩
  exact zbo3 I (by rw[e];exact True.intro) hs he (dk_new hl hd (rel.put k rv) dd')
 ·subst ey eH
  cases (show u=Value.ref b from ry)
  obtain⟨z,hd,xs,rel,dd⟩:=dt_of I.hok e
  have hz:xs.length<=sizeLine:=by rw[← Paired.length rel];exact z
  have hl:(putK kvs k v).length<=sizeLine:=by have:=zae6 kvs k v;omega
  refine wpAny_setItem_heap (hsz:=hz) (tupleKind_room_in1 hu) (zay3 I.hok eb) dd fun h' dd' hs=>h _ ?_
  obtain⟨q,es,ep,hq,h2,h3,h4,_,h5⟩:=dd'
  refine zbo3 I (by rw[e];exact True.intro) hs ⟨q,hq⟩ ⟨hl,hd,_,(rel.put k eb rv).keeps fun c ys ec=>?_,q,es,ep,hq,h2,h3,h4,h5⟩
  rw[zc3 (ne_of ec e (fun z=>nomatch z))]
  exact ec
end
def NoSl(i:Expr):Prop:=∀ ov iv,subscripted i false ov iv=operate [ov,iv] (getItem ov iv)
theorem zcd1{prog:Program}{w:World}{A:Around}{E:Value->Shared->Prop}{s:Shared}{env:Env}{value slice:Expr}{pos:Pos}{T id:String}{Q:Value->Shared->Prop}(hl:typeLookup (.type T) "__getitem__"=pure (some (.builtin id)))(hs:NoSl slice)(h:wpAny (model prog w) A (eval value env) (fun o s₁=>wpAny (model prog w) A (eval slice env) (fun i s₂=>s₂.TypeIs o T/\wpAny (model prog w) A (getItem o i) Q E s₂) E s₁) E s) :
  wpAny (model prog w) A (eval (.Subscript value slice pos) env) Q E s:=by
 refine Subscript_ (wpAny_mono h (fun o s₁ h₁=>wpAny_mono h₁ (fun i s₂ h₂=>?_) fun _ _ x=>x) fun _ _ x=>x)
 obtain⟨hT,h₂⟩:=h₂
 unfold subscriptTail
 refine zcx4 ?_
 rw[getitemInPython_of_ne hT.not_modules]
 refine zcx4 (wpAny_specialOf hT hl ?_)
 have fin:wpAny (model prog w) A (subscripted slice false o i) (fun r s₃=>wpAny (model prog w) A (letTemporaryGo value o r >>= fun _=>pure r) Q E s₃) E s₂:=by
  rw[hs o i]
  exact wpAny_operating (wpAny_mono h₂ (fun r s₃ h₃=>zcx4 (wpAny_letTemporaryGo (zcx5 h₃))) fun _ _ x=>x)
 first
  | exact zcx5 (zcx4 fin)
  | exact zcx4 (zcx5 (zcx4 fin))
  | exact zcx4 fin
theorem zaw7{X:Cx}{pins:List (Addr×Obj)}{σ:St}{H:Hp}{s:Shared}{a:Addr}{y:V}{o:Option V}(I:Inv X pins σ H s)(g:DGet H a y o):s.TypeIs (.ref a) "dict":=by
 rcases g with ⟨kvs,k,e,_,_⟩|⟨kvs,k,b,e,_,_,_⟩
 ·obtain⟨_,_,vs,_,dd⟩:=zbi5 I.hok e
  exact dd.typeIs
 ·obtain⟨_,_,xs,_,dd⟩:=zbj2 I.hok e
  exact dd.typeIs
def tDGet(td ty:TE):TE:=fun σ H Q=>td σ H fun x H1=>ty σ H1 fun y H2=>∃ a v,x=.ref a/\DGet H2 a y (some v)/\Q v H2
def sDPut(td ty tv:TE):TS:=fun D σ H=>tv σ H fun v H1=>td σ H1 fun x H2=>ty σ H2 fun y H3=>∃ a H4,x=.ref a/\DPut H3 a y v H4/\D.nx σ H4
section
variable {X:Cx}{o i e value:Expr}{pos pos' tpos:Pos}{td ty tv:TE}
theorem zca7(hu:X.A.units+1<cLine)(ho:PE X o td)(hi:PE X i ty)(hs:NoSl i):PE X (.Subscript o i pos) (tDGet td ty):=by
 intro pins s σ H Q I h
 refine zcd1 PySem.F.slot_dict_getitem.lookup hs (thn (ho pins s σ H _ I h) fun u s1 ⟨x,H1,I1,rx,q1⟩=>thn (hi pins s1 σ H1 _ I1 q1) fun iv s2 ⟨y,H2,I2,ry,a,v,ex,g,q2⟩=>?_)
 subst ex
 obtain rfl:u=Value.ref a:=rx
 exact⟨zaw7 I2 g,zbn9 hu I2 g ry fun w' s3 I3 rw'=>⟨v,H2,I3,rw',q2⟩⟩
theorem zcd2(hu:X.A.units+1<cLine)(ho:PE X o td)(hi:PE X i ty)(hv:PE X value tv)(hs:swapsWith value (some (.Subscript o i pos')) pos.line X.env=pure false) :
  PS X (.Assign [.Subscript o i pos'] value pos) (sDPut td ty tv):=by
 intro pins s σ H D I h
 refine wpAny_Assign_Subscript (thn (hv pins s σ H _ I h) fun r s1 ⟨v,H1,I1,rv,q1⟩=>thn (ho pins s1 σ H1 _ I1 q1) fun u s2 ⟨x,H2,I2,rx,q2⟩=>thn (hi pins s2 σ H2 _ I2 q2) fun iv s3 ⟨y,H3,I3,ry,a,H4,ex,g,q3⟩=>?_) hs
 subst ex
 obtain rfl:u=Value.ref a:=rx
 exact zbk1 hu I3 g ry rv fun s4 I4=>⟨σ,H4,I4,q3⟩
end
theorem zbv2{P:Program}{w:World}{H:Hp}(h:Heap)(hb:sysModules<h.objs.size):zf9 P w H (h.push { cls:=.type "dict",data:=.dict #[] }) h.objs.size (.dK []):=
 ⟨zcp2 _,beq_eq_false_iff_ne.mpr (Ne.symm (zco6 hb)),[],.nil,Heap.DictOf.new h⟩
theorem zbr6{P:Program}{w:World}{H:Hp}(h:Heap)(hb:sysModules<h.objs.size):zf9 P w H (h.push { cls:=.type "dict",data:=.dict #[] }) h.objs.size (.dT []):=
 ⟨zcp2 _,beq_eq_false_iff_ne.mpr (Ne.symm (zco6 hb)),[],.nil,_,#[],0,zco2 _ rfl,⟨rfl,rfl,rfl⟩,rfl,rfl,zcu7⟩
def tDNewK:TE:=fun _ H Q=>∀ p,H p=none->Q (.ref p) (upd H p (.dK []))
def tDNewT:TE:=fun _ H Q=>∀ p,H p=none->Q (.ref p) (upd H p (.dT []))
section
variable {X:Cx}{pos:Pos}
theorem zbs0:PE X (.Dict [] [] pos) tDNewK:=fun pins s σ H Q I h=>
 wpAny_Dict_empty ⟨.ref s.heap.objs.size,_,I.laid (a:=s.heap.objs.size) (o:=.dK []) (t':=s.toks) (fun _ _ q=>zcl7 _ q) (zcm3 _) (zbv2 s.heap I.big),rfl,h _ (I.hok.fresh (zcm3 _))⟩
theorem zbr8:PE X (.Dict [] [] pos) tDNewT:=fun pins s σ H Q I h=>
 wpAny_Dict_empty ⟨.ref s.heap.objs.size,_,I.laid (a:=s.heap.objs.size) (o:=.dT []) (t':=s.toks) (fun _ _ q=>zcl7 _ q) (zcm3 _) (zbr6 s.heap I.big),rfl,h _ (I.hok.fresh (zcm3 _))⟩
end
structure M2(X:Cx)(o:Expr)(m:Str)(apos:Pos)(e f:Expr)(cpos:Pos):Prop where
 base:attributeBase o m X.env (eval o X.env)=eval o X.env
 few:((backTo cpos (starEach [e,f] X.env)).all (fun x=>!x.1)&&(backToKw cpos (keywordEach [] X.env)).all (fun x=>x.1.isSome)
  && decide (([e,f]:List Expr).length+([]:List Keyword).length+(if ([]:List Keyword).isEmpty then 0 else 1)<30))=true
 line:(apos.endLine==cpos.line)=true
 trees:backTo cpos (starEach [e,f] X.env)=[(false,eval e X.env),(false,eval f X.env)]
def IsD(H:Hp)(a:Addr):Prop:=(∃ kvs,Rd H a (.dK kvs))∨∃ kvs,Rd H a (.dT kvs)
theorem isD_at{X:Cx}{pins:List (Addr×Obj)}{σ:St}{H:Hp}{s:Shared}{a:Addr}(I:Inv X pins σ H s)(d:IsD H a) :
  s.TypeIs (.ref a) "dict"/\(∀ b,Value.ref a=.ref b->∃ ob,s.heap.get? b=some ob/\ob.dict=none)/\(a==sysModules)=false:=by
 rcases d with ⟨kvs,e⟩|⟨kvs,e⟩
 ·obtain⟨_,hd,vs,_,dd⟩:=zbi5 I.hok e
  refine⟨dd.typeIs,fun b q=>?_,hd⟩
  cases q
  obtain⟨ob,_,_,h1,h2,_⟩:=dd
  exact⟨ob,h1,h2.2.1⟩
 ·obtain⟨_,hd,xs,_,dd⟩:=zbj2 I.hok e
  refine⟨dd.typeIs,fun b q=>?_,hd⟩
  cases q
  obtain⟨ob,_,_,h1,h2,_⟩:=dd
  exact⟨ob,h1,h2.2.1⟩
section
variable {X:Cx}{pins:List (Addr×Obj)}{σ:St}{H:Hp}{s:Shared}{a:Addr}{y d:V}{u r:Value}{o:Option V}{A:Around}{E:Value->Shared->Prop}
theorem d_get2{Q:Value->Shared->Prop}(hu:A.units+1<cLine)(I:Inv X pins σ H s)(g:DGet H a y o)(ry:RelV y u)(rd:RelV d r)(h:∀ w' s',Inv X pins σ H s'->RelV (o.getD d) w'->Q w' s') :
  wpAny (model X.prog X.w) A (call (.builtin "dict.get") [.ref a,u,r]) Q E s:=by
 rcases g with ⟨kvs,k,e,ey,l⟩|⟨kvs,k,b,e,ey,eb,l⟩
 ·subst ey
  obtain⟨z,hd,vs,rel,dd⟩:=zbi5 I.hok e
  refine call_meetsIn PySem.F.slot_dict_get dd.typeIs PySem.F.entry_dict_get (PySem.F.args_dict_get_3 _ _ _) (meets_dict_get_default (zh5 X.prog X.w) a (kV_is ry) hd r) ⟨_,dd.mapOf,h _ _ (I.tok _) ?_⟩
  rw[l]
  exact (rel.val k).getD rd
 ·subst ey
  cases (show u=Value.ref b from ry)
  obtain⟨z,hd,xs,rel,dd⟩:=zbj2 I.hok e
  refine call_meetsIn PySem.F.slot_dict_get dd.typeIs PySem.F.entry_dict_get (PySem.F.args_dict_get_3 _ _ _) (meetsH_dict_get_default (tupleKind (zh5 X.prog X.w)) a b hd r) ⟨tupleKind_room_in1 hu,k,xs,zay3 I.hok eb,dd,h _ _ (I.tok _) ?_⟩
  rw[l]
  exact (rel.val k).getD rd
end
def zbh2(td ty tx:TE):TE:=fun σ H Q=>td σ H fun x H1=>∃ a,x=.ref a/\IsD H1 a/\ty σ H1 fun y H2=>tx σ H2 fun z H3=>∃ o,DGet H3 a y o/\Q (o.getD z) H3
section
variable {X:Cx}{o e f:Expr}{apos cpos:Pos}{td ty tx:TE}
theorem zbt7(hu:X.A.units+1<cLine)(ho:PE X o td)(he:PE X e ty)(hf:PE X f tx)(m:M2 X o "get" apos e f cpos):PE X (.Call (.Attribute o "get" apos) [e,f] [] cpos) (zbh2 td ty tx):=by
 intro pins s σ H Q I h
 refine wpAny_Call_method m.base m.few m.line PySem.F.plainAttrs_dict PySem.F.slot_dict_get PySem.F.type_dict_get (thn (ho pins s σ H _ I h) fun u s1 ⟨x,H1,I1,rx,a,ex,d,q1⟩=>?_)
 subst ex
 obtain rfl:u=Value.ref a:=rx
 obtain⟨t1,t2,_⟩:=isD_at I1 d
 refine⟨t1,t2,?_⟩
 rw[m.trees]
 refine Calls.callWith_builtin rfl (Calls.evalArgs_plain (Calls.spliced_cons (thn (he pins s1 σ H1 _ I1 q1) fun iv s2 ⟨y,H2,I2,ry,q2⟩=>
  Calls.spliced_cons (thn (hf pins s2 σ H2 _ I2 q2) fun fv s3 ⟨z,H3,I3,rz,ov,g,q3⟩=>Calls.spliced_nil ?_))))
 exact d_get2 hu I3 g ry rz fun w' s4 I4 rw'=>⟨_,H3,I4,rw',q3⟩
end
set_option maxHeartbeats 2000000
def RawD(h:Heap)(d:Addr)(es:Array DictEntry)(ep:Nat):Prop:=∃ o,h.get? d=some o/\o.ExactDict/\o.data=.dict es ep
theorem RawD.is{s:Shared}{d:Addr}{es:Array DictEntry}{ep:Nat}(x:RawD s.heap d es ep):s.TypeIs (.ref d) "dict":=let ⟨o,a,b,_⟩:=x;⟨o,a,b.1⟩
theorem RawD.lt{h:Heap}{d:Addr}{es:Array DictEntry}{ep:Nat}(x:RawD h d es ep):d<h.objs.size:=let ⟨_,a,_⟩:=x;zcm5 a
theorem RawD.to{h h':Heap}{d:Addr}{es:Array DictEntry}{ep:Nat}(x:RawD h d es ep)(k:∀ o,h.get? d=some o->h'.get? d=some o):RawD h' d es ep:=let ⟨o,a,r⟩:=x;⟨o,k _ a,r⟩
section
variable {prog:Program}{w:World}{A:Around}{E:Value->Shared->Prop}{s:Shared}{d it:Addr}{es:Array DictEntry}{ep:Nat}
theorem zbt9{Q:Value->Shared->Prop}(lo:(d==sysModules)=false)(x:RawD s.heap d es ep)(q:Q (.ref s.heap.objs.size) { s with heap:=s.heap.push { cls:=.type "dict_keyiterator",data:=.fields #[.ref d,.int 0 0,.int es.size 0,.int ep 0] } }) :
  wpAny (model prog w) A (pyIter (.ref d)) Q E s:=by
 obtain⟨o,x1,x2,x3⟩:=id x
 have tt:=x.is
 refine wpAny_pyIter_slot tt F.slot_dict_iter (wpAny_call_entry F.slot_dict_iter tt F.entry_dict_iter ?_ (F.args_dict_iter_1 _))
 unfold Builtin.«dict.__iter__» Builtin.Dict.dictSlotNone
 refine zcx4 (zcx4 (wpAny_notOrdered_dict tt ?_))
 show wpAny (model prog w) _ (pure (Value.ref d)) _ _ s
 refine zcx5 (?_:_)
 show wpAny (model prog w) _ (Builtin.Dict.showsAll d >>= _) _ _ s
 unfold Builtin.Dict.showsAll
 rw[if_neg (fun z=>zcm2 (lo.symm.trans z))]
 refine zcx4 (zcx5 (zcx4 (wpAny_dictEntries x1 x3 (zcx4 (wpAny_dictEpoch x1 x3 ?_)))))
 exact zcx4 (wpAny_newObj_type (zcx5 ⟨_,rfl,"dict_keyiterator",_,⟨_,zco2 _ rfl,rfl⟩,F.slot_dict_keyiterator_next.lookup,by simpa [rawInt] using q⟩))
theorem zbs3{i:Nat}{Q:Option Value->Shared->Prop}(y:s.heap.IsKeyIter it d i es.size ep)(x:RawD s.heap d es ep)(hi:i<es.size)(q:∀ h',h'.IsKeyIter it d (i+1) es.size ep->Heap.SameBut it s.heap h'->Q (some es[i].key) { s with heap:=h' }) :
  wpAny (model prog w) A (pyNext (.ref it)) Q E s:=by
 obtain⟨o,y1,y2,y3⟩:=id y
 obtain⟨od,x1,x2,x3⟩:=id x
 have own:Builtin.Dict_items.ownsTuple "dict_keyiterator"=false:=by decide
 unfold pyNext
 refine zcx4 (wpAny_attempt (wpAny_callSpecial?_slot (name:=Str.ofString "__next__") y.typeIs F.slot_dict_keyiterator_next (wpAny_call_entry F.slot_dict_keyiterator_next y.typeIs F.entry_dict_keyiterator_next ?_ (F.args_dict_keyiterator_next_1 _))))
 refine zcx4 (zcx5 (zcx4 (zcx4 ?_)))
 first|refine zcx4 (wpAny_typeNameOfWhole_keyiter y.typeIs (zcx5 ?_))|refine zcx4 (wpAny_typeNameOf_keyiter y.typeIs (zcx5 ?_))
 refine zcx4 (wpAny_fieldsOf y1 y3 ?_)
 simp only[own,zcs0,if_false]
 show wpAny (model prog w) _ (if (Value.ref d==Value.none)=true then _ else _) _ _ s
 rw[if_neg (show ¬ (Value.ref d==Value.none)=true from zcm2)]
 refine zcx4 (zcx5 (zcx4 (wpAny_dictEntries x1 x3 ?_)))
 rw[if_neg (by simp)]
 refine zcx4 (zcx5 (zcx4 (wpAny_dictEpoch x1 x3 ?_)))
 rw[if_neg (by simp)]
 refine zcx5 (?_:_)
 simp only[show ¬ ((i:Int)<0) from by omega,if_false,zcr3,Array.getElem?_eq_getElem hi]
 refine zcx4 (?_:_)
 first|refine zcx4 (wpAny_typeNameOfWhole_keyiter y.typeIs (zcx5 ?_))|refine zcx4 (wpAny_typeNameOf_keyiter y.typeIs (zcx5 ?_))
 refine zcx4 (wpAny_isOneOf_keyiter y.typeIs ?_)
 show wpAny (model prog w) _ (setField (.ref it) 1 (rawInt ((i:Int)+1)) >>= _) _ _ s
 refine zcx4 (wpAny_setField y1 y3 (by simp) ?_)
 have y':(s.heap.update it (Obj.mapFields (·.setIfInBounds 1 (rawInt ((i:Int)+1))))).IsKeyIter it d (i+1) es.size ep:=
  ⟨_,zcu2 _ y1 (Obj.isFreed_of_fields (Obj.data_mapFields y3 _)),(Obj.cls_mapFields ..).trans y2,by rw[Obj.data_mapFields y3];simp[rawInt]⟩
 refine zcx4 (zcx7 (zcx4 (wpAny_isOneOf_keyiter (s:={ s with heap:=s.heap.update it (Obj.mapFields (·.setIfInBounds 1 (rawInt ((i:Int)+1)))) }) y'.typeIs ?_)))
 show wpAny (model prog w) _ (pure es[i].key) _ _ _
 exact zcx5 (zcx5 ⟨_,rfl,zcx5 (q _ y' (Heap.SameBut.update ..))⟩)
theorem zcf2{i:Nat}{Q:Option Value->Shared->Prop}(hh:A.handled=none)(y:s.heap.IsKeyIter it d i es.size ep)(x:RawD s.heap d es ep)(hi:es.size<=i)(q:∀ h',Heap.ExtBut it s.heap h'->Q none { s with heap:=h' }) :
  wpAny (model prog w) A (pyNext (.ref it)) Q E s:=by
 obtain⟨o,y1,y2,y3⟩:=id y
 obtain⟨od,x1,x2,x3⟩:=id x
 have own:Builtin.Dict_items.ownsTuple "dict_keyiterator"=false:=by decide
 unfold pyNext
 refine zcx4 (wpAny_attempt (wpAny_callSpecial?_slot (name:=Str.ofString "__next__") y.typeIs F.slot_dict_keyiterator_next (wpAny_call_entry F.slot_dict_keyiterator_next y.typeIs F.entry_dict_keyiterator_next ?_ (F.args_dict_keyiterator_next_1 _))))
 refine zcx4 (zcx5 (zcx4 (zcx4 ?_)))
 first|refine zcx4 (wpAny_typeNameOfWhole_keyiter y.typeIs (zcx5 ?_))|refine zcx4 (wpAny_typeNameOf_keyiter y.typeIs (zcx5 ?_))
 refine zcx4 (wpAny_fieldsOf y1 y3 ?_)
 simp only[own,zcs0,if_false]
 show wpAny (model prog w) _ (if (Value.ref d==Value.none)=true then _ else _) _ _ s
 rw[if_neg (show ¬ (Value.ref d==Value.none)=true from zcm2)]
 refine zcx4 (zcx5 (zcx4 (wpAny_dictEntries x1 x3 ?_)))
 rw[if_neg (by simp)]
 refine zcx4 (zcx5 (zcx4 (wpAny_dictEpoch x1 x3 ?_)))
 rw[if_neg (by simp)]
 refine zcx5 (?_:_)
 simp only[show ¬ ((i:Int)<0) from by omega,if_false,zcr3,Array.getElem?_eq_none hi]
 refine zcx4 (?_:_)
 first|refine zcx4 (wpAny_typeNameOfWhole_keyiter y.typeIs (zcx5 ?_))|refine zcx4 (wpAny_typeNameOf_keyiter y.typeIs (zcx5 ?_))
 show wpAny (model prog w) _ (setField (.ref it) 0 .none >>= _) _ _ s
 refine zcx4 (wpAny_setField y1 y3 (by simp) ?_)
 show wpAny (model prog w) _ (newExc (.type "StopIteration") [] >>= _) _ _ _
 refine zcx4 (?_:_)
 unfold newExc newTuple
 refine zcx4 (wpAny_newObj_type ?_ (zcp2 _))
 refine zcx4 (m:=firstArgMember _ _) (wpAny_of_eq (a:=Value.none) (by first|rfl|(unfold firstArgMember;rfl)) ?_)
 refine wpAny_newObj_type ?_ (by size_fits)
 unfold raiseNew
 refine zcx4 (wpAny_handled ?_)
 have hn:A.in1.handled=none:=hh
 rw[hn]
 refine zcx4 (zcx5 (wpAny_throw (?_:_)))
 refine zcx4 (wpAny_isInstance (b:=true) (T:="StopIteration") ⟨_,zco2 _ rfl,rfl⟩ isSubtype_stop ?_)
 exact zcx5 (q _ (((Heap.SameBut.update ..).extBut.push _).push _))
theorem zbt1(hh:A.handled=none)(I:Addr)(ne:d≠I) :
  Walks prog w A I [I,d] [I] es.size (fun i v=>∃ e,es[i]?=some e/\v=e.key) (fun i h=>h.IsKeyIter I d i es.size ep/\RawD h d es ep) where
 sub:=by intro b z;simp at z;simp[z]
 frame:=fun i h h' st k=>⟨st.1.at (k I (by simp)),st.2.to (k d (by simp))⟩
 item:=fun i s Q E hi st q=>zbs3 st.1 st.2 hi fun h' y' hs=>q _ h' s.toks ⟨es[i],by simp[hi],rfl⟩ ⟨y',st.2.to fun o e=>hs.extBut d o ne e⟩ fun b o hb e=>hs.extBut b o (fun z=>hb (by simp[z])) e
 done:=fun s Q E st q=>zcf2 hh st.1 st.2 (zcm3 _) fun h' he=>q h' s.toks fun b o hb e=>he b o (fun z=>hb (by simp[z])) e
 self:=fun i s Q E st q=>wpAny_pyIter_keyiter st.1 q
theorem zcc3(lo:(d==sysModules)=false):PySem.W.KdlSrc prog w "dict" d d es.size (fun i v=>∃ e,es[i]?=some e/\v=e.key) (fun h=>RawD h d es ep) where
 type:=fun s x=>x.is
 there:=fun h x=>⟨x.lt,x.lt⟩
 keep:=fun h h' x k=>x.to fun o e=>k d (Or.inl rfl) o e
 notList:=rfl
 notTuple:=rfl
 hint:=fun A E s Q x q=>PySem.W.kdl_hint_dict x.is q
 iter:=fun A s hh x=>⟨_,_,(fun E Q q=>zbt9 lo x q),zbt1 hh _ (zco6 x.lt),⟨⟨_,zco2 _ rfl,rfl,rfl⟩,x.to fun o e=>zcl7 _ e⟩⟩
end
open PySem.W
section
variable {lt:Nat->Nat->Bool}{n:Nat}
def KW{α:Type}(lt:Nat->Nat->Bool)(n:Nat)(Q:α->Prop):KasT α->Prop
 | .ret a=>Q a
 | .ask i j k=>i<n/\j<n/\KW lt n Q (k (lt i j))
theorem KW.bd{α β:Type}{f:α->KasT β}{Q:β->Prop}:∀ {t:KasT α},KW lt n (fun a=>KW lt n Q (f a)) t->KW lt n Q (t.bind f)
 | .ret _,h=>h
 | .ask _ _ k,⟨h1,h2,h3⟩=>⟨h1,h2,KW.bd (t:=k _) h3⟩
theorem KW.mono{α:Type}{Q Q':α->Prop}(hq:∀ a,Q a->Q' a):∀ {t:KasT α},KW lt n Q t->KW lt n Q' t
 | .ret a,h=>hq a h
 | .ask _ _ k,⟨h1,h2,h3⟩=>⟨h1,h2,KW.mono hq (t:=k _) h3⟩
theorem KW.wp{α:Type}{cmp:Nat->Nat->(Bool->Shared->Prop)->Shared->Prop}{s:Shared}{Q:α->Prop}(hc:∀ i j C,i<n->j<n->C (lt i j) s->cmp i j C s):∀ {t:KasT α},KW lt n Q t->t.kasWp cmp (fun a s'=>s'=s/\Q a) s
 | .ret a,h=>⟨rfl,h⟩
 | .ask i j k,⟨h1,h2,h3⟩=>hc i j _ h1 h2 (KW.wp hc (t:=k _) h3)
def Pm(n:Nat)(p:Array Nat):Prop:=p.toList.Perm (List.range n)
theorem Pm.low{p:Array Nat}(h:Pm n p)(hn:0<n)(i:Nat):p.getD i 0<n:=by
 unfold Array.getD
 split
 ·rename_i hi
  exact zcq7.mp (h.mem_iff.mp (Array.getElem_mem_toList hi))
 ·exact hn
theorem Pm.rev{p:Array Nat}(h:Pm n p)(i j:Nat):Pm n (kas_rev p i j):=(zcr7.mp (mirror_perm p i j _)).trans h
theorem Pm.bub{p:Array Nat}(h:Pm n p)(i j:Nat):Pm n (bubble p i j):=(zcr7.mp (bubble_perm p i j)).trans h
end
section
variable {prog:Program}{w:World}{A:Around}{E:Value->Shared->Prop}{s:Shared}
def midH(h:Heap)(a:Addr)(vs:List Value):Heap:=((h.update a (Obj.mapSeq fun _=>#[])).push (seqObj "tuple" vs.toArray 0)).push (seqObj "list" #[] 0)
theorem zbp9{h:Heap}{a b:Addr}{vs:List Value}{o:Obj}(ne:b≠a)(e:h.get? b=some o):(midH h a vs).get? b=some o:=
 zcl7 _ (zcl7 _ ((Heap.get?_update_ne _ _ _ _ ne).trans e))
theorem zai3{h:Heap}{a b:Addr}{vs:List Value}{out:Array Value}{o:Obj}(ne:b≠a)(e:h.get? b=some o):(sortedHeap h a vs out).get? b=some o:=
 (Heap.get?_update_ne _ _ _ _ ne).trans (zbp9 ne e)
theorem zbq4{h:Heap}{a:Addr}{vs xs:List Value}{n:Nat}(e:h.get? a=some (seqObj "list" xs.toArray n)):∃ c,(midH h a vs).get? a=some (seqObj "list" #[] c)/\(h.update a (Obj.mapSeq fun _=>#[])).get? a=some (seqObj "list" #[] c):=
 ⟨_,zcl7 _ (zcl7 _ (get?_update_seq e fun _=>#[])),get?_update_seq e fun _=>#[]⟩
theorem zap6{h:Heap}{a:Addr}{vs xs:List Value}{n:Nat}{out:Array Value}(e:h.get? a=some (seqObj "list" xs.toArray n)):∃ c,(sortedHeap h a vs out).get? a=some (seqObj "list" out c):=by
 obtain⟨c,h1,_⟩:=zbq4 (vs:=vs) e
 exact⟨_,get?_update_seq h1 fun _=>out⟩
theorem zcb0{a:Addr}{vs:List Value}{n:Nat}{κ:SortKind}{lt:Nat->Nat->Bool}{R:Array Nat->Prop}{P:PySem.Fin->Shared->Prop}(ho:s.heap.get? a=some (seqObj "list" vs.toArray n))(h2:2<=vs.length)(h64:vs.length<64)(hk:∀ Q:SortKind->Shared->Prop,Q κ { s with heap:=midH s.heap a vs }->wpAny (model prog w) A (keyKind' vs.toArray) Q E { s with heap:=midH s.heap a vs })(hc:∀ i j (C:Bool->Shared->Prop),i<vs.length->j<vs.length->C (lt i j) { s with heap:=midH s.heap a vs }->wpAny (model prog w) A (keyLt' κ (vs.getD i Value.none) (vs.getD j Value.none)) C (fun _ _=>False) { s with heap:=midH s.heap a vs })(kw:KW lt vs.length R (kas_sort vs.length))(h:∀ p:Array Nat,p.size=vs.length->R p->P (.done (.ret .none)) { s with heap:=sortedHeap s.heap a vs (List.toArray (p.toList.map fun i=>vs.getD i Value.none)) }) :
  wpAny (model prog w) A (Builtin.«list.sort» ⟨[.ref a],[]⟩) P E s:=by
 obtain⟨c,m1,m2⟩:=zbq4 (vs:=vs) ho
 have zs:¬ vs.toArray.size<2:=by rw[zcl9];omega
 have zl:vs.length<=sizeLine:=by rw[zcx6];omega
 rw[list_sort_plain]
 refine zcx4 (listItems_at ho rfl (zcx4 (listUpdate_at ho rfl ?_ (by rw[zcl9];exact zl) (zcp2 _))))
 refine zcx4 (seqEpoch_at m2 rfl (zcx4 (wpAny_newTuple ?_ zl)))
 refine zcx4 (wpAny_newList ?_ (zcp2 _))
 refine zcx7 (?_:_)
 show wpAny (model prog w) A _ P E { s with heap:=midH s.heap a vs }
 dsimp only
 rw[if_neg zs,if_neg zs]
 refine zcx4 (hk _ ?_)
 have run:=kat_run (prog:=prog) (w:=w) (A:=A) (E:=E) (κ:=κ) (ks:=vs) (vs:=vs) (s:={ s with heap:=midH s.heap a vs }) (Q:=fun st' s'=>s'={ s with heap:=midH s.heap a vs }/\∃ p:Array Nat,p.size=vs.length/\R p/\arrOf st'=p.map (kas_item (vs.toArray.zip vs.toArray))/\failedOf st'=none)
  rfl h2 h64 (fun p st' s' b1 b2 b3 b4=>⟨b4.1,p,b1,b4.2,b2,b3⟩) (KW.wp (cmp:=kas_ask prog w A κ vs) (fun i j C li lj hC=>hc i j C li lj hC) kw)
 refine zcx4 (wpAny_mono run ?_ fun _ _ e=>e)
 rintro⟨⟨⟩,st'⟩ s' ⟨rfl,p,pz,pR,har,hf⟩
 have out:=kat_snds rfl har
 dsimp only
 rw[out]
 refine zcx4 (seqEpoch_at m1 rfl (zcx4 (listUpdate_at m1 rfl ?_ (zcp2 _) ?_)))
 ·rw[hf]
  simp only[bne_self_eq_false,zcs0,if_false]
  exact zcx5 (h p pz pR)
 ·rw[zcl9,zck9,zcm7,pz]
  omega
theorem zbu3{a:Addr}{vs:List Value}{n:Nat}{P:PySem.Fin->Shared->Prop}(ho:s.heap.get? a=some (seqObj "list" vs.toArray n))(h2:vs.length<2)(h:P (.done (.ret .none)) { s with heap:=sortedHeap s.heap a vs vs.toArray }):wpAny (model prog w) A (Builtin.«list.sort» ⟨[.ref a],[]⟩) P E s:=by
 obtain⟨c,m1,m2⟩:=zbq4 (vs:=vs) ho
 have zs:vs.toArray.size<2:=by rw[zcl9];omega
 have zl:vs.length<=sizeLine:=by rw[zcx6];omega
 rw[list_sort_plain]
 refine zcx4 (listItems_at ho rfl (zcx4 (listUpdate_at ho rfl ?_ (by rw[zcl9];exact zl) (zcp2 _))))
 refine zcx4 (seqEpoch_at m2 rfl (zcx4 (wpAny_newTuple ?_ zl)))
 refine zcx4 (wpAny_newList ?_ (zcp2 _))
 refine zcx7 (?_:_)
 show wpAny (model prog w) A _ P E { s with heap:=midH s.heap a vs }
 dsimp only
 rw[if_pos zs,if_pos zs]
 refine zcx4 (zcx5 (?_:_))
 rw[StateT.run_pure]
 refine zcx4 (zcx5 (?_:_))
 dsimp only
 have e:(vs.toArray.zip vs.toArray).map (·.2)=vs.toArray:=by
  apply Array.toList_inj.mp
  simp[List.map_snd_zip]
 show wpAny (model prog w) A (seqEpoch a >>= _) P E _
 refine zcx4 (seqEpoch_at m1 rfl (zcx4 (listUpdate_at m1 rfl ?_ (zcp2 _) ?_)))
 ·simp only[bne_self_eq_false,zcs0,if_false]
  show wpAny (model prog w) A (ret Value.none) P E { s with heap:=sortedHeap s.heap a vs ((vs.toArray.zip vs.toArray).map (·.2)) }
  rw[e]
  exact zcx5 h
 ·show ((vs.toArray.zip vs.toArray).map (·.2)).size<=_
  rw[e,zcl9];omega
end
def ltP(x y:Int×Int):Bool:=if (x.1==y.1)=true then (if (x.2==y.2)=true then false else decide (x.2<y.2)) else decide (x.1<y.1)
def TupI(h:Heap)(v:Value)(x:Int×Int):Prop:=∃ a o t u n,v=.ref a/\h.get? a=some o/\o.cls=.type "tuple"/\o.data=.seq #[.int x.1 t,.int x.2 u] n
theorem TupI.to{h h':Heap}{v:Value}{x:Int×Int}(z:TupI h v x)(k:∀ b o,h.get? b=some o->h'.get? b=some o):TupI h' v x:=
 let ⟨a,o,t,u,n,e,e1,r⟩:=z;⟨a,o,t,u,n,e,k _ _ e1,r⟩
section
variable {prog:Program}{w:World}{A:Around}{E:Value->Shared->Prop}{s:Shared}
theorem zcc8{v v':Value}{x y:Int×Int}{C:Bool->Shared->Prop}(hv:TupI s.heap v x)(hv':TupI s.heap v' y)(h:C (ltP x y) s):wpAny (model prog w) A (keyLt' (tuples' true) v v') C E s:=by
 obtain⟨a,o,t,u,n,rfl,a1,a2,a3⟩:=hv
 obtain⟨b,o',t',u',n',rfl,b1,b2,b3⟩:=hv'
 refine kat_lt a1 a3 b1 b3 ?_
 show KatLex prog w A true false C [(.int x.1 t,.int y.1 t'),(.int x.2 u,.int y.2 u')] 0 s
 unfold ltP at h
 refine kat_cons (wpAny_eqBool_int (kat_go (fun e=>?_) fun e=>?_))
 ·rw[if_pos e] at h
  refine kat_yes (kat_cons (wpAny_eqBool_int (kat_go (fun e2=>?_) fun e2=>?_)))
  ·rw[if_pos e2] at h
   exact kat_yes (kat_nil h)
  ·rw[if_neg (by rw[e2];exact zcm2)] at h
   exact kat_no (kat_one _ _ (wpAny_lt_int h))
 ·rw[if_neg (by rw[e];exact zcm2)] at h
  exact kat_no (oneLt_int h)
theorem zbf8{h:Heap}:∀ {vs:List Value},(∀ v∈vs,∃ x,TupI h v x)->∃ fs,KatTups h vs fs/\fs.length=vs.length/\∀ f∈fs,∃ n t,f=Value.int n t
 | [],_=>⟨[],.nil,rfl,fun _ z=>nomatch z⟩
 | v :: vs,H=>by
  obtain⟨fs,a1,a2,a3⟩:=zbf8 (vs:=vs) fun u hu=>H u (.tail _ hu)
  obtain⟨x,a,o,t,u,n,rfl,b1,b2,b3⟩:=H v (.head _)
  refine⟨.int x.1 t :: fs,KatTups.cons b1 b2 b3 rfl a1,congrArg (·+1) a2,fun f hf=>?_⟩
  rcases zcm1.mp hf with rfl|hf
  ·exact⟨_,_,rfl⟩
  ·exact a3 f hf
theorem zbp8{vs:List Value}{Q:SortKind->Shared->Prop}(H:∀ v∈vs,∃ x,TupI s.heap v x)(h2:2<=vs.length)(h:Q (tuples' true) s):wpAny (model prog w) A (keyKind' vs.toArray) Q E s:=by
 obtain⟨fs,a1,a2,a3⟩:=zbf8 H
 refine kat_kind (T:=.type "int") a1 (by omega) (fun v hv=>?_) rfl h
 obtain⟨n,t,rfl⟩:=a3 v hv
 exact Looks.of_pure rfl
end
section
variable {X:Cx}{K:zcl5}
@[irreducible] def rDG(a:Addr)(y:V)(H:Hp)(Q:VK):Prop:=∃ v,DGet H a y (some v)/\Q v H
def rDGV(x y:V)(H:Hp)(Q:VK):Prop:=match x with
 | .ref a=>rDG a y H Q
 | _=>False
def tDG(td ty:TE):TE:=fun σ H Q=>td σ H fun x H1=>ty σ H1 fun y H2=>rDGV x y H2 Q
theorem tDG_eq(td ty:TE):tDG td ty=tDGet td ty:=by
 funext σ H Q
 unfold tDG tDGet
 congr 1;funext x H1;congr 1;funext y H2
 unfold rDGV
 apply propext
 cases x<;>first
  | (simp only[V.ref.injEq];unfold rDG;exact⟨fun ⟨v,g,q⟩=>⟨_,v,rfl,g,q⟩,fun ⟨a,v,e,g,q⟩=>⟨v,e▸g,q⟩⟩)
  | exact⟨fun z=>z.elim,fun ⟨a,v,e,_⟩=>nomatch e⟩
theorem zbw2{o i:Expr}{td ty:TE}{pos:Pos}(hu:X.A.units+40<cLine)(ho:PE X o td)(hi:PE X i ty)(hs:NoSl i:=by exact fun _ _=>rfl):PE X (.Subscript o i pos) (tDG td ty):=tDG_eq td ty▸zca7 (by omega) ho hi hs
theorem zbx0{a b:Addr}{H:Hp}{Q:VK}{kvs:List (List Key×V)}{k:List Key}{v:V}(e:H a=some (.dT kvs))(eb:H b=some (.tup (k.map kV)))(ev:valV kvs k=some v)(q:Q v H):rDG a (.ref b) H Q:=by
 unfold rDG
 exact⟨v,ev▸DGet.t e eb,q⟩
@[irreducible] def rIsD(a:Addr)(H:Hp)(P:Prop):Prop:=IsD H a/\P
@[irreducible] def rDG2(a:Addr)(y z:V)(H:Hp)(Q:VK):Prop:=∃ o,DGet H a y o/\Q (o.getD z) H
def rDG2V(x:V)(H:Hp)(P:Addr->Prop):Prop:=match x with
 | .ref a=>rIsD a H (P a)
 | _=>False
def tDG2(td ty tx:TE):TE:=fun σ H Q=>td σ H fun x H1=>rDG2V x H1 fun a=>ty σ H1 fun y H2=>tx σ H2 fun z H3=>rDG2 a y z H3 Q
theorem zce8(td ty tx:TE):tDG2 td ty tx=zbh2 td ty tx:=by
 funext σ H Q
 unfold tDG2 zbh2
 congr 1;funext x H1
 unfold rDG2V rIsD rDG2
 apply propext
 cases x<;>first
  | (simp only[V.ref.injEq];exact⟨fun z=>⟨_,rfl,z⟩,fun ⟨a,e,z⟩=>e▸z⟩)
  | exact⟨fun z=>z.elim,fun ⟨a,e,_⟩=>nomatch e⟩
theorem zak3{o e f:Expr}{td ty tx:TE}{apos cpos:Pos}(hu:X.A.units+40<cLine)(ho:PE X o td)(he:PE X e ty)(hf:PE X f tx)(m1:attributeBase o "get" X.env (eval o X.env)=eval o X.env:=by rfl)(m2:((backTo cpos (starEach [e,f] X.env)).all (fun x=>!x.1)&&(backToKw cpos (keywordEach [] X.env)).all (fun x=>x.1.isSome)&&decide (([e,f]:List Expr).length+([]:List Keyword).length+(if ([]:List Keyword).isEmpty then 0 else 1)<30))=true:=by rfl)(m3:(apos.endLine==cpos.line)=true:=by rfl)(m4:backTo cpos (starEach [e,f] X.env)=[(false,eval e X.env),(false,eval f X.env)]:=by rfl):PE X (.Call (.Attribute o "get" apos) [e,f] [] cpos) (tDG2 td ty tx):=
 zce8 td ty tx▸zbt7 (by omega) ho he hf ⟨m1,m2,m3,m4⟩
theorem zbo5{a:Addr}{H:Hp}{P:Prop}{kvs:List (List Key×V)}(e:H a=some (.dT kvs))(p:P):rIsD a H P:=by unfold rIsD;exact⟨.inr ⟨kvs,.inl e⟩,p⟩
theorem zbg0{a b:Addr}{z:V}{H:Hp}{Q:VK}{kvs:List (List Key×V)}{k:List Key}(e:H a=some (.dT kvs))(eb:H b=some (.tup (k.map kV)))(q:Q ((valV kvs k).getD z) H):rDG2 a (.ref b) z H Q:=by
 unfold rDG2
 exact⟨_,DGet.t e eb,q⟩
@[irreducible] def rDP(a:Addr)(y v:V)(H:Hp)(N:Hp->Prop):Prop:=∃ H',DPut H a y v H'/\N H'
def rDPV(x y v:V)(H:Hp)(N:Hp->Prop):Prop:=match x with
 | .ref a=>rDP a y v H N
 | _=>False
def sDP(td ty tv:TE):TS:=fun D σ H=>tv σ H fun v H1=>td σ H1 fun x H2=>ty σ H2 fun y H3=>rDPV x y v H3 (D.nx σ)
theorem sDP_eq(td ty tv:TE):sDP td ty tv=sDPut td ty tv:=by
 funext D σ H
 unfold sDP sDPut
 congr 1;funext v H1;congr 1;funext x H2;congr 1;funext y H3
 unfold rDPV
 apply propext
 cases x<;>first
  | (simp only[V.ref.injEq];unfold rDP;exact⟨fun ⟨H',g,q⟩=>⟨_,H',rfl,g,q⟩,fun ⟨a,H',e,g,q⟩=>⟨H',e▸g,q⟩⟩)
  | exact⟨fun z=>z.elim,fun ⟨a,v,e,_⟩=>nomatch e⟩
theorem zby8{o i value:Expr}{td ty tv:TE}{pos pos':Pos}(hu:X.A.units+40<cLine)(ho:PE X o td)(hi:PE X i ty)(hv:PE X value tv)(hs:swapsWith value (some (.Subscript o i pos')) pos.line X.env=pure false:=by rfl) :
  PS X (.Assign [.Subscript o i pos'] value pos) (sDP td ty tv):=sDP_eq td ty tv▸zcd2 (by omega) ho hi hv hs
theorem zbw5{a b:Addr}{v:V}{H:Hp}{N:Hp->Prop}{kvs:List (List Key×V)}{k:List Key}(e:H a=some (.dT kvs))(eb:H b=some (.tup (k.map kV)))(hl:kvs.length<sizeLine)(q:∀ H',Chg a H H'->H' a=some (.dT (putK kvs k v))->N H'):rDP a (.ref b) v H N:=by
 unfold rDP
 exact⟨_,DPut.t e eb hl,q _ Chg.upd zb4⟩
def pK(x:Int×Int):List Key:=[.inl x.1,.inl x.2]
theorem zae8{α β:Type}{R:α->β->Prop}:∀ {as:List α}{bs:List β},Paired R as bs->∀ (i:Nat) (a:α) (b:β),as[i]?=some a->bs[i]?=some b->R a b:=by
 intro as bs h
 induction h with
 | nil=>intro i a b e;simp at e
 | cons h1 _ ih=>
  intro i a b e1 e2
  cases i with
  | zero=>simp at e1 e2;subst e1;subst e2;exact h1
  | succ j=>simp at e1 e2;exact ih j a b e1 e2
theorem zas8{α β:Type}{R:α->β->Prop}:∀ {as:List α}{bs:List β},as.length=bs.length->(∀ (i:Nat) (a:α) (b:β),as[i]?=some a->bs[i]?=some b->R a b)->Paired R as bs
 | [],[],_,_=>.nil
 | a :: as,b :: bs,hl,h=>.cons (h 0 a b rfl rfl) (zas8 (Nat.succ.inj hl) fun i x y e1 e2=>h (i+1) x y (by simpa using e1) (by simpa using e2))
end
structure Ord(lt:Nat->Nat->Bool):Prop where
 as:∀ i j,lt i j=true->lt j i=false
 tr:∀ i j k,lt j i=false->lt k j=false->lt k i=false
section
variable {lt:Nat->Nat->Bool}{n:Nat}
def gp(p:Array Nat)(i:Nat):Nat:=p.getD i 0
theorem zbp3{p q:Array Nat}{i j:Nat}(h:p[i]?=q[j]?):gp p i=gp q j:=by
 unfold gp
 rw[Array.getD_eq_getD_getElem?,Array.getD_eq_getD_getElem?,h]
theorem zu0{p:Array Nat}{i j:Nat}(hj:j<=p.size)(k:Nat):gp (kas_rev p i j) k=if i<=k/\k<j then gp p (i+j - 1 - k) else gp p k:=by
 have h:=getElem?_mirror_all (xs:=p) (i:=i) hj k
 split
 ·rename_i c;rw[if_pos c] at h;exact zbp3 h
 ·rename_i c;rw[if_neg c] at h;exact zbp3 h
theorem zbx7{p:Array Nat}{k l:Nat}(hk:k<p.size)(hl:l<=k)(i:Nat):gp (bubble p k (k - l)) i=if i=l then gp p k else if l<i/\i<=k then gp p (i - 1) else gp p i:=by
 have h:=getElem?_bubble hk (k - l) (by omega) i
 rw[show k - (k - l)=l by omega] at h
 split
 ·rename_i c;rw[if_pos c] at h;exact zbp3 h
 ·rename_i c
  rw[if_neg c] at h
  split
  ·rename_i c2;rw[if_pos c2] at h;exact zbp3 h
  ·rename_i c2;rw[if_neg c2] at h;exact zbp3 h
def Up(lt:Nat->Nat->Bool)(p:Array Nat)(k:Nat):Prop:=∀ i j,i<=j->j<k->lt (gp p j) (gp p i)=false
def Dn(lt:Nat->Nat->Bool)(p:Array Nat)(k:Nat):Prop:=∀ i j,i<=j->j<k->lt (gp p i) (gp p j)=false
theorem Ord.rf(O:Ord lt)(i:Nat):lt i i=false:=by
 cases h:lt i i with
 | false=>rfl
 | true=>exact absurd (O.as _ _ h) (by rw[h];exact fun w=>nomatch w)
theorem Up.snoc(O:Ord lt){p:Array Nat}{k:Nat}(u:Up lt p k)(hk:1<=k)(h:lt (gp p k) (gp p (k - 1))=false):Up lt p (k+1):=fun i j hij hj=>by
 by_cases e:j=k
 ·subst e
  by_cases e2:i=j
  ·subst e2;exact O.rf _
  ·exact O.tr _ _ _ (u i (j - 1) (by omega) (by omega)) h
 ·exact u i j hij (by omega)
theorem Dn.snoc(O:Ord lt){p:Array Nat}{k:Nat}(u:Dn lt p k)(hk:1<=k)(h:lt (gp p (k - 1)) (gp p k)=false):Dn lt p (k+1):=fun i j hij hj=>by
 by_cases e:j=k
 ·subst e
  by_cases e2:i=j
  ·subst e2;exact O.rf _
  ·exact O.tr _ _ _ h (u i (j - 1) (by omega) (by omega))
 ·exact u i j hij (by omega)
theorem Pm.size{p:Array Nat}(h:Pm n p):p.size=n:=by have:=h.length_eq;rw[zcm7,zcn3] at this;exact this
theorem zbo7(O:Ord lt)(hn:0<n){p:Array Nat}(h:Pm n p):∀ f m,1<=m->Up lt p m->KW lt n (fun r=>m<=r/\r<=m+f/\Up lt p r/\(r<m+f->lt (gp p r) (gp p (r - 1))=true)) (kas_asc p f m)
 | 0,m,_,u=>⟨zcm3 _,zcm3 _,u,fun z=>absurd z (zct0 _)⟩
 | f+1,m,hm,u=>by
  refine⟨h.low hn _,h.low hn _,?_⟩
  dsimp only
  cases e:lt (p.getD m 0) (p.getD (m - 1) 0) with
  | true=>rw[if_pos rfl];exact⟨zcm3 _,zcv5 _ _,u,fun _=>e⟩
  | false=>
   rw[if_neg (by decide)]
   exact KW.mono (fun r hr=>⟨by omega,by omega,hr.2.2.1,fun z=>hr.2.2.2 (by omega)⟩) (zbo7 O hn h f (m+1) (by omega) (u.snoc O hm e))
def Al(lt:Nat->Nat->Bool)(p:Array Nat)(m q:Nat):Prop:=∀ i j,m - (q+1)<=i->i<=j->j<m->lt (gp p j) (gp p i)=false
theorem Dn.al_rev(O:Ord lt){p:Array Nat}{m q:Nat}(hm:m<=p.size)(hq:q+1<=m)(d:Dn lt p m)(al:Al lt p m q):Dn lt (kas_rev p (m - (q+1)) m) m:=fun i j hij hj=>by
 rw[zu0 hm,zu0 hm]
 by_cases ci:m - (q+1)<=i/\i<m
 ·rw[if_pos ci,if_pos ⟨by omega,hj⟩]
  exact al _ _ (by omega) (by omega) (by omega)
 ·rw[if_neg ci]
  split
  ·exact d i _ (by omega) (by omega)
  ·exact d i j hij hj
theorem zam6(O:Ord lt)(hn:0<n):∀ f (p:Array Nat) m q,Pm n p->m+f<=n->q+1<=m->Dn lt p m->Al lt p m q->KW lt n (fun r=>Pm n r.1/\m<=r.2.1/\r.2.1<=m+f/\r.2.2+1<=r.2.1/\Dn lt r.1 r.2.1/\Al lt r.1 r.2.1 r.2.2) (kas_desc f p m q)
 | 0,p,m,q,h,hf,hq,d,al=>⟨h,zcm3 _,zcm3 _,hq,d,al⟩
 | f+1,p,m,q,h,hf,hq,d,al=>by
  have hz:=h.size
  refine⟨h.low hn _,h.low hn _,?_⟩
  dsimp only
  cases e:lt (p.getD m 0) (p.getD (m - 1) 0) with
  | true=>
   rw[if_pos rfl]
   have al0:∀ p':Array Nat,Al lt p' (m+1) 0:=fun p' i j h1 h2 h3=>by
    have:i=j:=by omega
    subst this;exact O.rf _
   split
   ·rename_i q0
    refine KW.mono (fun r hr=>⟨hr.1,by omega,by omega,hr.2.2.2⟩) (zam6 O hn f _ (m+1) 0 (h.rev _ _) (by omega) (by omega) ?_ (al0 _))
    refine (d.al_rev O (by omega) hq al).snoc O (by omega) ?_
    rw[zu0 (by omega),zu0 (by omega),if_pos (by omega),if_neg (by omega),show m - (q+1)+m - 1 - (m - 1)=m - (q+1) by omega]
    exact O.tr _ _ _ (O.as _ _ e) (d _ _ (by omega) (by omega))
   ·exact KW.mono (fun r hr=>⟨hr.1,by omega,by omega,hr.2.2.2⟩) (zam6 O hn f p (m+1) 0 h (by omega) (by omega) (d.snoc O (by omega) (O.as _ _ e)) (al0 _))
  | false=>
   rw[if_neg (by decide)]
   refine⟨h.low hn _,h.low hn _,?_⟩
   dsimp only
   cases e2:lt (p.getD (m - 1) 0) (p.getD m 0) with
   | true=>rw[if_pos rfl];exact⟨h,zcm3 _,zcv5 _ _,hq,d,al⟩
   | false=>
    rw[if_neg (by decide)]
    refine KW.mono (fun r hr=>⟨hr.1,by omega,by omega,hr.2.2.2⟩) (zam6 O hn f p (m+1) (q+1) h (by omega) (by omega) (d.snoc O (by omega) e2) ?_)
    intro i j h1 h2 h3
    by_cases ej:j=m
    ·subst ej
     by_cases ei:i=j
     ·subst ei;exact O.rf _
     ·exact O.tr _ _ _ (al i (j - 1) (by omega) (by omega) (by omega)) e
    ·exact al i j (by omega) h2 (by omega)
theorem Dn.rev{p:Array Nat}{m:Nat}(hm:m<=p.size)(d:Dn lt p m):Up lt (kas_rev p 0 m) m:=fun i j hij hj=>by
 rw[zu0 hm,zu0 hm,if_pos (by omega),if_pos (by omega)]
 exact d _ _ (by omega) (by omega)
theorem zbl0(O:Ord lt)(hn:0<n){m:Nat}{p:Array Nat}(h:Pm n p)(hm:m<=n)(m1:1<=m)(d:Dn lt p m):KW lt n (fun x=>Pm n x.2/\1<=x.1/\x.1<=n/\Up lt x.2 x.1) (kas_tail3 m n p):=
 KW.bd (KW.mono (fun r hr=>⟨h.rev 0 m,by omega,by omega,hr.2.2.1⟩) (zbo7 O hn (h.rev 0 m) (n - m) m m1 (d.rev (by rw[h.size];exact hm))))
theorem zbn2(O:Ord lt)(hn:0<n){m:Nat}{p:Array Nat}(h:Pm n p)(hm:m+1<=n)(d:Dn lt p (m+1)):KW lt n (fun x=>Pm n x.2/\1<=x.1/\x.1<=n/\Up lt x.2 x.1) (kas_descPart m n p):=by
 refine KW.bd (KW.mono (fun r hr=>?_) (zam6 O hn (n - (m+1)) p (m+1) 0 h (by omega) (by omega) d fun i j h1 h2 h3=>?_))
 ·obtain⟨r1,r2,r3,r4,r5,r6⟩:=hr
  split
  ·exact zbl0 O hn (r1.rev _ _) (by omega) (by omega) (r5.al_rev O (by rw[Pm.size r1];omega) r4 r6)
  ·exact zbl0 O hn r1 (by omega) (by omega) r5
 ·have:i=j:=by omega
  subst this;exact O.rf _
theorem zbq7(O:Ord lt)(hn:0<n){p:Array Nat}(h:Pm n p):KW lt n (fun x=>Pm n x.2/\1<=x.1/\x.1<=n/\Up lt x.2 x.1) (kas_count n p):=by
 have u1:Up lt p 1:=fun i j h1 h2=>by
  have:i=j:=by omega
  subst this;exact O.rf _
 refine KW.bd (KW.mono (fun r hr=>?_) (zbo7 O hn h (n - 1) 1 (zcm3 _) u1))
 obtain⟨r1,r2,r3,r4⟩:=hr
 by_cases c:(r==n)=true
 ·rw[if_pos c]
  exact⟨h,r1,by omega,r3⟩
 ·rw[if_neg c]
  have rn:r<n:=by
   have:r≠n:=fun z=>c (by rw[z];exact beq_self_eq_true n)
   omega
  by_cases c2:r>1
  ·rw[if_pos c2]
   refine⟨h.low hn _,h.low hn _,?_⟩
   dsimp only
   cases e:lt (p.getD 0 0) (p.getD (r - 1) 0) with
   | true=>rw[if_pos rfl];exact⟨h,r1,by omega,r3⟩
   | false=>
    rw[if_neg (by decide)]
    have hz:r<=p.size:=by rw[Pm.size h];omega
    have st:=r4 (by omega)
    refine zbn2 O hn (h.rev 0 r) (by omega) (Dn.snoc O (fun i j hij hj=>?_) (by omega) ?_)
    ·rw[zu0 hz,zu0 hz,if_pos (by omega),if_pos (by omega)]
     exact r3 _ _ (by omega) (by omega)
    ·rw[zu0 hz,zu0 hz,if_pos (by omega),if_neg (by omega),show 0+r - 1 - (r - 1)=0 by omega]
     exact O.tr _ _ _ (O.as _ _ st) e
  ·rw[if_neg c2]
   have r0:r=1:=by omega
   subst r0
   have st:=r4 (by omega)
   exact zbn2 O hn h (by omega) (Dn.snoc O (fun i j hij hj=>by
    have:i=j:=by omega
    subst this;exact O.rf _) (zcm3 _) (O.as _ _ st))
theorem zaj4(O:Ord lt)(hn:0<n){p:Array Nat}(h:Pm n p)(k:Nat)(u:Up lt p k):∀ f l r,l<=r->r<=k->r<=l+f->(∀ i,i<l->lt (gp p k) (gp p i)=false)->(∀ i,r<=i->i<k->lt (gp p k) (gp p i)=true) ->
  KW lt n (fun x=>x<=k/\(∀ i,i<x->lt (gp p k) (gp p i)=false)/\∀ i,x<=i->i<k->lt (gp p k) (gp p i)=true) (kas_place p k f l r)
 | 0,l,r,h1,h2,h3,a,b=>by
  have:r=l:=by omega
  subst this
  exact⟨h2,a,b⟩
 | f+1,l,r,h1,h2,h3,a,b=>by
  unfold kas_place
  by_cases c:l≥r
  ·rw[if_pos c]
   have:r=l:=by omega
   subst this
   exact⟨h2,a,b⟩
  ·rw[if_neg c]
   refine⟨h.low hn _,h.low hn _,?_⟩
   dsimp only
   cases e:lt (p.getD k 0) (p.getD ((l+r) / 2) 0) with
   | true=>
    rw[if_pos rfl]
    refine zaj4 O hn h k u f l ((l+r) / 2) (by omega) (by omega) (by omega) a fun i hi hk=>?_
    cases e2:lt (gp p k) (gp p i) with
    | true=>rfl
    | false=>
     have:=O.tr _ _ _ (u ((l+r) / 2) i hi hk) (show lt (gp p k) (gp p i)=false from e2)
     rw[show lt (gp p k) (gp p ((l+r) / 2))=true from e] at this
     cases this
   | false=>
    rw[if_neg (by decide)]
    refine zaj4 O hn h k u f ((l+r) / 2+1) r (by omega) h2 (by omega) (fun i hi=>?_) b
    exact O.tr _ _ _ (u i ((l+r) / 2) (by omega) (by omega)) e
theorem up_bub(O:Ord lt){p:Array Nat}{k l:Nat}(hk:k<p.size)(u:Up lt p k)(hl:l<=k)(a:∀ i,i<l->lt (gp p k) (gp p i)=false)(b:∀ i,l<=i->i<k->lt (gp p k) (gp p i)=true):Up lt (bubble p k (k - l)) (k+1):=fun i j hij hj=>by
 rw[zbx7 hk hl,zbx7 hk hl]
 by_cases ci:i=l
 ·rw[if_pos ci]
  by_cases cj:j=l
  ·rw[if_pos cj];exact O.rf _
  ·rw[if_neg cj,if_pos (by omega)]
   exact O.as _ _ (b (j - 1) (by omega) (by omega))
 ·rw[if_neg ci]
  by_cases cj:j=l
  ·rw[if_pos cj,if_neg (by omega)]
   exact a i (by omega)
  ·rw[if_neg cj]
   by_cases di:l<i/\i<=k
   ·rw[if_pos di,if_pos (by omega)]
    exact u _ _ (by omega) (by omega)
   ·rw[if_neg di]
    by_cases dj:l<j/\j<=k
    ·rw[if_pos dj]
     exact u _ _ (by omega) (by omega)
    ·rw[if_neg dj]
     exact u _ _ hij (by omega)
theorem zbz5(O:Ord lt)(hn:0<n):∀ f (p:Array Nat) k,Pm n p->k+f=n->Up lt p k->KW lt n (fun p'=>Pm n p'/\Up lt p' n) (kas_bin f p k)
 | 0,p,k,h,e,u=>by
  have:k=n:=by omega
  subst this
  exact⟨h,u⟩
 | f+1,p,k,h,e,u=>by
  refine KW.bd (KW.mono (fun l hl=>?_) (zaj4 O hn h k u k 0 k (zcp2 _) (zcm3 _) (by omega) (fun i hi=>absurd hi (Nat.not_lt_zero _)) fun i h1 h2=>absurd h2 (by omega)))
  exact zbz5 O hn f _ (k+1) (h.bub _ _) (by omega) (up_bub O (by rw[Pm.size h];omega) u hl.1 hl.2.1 hl.2.2)
theorem zce3(O:Ord lt)(hn:0<n):KW lt n (fun p=>Pm n p/\Up lt p n) (kas_sort n):=by
 have h0:Pm n (List.toArray (List.range n)):=List.Perm.refl _
 refine KW.bd (KW.mono (fun r hr=>?_) (zbq7 O hn h0))
 obtain⟨r1,r2,r3,r4⟩:=hr
 by_cases c:r.1<n
 ·rw[if_pos c,show max r.1 1=r.1 by omega]
  exact zbz5 O hn _ _ _ r1 (by omega) r4
 ·rw[if_neg c]
  have e:r.1=n:=by omega
  exact⟨r1,e▸r4⟩
end
theorem zv0{x y:Int×Int}:ltP x y=true↔x.1<y.1∨(x.1=y.1/\x.2<y.2):=by
 unfold ltP
 by_cases e:x.1=y.1
 ·rw[if_pos (beq_iff_eq.mpr e)]
  by_cases e2:x.2=y.2
  ·rw[if_pos (beq_iff_eq.mpr e2)]
   exact⟨(fun h=>by cases h),fun h=>by omega⟩
  ·rw[if_neg (fun h=>e2 (beq_iff_eq.mp h)),decide_eq_true_iff]
   exact⟨fun h=>.inr ⟨e,h⟩,fun h=>by omega⟩
 ·rw[if_neg (fun h=>e (beq_iff_eq.mp h)),decide_eq_true_iff]
  exact⟨fun h=>.inl h,fun h=>by omega⟩
theorem zaf6{x y:Int×Int}:ltP x y=false↔¬ (x.1<y.1∨(x.1=y.1/\x.2<y.2)):=by
 rw[← zv0]
 cases ltP x y<;>simp
theorem ord_P(xs:Nat->Int×Int):Ord (fun i j=>ltP (xs i) (xs j)) where
 as:=fun i j h=>by
  have h:=zv0.mp h
  exact zaf6.mpr (by omega)
 tr:=fun i j k h1 h2=>by
  have h1:=zaf6.mp h1
  have h2:=zaf6.mp h2
  exact zaf6.mpr (by omega)
section
variable {prog:Program}{w:World}{A:Around}{E:Value->Shared->Prop}{s:Shared}
theorem zbi6{D:Addr}{vs:List Value}{xs:Nat->Int×Int}{P:PySem.Fin->Shared->Prop}(ho:s.heap.get? D=some (seqObj "list" vs.toArray 0))(h64:vs.length<64)(H:∀ i,i<vs.length->TupI s.heap (vs.getD i Value.none) (xs i))(h:∀ (p:List Nat) (c:Nat) (hF:Heap),p.Perm (List.range vs.length)->p.Pairwise (fun i j=>ltP (xs j) (xs i)=false)->(∀ b o,b≠D->s.heap.get? b=some o->hF.get? b=some o)->hF.get? D=some (seqObj "list" (List.toArray (p.map fun i=>vs.getD i Value.none)) c)->P (.done (.ret .none)) { s with heap:=hF }) :
  wpAny (model prog w) A (Builtin.«list.sort» ⟨[.ref D],[]⟩) P E s:=by
 by_cases h2:vs.length<2
 ·refine zbu3 ho h2 ?_
  obtain⟨c,hc⟩:=zap6 (vs:=vs) (out:=vs.toArray) ho
  refine h (List.range vs.length) c _ (List.Perm.refl _) ?_ (fun b o ne e=>zai3 ne e) ?_
  ·have:vs.length=0∨vs.length=1:=by omega
   rcases this with e|e<;>rw[e]
   ·exact List.Pairwise.nil
   ·exact List.pairwise_singleton _ _
  ·rw[hc]
   have e:(List.range vs.length).map (fun i=>vs.getD i Value.none)=vs:=by
    apply zcw9 (by simp)
    intro i h1 h2
    simp at h1 h2
    simp[h2]
   rw[e]
 ·have old:∀ v,v∈vs->∃ i,i<vs.length/\vs.getD i Value.none=v:=fun v hv=>by
   obtain⟨i,hi,e⟩:=List.mem_iff_getElem.mp hv
   exact⟨i,hi,by simp[hi,e]⟩
  have nD:∀ {v:Value}{x:Int×Int},TupI s.heap v x->TupI (midH s.heap D vs) v x:=fun {v x} z=>by
   obtain⟨a,o,t,u,n,e,e1,e2,e3⟩:=z
   refine⟨a,o,t,u,n,e,zbp9 (fun q=>?_) e1,e2,e3⟩
   rw[q,ho] at e1
   cases e1
   have e2':Value.type "list"=Value.type "tuple":=e2
   exact absurd e2' (by decide)
  refine zcb0 (κ:=tuples' true) (lt:=fun i j=>ltP (xs i) (xs j)) ho (by omega) h64 (fun Q q=>zbp8 (s:={ s with heap:=midH s.heap D vs }) (fun v hv=>?_) (by omega) q) (fun i j C li lj q=>zcc8 (s:={ s with heap:=midH s.heap D vs }) (nD (H i li)) (nD (H j lj)) q) (zce3 (ord_P xs) (by omega)) fun p pz pR=>?_
  ·obtain⟨i,hi,rfl⟩:=old v hv
   exact⟨_,nD (H i hi)⟩
  ·obtain⟨c,hc⟩:=zap6 (vs:=vs) (out:=List.toArray (p.toList.map fun i=>vs.getD i Value.none)) ho
   refine h p.toList c _ pR.1 ?_ (fun b o ne e=>zai3 ne e) hc
   rw[zcr0]
   intro i j hi hj hij
   rw[zcm7] at hi hj
   have:=pR.2 i j (zcu3 hij) (by omega)
   unfold gp at this
   simpa [Array.getD,hi,hj] using this
theorem zax5{d:Addr}{es:Array DictEntry}{ep:Nat}{xs:Nat->Int×Int}{Q:Value->Shared->Prop}(lo:(d==sysModules)=false)(hh:A.handled=none)(x:RawD s.heap d es ep)(h64:es.size<64)(H:∀ i e,es[i]?=some e->TupI s.heap e.key (xs i))(h:∀ (h1 hF:Heap) (tk c:Nat) (p:List Nat) (vs:List Value),(∀ b o,s.heap.get? b=some o->h1.get? b=some o)->(∀ b o,h1.get? b=some o->hF.get? b=some o)->p.Perm (List.range es.size)->p.Pairwise (fun i j=>ltP (xs j) (xs i)=false)->vs=es.toList.map (·.key) ->
   hF.get? h1.objs.size=some (seqObj "list" (List.toArray (p.map fun i=>vs.getD i Value.none)) c)->Q (.ref h1.objs.size) { s with heap:=hF,toks:=tk }) :
  wpAny (model prog w) A (call (.builtin "sorted") [.ref d]) Q E s:=by
 have zl:es.size<=sizeLine:=by rw[zcx6];omega
 refine Calls.call_function_entry kind_sorted plain_sorted entry_sorted (args_sorted1 _) ?_
 unfold Builtin.«sorted»
 refine zcx4 (m:=checkCount "sorted" 1 1 _) (zcx5 (zcx4 (kdu_collect (A:=A.in1) (zcc3 lo) hh x zl fun h1 tk acc k1 it=>?_)))
 have len:acc.toList.length=es.size:=by rw[zcm7];exact it.1
 have ev:acc.toList=es.toList.map (·.key):=by
  apply zcw9 (by rw[len,zck9,zcm7])
  intro i a1 a2
  rw[zcm7] at a1
  obtain⟨e,e1,e2⟩:=it.2 i acc[i] (by simp[a1])
  simp only[zct8,zcx0]
  rw[e2]
  obtain⟨q1,q2⟩:=Array.getElem?_eq_some_iff.mp e1
  rw[← q2]
 refine zcx4 (wpAny_newList ?_ (by rw[len];exact zl))
 have hD:(h1.push (seqObj "list" acc.toList.toArray 0)).get? h1.objs.size=some (seqObj "list" acc.toList.toArray 0):=zco2 _ rfl
 show wpAny (model prog w) _ _ _ _ { s with heap:=h1.push (seqObj "list" acc.toList.toArray 0),toks:=tk }
 refine zcx4 (zcx7 (wpAny_call_entry slot_list_sort ⟨_,hD,rfl⟩ entry_list_sort (zbi6 (xs:=xs) (s:={ s with heap:=h1.push (seqObj "list" acc.toList.toArray 0),toks:=tk }) hD (by rw[len];exact h64) (fun i hi=>?_) fun p c hF pp po kF eF=>⟨_,rfl,?_⟩) (args_list_sort _)))
 ·rw[len] at hi
  have z:=(H i es[i] (by simp[hi])).to k1
  have e:acc.toList.getD i Value.none=es[i].key:=by rw[ev];simp[hi]
  rw[e]
  exact z.to fun b o q=>zcl7 _ q
 ·refine zcx5 ⟨_,rfl,h h1 hF tk c p acc.toList k1 (fun b o e=>kF b o (zco6 (zcm5 e)) (zcl7 _ e)) (by rw[← len];exact pp) po ev eF⟩
end
section
variable {X:Cx}{K:zcl5}
def OrdK(ks:List (Int×Int)):Prop:=ks.Nodup/\ks.Pairwise (fun x y=>ltP x y=true)
@[irreducible] def rSoO(a:Addr)(H:Hp)(Q:VK):Prop:=∃ kvs:List ((Int×Int)×V),H a=some (.dT (kvs.map fun z=>(pK z.1,z.2)))/\kvs.length<64 /\
 ∀ p H' (bs:List Addr) (ks:List (Int×Int)),H p=none->Same H H'->ks.Perm (kvs.map (·.1))->OrdK ks->Paired (fun b x=>H' b=some (.tup [.int x.1,.int x.2])) bs ks->H' p=some (.lst (bs.map V.ref))->Q (.ref p) H'
def rSoOM:List V->Hp->VK->Prop:=fun xs H Q=>match xs with
 | [.ref p]=>rSoO p H Q
 | _=>False
theorem zbv7{a:Addr}{H:Hp}{Q:VK}{kvs:List ((Int×Int)×V)}(h:H a=some (.dT (kvs.map fun z=>(pK z.1,z.2))))(hl:kvs.length<64)(q:∀ p H' (bs:List Addr) (ks:List (Int×Int)),H p=none->Same H H'->ks.Perm (kvs.map (·.1))->OrdK ks->Paired (fun b x=>H' b=some (.tup [.int x.1,.int x.2])) bs ks->H' p=some (.lst (bs.map V.ref))->Q (.ref p) H'):rSoO a H Q:=by unfold rSoO;exact⟨kvs,h,hl,q⟩
theorem zce2{ks:List (Int×Int)}(nd:ks.Nodup)(h:ks.Pairwise (fun x y=>ltP y x=false)):OrdK ks:=by
 refine⟨nd,?_⟩
 refine List.Pairwise.imp (fun {x y} z=>?_) (List.Pairwise.and nd h)
 have z2:=zaf6.mp z.2
 refine zv0.mpr ?_
 have ne:¬ (x.1=y.1/\x.2=y.2):=fun w=>z.1 (Prod.ext w.1 w.2)
 omega
theorem zby2(hc:X.calm=true):zl5 X (.builtin "sorted") rSoOM:=fun pins s σ H xs us Q I r h=>by
 unfold rSoOM at h
 split at h
 ·rename_i p
  unfold rSoO at h
  obtain⟨kvs,h1,h2,h3⟩:=h
  obtain⟨u1,rfl,rx⟩:=zac1 r
  cases rx
  obtain⟨zl,lo,ys,kt,o,es,ep,e1,e2,e3,e4,e5⟩:=dt_of I.hok h1
  have lk:ys.length=kvs.length:=by have:=Paired.length kt;rw[zck9] at this;exact this.symm
  have le:es.size=kvs.length:=by rw[← zcm7,e4,zck9,lk]
  have at_:∀ i,(hi:i<kvs.length)->∃ b v,ys[i]?=some (pK kvs[i].1,b,v)/\H b=some (.tup [.int kvs[i].1.1,.int kvs[i].1.2]):=fun i hi=>by
   have hy:i<ys.length:=lk▸hi
   have z:=zae8 kt i (pK kvs[i].1,kvs[i].2) ys[i] (by simp[hi]) (by simp[hy])
   refine⟨ys[i].2.1,ys[i].2.2,?_,z.2.1⟩
   rw[zcl0 hy]
   have z1:pK kvs[i].1=ys[i].1:=z.1
   rw[z1]
  have ke:∀ i e,es[i]?=some e->∃ hi:i<kvs.length,∃ b v,ys[i]?=some (pK kvs[i].1,b,v)/\e.key=.ref b/\H b=some (.tup [.int kvs[i].1.1,.int kvs[i].1.2]):=fun i e q=>by
   obtain⟨q1,q2⟩:=Array.getElem?_eq_some_iff.mp q
   have hi:i<kvs.length:=le▸q1
   obtain⟨b,v,y1,y2⟩:=at_ i hi
   refine⟨hi,b,v,y1,?_,y2⟩
   rw[← zct5,e4,zcl2,y1] at q
   simp only[Option.map_some,Option.some.injEq] at q
   rw[← q];rfl
  refine zax5 (xs:=fun i=>((kvs.map (·.1))[i]?).getD (0,0)) lo (I.ok.hd hc) (d:=p) (es:=es) (ep:=ep) ⟨o,e1,e2,e3⟩ (by omega) (fun i e q=>?_) fun h' hF tk c pm vs k1 kF pp po ev eF=>?_
  ·obtain⟨hi,b,v,_,q2,q3⟩:=ke i e q
   obtain⟨_,its,rv,ob,b1,b2,n,b3⟩:=(show zf9 X.prog X.w H s.heap b (.tup [.int kvs[i].1.1,.int kvs[i].1.2]) from I.hok b _ q3)
   obtain⟨v1,v2,rfl,w1,w2⟩:=vals2 rv
   obtain⟨t1,rfl⟩:=w1
   obtain⟨t2,rfl⟩:=w2
   have ex:((kvs.map (·.1))[i]?).getD (0,0)=kvs[i].1:=by simp[hi]
   rw[ex,q2]
   exact⟨b,ob,t1,t2,n,rfl,b1,b2,b3⟩
  ·have hp:p<s.heap.objs.size:=zcm5 e1
   have I1:Inv X pins σ H { s with heap:=h',toks:=tk }:=I.kept k1
   have fr:H h'.objs.size=none:=I1.fresh
   let as:List Addr:=pm.map fun i=>((ys[i]?).map (·.2.1)).getD 0
   have mem:∀ i,i∈pm->i<kvs.length:=fun i hi=>by have:=zcq7.mp (pp.mem_iff.mp hi);omega
   have vals:(pm.map fun i=>vs.getD i Value.none)=as.map Value.ref:=by
    rw[zcm6]
    refine zcm8 fun i hi=>?_
    have hi':=mem i hi
    have hes:i<es.size:=by omega
    obtain⟨_,b,v,y1,y2,_⟩:=ke i es[i] (by simp[hes])
    rw[ev]
    simp[hes,y1,y2]
   have rl:Vals (as.map V.ref) (as.map Value.ref):=by
    generalize as=l
    induction l with
    | nil=>exact .nil
    | cons a l ih=>exact .cons rfl ih
   have lz:as.length<=sizeLine:=by
    show (pm.map _).length<=_
    rw[zck9,pp.length_eq,zcn3,zcx6];omega
   refine⟨.ref _,_,I1.laid (h':=hF) (t':=tk) (o:=.lst (as.map V.ref)) kF (zcm3 _) ?_,rfl,h3 _ _ as (pm.map fun i=>((kvs.map (·.1))[i]?).getD (0,0)) fr (Same.upd fr) ?_ (zce2 ?_ ?_) ?_ zb4⟩
   ·exact⟨by rw[zck9];exact lz,as.map Value.ref,c,rl,by rw[eF,vals]⟩
   ·have e:(List.range kvs.length).map (fun i=>((kvs.map (·.1))[i]?).getD (0,0))=kvs.map (·.1):=by
     apply zcw9 (by simp)
     intro i a1 a2
     simp at a1
     simp[a1]
    have q:=(show pm.Perm (List.range kvs.length) from le▸pp).map fun i=>((kvs.map (·.1))[i]?).getD (0,0)
    rw[e] at q
    exact q
   ·have e:(List.range kvs.length).map (fun i=>((kvs.map (·.1))[i]?).getD (0,0))=kvs.map (·.1):=by
     apply zcw9 (by simp)
     intro i a1 a2
     simp at a1
     simp[a1]
    have q:=(show pm.Perm (List.range kvs.length) from le▸pp).map fun i=>((kvs.map (·.1))[i]?).getD (0,0)
    rw[e] at q
    refine q.nodup_iff.mpr ?_
    have nk:((kvs.map fun z=>(pK z.1,z.2)).map (·.1)).Nodup:=by
     have:(kvs.map fun z=>(pK z.1,z.2)).map (·.1)=ys.map (·.1):=by
      apply zcw9 (by rw[zck9,zck9,zck9,lk])
      intro i a1 a2
      rw[zck9,zck9] at a1
      obtain⟨b,v,y1,_⟩:=at_ i a1
      have hy:i<ys.length:=lk▸a1
      rw[zcl0 hy] at y1
      simp only[zcx0]
      rw[Option.some.inj y1]
     rw[this];exact e5.2
    rw[zcm6] at nk
    have:(kvs.map (Prod.fst∘fun z=>(pK z.1,z.2)))=(kvs.map (·.1)).map pK:=by rw[zcm6];rfl
    rw[this] at nk
    exact List.Pairwise.of_map pK (fun a b h e=>h (by rw[e])) nk
   ·rw[zct2]
    exact po
   ·refine zas8 (by rw[zck9,zck9]) fun i a x q1 q2=>?_
    rw[zcl2] at q1 q2
    obtain⟨j,j1,j2⟩:=zcl6.mp q1
    rw[j1] at q2
    have hj:=mem j (zcl4 j1)
    obtain⟨b,v,y1,y2⟩:=at_ j hj
    rw[y1] at j2
    have j3:b=a:=j2
    have ex:kvs[j].1=x:=by simpa [hj] using q2
    rw[← j3,← ex]
    exact (Same.upd fr) b _ y2
 ·exact h.elim
end
set_option maxHeartbeats 4000000
mutual
inductive ShV(H:Hp):V->PyData->Prop
 | non:ShV H .non .none
 | bl (b:Bool):ShV H (.bl b) (.bool b)
 | int (i:Int):ShV H (.int i) (.int i)
 | str (x:Str):ShV H (.str x) (.str x)
 | lst {a:Addr}{xs:List V}{ds:List PyData}:H a=some (.lst xs)->ShL H xs ds->ShV H (.ref a) (.list ds)
 | tup {a:Addr}{xs:List V}{ds:List PyData}:H a=some (.tup xs)->ShL H xs ds->ShV H (.ref a) (.tuple ds)
inductive ShL(H:Hp):List V->List PyData->Prop
 | nil:ShL H [] []
 | cons {x:V}{d:PyData}{xs:List V}{ds:List PyData}:ShV H x d->ShL H xs ds->ShL H (x :: xs) (d :: ds)
end
section
variable {X:Cx}{pins:List (Addr×Obj)}{σ:St}{H H':Hp}{s:Shared}{Q:VK}
mutual
theorem ShV.same{v:V}{d:PyData}(h:ShV H v d)(k:Same H H'):ShV H' v d:=match h with
 | .non=>.non
 | .bl b=>.bl b
 | .int i=>.int i
 | .str x=>.str x
 | .lst e l=>.lst (k _ _ e) (l.same k)
 | .tup e l=>.tup (k _ _ e) (l.same k)
theorem ShL.same{xs:List V}{ds:List PyData}(h:ShL H xs ds)(k:Same H H'):ShL H' xs ds:=match h with
 | .nil=>.nil
 | .cons a b=>.cons (a.same k) (b.same k)
end
theorem ShL.len{xs:List V}{ds:List PyData}(h:ShL H xs ds):xs.length=ds.length:=match h with
 | .nil=>rfl
 | .cons _ b=>by rw[zcn6,zcn6,b.len]
mutual
theorem ShV.reads(I:Inv X pins σ H s){v:V}{d:PyData}{u:Value}(h:ShV H v d)(r:RelV v u):∃ as,Reads s.heap u d as:=match h with
 | .non=>by cases (show u=Value.none from r);exact⟨_,.none⟩
 | .bl b=>by cases (show u=Value.bool b from r);exact⟨_,.bool b⟩
 | .int i=>by obtain⟨t,q⟩:=(show ∃ t,u=Value.int i t from r);cases q;exact⟨_,.int i t⟩
 | .str x=>by obtain⟨t,q⟩:=(show ∃ t,u=Value.str x t from r);cases q;exact⟨_,.str x t⟩
 | .lst (a:=a) (xs:=xs) e l=>by
  cases (show u=Value.ref a from r)
  obtain⟨_,us,n,rv,h1⟩:=(show zf9 X.prog X.w H s.heap a (.lst xs) from I.hok a _ e)
  obtain⟨as,ra⟩:=l.reads I rv
  exact⟨_,.list h1 rfl rfl (by simpa using ra)⟩
 | .tup (a:=a) (xs:=xs) e l=>by
  cases (show u=Value.ref a from r)
  obtain⟨_,us,rv,o,h1,h2,n,h3⟩:=(show zf9 X.prog X.w H s.heap a (.tup xs) from I.hok a _ e)
  obtain⟨as,ra⟩:=l.reads I rv
  exact⟨_,.tuple h1 h2 h3 (by simpa using ra)⟩
theorem ShL.reads(I:Inv X pins σ H s){xs:List V}{ds:List PyData}{us:List Value}(h:ShL H xs ds)(r:Vals xs us):∃ as,ReadsAll s.heap us ds as:=match h,r with
 | .nil,.nil=>⟨_,.nil⟩
 | .cons a b,.cons r1 r2=>by
  obtain⟨as,ra⟩:=a.reads I r1
  obtain⟨bs,rb⟩:=b.reads I r2
  exact⟨_,.cons ra rb⟩
end
end
mutual
def sml:PyData->Bool
 | .none | .bool _ | .int _ | .str _=>true
 | .list xs | .tuple xs=>decide (xs.length<=1000)&&zai1 xs
 | .dict _=>false
def zai1:List PyData->Bool
 | []=>true
 | x :: xs=>sml x&&zai1 xs
end
theorem zaf5:∀ {ds:List PyData},(∀ d∈ds,sml d=true)->zai1 ds=true
 | [],_=>rfl
 | d :: ds,h=>by simp[zai1,h d (.head _),zaf5 fun x hx=>h x (.tail _ hx)]
theorem zy6:∀ {ds:List PyData},zai1 ds=true->∀ d∈ds,sml d=true
 | [],_,d,h=>by cases h
 | x :: ds,h,d,hd=>by
  simp only[zai1,zcm4] at h
  rcases zcm1.mp hd with rfl|hd
  ·exact h.1
  ·exact zy6 h.2 d hd
section
variable {H H':Hp}{K:zcl5}{Q:VK}
theorem ShL.idx:∀ {xs:List V}{ds:List PyData},xs.length=ds.length->(∀ (i:Nat) x d,xs[i]?=some x->ds[i]?=some d->ShV H x d)->ShL H xs ds
 | [],[],_,_=>.nil
 | [],_ :: _,h,_=>by simp at h
 | _ :: _,[],h,_=>by simp at h
 | x :: xs,d :: ds,h,k=>.cons (k 0 x d rfl rfl) (ShL.idx (by simpa using h) fun i y e h1 h2=>k (i+1) y e (by simpa using h1) (by simpa using h2))
theorem ShL.get:∀ {xs:List V}{ds:List PyData}(_:ShL H xs ds) (i:Nat) (x:V),xs[i]?=some x->∃ d,ds[i]?=some d/\ShV H x d
 | _,_,.nil,i,x,e=>by simp at e
 | _,_,.cons a b,0,x,e=>by cases (show some _=some x from e);exact⟨_,rfl,a⟩
 | _,_,.cons a b,i+1,x,e=>by
  obtain⟨d,e1,e2⟩:=ShL.get b i x (by simpa using e)
  exact⟨d,by simpa using e1,e2⟩
theorem ShL.ex{P:PyData->Prop}:∀ {xs:List V},(∀ x∈xs,∃ d,ShV H x d/\P d)->∃ ds,ShL H xs ds/\∀ d∈ds,P d
 | [],_=>⟨[],.nil,fun _ h=>by cases h⟩
 | x :: xs,h=>by
  obtain⟨d,h1,h2⟩:=h x (.head _)
  obtain⟨ds,h3,h4⟩:=ShL.ex (xs:=xs) fun y hy=>h y (.tail _ hy)
  refine⟨d :: ds,.cons h1 h3,fun e he=>?_⟩
  rcases zcm1.mp he with rfl|he
  ·exact h2
  ·exact h4 e he
def isD(n:String):PyData->Bool
 | .none=>false
 | .bool _=>n=="bool" || n=="int"
 | .int _=>n=="int"
 | .str _=>n=="str"
 | .list _=>n=="list"
 | .tuple _=>n=="tuple"
 | .dict _=>n=="dict"
theorem zg9{v:V}{d:PyData}{n:String}(h:ShV H v d)(hn:n="int"∨n="bool"∨n="list"∨n="tuple")(q:Q (.bl (isD n d)) H):zv1 K v (.ty n) H Q:=by
 rcases hn with rfl|rfl|rfl|rfl<;>cases h
 all_goals first
  | exact zbl4 q (by rfl)
  | exact zaf8 q (by rfl)
  | exact zac2 q (by rfl)
  | exact zbj8 q (by rfl)
  | (rename_i e l;exact zbi9 e q (by rfl))
  | (rename_i e l;exact zbh1 e q (by rfl))
end
section
variable {X:Cx}{K:zcl5}{H:Hp}{Q:VK}
end
section
variable {X:Cx}{K:zcl5}{H:Hp}{Q:VK}
@[irreducible] def rDNE(H:Hp)(Q:VK):Prop:=(∀ p H',H p=none->Same H H'->H' p=some (.dT [])->Q (.ref p) H')∨∀ p H',H p=none->Same H H'->H' p=some (.dK [])->Q (.ref p) H'
def tDNE:TE:=fun _ H Q=>rDNE H Q
theorem zbn3{pos:Pos}:PE X (.Dict [] [] pos) tDNE:=fun pins s σ H Q I h=>by
 unfold tDNE rDNE at h
 rcases h with h|h
 ·exact zbr8 (pos:=pos) pins s σ H Q I fun p hp=>h p _ hp (Same.upd hp) zb4
 ·exact zbs0 (pos:=pos) pins s σ H Q I fun p hp=>h p _ hp (Same.upd hp) zb4
theorem zbx5(q:∀ p H',H p=none->Same H H'->H' p=some (.dT [])->Q (.ref p) H'):rDNE H Q:=by unfold rDNE;exact .inl q
theorem dnK_rd(q:∀ p H',H p=none->Same H H'->H' p=some (.dK [])->Q (.ref p) H'):rDNE H Q:=by unfold rDNE;exact .inr q
theorem zbj6{a:Addr}{P:Prop}{kvs:List (Key×V)}(e:H a=some (.dK kvs))(p:P):rIsD a H P:=by unfold rIsD;exact⟨.inl ⟨kvs,.inl e⟩,p⟩
theorem zbf6{a:Addr}{i:Int}{z:V}{kvs:List (Key×V)}(e:H a=some (.dK kvs))(q:Q ((valV kvs (.inl i)).getD z) H):rDG2 a (.int i) z H Q:=by
 unfold rDG2
 exact⟨_,DGet.k (k:=.inl i) e,q⟩
theorem dpK_rd{a:Addr}{i:Int}{v:V}{N:Hp->Prop}{kvs:List (Key×V)}(e:H a=some (.dK kvs))(hl:kvs.length<sizeLine)(q:∀ H',Chg a H H'->H' a=some (.dK (putK kvs (.inl i) v))->N H'):rDP a (.int i) v H N:=by
 unfold rDP
 exact⟨_,DPut.k (k:=.inl i) e hl,q _ Chg.upd zb4⟩
def dI(kv:List (Int×Int)):List (Key×V):=kv.map fun z=>(.inl z.1,.int z.2)
def valI(kv:List (Int×Int))(i:Int):Option Int:=(kv.find? fun z=>decide (z.1=i)).map (·.2)
theorem zbk3(i:Int):∀ kv:List (Int×Int),valV (dI kv) (.inl i)=(valI kv i).map V.int
 | []=>rfl
 | z :: kv=>by
  by_cases e:z.1=i
  ·show valV (((.inl z.1:Key),V.int z.2) :: dI kv) (.inl i)=_
   rw[zx5 (by exact congrArg Sum.inl e)]
   unfold valI
   rw[zcs9,decide_eq_true e];rfl
  ·show valV (((.inl z.1:Key),V.int z.2) :: dI kv) (.inl i)=_
   rw[zv8 (by exact fun q=>e (Sum.inl.inj q)),zbk3 i kv]
   unfold valI
   rw[zcs9,decide_eq_false e]
def eqDI(ka kb:List (Int×Int)):Bool:=ka.length==kb.length&&ka.all fun z=>valI kb z.1==some z.2
theorem zav4{A:Around}{s:Shared}{kb:List (Int×Int)}{ws:List (Key×Value)}(rb:KV (dI kb) ws):∀ {ka:List (Int×Int)}{vs:List (Key×Value)},KV (dI ka) vs->KeqHits A s ws vs (ka.all fun z=>valI kb z.1==some z.2)
 | [],vs,r=>by
  unfold KV dI at r
  cases r
  exact .nil
 | z :: ka,vs,r=>by
  unfold KV dI at r
  rw[zcn5] at r
  cases r with
  | @cons p q ps qs h t=>
   obtain⟨h1,h2⟩:=h
   obtain⟨k,v⟩:=q
   cases (show (Sum.inl z.1:Key)=k from h1)
   have val:=rb.val (.inl z.1)
   rw[zbk3] at val
   rw[List.all_cons]
   cases e:valI kb z.1 with
   | none=>
    rw[e] at val
    have:valueAt ws (.inl z.1)=none:=by
     cases w:valueAt ws (.inl z.1) with
     | none=>rfl
     | some y=>rw[w] at val;exact val.elim
    have f:((none:Option Int)==some z.2)=false:=rfl
    rw[f,Bool.false_and]
    exact .miss this
   | some n=>
    rw[e] at val
    obtain⟨y,ey,ry⟩:∃ y,valueAt ws (.inl z.1)=some y/\RelV (.int n) y:=by
     cases w:valueAt ws (.inl z.1) with
     | none=>rw[w] at val;exact val.elim
     | some y=>rw[w] at val;exact⟨y,rfl,val⟩
    have q:=zbz2 (A:=A) (s:=s) (show RelV (.int z.2) v from h2) ry rfl rfl
    have e2:eqV (.int z.2) (.int n)=(some n==some z.2):=by
     by_cases d:z.2=n
     ·subst d;simp[eqV]
     ·have d':¬ n=z.2:=fun x=>d x.symm
      show (z.2==n)=(some n==some z.2)
      rw[beq_eq_false_iff_ne.mpr d]
      exact (beq_eq_false_iff_ne.mpr fun x=>d' (Option.some.inj x)).symm
    rw[e2] at q
    exact .hit ey q (zav4 rb t)
@[irreducible] def rEqX(K:zcl5)(x y:V)(H:Hp)(Q:VK):Prop:=
 (∃ a b n c,x=.ref a/\y=.ref b/\n<=40/\EqR K H n (.ref a) (.ref b) c/\Q (.bl c) H) ∨
 (∃ a b ka kb,x=.ref a/\y=.ref b/\H a=some (.dK (dI ka))/\H b=some (.dK (dI kb))/\Q (.bl (eqDI ka kb)) H) ∨
 ∃ d e,ShV H x d/\ShV H y e/\d.canLay0=true/\e.canLay0=true/\d.depth<=40/\Q (.bl (PyData.eqv d e)) H
def zbf3(K:zcl5):R2:=fun x y H Q=>match x,y with
 | .int i,.int j=>Q (.bl (decide (i=j))) H
 | .bl i,.bl j=>Q (.bl (decide (i=j))) H
 | .str i,.str j=>Q (.bl (decide (i=j))) H
 | x,y=>rEqX K x y H Q
def zag1(K:zcl5):R2:=fun x y H Q=>zbf3 K x y H fun v H'=>match v with
 | .bl b=>Q (.bl (!b)) H'
 | _=>False
theorem oEqX(hu:X.A.units+40<cLine):OpR X (compareOp .Eq) (zbf3 X.K):=by
 intro pins s σ H x y v u Q I rx ry h
 unfold zbf3 at h
 split at h
 ·exact op_eq pins s σ H _ _ v u Q I rx ry ⟨rfl,by rw[zz5 (f:=V.int) fun a b e=>V.int.inj e];exact h⟩
 ·exact op_eq pins s σ H _ _ v u Q I rx ry ⟨rfl,by rw[zz5 (f:=V.bl) fun a b e=>V.bl.inj e];exact h⟩
 ·exact op_eq pins s σ H _ _ v u Q I rx ry ⟨rfl,by rw[zz5 (f:=V.str) fun a b e=>V.str.inj e];exact h⟩
 ·unfold rEqX at h
  rcases h with ⟨a,b,n,c,rfl,rfl,hn,h1,h2⟩|⟨a,b,ka,kb,rfl,rfl,ea,eb,h⟩|⟨d,e,hd,he,cd,ce,dd,h⟩
  ·cases rx
   cases ry
   exact EqR.rc I h1 (A:=X.A) (by omega) _ _ _ _ ⟨.bl c,H,I,rfl,h2⟩
  ·cases rx
   cases ry
   obtain⟨_,sa,vs,ra,da⟩:=zbp5 I.hok ea
   obtain⟨_,sb,ws,rb,db⟩:=zbp5 I.hok eb
   refine keq_eq sa sb da db (by omega) (fun _=>zav4 rb ra) ⟨.bl (eqDI ka kb),H,I,?_,h⟩
   have la:vs.length=ka.length:=by rw[← ra.length];unfold dI;rw[zck9]
   have lb:ws.length=kb.length:=by rw[← rb.length];unfold dI;rw[zck9]
   rw[la,lb]
   rfl
  ·obtain⟨as,r1⟩:=hd.reads I rx
   obtain⟨bs,r2⟩:=he.reads I ry
   exact SeqAt.compareEq_reads r1 r2 cd ce (by have:=Nat.min_le_left d.depth e.depth;omega) ⟨.bl (PyData.eqv d e),H,I,rfl,h⟩
theorem oNeX(hu:X.A.units+40<cLine):OpR X (compareOp .NotEq) (zag1 X.K):=by
 intro pins s σ H x y v u Q I rx ry h
 unfold zag1 zbf3 at h
 split at h
 ·exact op_ne pins s σ H _ _ v u Q I rx ry ⟨rfl,by rw[zz5 (f:=V.int) fun a b e=>V.int.inj e];exact h⟩
 ·exact op_ne pins s σ H _ _ v u Q I rx ry ⟨rfl,by rw[zz5 (f:=V.bl) fun a b e=>V.bl.inj e];exact h⟩
 ·exact op_ne pins s σ H _ _ v u Q I rx ry ⟨rfl,by rw[zz5 (f:=V.str) fun a b e=>V.str.inj e];exact h⟩
 ·unfold rEqX at h
  rcases h with ⟨a,b,n,c,rfl,rfl,hn,h1,h2⟩|⟨a,b,ka,kb,rfl,rfl,ea,eb,h⟩|⟨d,e,hd,he,cd,ce,dd,h⟩
  ·cases rx
   cases ry
   exact EqR.rcNe I h1 (A:=X.A) (by omega) _ _ _ _ ⟨.bl (!c),H,I,rfl,h2⟩
  ·cases rx
   cases ry
   obtain⟨_,sa,vs,ra,da⟩:=zbp5 I.hok ea
   obtain⟨_,sb,ws,rb,db⟩:=zbp5 I.hok eb
   refine keq_ne sa sb da db (by omega) (fun _=>zav4 rb ra) ⟨.bl (!eqDI ka kb),H,I,?_,h⟩
   have la:vs.length=ka.length:=by rw[← ra.length];unfold dI;rw[zck9]
   have lb:ws.length=kb.length:=by rw[← rb.length];unfold dI;rw[zck9]
   rw[la,lb]
   rfl
  ·obtain⟨as,r1⟩:=hd.reads I rx
   obtain⟨bs,r2⟩:=he.reads I ry
   exact SeqAt.compareNe_reads r1 r2 cd ce (by have:=Nat.min_le_left d.depth e.depth;omega) ⟨.bl (!PyData.eqv d e),H,I,rfl,h⟩
theorem eqD_rd{a b:Addr}{ka kb:List (Int×Int)}(ea:H a=some (.dK (dI ka)))(eb:H b=some (.dK (dI kb)))(q:Q (.bl (eqDI ka kb)) H):rEqX K (.ref a) (.ref b) H Q:=by unfold rEqX;exact .inr (.inl ⟨a,b,ka,kb,rfl,rfl,ea,eb,q⟩)
theorem zbg6{x y:V}{d e:PyData}(hd:ShV H x d)(he:ShV H y e)(cd:d.canLay0=true)(ce:e.canLay0=true)(dd:d.depth<=40)(q:Q (.bl (PyData.eqv d e)) H):rEqX K x y H Q:=by unfold rEqX;exact .inr (.inr ⟨d,e,hd,he,cd,ce,dd,q⟩)
end
theorem zbh7(l b:Addr)(x y:Int×Int)(t u t' u':Tok)(n n2:Nat)(dd dd2:Option Addr)(sl sl2:Array (Option Value)) :
  Meets (Builtin.«tuple.__lt__» ⟨[.ref l,.ref b],[]⟩)
   (fun A R s=>s.heap.get? l=some { cls:=.type "tuple",dict:=dd,data:=.seq #[.int x.1 t,.int x.2 u] n,slots:=sl }/\s.heap.get? b=some { cls:=.type "tuple",dict:=dd2,data:=.seq #[.int y.1 t',.int y.2 u'] n2,slots:=sl2 } /\
    R (.ok (.ret (.bool (ltP x y)))) s):=
 .of_wp fun prog w A R s h=>by
  obtain⟨hp,g,d,tk,os⟩:=s;obtain⟨hl,hb,h⟩:=h
  have f2:=AutoSeq1.sub_tuple_tuple
  wp_walk using wpAny_loadPart' hl,wpAny_loadPart' hb,wpAny_forIn_list _ (fun rest b s'=>b.1=none/\s'=⟨hp,g,d,tk,os⟩/\(rest=[(.int x.1 t,.int y.1 t'),(.int x.2 u,.int y.2 u')]∨(x.1=y.1/\rest=[(.int x.2 u,.int y.2 u')])∨(x.1=y.1/\x.2=y.2/\rest=[]))) _
  case turn=>
   rintro⟨p,q⟩ rest b s' ⟨hb',rfl,hz⟩
   rcases hz with hz|⟨e0,hz⟩|⟨_,_,hz⟩
   ·cases hz
    refine zcx4 (wpAny_eqBool_int ?_)
    cases e:(x.1==y.1)
    ·have h':R (Except.ok (Flow.ret (Value.bool (decide (x.1<y.1))))) ⟨hp,g,d,tk,os⟩:=by
      unfold ltP at h
      rw[if_neg (by rw[e];exact zcm2)] at h
      exact h
     simp only[Bool.not_false,if_true]
     refine zcx4 (wpAny_rule ?_)
     refine zcx4 ((lt_int (Q:=_) ?_:wpAny _ _ (compareOp .Lt _ _) _ _ _))
     wp_walk
     exact⟨_,rfl,h'⟩
    ·wp_walk
     exact⟨rfl,rfl,.inr (.inl ⟨by simpa using e,rfl⟩)⟩
   ·cases hz
    refine zcx4 (wpAny_eqBool_int ?_)
    cases e:(x.2==y.2)
    ·have h':R (Except.ok (Flow.ret (Value.bool (decide (x.2<y.2))))) ⟨hp,g,d,tk,os⟩:=by
      unfold ltP at h
      rw[if_pos (by rw[e0];exact beq_self_eq_true _),if_neg (by rw[e];exact zcm2)] at h
      exact h
     simp only[Bool.not_false,if_true]
     refine zcx4 (wpAny_rule ?_)
     refine zcx4 ((lt_int (Q:=_) ?_:wpAny _ _ (compareOp .Lt _ _) _ _ _))
     wp_walk
     exact⟨_,rfl,h'⟩
    ·wp_walk
     exact⟨rfl,rfl,.inr (.inr ⟨e0,by simpa using e,rfl⟩)⟩
   ·cases hz
  case fin=>
   rintro⟨b1,b2⟩ s' ⟨hb',rfl,hz⟩
   simp only at hb'
   subst hb'
   rcases hz with hz|⟨e0,hz⟩|⟨e0,e1,hz⟩
   ·cases hz
   ·cases hz
   ·have h':R (Except.ok (Flow.ret (Value.bool false))) ⟨hp,g,d,tk,os⟩:=by
     unfold ltP at h
     rw[if_pos (by rw[e0];exact beq_self_eq_true _),if_pos (by rw[e1];exact beq_self_eq_true _)] at h
     exact h
    wp_walk
    exact⟨_,rfl,h'⟩
  exact⟨rfl,rfl,.inl rfl⟩
section
variable {prog:Program}{w:World}{A:Around}{E:Value->Shared->Prop}{s:Shared}
theorem zbs7{v v':Value}{x y:Int×Int}{Q:Value->Shared->Prop}(ha:TupI s.heap v x)(hb:TupI s.heap v' y)(hu:A.units<cLine)(h:Q (.bool (ltP x y)) s):wpAny (model prog w) A (compareOp .Lt v v') Q E s:=by
 obtain⟨a,⟨cls,dd,data,sl⟩,t,u,n,rfl,ho,hc,hd⟩:=ha
 obtain⟨b,⟨cls2,dd2,data2,sl2⟩,t',u',n2,rfl,ho2,hc2,hd2⟩:=hb
 simp only at hc hd hc2 hd2
 subst hc hd hc2 hd2
 exact richCompare_meets_room (op:=.Lt) ⟨_,ho,rfl⟩ ⟨_,ho2,rfl⟩ F.slot_tuple_lt F.entry_tuple_lt (F.args_tuple_lt_2 _ _) (zbh7 a b x y t u t' u' n n2 dd dd2 sl sl2)
  ⟨ho,ho2,show Value.bool (ltP x y)≠Value.notImplemented/\Q (.bool (ltP x y)) s from ⟨(fun x=>nomatch x),h⟩⟩ hu
end
section
variable {X:Cx}{K:zcl5}{H:Hp}{Q:VK}
def pV(x:Int×Int):List V:=[.int x.1,.int x.2]
@[irreducible] def rLtA(a b:Addr)(H:Hp)(Q:VK):Prop:=∃ x y:Int×Int,H a=some (.tup (pV x))/\H b=some (.tup (pV y))/\Q (.bl (ltP x y)) H
def rLtXM:R2:=fun x y H Q=>match x,y with
 | .int i,.int j=>Q (.bl (decide (i<j))) H
 | .ref a,.ref b=>rLtA a b H Q
 | _,_=>False
theorem zbn0{pins:List (Addr×Obj)}{σ:St}{H:Hp}{s:Shared}{a:Addr}{x:Int×Int}(I:Inv X pins σ H s)(h:H a=some (.tup (pV x))):TupI s.heap (.ref a) x:=by
 obtain⟨_,its,rv,o,h1,h2,n,h3⟩:=(show zf9 X.prog X.w H s.heap a (.tup (pV x)) from I.hok a _ h)
 unfold pV at rv
 cases rv with
 | cons r1 rv=>
  cases rv with
  | cons r2 rv=>
   cases rv
   obtain⟨t,rfl⟩:=r1
   obtain⟨u,rfl⟩:=r2
   exact⟨a,o,t,u,n,rfl,h1,h2,h3⟩
theorem oLtX(hu:X.A.units+40<cLine):OpR X (compareOp .Lt) rLtXM:=by
 intro pins s σ H x y v u Q I rx ry h
 unfold rLtXM at h
 split at h
 ·exact op_lt pins s σ H _ _ v u Q I rx ry ⟨_,_,rfl,rfl,h⟩
 ·unfold rLtA at h
  obtain⟨x,y,ea,eb,h⟩:=h
  cases rx
  cases ry
  exact zbs7 (zbn0 I ea) (zbn0 I eb) (by omega) ⟨.bl (ltP x y),H,I,rfl,h⟩
 ·exact h.elim
theorem ltP_rd{a b:Addr}{x y:Int×Int}(ha:H a=some (.tup (pV x)))(hb:H b=some (.tup (pV y)))(q:Q (.bl (ltP x y)) H):rLtA a b H Q:=by unfold rLtA;exact⟨x,y,ha,hb,q⟩
@[irreducible] def rSlX(K:zcl5)(a:Addr)(lo hi:Option Int)(H:Hp)(Q:VK):Prop:=(∃ xs,SqL K H a xs/\∀ p H',H p=none->Same H H'->H' p=some (.lst (cutV xs lo hi))->Q (.ref p) H') ∨
 ∃ xs,SqT K H a xs/\¬ (HT.sIx xs.length 0 lo=0/\HT.sIx xs.length xs.length hi=xs.length)/\∀ p H',H p=none->Same H H'->H' p=some (.tup (cutV xs lo hi))->Q (.ref p) H'
def rSlXM(K:zcl5):V->Option Int->Option Int->Hp->VK->Prop:=fun x lo hi H Q=>match x with
 | .ref a=>rSlX K a lo hi H Q
 | _=>False
theorem slX:SlR X (rSlXM X.K):=by
 intro pins s σ H x v vl vu lo hi sl Q I rx hs pl pu h
 unfold rSlXM at h
 split at h
 ·unfold rSlX at h
  rcases h with ⟨xs,h1,q⟩|⟨xs,h1,h2,q⟩
  ·exact zce0 pins s σ H _ v vl vu lo hi sl Q I rx hs pl pu ⟨_,xs,rfl,h1,fun p hp=>q p _ hp (Same.upd hp) zb4⟩
  ·exact sl_tup pins s σ H _ v vl vu lo hi sl Q I rx hs pl pu ⟨_,xs,rfl,h1,h2,fun p hp=>q p _ hp (Same.upd hp) zb4⟩
 ·exact h.elim
theorem zaa6{a:Addr}{xs:List V}{lo hi:Option Int}(h:SqL K H a xs)(q:∀ p H',H p=none->Same H H'->H' p=some (.lst (cutV xs lo hi))->Q (.ref p) H'):rSlX K a lo hi H Q:=by unfold rSlX;exact .inl ⟨xs,h,q⟩
theorem zbx8{a:Addr}{x y z:V}(h:H a=some (.tup [x,y,z]))(q:∀ p H',H p=none->Same H H'->H' p=some (.tup [x,y])->Q (.ref p) H'):rSlX K a none (some 2) H Q:=by
 unfold rSlX
 exact .inr ⟨[x,y,z],SqT.of h,(by decide:¬ (HT.sIx 3 0 none=0/\HT.sIx 3 3 (some 2)=3)),q⟩
theorem zz7(hK:X.K=K)(hu:X.A.units+40<cLine):OpR X (compareOp .Eq) (zbf3 K):=by subst hK;exact oEqX hu
theorem zt7(hK:X.K=K)(hu:X.A.units+40<cLine):OpR X (compareOp .NotEq) (zag1 K):=by subst hK;exact oNeX hu
theorem slXK(hK:X.K=K):SlR X (rSlXM K):=by subst hK;exact slX
theorem Wk.zipN{a b:Addr}{xs ys:List V}{n:Nat}{H1:Hp}(h:SqL K H1 a xs)(h':SqL K H1 b ys)(hx:n<=xs.length)(hy:n<=ys.length)(hn:xs.length=n∨ys.length=n):Wk (Itz K a b) n H1 fun i v H=>∃ p x y,v=.ref p/\H p=some (.tup [x,y])/\xs[i]?=some x/\ys[i]?=some y:=
 ⟨fun i H s hi=>⟨xs,ys,xs[i],ys[i],s.seq h,s.seq h',by simp,by simp⟩,fun H s=>⟨xs,ys,s.seq h,s.seq h',by omega⟩,fun i H v H' s _ y=>by
  obtain⟨p,x,y,rfl,y1,y2,y3,y4,y5⟩:=y
  exact⟨y2,p,x,y,rfl,y3,y4 xs (s.seq h),y5 ys (s.seq h')⟩⟩
end
set_option maxHeartbeats 2000000
set_option maxHeartbeats 4000000
set_option maxHeartbeats 2000000
section
variable {X:Cx}{K:zcl5}
end
section
variable {X:Cx}{K:zcl5}
end
set_option maxHeartbeats 4000000
section
variable {X:Cx}{K:zcl5}{H:Hp}{Q:VK}
def eRef(c:Addr->Bool):Value->Bool
 | .ref a=>c a
 | _=>false
theorem zaq2:∀ {rs:List Addr}{us:List Value},Vals (rs.map V.ref) us->us=rs.map Value.ref
 | [],us,h=>by cases h;rfl
 | r :: rs,us,h=>by
  cases h with
  | cons h1 h2=>
   have h1:_=Value.ref r:=h1
   rw[zcn5,← zaq2 h2,h1]
end
set_option maxHeartbeats 2000000
section
variable {X:Cx}{K:zcl5}
end
section
variable {X:Cx}{K:zcl5}
theorem zaj0{v:Value}{o:Option Int}(p:IsPart v o):∃ q:Option (Int×Tok),v=partValue q/\q.map (·.1)=o:=by
 cases p with
 | none=>exact⟨none,rfl,rfl⟩
 | int i t=>exact⟨some (i,t),rfl,rfl⟩
end
section
variable {X:Cx}{K:zcl5}
end
set_option maxHeartbeats 4000000
open PySem.Calls PySem.NumText
set_option maxHeartbeats 2000000
set_option maxHeartbeats 4000000
set_option maxHeartbeats 1000000
set_option maxHeartbeats 2000000
theorem zf9.there{P:Program}{w:World}{H:Hp}{h:Heap}{a:Addr}{o:HO}(x:zf9 P w H h a o):∃ u,h.get? a=some u:=by
 cases o with
 | lst xs=>obtain⟨_,_,_,_,e⟩:=x;exact⟨_,e⟩
 | tup xs=>obtain⟨_,_,_,o,e,_⟩:=x;exact⟨_,e⟩
 | dK kvs=>obtain⟨_,_,_,_,o,_,_,e,_⟩:=x;exact⟨_,e⟩
 | dT kvs=>obtain⟨_,_,_,_,o,_,_,e,_⟩:=x;exact⟨_,e⟩
 | set S n=>obtain⟨o,_,_,_,e,_⟩:=x;exact⟨_,e⟩
 | ins C dx fs=>obtain⟨_,_,_,e,_⟩:=x;exact⟨_,e⟩
 | own y=>obtain⟨_,e⟩:=x;exact⟨_,e⟩
 | xd fs=>obtain⟨_,⟨_,_,_,e,_⟩,_⟩:=x;exact⟨_,e⟩
 | rng lo hi=>obtain⟨_,_,_,e⟩:=x;exact⟨_,e⟩
 | frz ob u=>obtain⟨e,_⟩:=x;exact⟨_,e⟩
 | tbl ps=>exact⟨_,show h.get? a=some _ from x⟩
 | met f y=>exact⟨_,show h.get? a=some _ from x⟩
 | ext φ=>obtain⟨_,⟨_,e⟩,_⟩:=x;exact⟨_,e⟩
def zl3(T:Addr)(ln co:Nat)(qual:Str)(H:Hp):Prop:=∃ tab,H T=some (.tbl tab) /\
 (tab=#[]∨∃ c oc vs t,tab=#[rawInt ln,rawInt co,.ref c]/\H c=some (.frz oc (.own c))/\oc.data=.fields vs/\vs[1]?=some (.str qual t))
theorem zl3.same{T:Addr}{ln co:Nat}{qual:Str}{H H':Hp}(x:zl3 T ln co qual H)(s:Same H H'):zl3 T ln co qual H':=by
 obtain⟨tab,e,r⟩:=x
 refine⟨tab,s _ _ e,?_⟩
 rcases r with r|⟨c,oc,vs,t,e1,e2,r⟩
 ·exact .inl r
 ·exact .inr ⟨c,oc,vs,t,e1,s _ _ e2,r⟩
def Bm(mg:Str->Option Value)(base:Heap):Prop:=∃ bm ob,mg "__builtins__"=some (.ref bm)/\bm≠builtinsNs/\base.get? bm=some ob/\ob.cls=.type "module"/\ob.dict=some builtinsNs/\ob.data=.plain
section
variable {prog:Program}{w:World}{A:Around}{E:Value->Shared->Prop}{s:Shared}{env:Env}{m mg mb:Str->Option Value}{b l cA:Addr}{hv:Int}{th:Tok}{its ws:List Value}{ns:List Int}{p1 p2 p3 p4 p5 p6 p7:Pos}
theorem zbs8(hh:A.handled=none)(hk:env.scope.kind=.function)(k1:env.kindOf "hosts"=some .free)(k2:env.kindOf "part"=some .local)(k3:env.kindOf "sum"=some .globalImplicit)(hc:env.cells.lookup ("hosts":Str)=some cA)(hcell:s.heap.IsCell cA (some (.int hv th)))(hn:s.heap.Ns env.locals m)(hp:m "part"=some (.ref b))(hg:s.heap.Ns env.globals mg)(hm:mg "sum"=none)(hb:s.heap.Ns env.builtins mb)(hbs:mb "sum"=some (.builtin "sum"))(ht:IsTup s.heap b its.toArray)(h0:its[0]?=some (.ref l))(hl:s.heap.IsList l ws.toArray)(hi:IntsAre ws ns) :
  wpAny (model prog w) A (eval (.BinOp (.Name "hosts" p1) .Sub (.Call (.Name "sum" p2) [.Subscript (.Name "part" p3) (.Constant (.int 0) 0 p4) p5] [] p6) p7) env)
   (fun v s'=>∃ h' tk t,s'={ s with heap:=h',toks:=tk }/\v=.int (hv - ns.sum) t/\∀ b o,s.heap.get? b=some o->h'.get? b=some o) E s:=by
 refine wpAny_BinOp (wpAny_Name (wpAny_loadName_free hk k1 hc hcell ?_) (by decide))
 refine wpAny_Call_Name_kw (Calls.Name_function_global hk k3 (Calls.loadGlobal_builtin hg hm hb hbs ?_) (by decide))
 refine PyProof.Rows.callWith_builtin1 ?_ rfl rfl
 show wpAny _ _ (spliced ((false,eval _ env) :: [])) _ _ s
 refine Calls.spliced_cons ?_
 refine Subscript_ (wpAny_Name (wpAny_loadName_local hk k2 hn hp ?_) (by decide))
 refine wpAny_Constant_int ?_
 refine subscriptTail_builtinR (x:=.ref l) (s:={ s with toks:=s.toks+1 }) (T:="tuple") ht.typeIs slot_tuple_getitem.lookup
  (PyProof.Rows.getItem_tuple (j:=0) (x:=.ref l) ht (by decide) (by decide) ?_ (by simpa using h0) ⟨rfl,?_⟩) (by with_unfolding_all rfl)
 ·have:0<its.length:=(zcl1.mp h0).1
  rw[zcl9,seqIndex_of (by decide) (by omega)]
  rfl
 ·refine Calls.spliced_nil ?_
  obtain⟨ys,hx⟩:=hi.allInts.items
  have hl':s.heap.IsList l (intItems ys):=hx▸hl
  refine sum_intListG (s:={ s with toks:=s.toks+1 }) hh hl' fun h' tk t' hk'=>?_
  have e1:ns=ys.toList.map (·.1):=by
   rw[← nums_intItems,← hx]
   exact (show numsOf ws.toArray.toList=ns from hi.numsOf).symm
  have e2:preSum (numAt ys) ys.size=ns.sum:=by
   rw[preSum_eq,zco9 (by simp),e1]
  rw[e2]
  exact PyProof.Rows.sub_int ⟨h',_,_,rfl,rfl,hk'⟩
end
section
variable {X:Cx}{K:zcl5}{pins:List (Addr×Obj)}{σ:St}{H:Hp}{s:Shared}
theorem Inv.tab{T c':Addr}{tab more:Array Value}{oc:Obj}{h':Heap}{tk:Nat}(I:Inv X pins σ H s)(hT:H T=some (.tbl tab))(hx:Heap.ExtBut T s.heap h')(hge:s.heap.objs.size<=c')(hc:h'.get? c'=some oc)(ht:h'.get? T=some (PySem.W.tabObj (tab++more))):Inv X pins σ (upd (upd H T (.tbl (tab++more))) c' (.frz oc (.own c'))) { s with heap:=h',toks:=tk }:=by
 have fc:H c'=none:=I.hok.fresh hge
 have nT:c'≠T:=fun z=>by rw[z,hT] at fc;cases fc
 have at1:∀ b o,b≠T->H b=some o->upd (upd H T (.tbl (tab++more))) c' (.frz oc (.own c')) b=some o:=fun b o n e=>by rw[zc3 (za7 e fc),zc3 n];exact e
 have at0:∀ b o,s.heap.get? b=some o->H b=none->upd (upd H T (.tbl (tab++more))) c' (.frz oc (.own c')) b=none:=fun b o e n=>by
  rw[zc3 (zco6 (zcn8 (zcm5 e) hge)),zc3 (fun z=>by rw[z,hT] at n;cases n)];exact n
 have kp:∀ b o,s.heap.get? b=some o->H b=none->h'.get? b=some o:=fun b o e n=>hx b o (fun z=>by rw[z,hT] at n;cases n) e
 refine I.un ⟨fun b o e n _ _=>kp b o e n,fun b o e n _ _=>⟨o.slots,kp b o e n⟩,fun b o e n _=>at0 b o e n,fun b o e _=>?_,fun b xs e=>at1 b _ (fun z=>by rw[z,hT] at e;cases e) e,fun b o u e=>at1 b _ (fun z=>by rw[z,hT] at e;cases e) e,fun b ps e=>?_⟩ fun b u e=>?_
 ·by_cases z:b=T
  ·exact⟨_,z▸ht⟩
  ·exact⟨o,hx b o z e⟩
 ·by_cases z:b=T
  ·subst z
   rw[hT] at e;cases e
   exact⟨more,by rw[zc3 nT.symm,zb4]⟩
  ·exact⟨#[],by rw[Array.append_empty];exact at1 b _ z e⟩
 ·by_cases z:b=c'
  ·subst z
   rw[zb4] at e;cases e
   exact⟨hc,oc,hc⟩
  ·rw[zc3 z] at e
   by_cases z2:b=T
   ·subst z2
    rw[zb4] at e;cases e
    exact ht
   ·rw[zc3 z2] at e
    refine (I.hok b u e).stay (fun d v hd q=>hx d v (fun z3=>?_) q) (fun d q=>at1 d _ (fun z3=>by rw[z3,hT] at q;cases q) q) fun d xs q=>at1 d _ (fun z3=>by rw[z3,hT] at q;cases q) q
    rcases hd with hd|hd
    ·exact z2 (hd.symm.trans z3)
    ·rw[z3,hT] at hd;cases hd
theorem zbi1:∀ {bs:List Addr}{us:List Value},Vals (bs.map V.ref) us->us=bs.map Value.ref
 | [],us,r=>by rw[zcu5] at r;cases r;rfl
 | b :: bs,us,r=>by
  rw[zcn5] at r
  cases r with
  | cons r1 r2=>cases r1;rw[zbi1 r2];rfl
end
section
variable {P:Program}{w:World}{K:zcl5}{mg:Str->Option Value}{base:Heap}
theorem Fun.okRC{x qual:Str}{st:Stmt}{f c:Addr}{fd:FuncData}{N ps:List Str}{k:Nat}{sp:Sp}(F:Fun K x qual st f fd)(hc:fd.code=.ref c)(S:zb2 N ps (za5 st))(len:∀ vs H Q E,sp vs H Q E->vs.length=ps.length)(hbody:∀ (A:Around) (outer:List Env) (s:Shared) (H:Hp) (vs:List V) (Q:VK) (E:XK),Room k (A.deeper (envOfC qual (za5 st) s.heap.objs.size f (.ref c)))->XOut (cxOf (CXR P w) P w K mg base N qual (za5 st) f (.ref c) A outer s H E) E->sp vs H Q E ->
   ∃ t,PSs (cxOf (CXR P w) P w K mg base N qual (za5 st) f (.ref c) A outer s H E) (zk1 st) t/\t { nx:=fun _ H'=>Q .non H',rt:=Q } (zag7 N vs) H):FnOk P w K mg base (CXR P w) (k+1) f fd ps sp:=by
 obtain⟨oc,od,kV,doc,pm,an,cdv,ct,osl,rfl,lk,hcd⟩:=F.ex
 have:cdv=.ref c:=hc
 subst this
 refine fn_of lk hcd S len fun A outer s H vs Q E hr hsp=>?_
 exact hbody A outer s H vs Q E hr xout hsp
end
theorem zbj5{P:Program}{w:World}{K:zcl5}{mg mb:Str->Option Value}{CX:CXT}{k:Nat}{fa a c T:Addr}{fd:FuncData}{x:Str}{sp:Sp}{s₁:Shared}{vs:List Value}{ns:List Int}(KX:K.In s₁.heap)(hnt:PySem.W.noTabs K=true)(hns:s₁.heap.Ns zcx8 mg)(hb:s₁.heap.Ns builtinsNs mb)(hbb:∀ x:Str,x≠"__name__"->mb x=bootBuiltins x)(hlim:s₁.heap.NoLimit)(hg:s₁.gens=#[])(hC:PySem.W.CodeHd s₁.heap c T)(hT:s₁.heap.get? T=some (PySem.W.tabObj #[]))(hB:Bm mg s₁.heap)(ha:s₁.heap.get? a=some { cls:=.type "list",data:=.seq vs.toArray })(hi:IntsAre vs ns)(hl:ns.length<=sizeLine)(hr:Room k callerA)(F:∀ base:Heap,K.In base->base.Ns zcx8 mg->PySem.W.CodeHd base c T->Bm mg base->FnOk P w K mg base CX k fa fd [x] sp)(hbind:∀ (s:Shared) (u:Value),BindsTo s fd ⟨[u],[]⟩ [(x,u)])(hsp:∀ H:Hp,H T=some (.tbl #[])->SqL K H a (ns.map V.int)->sp [.ref a] H (fun v _=>v=.bl true) fun _ _ _=>False)(hCX:∀ H e s',CX [] H s₁ (fun _ _ _=>False) e s'->False) :
  codeAny (model P w) callerA (.call (.ref fa) ⟨[.ref a],[]⟩) (fun r s'=>r=.ok (.ret (.bool true))/\OldK s₁.heap s'.heap/\s'.os=s₁.os/\AllBare s'.gens) s₁:=by
 have rv:=zas2 hi
 have lenV:=hi.length
 have hKT:K.lookup T=none:=by
  cases e:K.lookup T with
  | none=>rfl
  | some o=>
   have e1:=KX T o e
   rw[hT] at e1;cases e1
   have h2:=zcn1.mp hnt _ (PySem.W.mem_of_lookupK e)
   exact absurd (show false=true from h2) zcm2
 have haT:a≠T:=fun z=>by rw[z,hT] at ha;cases ha
 have core:∀ H:Hp,H T=some (.tbl #[])->(∀ b,b=T∨H b=none∨∃ o xs,H b=some (.frz o (.lst xs)))->SqL K H a (ns.map V.int)->HOk P w H s₁.heap->(∀ b,H b≠none->b=a∨b=T)->(H a≠none->K.lookup a=none) ->
   codeAny (model P w) callerA (.call (.ref fa) ⟨[.ref a],[]⟩) (fun r s'=>r=.ok (.ret (.bool true))/\OldK s₁.heap s'.heap/\s'.os=s₁.os/\AllBare s'.gens) s₁:=by
  intro H hHT hO hS hok hA hK
  have base_of:∀ {b:Addr}{o:Obj},s₁.heap.get? b=some o->H b=none->(hidT s₁.heap H).get? b=some o:=fun e n=>zbr3 e n
  have noF:∀ {b:Addr}{o:Obj},s₁.heap.get? b=some o->(∀ xs n,o.data≠.seq xs n)->o≠PySem.W.tabObj #[]->H b=none:=fun {b o} e d1 d2=>by
   cases q:H b with
   | none=>rfl
   | some u=>
    rcases hA b (by rw[q];simp) with e' | e'
    ·subst e'
     rw[ha] at e;cases e
     exact absurd rfl (d1 _ _)
    ·subst e'
     rw[hT] at e;cases e
     exact absurd rfl d2
  have nsK:∀ {b:Addr}{m:Str->Option Value},s₁.heap.Ns b m->(hidT s₁.heap H).Ns b m:=fun {b m} ⟨o,es,ep,e,d,r⟩=>⟨o,es,ep,base_of e (noF e (fun _ _ z=>by rw[d] at z;cases z) (fun z=>by rw[z] at d;cases d)),d,r⟩
  have hKb:K.In (hidT s₁.heap H):=fun b o e=>base_of (KX b o e) (by
   cases q:H b with
   | none=>rfl
   | some u=>
    rcases hA b (by rw[q];simp) with e' | e'
    ·subst e'
     rw[hK (by rw[q];simp)] at e;cases e
    ·subst e'
     rw[hKT] at e;cases e)
  have hM:Mod K mg (hidT s₁.heap H):=⟨hKb,nsK hns,⟨mb,nsK hb,hbb⟩,let ⟨mc,h1,h2⟩:=hlim;⟨mc,nsK h1,h2⟩⟩
  have hCb:PySem.W.CodeHd (hidT s₁.heap H) c T:=by
   obtain⟨o,vs,file,tf,flags,tg,inF,text,tt,e1,r1,r2,r⟩:=hC
   exact⟨o,vs,file,tf,flags,tg,inF,text,tt,base_of e1 (noF e1 (fun _ _ z=>by rw[r2] at z;cases z) (fun z=>by rw[z] at r1;cases r1)),r1,r2,r⟩
  have hBb:Bm mg (hidT s₁.heap H):=by
   obtain⟨bm,ob,b1,b2,b3,b4,b5,b6⟩:=hB
   exact⟨bm,ob,b1,b2,base_of b3 (noF b3 (fun _ _ z=>by rw[b6] at z;cases z) (fun z=>by rw[z] at b4;cases b4)),b4,b5,b6⟩
  have e0:Env0 P w K mg (hidT s₁.heap H) callerA [] s₁ H:=⟨rfl,hM,fun b o e=>zca4 e,zcx2 (zbk8 _ _),trivial,fun b hb=>absurd (show b∈([]:List Addr) from hb) (by simp),hok,.of_eq hg⟩
  refine codeAny_mono ((F _ hKb (nsK hns) hCb hBb).run callerA [] s₁ H ⟨[.ref a],[]⟩ [.ref a] [.ref a] _ _ hr e0 (hbind s₁ (.ref a)) (.cons rfl .nil) (hsp H hHT hS)) fun r s' h=>?_
  cases r with
  | error e=>exact (hCX H e s' h).elim
  | ok fl=>
   cases fl with
   | next=>exact False.elim h
   | brk=>exact False.elim h
   | cont=>exact False.elim h
   | ret u=>
    obtain⟨v,H',os,bare,un,hok',r',q⟩:=h
    have q':v=.bl true:=q
    subst q'
    obtain rfl:u=Value.bool true:=r'
    obtain⟨more,eT⟩:=un.tbls T _ hHT
    have eT2:s'.heap.get? T=some (PySem.W.tabObj (#[]++more)):=hok' T _ eT
    have keep:∀ b o,b≠T->s₁.heap.get? b=some o->s'.heap.get? b=some o:=fun b o nb e=>by
     cases q:H b with
     | none=>exact un.keep b o e q (by intro z;exact absurd (show b∈([]:List Addr) from z) (by simp)) (by simp)
     | some u=>
      rcases hO b with z|z|⟨ob,xs,z⟩
      ·exact absurd z nb
      ·rw[q] at z;cases z
      ·have z2:=un.frzs b ob _ z
       obtain⟨e1,_⟩:=hok b _ z
       obtain⟨e2,_⟩:=hok' b _ z2
       rw[e] at e1;cases e1
       exact e2
    refine⟨rfl,⟨fun b o e=>?_,fun b o e=>?_⟩,os,bare⟩
    ·by_cases hb:b=T
     ·subst hb
      rw[hT] at e;cases e
      exact .inr (.inl ⟨(hC.tab hT).isCodeTable,rfl,#[],more,rfl,eT2⟩)
     ·exact .inl (keep b o hb e)
    ·by_cases hb:b=T
     ·subst hb;exact⟨_,eT2⟩
     ·exact⟨o,keep b o hb e⟩
 cases hk:K.lookup a with
 | some o=>
  have e:=KX a o hk
  rw[ha] at e
  cases e
  refine core (fun b=>if b=T then some (.tbl #[]) else none) (if_pos rfl) (fun b=>?_) (.inr ⟨_,vs.toArray,_,hk,rfl,rfl,rfl,by rw[zcl9,lenV];exact hl,by simpa using rv⟩) (fun b u z=>?_) (fun b z=>?_) fun z=>absurd (if_neg haT) z
  ·by_cases hb:b=T
   ·exact .inl hb
   ·exact .inr (.inl (if_neg hb))
  ·by_cases hb:b=T
   ·have z':=(if_pos hb).symm.trans z
    cases z'
    subst hb
    exact hT
   ·have z':=(if_neg hb).symm.trans z
    cases z'
  ·by_cases hb:b=T
   ·exact .inr hb
   ·exact absurd (if_neg hb) z
 | none=>
  refine core (fun b=>if b=T then some (.tbl #[]) else if b=a then some (.frz { cls:=.type "list",data:=.seq vs.toArray } (.lst (ns.map V.int))) else none) (if_pos rfl) (fun b=>?_) (.inl (.inr ⟨{ cls:=.type "list",data:=.seq vs.toArray },(if_neg haT).trans (if_pos rfl)⟩)) (fun b u z=>?_) (fun b z=>?_) fun _=>hk
  ·by_cases hb:b=T
   ·exact .inl hb
   ·by_cases hb2:b=a
    ·exact .inr (.inr ⟨_,_,(if_neg hb).trans (if_pos hb2)⟩)
    ·exact .inr (.inl ((if_neg hb).trans (if_neg hb2)))
  ·by_cases hb:b=T
   ·have z':=(if_pos hb).symm.trans z
    cases z'
    subst hb
    exact hT
   ·have z':=(if_neg hb).symm.trans z
    by_cases hb2:b=a
    ·have z'':=(if_pos hb2).symm.trans z'
     cases z''
     subst hb2
     exact⟨ha,by rw[zck9];exact hl,vs,_,rv,ha⟩
    ·have z'':=(if_neg hb2).symm.trans z'
     cases z''
  ·by_cases hb:b=T
   ·exact .inr hb
   ·by_cases hb2:b=a
    ·exact .inl hb2
    ·exact absurd ((if_neg hb).trans (if_neg hb2)) z
theorem walk_ofT{l:PySem.W.OpenLaw}{n k:Nat}{q:Program}{loose:List Str}{XP:(Str->Option Value)->Heap->Prop}{YP:World->Heap->Prop}{d d9:DefRec}{K:Params->zcl5}{CX:World->CXT}{sp:World->Addr->Sp}{x:Str}(hn:l.most=some n)(hn2:n<=sizeLine)(hdf:d.params.defaults=[])(hr:Room k callerA)(hY:∀ (w:World) (h:Heap),YP w h->(K w.params).In h)(xx:Str)(hnt:∀ w:World,PySem.W.noTabs (K w.params)=true)(hrec:(recsOf q).find? (fun e=>e.name==xx)=some d9)(F:∀ (w:World) (mg:Str->Option Value) (fa:Addr) (h:Heap),(K w.params).In h->h.Ns zcx8 mg->mg d.name=some (.ref fa) ->
   ∃ (c T:Addr) (fd:FuncData),zcw8 (K w.params) xx=some (c,T)/\(∀ (s:Shared) (u:Value),BindsTo s fd ⟨[u],[]⟩ [(x,u)]) /\
    ∀ base:Heap,(K w.params).In base->base.Ns zcx8 mg->PySem.W.CodeHd base c T->Bm mg base->FnOk l.prog w (K w.params) mg base (CX w) k fa fd [x] (sp w T))(hsp:∀ (w:World) (T:Addr) (H:Hp) (a:Addr) (ns:List Int),ns.length<=n->H T=some (.tbl #[])->SqL (K w.params) H a (ns.map V.int)->sp w T [.ref a] H (fun v _=>v=.bl true) fun _ _ _=>False)(hCX:∀ (w:World) (H:Hp) (s:Shared) (e:Value) (s':Shared),CX w [] H s (fun _ _ _=>False) e s'->False) :
  PySem.W.WalkO q loose XP YP l.row.toRowW d [] (fun f vs=>PySem.call f vs):=by
 refine Att.attach_call hn hdf fun w s₀ s₁ mg mb fa o pm cd doc a vs ns G Y ho hd hcd hmg hobj hints hlen hg=>?_
 have KX:=hY w _ Y
 obtain⟨c,T,fd,htab,hb,hF⟩:=F w mg fa _ KX G.T.g hmg
 obtain⟨hC,hT⟩:=PySem.W.tab_of G.T KX hrec htab
 exact zbj5 KX (hnt w) G.T.g G.T.b G.T.builtins G.T.nolimit hg hC hT G.T.bmain hobj hints (zcp4 hlen hn2) hr hF hb (fun H hO hS=>hsp w T H a ns hlen hO hS) fun H e s'=>hCX w H s₁ e s'
theorem zbu1{K:zcl5}{x:Str}{c T f:Addr}{oc:Value}{od:Option Addr}{fd:FuncData}{sl:Array (Option Value)}(hT:zcw8 K x=some (c,T))(a:zcq4 K zcx8 x=some (some (.ref f)))(l:K.lookup f=some ⟨oc,od,.func fd,sl⟩):fd.code=.ref c:=by
 unfold zcw8 at hT
 rw[a] at hT
 dsimp only at hT
 rw[l] at hT
 dsimp only at hT
 split at hT
 ·rename_i c2 e
  split at hT
  ·split at hT
   ·cases hT;exact e
   ·cases hT
  ·cases hT
 ·cases hT
set_option maxHeartbeats 4000000
section
variable {X:Cx}{K:zcl5}{H:Hp}{Q:VK}
end
set_option maxHeartbeats 2000000
set_option maxHeartbeats 4000000
set_option maxHeartbeats 1000000
set_option maxHeartbeats 2000000
def zl1:Bool->Keyed->Array Keyed->Nat->Nat->Nat->StateT SortSt Sem (Option Nat):=sortPriv% PySem.Builtin.gallop
noncomputable def gal(beyond:Nat->StateT SortSt Sem (Option Bool))(n hint:Nat):StateT SortSt Sem (Option Nat):=do
 let mut lastofs:=0
 let mut ofs:=1
 let mut lo:=0
 let mut hi:=0
 let some right ← beyond hint|return none
 if right then
  let maxofs:=n - hint
  for _ in [0:n] do
   if ofs≥maxofs then break
   let some more ← beyond (hint+ofs)|return none
   if !more then break
   lastofs:=ofs
   ofs:=2*ofs+1
  lo:=hint+lastofs+1
  hi:=hint+min ofs maxofs
 else
  let maxofs:=hint+1
  for _ in [0:n] do
   if ofs≥maxofs then break
   let some found ← beyond (hint - ofs)|return none
   if found then break
   lastofs:=ofs
   ofs:=2*ofs+1
  lo:=hint+1 - min ofs maxofs
  hi:=hint - lastofs
 for _ in [0:n] do
  if lo≥hi then break
  let m:=lo+(hi - lo) / 2
  let some more ← beyond m|return none
  if more then lo:=m+1 else hi:=m
 return some hi
theorem zbd6(left:Bool)(key:Keyed)(arr:Array Keyed)(base n hint:Nat):zl1 left key arr base n hint=gal (fun i=>do
  let x ← elem' arr (base+i)
  if left then lt' x key else return (← lt' key x).map (!·)) n hint:=rfl
def ik(x:Keyed):Prop:=∃ n t,x.1=.int n t
section
variable {prog:Program}{w:World}{A:Around}{E:Value->Shared->Prop}{s:Shared}{st:SortSt}
theorem zao7{x y:Keyed}{Q:Option Bool->SortSt->Prop}(hk:kindOf st=oneType')(hx:ik x)(hy:ik y)(h:Q (some (decide (numOf x.1<numOf y.1))) st) :
  wpS (model prog w) A E s (lt' x y) Q st:=by
 obtain⟨n,t,e⟩:=hx
 obtain⟨n2,t2,e2⟩:=hy
 rw[lt'_eq]
 refine wpS_bind (wpS_get ?_)
 rw[hk,keyLt'_oneType,e,e2]
 refine wpS_bind (wpS_lift (wpAny_attempt (oneLt_int ⟨rfl,?_⟩)))
 rw[e,e2] at h
 exact wpS_pure h
theorem zc1{xs:Array Keyed}{i:Nat}{x:Keyed}{Q:Keyed->SortSt->Prop}(h:xs[i]?=some x)(hq:Q x st):wpS (model prog w) A E s (elem' xs i) Q st:=by
 rw[elem'_eq,h];exact wpS_pure hq
def byd(left:Bool)(key:Keyed)(xs:Array Keyed)(i:Nat):Bool:=if left then decide (K xs i<numOf key.1) else !decide (numOf key.1<K xs i)
theorem K_of{xs:Array Keyed}{i:Nat}(h:i<xs.size):K xs i=numOf xs[i].1:=by unfold K;rw[getElem?_pos xs i h]
theorem zm3{left:Bool}{key:Keyed}{xs:Array Keyed}{base n hint:Nat}{Q:Option Nat->SortSt->Prop}(hk:kindOf st=oneType')(h0:IntKeys xs)(hy:ik key)(hn:base+n<=xs.size)(hh:hint<n)(hs:∀ i j,base<=i->i<=j->j<base+n->K xs i<=K xs j)(h:∀ k,k<=n->(∀ i,i<k->byd left key xs (base+i)=true)->(∀ i,k<=i->i<n->byd left key xs (base+i)=false)->Q (some k) st) :
  wpS (model prog w) A E s (zl1 left key xs base n hint) Q st:=by
 have mono:∀ i j,i<=j->j<n->byd left key xs (base+j)=true->byd left key xs (base+i)=true:=by
  intro i j hij hj e
  have:=hs (base+i) (base+j) (by omega) (by omega) (by omega)
  unfold byd at e ⊢
  cases left
  ·simp only[zcs0,if_false,Bool.not_eq_true',decide_eq_false_iff_not] at e ⊢;omega
  ·simp only[if_true,decide_eq_true_iff] at e ⊢;omega
 obtain⟨bb,ebb⟩:∃ bb:Nat->StateT SortSt Sem (Option Bool),bb=fun i=>(do let x ← elem' xs (base+i);if left=true then lt' x key else do let __do_lift ← lt' key x;pure (Option.map (fun x=>!x) __do_lift)):=⟨_,rfl⟩
 have ask:∀ (i:Nat) (R:Option Bool->SortSt->Prop),i<n->R (some (byd left key xs (base+i))) st ->
   wpS (model prog w) A E s (bb i) R st:=by
  intro i R hi r
  rw[ebb]
  have hi':base+i<xs.size:=by omega
  refine wpS_bind (zc1 (getElem?_pos xs _ hi') ?_)
  have hx:ik xs[base+i]:=h0 _ (by simp)
  unfold byd at r
  rw[K_of hi'] at r
  cases left
  ·rw[if_neg (by decide)] at r ⊢
   exact wpS_bind (zao7 hk hy hx (wpS_pure r))
  ·rw[if_pos rfl] at r ⊢
   exact zao7 hk hx hy r
 rw[zbd6,← ebb]
 unfold gal
 dsimp only
 have bin:∀ lo hi,lo<=hi->hi<=n->(∀ i,i<lo->byd left key xs (base+i)=true)->(∀ i,hi<=i->i<n->byd left key xs (base+i)=false) ->
   wpS (model prog w) A E s (forIn [:n] ((none,lo,hi):Option (Option Nat)×Nat×Nat) fun x __s=>
        if __s.snd.fst≥__s.snd.snd then pure (ForInStep.done (none,__s.snd.fst,__s.snd.snd))
        else do
         let __x ← bb (__s.snd.fst+(__s.snd.snd - __s.snd.fst) / 2)
         match __x with
          | some more=>
           if more=true then
            pure (ForInStep.yield (none,__s.snd.fst+(__s.snd.snd - __s.snd.fst) / 2+1,__s.snd.snd))
           else pure (ForInStep.yield (none,__s.snd.fst,__s.snd.fst+(__s.snd.snd - __s.snd.fst) / 2))
          | x=>pure (ForInStep.done (some none,__s.snd.fst,__s.snd.snd))) (fun c st'=>st'=st/\∃ l,c=(none,l,l)/\l<=n/\(∀ i,i<l->byd left key xs (base+i)=true)/\(∀ i,l<=i->i<n->byd left key xs (base+i)=false)) st:=by
  intro lo hi hlh hhn hlo hhi
  refine wpS_forRange (I:=fun x c st'=>st'=st/\∃ l r,c=(none,l,r)/\l<=r/\r<=n/\r - l<=n - x/\(∀ i,i<l->byd left key xs (base+i)=true)/\(∀ i,r<=i->i<n->byd left key xs (base+i)=false)) ?step ?fin ⟨rfl,lo,hi,rfl,hlh,hhn,by omega,hlo,hhi⟩
  case fin=>
   rintro c st' ⟨rfl,l,r,rfl,h1,h2,h3,h4,h5⟩
   have:l=r:=by omega
   subst this
   exact⟨rfl,l,rfl,h2,h4,h5⟩
  case step=>
   rintro x c st' _ hx ⟨rfl,l,r,rfl,h1,h2,h3,h4,h5⟩
   dsimp only
   by_cases hge:l≥r
   ·rw[if_pos hge]
    have:l=r:=by omega
    subst this
    exact wpS_pure ⟨rfl,l,rfl,h2,h4,h5⟩
   ·rw[if_neg hge]
    refine wpS_bind (ask (l+(r - l) / 2) _ (by omega) ?_)
    dsimp only
    by_cases hb:byd left key xs (base+(l+(r - l) / 2))=true
    ·rw[if_pos hb]
     exact wpS_pure ⟨rfl,_,_,rfl,by omega,h2,by omega,fun i hi=>mono i _ (by omega) (by omega) hb,h5⟩
    ·rw[if_neg hb]
     refine wpS_pure ⟨rfl,_,_,rfl,by omega,by omega,by omega,h4,fun i h6 h7=>?_⟩
     cases q:byd left key xs (base+i) with
     | false=>rfl
     | true=>exact absurd (mono _ i h6 h7 q) hb
 have post:∀ c st',(st'=st/\∃ l:Nat,c=((none,l,l):Option (Option Nat)×Nat×Nat)/\l<=n/\(∀ i,i<l->byd left key xs (base+i)=true)/\(∀ i,l<=i->i<n->byd left key xs (base+i)=false))->(c.1=none/\Q (some c.2.2) st'):=by
  rintro c st' ⟨rfl,l,rfl,h1,h2,h3⟩
  exact⟨rfl,h l h1 h2 h3⟩
 refine wpS_bind (ask hint _ hh ?_)
 dsimp only
 by_cases hb:byd left key xs (base+hint)=true
 ·rw[if_pos hb]
  refine wpS_bind (wpS_mono (wpS_forRange (I:=fun x c st'=>st'=st/\∃ l r,c=(none,l,r)/\l<r/\x+1<=r/\l<n - hint/\byd left key xs (base+(hint+l))=true)
   (Q:=fun c st'=>st'=st/\∃ l r,c=(none,l,r)/\l<r/\l<n - hint/\byd left key xs (base+(hint+l))=true/\(r<n - hint->byd left key xs (base+(hint+r))=false)) ?step ?fin ⟨rfl,0,1,rfl,by omega,by omega,by omega,hb⟩) ?post)
  case fin=>
   rintro c st' ⟨rfl,l,r,rfl,h1,h2,h3,h4⟩
   exact⟨rfl,l,r,rfl,h1,h3,h4,fun h5=>by omega⟩
  case post=>
   rintro c st' ⟨rfl,l,r,rfl,h1,h2,h3,h4⟩
   dsimp only
   refine wpS_bind (wpS_mono (bin (hint+l+1) (hint+min r (n - hint)) (by omega) (by omega) (fun i hi=>mono i (hint+l) (by omega) (by omega) h3) fun i h5 h6=>?_) fun c st2 hc=>?_)
   ·cases q:byd left key xs (base+i) with
    | false=>rfl
    | true=>
     have h7:r<n - hint:=by omega
     have h8:=h4 h7
     rw[mono (hint+r) i (by omega) h6 q] at h8
     exact h8
   ·obtain⟨e,hq⟩:=post c st2 hc
    obtain⟨c1,c2⟩:=c
    cases e
    exact wpS_pure hq
  case step=>
   rintro x c st' _ hx ⟨rfl,l,r,rfl,h1,h2,h3,h4⟩
   dsimp only
   by_cases hge:r≥n - hint
   ·rw[if_pos hge]
    exact wpS_pure ⟨rfl,l,r,rfl,h1,h3,h4,fun h5=>by omega⟩
   ·rw[if_neg hge]
    refine wpS_bind (ask (hint+r) _ (by omega) ?_)
    dsimp only
    by_cases hm:byd left key xs (base+(hint+r))=true
    ·rw[if_neg (by rw[hm];decide)]
     exact wpS_pure ⟨rfl,_,_,rfl,by omega,by omega,by omega,hm⟩
    ·have hm':byd left key xs (base+(hint+r))=false:=by simpa using hm
     rw[if_pos (by rw[hm'];rfl)]
     exact wpS_pure ⟨rfl,l,r,rfl,h1,h3,h4,fun _=>hm'⟩
 ·rw[if_neg hb]
  have hb':byd left key xs (base+hint)=false:=by simpa using hb
  refine wpS_bind (wpS_mono (wpS_forRange (I:=fun x c st'=>st'=st/\∃ l r,c=(none,l,r)/\l<r/\x+1<=r/\l<hint+1/\byd left key xs (base+(hint - l))=false)
   (Q:=fun c st'=>st'=st/\∃ l r,c=(none,l,r)/\l<r/\l<hint+1/\byd left key xs (base+(hint - l))=false/\(r<hint+1->byd left key xs (base+(hint - r))=true)) ?step2 ?fin2 ⟨rfl,0,1,rfl,by omega,by omega,by omega,hb'⟩) ?post2)
  case fin2=>
   rintro c st' ⟨rfl,l,r,rfl,h1,h2,h3,h4⟩
   exact⟨rfl,l,r,rfl,h1,h3,h4,fun h5=>by omega⟩
  case post2=>
   rintro c st' ⟨rfl,l,r,rfl,h1,h2,h3,h4⟩
   dsimp only
   refine wpS_bind (wpS_mono (bin (hint+1 - min r (hint+1)) (hint - l) (by omega) (by omega) (fun i hi=>mono i (hint - r) (by omega) (by omega) (h4 (by omega))) fun i h5 h6=>?_) fun c st2 hc=>?_)
   ·cases q:byd left key xs (base+i) with
    | false=>rfl
    | true=>
     rw[mono (hint - l) i (by omega) h6 q] at h3
     exact h3
   ·obtain⟨e,hq⟩:=post c st2 hc
    obtain⟨c1,c2⟩:=c
    cases e
    exact wpS_pure hq
  case step2=>
   rintro x c st' _ hx ⟨rfl,l,r,rfl,h1,h2,h3,h4⟩
   dsimp only
   by_cases hge:r≥hint+1
   ·rw[if_pos hge]
    exact wpS_pure ⟨rfl,l,r,rfl,h1,h3,h4,fun h5=>by omega⟩
   ·rw[if_neg hge]
    refine wpS_bind (ask (hint - r) _ (by omega) ?_)
    dsimp only
    by_cases hm:byd left key xs (base+(hint - r))=true
    ·rw[if_pos hm]
     exact wpS_pure ⟨rfl,l,r,rfl,h1,h3,h4,fun _=>hm⟩
    ·rw[if_neg hm]
     exact wpS_pure ⟨rfl,_,_,rfl,by omega,by omega,by omega,by simpa using hm⟩
end
class Gh where
 N:Int
 ix:Keyed->Int
 lo:∀ x,0<=ix x
 hi:∀ x,ix x<N
section
variable [Gh]
def gK(x:Keyed):Int:=numOf x.1*Gh.N+Gh.ix x
theorem zay9{m n i j N:Int}(h:m<n)(i1:i<N)(j0:0<=j)(i0:0<=i):m*N+i<n*N+j:=by
 have h2:(m+1)*N<=n*N:=Int.mul_le_mul_of_nonneg_right (by omega) (by omega)
 rw[Int.add_mul,Int.one_mul] at h2
 omega
theorem zbw3{m n i j N:Int}(h:m<=n)(hi:i<=j)(i1:i<N)(j0:0<=j)(i0:0<=i):m*N+i<=n*N+j:=by
 rcases Int.lt_or_eq_of_le h with h|rfl
 ·exact zct3 (zay9 h i1 j0 i0)
 ·omega
theorem zbz0{m n i j N:Int}(h:m*N+i<=n*N+j)(j1:j<N)(j0:0<=j)(i0:0<=i):m<=n:=by
 rcases Int.lt_or_le n m with h2|h2
 ·have:=zay9 h2 j1 i0 j0
  omega
 ·exact h2
theorem zbf1{x y:Keyed}(h:numOf x.1<numOf y.1):gK x<gK y:=zay9 h (Gh.hi x) (Gh.lo y) (Gh.lo x)
theorem zbe6{x y:Keyed}(h:numOf x.1<=numOf y.1)(hi:Gh.ix x<=Gh.ix y):gK x<=gK y:=zbw3 h hi (Gh.hi x) (Gh.lo y) (Gh.lo x)
theorem zby9{x y:Keyed}(h:gK x<=gK y):numOf x.1<=numOf y.1:=zbz0 h (Gh.hi y) (Gh.lo y) (Gh.lo x)
def Iat(xs:Array Keyed)(i:Nat):Int:=match xs[i]? with
 | some x=>Gh.ix x
 | none=>0
theorem I_at{xs:Array Keyed}{i:Nat}(h:i<xs.size):Iat xs i=Gh.ix xs[i]:=by unfold Iat;rw[getElem?_pos xs i h]
theorem zbk5{xs:Array Keyed}{i:Nat}{x:Keyed}(h:xs[i]?=some x):Iat xs i=Gh.ix x:=by unfold Iat;rw[h]
theorem zaw2{xs ys:Array Keyed}{i j:Nat}(h:xs[i]?=ys[j]?):Iat xs i=Iat ys j:=by unfold Iat;rw[h]
theorem I_lo(xs:Array Keyed)(i:Nat):0<=Iat xs i:=by
 unfold Iat;split
 ·exact Gh.lo _
 ·exact zcr4 _
theorem I_hi(xs:Array Keyed)(i:Nat)(h:i<xs.size):Iat xs i<Gh.N:=by rw[I_at h];exact Gh.hi _
def KG(xs:Array Keyed)(i:Nat):Int:=K xs i*Gh.N+Iat xs i
theorem zbd7{xs:Array Keyed}{i:Nat}(h:i<xs.size):KG xs i=gK xs[i]:=by unfold KG gK;rw[K_of h,I_at h]
theorem zk8{xs ys:Array Keyed}{i j:Nat}(h:xs[i]?=ys[j]?):KG xs i=KG ys j:=by unfold KG;rw[K_congr h,zaw2 h]
theorem zbi4{xs ys:Array Keyed}{i j:Nat}(hi:i<xs.size)(h:K xs i<K ys j):KG xs i<KG ys j:=zay9 h (I_hi xs i hi) (I_lo ys j) (I_lo xs i)
theorem zbm3{xs ys:Array Keyed}{i j:Nat}(hi:i<xs.size)(h:K xs i<=K ys j)(h2:Iat xs i<=Iat ys j):KG xs i<=KG ys j:=zbw3 h h2 (I_hi xs i hi) (I_lo ys j) (I_lo xs i)
theorem zbb1{xs ys:Array Keyed}{i j:Nat}(hj:j<ys.size)(h:KG xs i<=KG ys j):K xs i<=K ys j:=zbz0 h (I_hi ys j hj) (I_lo ys j) (I_lo xs i)
def Bfr(xs:Array Keyed)(m:Nat):Prop:=∀ i j,i<m->m<=j->j<xs.size->Iat xs i<=Iat xs j
def Bfs(xs:Array Keyed)(c:Nat):Prop:=∀ m,c<=m->Bfr xs m
theorem Bfs.up{xs:Array Keyed}{c d:Nat}(h:Bfs xs c)(hd:c<=d):Bfs xs d:=fun m hm=>h m (by omega)
structure Lcl(xs ys:Array Keyed)(u v:Nat):Prop where
 e:ys.size=xs.size
 o:∀ k,k<u∨v<=k->ys[k]?=xs[k]?
 n:∀ k,u<=k->k<v->∃ k',u<=k'/\k'<v/\ys[k]?=xs[k']?
theorem Lcl.sp{xs ys:Array Keyed}{u v m:Nat}(L:Lcl xs ys u v)(hm:m<=u∨v<=m)(h:Bfr xs m)(hv:v<=xs.size):Bfr ys m:=by
 intro i j hi hj hz
 have at1:∀ k,∃ k',(k<m↔k'<m)/\(k<xs.size->k'<xs.size)/\ys[k]?=xs[k']?:=fun k=>by
  by_cases hk:u<=k/\k<v
  ·obtain⟨k',h1,h2,h3⟩:=L.n k hk.1 hk.2
   exact⟨k',by omega,by omega,h3⟩
  ·exact⟨k,Iff.rfl,id,L.o k (by omega)⟩
 obtain⟨i',i1,i2,i3⟩:=at1 i
 obtain⟨j',j1,j2,j3⟩:=at1 j
 have e:=L.e
 rw[zaw2 i3,zaw2 j3]
 exact h i' j' (i1.mp hi) (by omega) (j2 (by omega))
theorem Lcl.so{xs ys:Array Keyed}{u v c:Nat}(L:Lcl xs ys u v)(h:Bfs xs c)(hc:v<=c)(hv:v<=xs.size):Bfs ys c:=fun m hm=>L.sp (.inr (by omega)) (h m hm) hv
theorem Lcl.refl(xs:Array Keyed)(u v:Nat):Lcl xs xs u v:=⟨rfl,fun _ _=>rfl,fun k h1 h2=>⟨k,h1,h2,rfl⟩⟩
theorem Lcl.wide{xs ys:Array Keyed}{u v u2 v2:Nat}(L:Lcl xs ys u v)(h1:u2<=u)(h2:v<=v2):Lcl xs ys u2 v2:=⟨L.e,fun k hk=>L.o k (by omega),fun k k1 k2=>by
 by_cases hk:u<=k/\k<v
 ·obtain⟨k',a1,a2,a3⟩:=L.n k hk.1 hk.2
  exact⟨k',by omega,by omega,a3⟩
 ·exact⟨k,k1,k2,L.o k (by omega)⟩⟩
theorem Lcl.trans{xs ys zs:Array Keyed}{u v:Nat}(L:Lcl xs ys u v)(M:Lcl ys zs u v):Lcl xs zs u v:=⟨M.e.trans L.e,fun k hk=>(M.o k hk).trans (L.o k hk),fun k k1 k2=>by
 obtain⟨k',a1,a2,a3⟩:=M.n k k1 k2
 obtain⟨k3,b1,b2,b3⟩:=L.n k' a1 a2
 exact⟨k3,b1,b2,a3.trans b3⟩⟩
theorem Lcl.mir{xs:Array Keyed}{i j:Nat}(hj:j<=xs.size):Lcl xs (mirror xs i j ((j - i) / 2)) i j:=⟨(mirror_perm _ _ _ _).size_eq,fun k hk=>by rw[getElem?_mirror_all hj,if_neg (by omega)],fun k h1 h2=>⟨i+j - 1 - k,by omega,by omega,by rw[getElem?_mirror_all hj,if_pos ⟨h1,h2⟩]⟩⟩
theorem Lcl.bub{xs:Array Keyed}{src d:Nat}(hs:src<xs.size)(hd:d<=src):Lcl xs (bubble xs src d) (src - d) (src+1):=⟨(bubble_perm _ _ _).size_eq,fun k hk=>by rw[getElem?_bubble hs _ hd,if_neg (by omega),if_neg (by omega)],fun k h1 h2=>by
 by_cases hk:k=src - d
 ·exact⟨src,by omega,by omega,by rw[getElem?_bubble hs _ hd,if_pos hk]⟩
 ·exact⟨k - 1,by omega,by omega,by rw[getElem?_bubble hs _ hd,if_neg hk,if_pos (by omega)]⟩⟩
theorem zw0{xs:Array Keyed}{i j:Nat}(h:j<=xs.size)(k:Nat):KG (mirror xs i j ((j - i) / 2)) k=if i<=k/\k<j then KG xs (i+j - 1 - k) else KG xs k:=by
 by_cases hk:i<=k/\k<j
 ·rw[if_pos hk];exact zk8 (by rw[getElem?_mirror_all h,if_pos hk])
 ·rw[if_neg hk];exact zk8 (by rw[getElem?_mirror_all h,if_neg hk])
theorem zao0{xs:Array Keyed}{src d:Nat}(hs:src<xs.size)(hd:d<=src)(k:Nat):KG (bubble xs src d) k=if k=src - d then KG xs src else if src - d<k/\k<=src then KG xs (k - 1) else KG xs k:=by
 by_cases h1:k=src - d
 ·rw[if_pos h1];exact zk8 (by rw[getElem?_bubble hs _ hd,if_pos h1])
 ·rw[if_neg h1]
  by_cases h2:src - d<k/\k<=src
  ·rw[if_pos h2];exact zk8 (by rw[getElem?_bubble hs _ hd,if_neg h1,if_pos h2])
  ·rw[if_neg h2];exact zk8 (by rw[getElem?_bubble hs _ hd,if_neg h1,if_neg h2])
end
section
variable [Gh]
abbrev kLe(p q:Keyed):Prop:=gK p<=gK q
def MO(ab L:List Keyed):Prop:=L.Perm ab/\L.Pairwise kLe
structure MI(ab O A B:List Keyed):Prop where
 a:(O++A).Pairwise kLe
 b:(O++B).Pairwise kLe
 p:(O++A++B).Perm ab
theorem MI.takeAs{ab O A1 A2 B:List Keyed}(h:MI ab O (A1++A2) B)(hl:∀ x∈A1,∀ y∈B,kLe x y):MI ab (O++A1) A2 B:=by
 obtain⟨h1,h2,h3⟩:=h
 refine⟨by rw[zcp9];exact h1,?_,by rw[← zcp9] at h3;exact h3⟩
 have h4:=zco4.mp h2
 have h5:=zco4.mp h1
 have h6:=zco4.mp h5.2.1
 refine zco4.mpr ⟨zco4.mpr ⟨h4.1,h6.1,fun x hx y hy=>h5.2.2 x hx y (zcr8 _ hy)⟩,h4.2.1,fun x hx y hy=>?_⟩
 rcases zco0.mp hx with hx|hx
 ·exact h4.2.2 x hx y hy
 ·exact hl x hx y hy
theorem MI.symm{ab O A B:List Keyed}(h:MI ab O A B):MI ab O B A:=
 ⟨h.b,h.a,((zcp9 O B A).symm▸(zcp9 O A B).symm▸(List.perm_append_comm (l₁:=B) (l₂:=A)).append_left O:(O++B++A).Perm (O++A++B)).trans h.p⟩
theorem MI.takeBs{ab O A B1 B2:List Keyed}(h:MI ab O A (B1++B2))(hl:∀ x∈B1,∀ y∈A,kLe x y):MI ab (O++B1) A B2:=(h.symm.takeAs hl).symm
theorem MI.finA{ab O B:List Keyed}(h:MI ab O [] B):MO ab (O++B):=⟨by simpa using h.p,h.b⟩
theorem MI.finB{ab O A:List Keyed}(h:MI ab O A []):MO ab (O++A):=⟨by simpa using h.p,h.a⟩
theorem MI.last{ab O B:List Keyed}{x:Keyed}(h:MI ab O [x] B)(hl:∀ y∈B,kLe y x):MO ab (O++B++[x]):=by
 refine (MI.takeBs (B1:=B) (B2:=[]) (by rw[zcr6];exact h) fun y hy z hz=>?_).finB
 rw[zcn9.mp hz];exact hl y hy
structure MH(ab O A B:List Keyed):Prop where
 a:(A++O).Pairwise kLe
 b:(B++O).Pairwise kLe
 p:(A++B++O).Perm ab
theorem MH.symm{ab O A B:List Keyed}(h:MH ab O A B):MH ab O B A:=⟨h.b,h.a,((List.perm_append_comm (l₁:=B) (l₂:=A)).append_right O).trans h.p⟩
theorem MH.takeAs{ab O A1 A2 B:List Keyed}(h:MH ab O (A1++A2) B)(hl:∀ y∈B,∀ x∈A2,kLe y x):MH ab (A2++O) A1 B:=by
 obtain⟨h1,h2,h3⟩:=h
 have h4:=zco4.mp h2
 have h5:=zco4.mp h1
 have h6:=zco4.mp h5.1
 refine⟨by rw[← zcp9];exact h1,zco4.mpr ⟨h4.1,zco4.mpr ⟨h6.2.1,h4.2.1,fun x hx y hy=>h5.2.2 x (zco1 _ hx) y hy⟩,fun x hx y hy=>?_⟩,?_⟩
 ·rcases zco0.mp hy with hy|hy
  ·exact hl x hx y hy
  ·exact h4.2.2 x hx y hy
 ·refine List.Perm.trans ?_ h3
  rw[zcp9,zcp9,zcp9]
  exact (List.perm_append_comm_assoc B A2 O).append_left _
theorem MH.takeBs{ab O A B1 B2:List Keyed}(h:MH ab O A (B1++B2))(hl:∀ y∈A,∀ x∈B2,kLe y x):MH ab (B2++O) A B1:=(h.symm.takeAs hl).symm
theorem MH.finA{ab O B:List Keyed}(h:MH ab O [] B):MO ab (B++O):=⟨by simpa using h.p,h.b⟩
theorem MH.finB{ab O A:List Keyed}(h:MH ab O A []):MO ab (A++O):=⟨by simpa using h.p,h.a⟩
theorem MH.first{ab O A:List Keyed}{x:Keyed}(h:MH ab O A [x])(hl:∀ y∈A,kLe x y):MO ab ([x]++A++O):=by
 rw[zcp9]
 refine (MH.takeAs (A1:=[]) (A2:=A) (by rw[List.nil_append];exact h) fun y hy z hz=>?_).finA
 rw[zcn9.mp hy];exact hl z hz
omit [Gh] in
def zf5:Nat->StateT SortSt Sem Unit:=sortPriv% PySem.Builtin.setMinGallop
omit [Gh] in
theorem zh8(g:Nat):zf5 g=modify (fun s=>SortSt.mk' (kindOf s) (arrOf s) (pendingOf s) g (failedOf s)):=rfl
omit [Gh] in
def zal1:Array Keyed->Array Keyed->StateT SortSt Sem (Array Keyed):=sortPriv% PySem.Builtin.mergeLo
omit [Gh] in
theorem zax3(a b:Array Keyed):zal1 a b=(do
 rule "list.sort.merge-lo"
 let total:=a.size+b.size
 let done (out:Array Keyed) (ia ib:Nat):=out++a.extract ia a.size++b.extract ib b.size
 let lastOfA (out:Array Keyed) (ia ib:Nat):=out++b.extract ib b.size++a.extract ia a.size
 let mut out:Array Keyed:=#[← elem' b 0]
 let mut ia:=0
 let mut ib:=1
 if ib==b.size then return done out ia ib
 if ia+1==a.size then return lastOfA out ia ib
 let mut minGallop:=gallopOf (← get)
 for _ in [0:total] do
  let mut acount:=0
  let mut bcount:=0
  for _ in [0:total] do
   let some bWins ← lt' (← elem' b ib) (← elem' a ia)|return done out ia ib
   if bWins then
    out:=out.push (← elem' b ib);ib:=ib+1;bcount:=bcount+1;acount:=0
    if ib==b.size then return done out ia ib
    if bcount≥minGallop then break
   else
    out:=out.push (← elem' a ia);ia:=ia+1;acount:=acount+1;bcount:=0
    if ia+1==a.size then return lastOfA out ia ib
    if acount≥minGallop then break
  rule "list.sort.gallop"
  minGallop:=minGallop+1
  for _ in [0:total] do
   if minGallop>1 then minGallop:=minGallop - 1
   zf5 minGallop
   let some k ← zl1 false (← elem' b ib) a ia (a.size - ia) 0|return done out ia ib
   acount:=k
   if k>0 then
    out:=out++a.extract ia (ia+k);ia:=ia+k
    if ia+1==a.size then return lastOfA out ia ib
    if ia==a.size then return done out ia ib
   out:=out.push (← elem' b ib);ib:=ib+1
   if ib==b.size then return done out ia ib
   let some k ← zl1 true (← elem' a ia) b ib (b.size - ib) 0|return done out ia ib
   bcount:=k
   if k>0 then
    out:=out++b.extract ib (ib+k);ib:=ib+k
    if ib==b.size then return done out ia ib
   out:=out.push (← elem' a ia);ia:=ia+1
   if ia+1==a.size then return lastOfA out ia ib
   if acount<7&&bcount<7 then break
  minGallop:=minGallop+1
  zf5 minGallop
 unsupported "internal:list.sort.merge-bound"):=rfl
theorem zr1{α:Type}(a:Array α)(i:Nat):(a.extract i a.size).toList=a.toList.drop i:=by
 rw[zcw5]
 simp[List.extract]
 exact zco9 (by simp)
omit [Gh] in
abbrev setG(st:SortSt)(g:Nat):SortSt:=SortSt.mk' (kindOf st) (arrOf st) (pendingOf st) g (failedOf st)
theorem zr0{α:Type}{a:Array α}{i:Nat}(h:i<a.size):a.toList.drop i=a[i] :: a.toList.drop (i+1):=by
 rw[zcq9 (by simpa using h)]
 simp
theorem zbp6{α:Type}(a:Array α)(i k:Nat):a.toList.drop i=(a.extract i (i+k)).toList++a.toList.drop (i+k):=by
 rw[zcw5,List.extract,Nat.add_sub_cancel_left,← List.drop_drop,zct6]
structure LI(a b out:Array Keyed)(ia ib:Nat):Prop where
 m:MI (a.toList++b.toList) out.toList (a.toList.drop ia) (b.toList.drop ib)
 z:out.size=ia+ib
section
variable {a b out:Array Keyed}{ia ib:Nat}
theorem LI.pushB(h:LI a b out ia ib)(hb:ib<b.size)(hl:∀ x∈a.toList.drop ia,kLe b[ib] x):LI a b (out.push b[ib]) ia (ib+1):=by
 have h1:=h.m
 rw[zr0 hb] at h1
 refine⟨?_,by rw[Array.size_push,h.z];omega⟩
 rw[zcv0]
 exact MI.takeBs (B1:=[b[ib]]) h1 fun y hy x hx=>by rw[zcn9.mp hy];exact hl x hx
theorem LI.pushA(h:LI a b out ia ib)(ha:ia<a.size)(hl:∀ x∈b.toList.drop ib,kLe a[ia] x):LI a b (out.push a[ia]) (ia+1) ib:=by
 have h1:=h.m
 rw[zr0 ha] at h1
 refine⟨?_,by rw[Array.size_push,h.z];omega⟩
 rw[zcv0]
 exact MI.takeAs (A1:=[a[ia]]) h1 fun y hy x hx=>by rw[zcn9.mp hy];exact hl x hx
theorem LI.appA{k:Nat}(h:LI a b out ia ib)(hk:ia+k<=a.size)(hl:∀ x∈(a.extract ia (ia+k)).toList,∀ y∈b.toList.drop ib,kLe x y):LI a b (out++a.extract ia (ia+k)) (ia+k) ib:=by
 have h1:=h.m
 rw[zbp6 a ia k] at h1
 refine⟨?_,by rw[Array.size_append,h.z,zcs4,zcs8 hk];omega⟩
 rw[zco8]
 exact MI.takeAs h1 hl
theorem LI.appB{k:Nat}(h:LI a b out ia ib)(hk:ib+k<=b.size)(hl:∀ x∈(b.extract ib (ib+k)).toList,∀ y∈a.toList.drop ia,kLe x y):LI a b (out++b.extract ib (ib+k)) ia (ib+k):=by
 have h1:=h.m
 rw[zbp6 b ib k] at h1
 refine⟨?_,by rw[Array.size_append,h.z,zcs4,zcs8 hk];omega⟩
 rw[zco8]
 exact MI.takeBs h1 hl
theorem LI.finA(h:LI a b out ia ib)(e:ia=a.size):MO (a.toList++b.toList) (out++a.extract ia a.size++b.extract ib b.size).toList:=by
 have h1:=h.m
 rw[zco8,zco8,zr1,zr1]
 rw[zcr1 (by simp[e])] at h1 ⊢
 rw[zcr6]
 exact h1.finA
theorem LI.finB(h:LI a b out ia ib)(e:ib=b.size):MO (a.toList++b.toList) (out++a.extract ia a.size++b.extract ib b.size).toList:=by
 have h1:=h.m
 rw[zco8,zco8,zr1,zr1]
 rw[zcr1 (as:=b.toList) (by simp[e])] at h1 ⊢
 rw[zcr6]
 exact h1.finB
theorem LI.last(h:LI a b out ia ib)(e:ia+1=a.size)(hl:∀ y∈b.toList,∀ x∈a.toList.drop (a.size - 1),kLe y x):MO (a.toList++b.toList) (out++b.extract ib b.size++a.extract ia a.size).toList:=by
 have h1:=h.m
 have hlt:ia<a.size:=by omega
 rw[zco8,zco8,zr1,zr1]
 rw[show a.size - 1=ia by omega] at hl
 rw[zr0 hlt,zcr1 (as:=a.toList) (by simp[e])] at h1 hl ⊢
 exact h1.last fun y hy=>hl y (zcs5 hy) _ (.head _)
theorem LI.hdA(h:LI a b out ia ib)(ha:ia<a.size):∀ x∈a.toList.drop ia,kLe a[ia] x:=by
 have h1:=(zco4.mp h.m.a).2.1
 rw[zr0 ha] at h1 ⊢
 intro x hx
 rcases zcm1.mp hx with rfl|hx
 ·exact zcr4 _
 ·exact (zco5.mp h1).1 x hx
theorem LI.hdB(h:LI a b out ia ib)(hb:ib<b.size):∀ x∈b.toList.drop ib,kLe b[ib] x:=by
 have h1:=(zco4.mp h.m.b).2.1
 rw[zr0 hb] at h1 ⊢
 intro x hx
 rcases zcm1.mp hx with rfl|hx
 ·exact zcr4 _
 ·exact (zco5.mp h1).1 x hx
end
theorem zi8{x:Keyed}{a:Array Keyed}{i j:Nat}(h:x∈(a.extract i j).toList):∃ d,i+d<j/\i+d<a.size/\a[i+d]?=some x:=by
 obtain⟨d,hd,e⟩:=List.mem_iff_getElem.mp h
 rw[zcm7,zcs4] at hd
 refine⟨d,by omega,by omega,?_⟩
 rw[← e,zct8,Array.getElem_extract,getElem?_pos]
theorem zbx2{x:Keyed}{a:Array Keyed}{i:Nat}(h:x∈a.toList.drop i):∃ d,i+d<a.size/\a[i+d]?=some x:=by
 rw[← zr1] at h
 obtain⟨d,h1,h2,h3⟩:=zi8 h
 exact⟨d,h2,h3⟩
theorem in_of{x:Keyed}{a:Array Keyed}{i:Nat}(h:a[i]?=some x):x∈a.toList:=by rw[zcw4];exact Array.mem_of_getElem? h
theorem zax4{xs:Array Keyed}{i:Nat}{x:Keyed}(h:xs[i]?=some x):KG xs i=gK x:=by unfold KG gK;rw[zbk5 h];unfold K;rw[h]
theorem zaa5{xs:Array Keyed}{i:Nat}{x:Keyed}(h:xs[i]?=some x):K xs i=numOf x.1:=by unfold K;rw[h]
theorem pw_K{xs:Array Keyed}(h:xs.toList.Pairwise kLe):∀ i j,i<=j->j<xs.size->K xs i<=K xs j:=by
 intro i j hij hj
 rcases Nat.eq_or_lt_of_le hij with rfl|hlt
 ·exact zcr4 _
 ·rw[K_of (by omega),K_of hj]
  have:=zcr0.mp h i j (by simp;omega) (by simpa using hj) hlt
  exact zby9 (by simpa using this)
end
section
variable [Gh]
omit [Gh] in
abbrev MlS:=Option (Array Keyed)×Array Keyed×Nat×Nat×Nat×Nat×Nat
omit [Gh] in
noncomputable def mL3(a b out:Array Keyed)(ia ib mg ac bc:Nat):StateT SortSt Sem (ForInStep MlS):=do
 let x ← elem' a ia
 if (ia+1+1==a.size)=true then pure (ForInStep.done (some (out.push x++b.extract ib b.size++a.extract (ia+1) a.size),out.push x,ia+1,ib,mg,ac,bc))
 else if (decide (ac<7)&&decide (bc<7))=true then pure (ForInStep.done (none,out.push x,ia+1,ib,mg,ac,bc))
 else pure (ForInStep.yield (none,out.push x,ia+1,ib,mg,ac,bc))
omit [Gh] in
noncomputable def mL2(a b out:Array Keyed)(ia ib mg ac bc:Nat):StateT SortSt Sem (ForInStep MlS):=do
 let y ← elem' b ib
 if (ib+1==b.size)=true then pure (ForInStep.done (some (out.push y++a.extract ia a.size++b.extract (ib+1) b.size),out.push y,ia,ib+1,mg,ac,bc))
 else do
  let x ← elem' a ia
  let __x ← zl1 true x b (ib+1) (b.size - (ib+1)) 0
  match __x with
  | some k=>
   if k>0 then
    if (ib+1+k==b.size)=true then pure (ForInStep.done (some (out.push y++b.extract (ib+1) (ib+1+k)++a.extract ia a.size++b.extract (ib+1+k) b.size),out.push y++b.extract (ib+1) (ib+1+k),ia,ib+1+k,mg,ac,k))
    else mL3 a b (out.push y++b.extract (ib+1) (ib+1+k)) ia (ib+1+k) mg ac k
   else mL3 a b (out.push y) ia (ib+1) mg ac k
  | _=>pure (ForInStep.done (some (out.push y++a.extract ia a.size++b.extract (ib+1) b.size),out.push y,ia,ib+1,mg,ac,bc))
omit [Gh] in
noncomputable def mL1(a b out:Array Keyed)(ia ib mg ac bc:Nat):StateT SortSt Sem (ForInStep MlS):=do
 zf5 mg
 let y ← elem' b ib
 let __x ← zl1 false y a ia (a.size - ia) 0
 match __x with
 | some k=>
  if k>0 then
   if (ia+k+1==a.size)=true then pure (ForInStep.done (some (out++a.extract ia (ia+k)++b.extract ib b.size++a.extract (ia+k) a.size),out++a.extract ia (ia+k),ia+k,ib,mg,k,bc))
   else if (ia+k==a.size)=true then pure (ForInStep.done (some (out++a.extract ia (ia+k)++a.extract (ia+k) a.size++b.extract ib b.size),out++a.extract ia (ia+k),ia+k,ib,mg,k,bc))
   else mL2 a b (out++a.extract ia (ia+k)) (ia+k) ib mg k bc
  else mL2 a b out ia ib mg k bc
 | _=>pure (ForInStep.done (some (out++a.extract ia a.size++b.extract ib b.size),out,ia,ib,mg,ac,bc))
def MlR(a b:Array Keyed)(st:SortSt)(z:Nat)(R:ForInStep MlS->SortSt->Prop):Prop:=
 (∀ L out ia ib mg ac bc g,MO (a.toList++b.toList) L.toList->R (.done (some L,out,ia,ib,mg,ac,bc)) (setG st g)) /\
 ∀ out ia ib mg ac bc g,LI a b out ia ib->ia+1<a.size->ib<b.size->z<out.size->R (.done (none,out,ia,ib,mg,ac,bc)) (setG st g)/\R (.yield (none,out,ia,ib,mg,ac,bc)) (setG st g)
section
variable {prog:Program}{w:World}{A:Around}{E:Value->Shared->Prop}{s:Shared}{st:SortSt}
theorem zbm8{a b out:Array Keyed}{ia ib mg ac bc z g:Nat}{R:ForInStep MlS->SortSt->Prop}(hl:∀ y∈b.toList,∀ x∈a.toList.drop (a.size - 1),kLe y x)(hL:LI a b out ia ib)(hia:ia+1<a.size)(hib:ib<b.size)(hle:∀ y∈b.toList.drop ib,kLe a[ia] y)(hz:z<=out.size)(r:MlR a b st z R):wpS (model prog w) A E s (mL3 a b out ia ib mg ac bc) R (setG st g):=by
 have hia':ia<a.size:=by omega
 unfold mL3
 refine wpS_bind (zc1 (getElem?_pos a ia hia') ?_)
 have hL2:=hL.pushA hia' hle
 by_cases e1:ia+1+1=a.size
 ·rw[if_pos (by simpa using e1)]
  exact wpS_pure (r.1 _ _ _ _ _ _ _ _ (hL2.last e1 hl))
 ·rw[if_neg (by simpa using e1)]
  have:=r.2 _ _ _ mg ac bc g hL2 (by omega) hib (by simp;omega)
  split
  ·exact wpS_pure this.1
  ·exact wpS_pure this.2
theorem zbo0{a b out:Array Keyed}{ia ib mg ac bc z g:Nat}{R:ForInStep MlS->SortSt->Prop}(hX:∀ x∈a.toList,∀ y∈b.toList,Gh.ix x<=Gh.ix y)(hk:kindOf st=oneType')(ha0:IntKeys a)(hb0:IntKeys b)(hsb:b.toList.Pairwise kLe)(hl:∀ y∈b.toList,∀ x∈a.toList.drop (a.size - 1),kLe y x)(hL:LI a b out ia ib)(hia:ia+1<a.size)(hib:ib<b.size)(hle:∀ y∈a.toList.drop ia,kLe b[ib] y)(hz:z<=out.size)(r:MlR a b st z R):wpS (model prog w) A E s (mL2 a b out ia ib mg ac bc) R (setG st g):=by
 have hia':ia<a.size:=by omega
 unfold mL2
 refine wpS_bind (zc1 (getElem?_pos b ib hib) ?_)
 have hL2:=hL.pushB hib hle
 by_cases e1:ib+1=b.size
 ·rw[if_pos (by simpa using e1)]
  exact wpS_pure (r.1 _ _ _ _ _ _ _ _ (hL2.finB e1))
 ·rw[if_neg (by simpa using e1)]
  refine wpS_bind (zc1 (getElem?_pos a ia hia') ?_)
  refine wpS_bind (zm3 hk hb0 (ha0 _ (by simp)) (by omega) (by omega) (fun i j _ h2 h3=>pw_K hsb i j h2 (by omega)) fun k h1 h2 h3=>?_)
  dsimp only
  have lt:∀ i,i<k->K b (ib+1+i)<numOf a[ia].1:=fun i hi=>by
   have:=h2 i hi
   unfold byd at this
   simpa using this
  have ge:∀ y∈b.toList.drop (ib+1+k),kLe a[ia] y:=fun y hy=>by
   obtain⟨d,h4,h5⟩:=zbx2 hy
   have h6:=h3 (k+d) (by omega) (by omega)
   rw[show ib+1+(k+d)=ib+1+k+d by omega] at h6
   unfold byd at h6
   rw[zaa5 h5] at h6
   exact zbe6 (by simpa using h6) (hX _ (by simp) _ (zcs5 hy))
  by_cases hk0:k>0
  ·rw[if_pos hk0]
   have hL3:=hL2.appB (k:=k) (by omega) fun x hx y hy=>by
    obtain⟨d,h4,h5,h6⟩:=zi8 hx
    have h7:=lt d (by omega)
    rw[zaa5 h6] at h7
    exact zct3 (Int.lt_of_lt_of_le (zbf1 h7) (hL2.hdA hia' y hy))
   by_cases e2:ib+1+k=b.size
   ·rw[if_pos (by simpa using e2)]
    exact wpS_pure (r.1 _ _ _ _ _ _ _ _ (hL3.finB e2))
   ·rw[if_neg (by simpa using e2)]
    exact zbm8 hl hL3 hia (by omega) ge (by simp;omega) r
  ·rw[if_neg hk0]
   have:k=0:=by omega
   subst this
   exact zbm8 hl hL2 hia (by omega) ge (by simp;omega) r
theorem zbi7{a b out:Array Keyed}{ia ib mg ac bc z g:Nat}{R:ForInStep MlS->SortSt->Prop}(hX:∀ x∈a.toList,∀ y∈b.toList,Gh.ix x<=Gh.ix y)(hk:kindOf st=oneType')(ha0:IntKeys a)(hb0:IntKeys b)(hsa:a.toList.Pairwise kLe)(hsb:b.toList.Pairwise kLe)(hl:∀ y∈b.toList,∀ x∈a.toList.drop (a.size - 1),kLe y x)(hL:LI a b out ia ib)(hia:ia+1<a.size)(hib:ib<b.size)(hz:z<=out.size)(r:MlR a b st z R):wpS (model prog w) A E s (mL1 a b out ia ib mg ac bc) R (setG st g):=by
 have hia':ia<a.size:=by omega
 unfold mL1
 rw[zh8]
 refine wpS_bind (wpS_modify ?_)
 refine wpS_bind (zc1 (getElem?_pos b ib hib) ?_)
 refine wpS_bind (zm3 hk ha0 (hb0 _ (by simp)) (by omega) (by omega) (fun i j _ h2 h3=>pw_K hsa i j h2 (by omega)) fun k h1 h2 h3=>?_)
 dsimp only
 have le:∀ i,i<k->K a (ia+i)<=numOf b[ib].1:=fun i hi=>by
  have:=h2 i hi
  unfold byd at this
  simpa using this
 have gt:∀ y∈a.toList.drop (ia+k),kLe b[ib] y:=fun y hy=>by
  obtain⟨d,h4,h5⟩:=zbx2 hy
  have h6:=h3 (k+d) (by omega) (by omega)
  rw[show ia+(k+d)=ia+k+d by omega] at h6
  unfold byd at h6
  rw[zaa5 h5] at h6
  have:numOf b[ib].1<numOf y.1:=by simpa using h6
  exact zct3 (zbf1 this)
 by_cases hk0:k>0
 ·rw[if_pos hk0]
  have hL3:=hL.appA (k:=k) (by omega) fun x hx y hy=>by
   obtain⟨d,h4,h5,h6⟩:=zi8 hx
   have h7:=le d (by omega)
   rw[zaa5 h6] at h7
   exact zct4 (zbe6 h7 (hX x (in_of h6) _ (by simp))) (hL.hdB hib y hy)
  by_cases e2:ia+k+1=a.size
  ·rw[if_pos (by simpa using e2)]
   exact wpS_pure (r.1 _ _ _ _ _ _ _ _ (hL3.last e2 hl))
  ·rw[if_neg (by simpa using e2)]
   by_cases e3:ia+k=a.size
   ·rw[if_pos (by simpa using e3)]
    exact wpS_pure (r.1 _ _ _ _ _ _ _ _ (hL3.finA e3))
   ·rw[if_neg (by simpa using e3)]
    exact zbo0 hX hk ha0 hb0 hsb hl hL3 (by omega) hib gt (by simp;omega) r
 ·rw[if_neg hk0]
  have:k=0:=by omega
  subst this
  exact zbo0 hX hk ha0 hb0 hsb hl hL hia hib gt hz r
theorem zav1{a b:Array Keyed}{Q:Array Keyed->SortSt->Prop}(hX:∀ x∈a.toList,∀ y∈b.toList,Gh.ix x<=Gh.ix y)(hk:kindOf st=oneType')(ha0:IntKeys a)(hb0:IntKeys b)(hsa:a.toList.Pairwise kLe)(hsb:b.toList.Pairwise kLe)(hna:0<a.size)(hnb:0<b.size)(hl:∀ y∈b.toList,∀ x∈a.toList.drop (a.size - 1),kLe y x)(hf:∀ x∈a.toList,kLe b[0] x)(h:∀ L g,MO (a.toList++b.toList) L.toList->Q L (setG st g)) :
  wpS (model prog w) A E s (zal1 a b) Q st:=by
 have Ka:=pw_K hsa
 have Kb:=pw_K hsb
 have ika:∀ i (h:i<a.size),ik a[i]:=fun i h=>ha0 _ (by simp)
 have ikb:∀ i (h:i<b.size),ik b[i]:=fun i h=>hb0 _ (by simp)
 have L0:LI a b #[b[0]] 0 1:=by
  refine⟨?_,rfl⟩
  have h1:MI (a.toList++b.toList) [] a.toList ([b[0]]++b.toList.drop 1):=by
   have e:[b[0]]++b.toList.drop 1=b.toList:=(zr0 (a:=b) hnb).symm
   rw[e]
   exact⟨hsa,hsb,List.Perm.refl _⟩
  have h2:=h1.takeBs fun y hy x hx=>by rw[zcn9.mp hy];exact hf x hx
  exact h2
 rw[zax3]
 dsimp only
 refine wpS_bind (wpS_lift (wpAny_rule ⟨rfl,?_⟩))
 refine wpS_bind (zc1 (getElem?_pos b 0 hnb) ?_)
 by_cases hb1:1=b.size
 ·rw[if_pos (by simpa using hb1)]
  exact wpS_pure (h _ (gallopOf st) (L0.finB hb1))
 rw[if_neg (by simpa using hb1)]
 by_cases ha1:0+1=a.size
 ·rw[if_pos (by simpa using ha1)]
  exact wpS_pure (h _ (gallopOf st) (L0.last ha1 hl))
 rw[if_neg (by simpa using ha1)]
 refine wpS_bind (wpS_get ?_)
 refine wpS_bind (wpS_mono (wpS_forRange (I:=fun x c st'=>∃ out ia ib mg g,c=(none,out,ia,ib,mg)/\st'=setG st g/\LI a b out ia ib/\ia+1<a.size/\ib<b.size/\x+1<=out.size)
  (Q:=fun c st'=>∃ L r g,c=(some L,r)/\st'=setG st g/\MO (a.toList++b.toList) L.toList) ?step ?fin ⟨_,0,1,gallopOf st,gallopOf st,rfl,rfl,L0,by omega,by omega,by simp⟩) ?post)
 case fin=>
  rintro c st' ⟨out,ia,ib,mg,g,rfl,rfl,h1,h2,h3,h4⟩
  have:=h1.z
  omega
 case post=>
  rintro c st' ⟨L,r,g,rfl,rfl,h1⟩
  exact wpS_pure (h L g h1)
 case step=>
  rintro x c st' _ hx ⟨out,ia,ib,mg,g,rfl,rfl,h1,h2,h3,h4⟩
  dsimp only
  refine wpS_bind (wpS_mono (wpS_forRange (I:=fun _ c st'=>∃ out ia ib ac bc,c=(none,out,ia,ib,ac,bc)/\st'=setG st g/\LI a b out ia ib/\ia+1<a.size/\ib<b.size/\x+1<=out.size)
   (Q:=fun c st'=>(∃ L r,c=(some L,r)/\st'=setG st g/\MO (a.toList++b.toList) L.toList)∨∃ out ia ib ac bc,c=(none,out,ia,ib,ac,bc)/\st'=setG st g/\LI a b out ia ib/\ia+1<a.size/\ib<b.size/\x+1<=out.size) ?step1 ?fin1 ⟨out,ia,ib,0,0,rfl,rfl,h1,h2,h3,h4⟩) ?post1)
  case fin1=>exact fun c st' q=>.inr q
  case step1=>
   rintro y c st' _ hy ⟨out,ia,ib,ac,bc,rfl,rfl,h1,h2,h3,h4⟩
   dsimp only
   have h2':ia<a.size:=by omega
   refine wpS_bind (zc1 (getElem?_pos b ib h3) (wpS_bind (zc1 (getElem?_pos a ia h2') (wpS_bind (zao7 hk (ikb _ _) (ika _ _) ?_)))))
   dsimp only
   by_cases hlt:numOf b[ib].1<numOf a[ia].1
   ·rw[if_pos (by simpa using hlt)]
    refine wpS_bind (zc1 (getElem?_pos b ib h3) ?_)
    have h5:=h1.pushB h3 fun z hz=>zct3 (Int.lt_of_lt_of_le (zbf1 hlt) (h1.hdA h2' z hz))
    by_cases e1:ib+1=b.size
    ·rw[if_pos (by simpa using e1)]
     exact wpS_pure (.inl ⟨_,_,rfl,rfl,h5.finB e1⟩)
    ·rw[if_neg (by simpa using e1)]
     have h6:x+1<=(out.push b[ib]).size:=by simp;omega
     split
     ·exact wpS_pure (.inr ⟨_,_,_,_,_,rfl,rfl,h5,h2,by omega,h6⟩)
     ·exact wpS_pure ⟨_,_,_,_,_,rfl,rfl,h5,h2,by omega,h6⟩
   ·rw[if_neg (by simpa using hlt)]
    refine wpS_bind (zc1 (getElem?_pos a ia h2') ?_)
    have h5:=h1.pushA h2' fun z hz=>zct4 (zbe6 (Int.not_lt.mp hlt) (hX _ (by simp) _ (by simp))) (h1.hdB h3 z hz)
    by_cases e1:ia+1+1=a.size
    ·rw[if_pos (by simpa using e1)]
     exact wpS_pure (.inl ⟨_,_,rfl,rfl,h5.last e1 hl⟩)
    ·rw[if_neg (by simpa using e1)]
     have h6:x+1<=(out.push a[ia]).size:=by simp;omega
     split
     ·exact wpS_pure (.inr ⟨_,_,_,_,_,rfl,rfl,h5,by omega,h3,h6⟩)
     ·exact wpS_pure ⟨_,_,_,_,_,rfl,rfl,h5,by omega,h3,h6⟩
  case post1=>
   rintro c st' (⟨L,r,rfl,rfl,h5⟩|⟨out,ia,ib,ac,bc,rfl,rfl,h1,h2,h3,h4⟩)
   ·exact wpS_pure ⟨_,_,_,rfl,rfl,h5⟩
   dsimp only
   refine wpS_bind (wpS_lift (wpAny_rule ⟨rfl,?_⟩))
   refine wpS_bind (wpS_mono (wpS_forRange (I:=fun y c st'=>∃ out ia ib mg ac bc g,c=(none,out,ia,ib,mg,ac,bc)/\st'=setG st g/\LI a b out ia ib/\ia+1<a.size/\ib<b.size/\x+1+y<=out.size)
    (Q:=fun c st'=>(∃ L r g,c=(some L,r)/\st'=setG st g/\MO (a.toList++b.toList) L.toList)∨∃ out ia ib mg ac bc g,c=(none,out,ia,ib,mg,ac,bc)/\st'=setG st g/\LI a b out ia ib/\ia+1<a.size/\ib<b.size/\x+1<out.size) ?step2 ?fin2 ⟨out,ia,ib,_,ac,bc,g,rfl,rfl,h1,h2,h3,h4⟩) ?post2)
   case fin2=>
    rintro c st' ⟨out,ia,ib,mg,ac,bc,g,rfl,rfl,h1,h2,h3,h4⟩
    exact .inr ⟨out,ia,ib,mg,ac,bc,g,rfl,rfl,h1,h2,h3,by omega⟩
   case step2=>
    rintro y c st' _ hy ⟨out,ia,ib,mg,ac,bc,g,rfl,rfl,h1,h2,h3,h4⟩
    dsimp only
    have r:MlR a b st (x+1+y) (fun r st'=>match r with
      | .done c'=>(∃ L r g,c'=(some L,r)/\st'=setG st g/\MO (a.toList++b.toList) L.toList)∨∃ out ia ib mg ac bc g,c'=(none,out,ia,ib,mg,ac,bc)/\st'=setG st g/\LI a b out ia ib/\ia+1<a.size/\ib<b.size/\x+1<out.size
      | .yield c'=>∃ out ia ib mg ac bc g,c'=(none,out,ia,ib,mg,ac,bc)/\st'=setG st g/\LI a b out ia ib/\ia+1<a.size/\ib<b.size/\x+1+(y+1)<=out.size):=
     ⟨fun L out ia ib mg ac bc g q=>.inl ⟨_,_,_,rfl,rfl,q⟩,fun out ia ib mg ac bc g q1 q2 q3 q4=>⟨.inr ⟨_,_,_,_,_,_,_,rfl,rfl,q1,q2,q3,by omega⟩,⟨_,_,_,_,_,_,_,rfl,rfl,q1,q2,q3,by omega⟩⟩⟩
    by_cases hm:mg>1
    ·rw[if_pos hm]
     exact zbi7 (ac:=ac) (bc:=bc) hX hk ha0 hb0 hsa hsb hl h1 h2 h3 h4 r
    ·rw[if_neg hm]
     exact zbi7 (ac:=ac) (bc:=bc) hX hk ha0 hb0 hsa hsb hl h1 h2 h3 h4 r
   case post2=>
    rintro c st' (⟨L,r,g,rfl,rfl,h5⟩|⟨out,ia,ib,mg,ac,bc,g,rfl,rfl,h1,h2,h3,h4⟩)
    ·exact wpS_pure ⟨_,_,_,rfl,rfl,h5⟩
    dsimp only
    rw[zh8]
    exact wpS_bind (wpS_modify (wpS_pure ⟨_,_,_,_,_,rfl,rfl,h1,h2,h3,by omega⟩))
end
end
section
variable [Gh]
omit [Gh] in
def zam3:Array Keyed->Array Keyed->StateT SortSt Sem (Array Keyed):=sortPriv% PySem.Builtin.mergeHi
omit [Gh] in
theorem zat4(a b:Array Keyed):zam3 a b=(do
 rule "list.sort.merge-hi"
 let total:=a.size+b.size
 let done (out:Array Keyed) (na nb:Nat):=a.extract 0 na++b.extract 0 nb++out.reverse
 let firstOfB (out:Array Keyed) (na nb:Nat):=b.extract 0 nb++a.extract 0 na++out.reverse
 let mut na:=a.size - 1
 let mut nb:=b.size
 let mut out:Array Keyed:=#[← elem' a na]
 if na==0 then return done out na nb
 if nb==1 then return firstOfB out na nb
 let mut minGallop:=gallopOf (← get)
 for _ in [0:total] do
  let mut acount:=0
  let mut bcount:=0
  for _ in [0:total] do
   let some aWins ← lt' (← elem' b (nb - 1)) (← elem' a (na - 1))|return done out na nb
   if aWins then
    na:=na - 1;out:=out.push (← elem' a na);acount:=acount+1;bcount:=0
    if na==0 then return done out na nb
    if acount≥minGallop then break
   else
    nb:=nb - 1;out:=out.push (← elem' b nb);bcount:=bcount+1;acount:=0
    if nb==1 then return firstOfB out na nb
    if bcount≥minGallop then break
  rule "list.sort.gallop"
  minGallop:=minGallop+1
  for _ in [0:total] do
   if minGallop>1 then minGallop:=minGallop - 1
   zf5 minGallop
   let some at_ ← zl1 false (← elem' b (nb - 1)) a 0 na (na - 1)|return done out na nb
   let k:=na - at_
   acount:=k
   if k>0 then
    out:=out++(a.extract at_ na).reverse;na:=at_
    if na==0 then return done out na nb
   nb:=nb - 1;out:=out.push (← elem' b nb)
   if nb==1 then return firstOfB out na nb
   let some at_ ← zl1 true (← elem' a (na - 1)) b 0 nb (nb - 1)|return done out na nb
   let k:=nb - at_
   bcount:=k
   if k>0 then
    out:=out++(b.extract at_ nb).reverse;nb:=at_
    if nb==1 then return firstOfB out na nb
    if nb==0 then return done out na nb
   na:=na - 1;out:=out.push (← elem' a na)
   if na==0 then return done out na nb
   if acount<7&&bcount<7 then break
  minGallop:=minGallop+1
  zf5 minGallop
 unsupported "internal:list.sort.merge-bound"):=rfl
structure HI(a b out:Array Keyed)(na nb:Nat):Prop where
 m:MH (a.toList++b.toList) out.toList.reverse (a.toList.take na) (b.toList.take nb)
 z:out.size+na+nb=a.size+b.size
 a:na<=a.size
 b:nb<=b.size
theorem zaa3{α:Type}{a:Array α}{n:Nat}(h0:0<n)(h:n<=a.size):a.toList.take n=a.toList.take (n - 1)++[a[n - 1]'(by omega)]:=by
 have h1:n - 1<a.toList.length:=by simp;omega
 have e:n=n - 1+1:=by omega
 conv=>lhs;rw[e]
 rw[zcv1,zcl0 h1]
 simp
theorem zp7{α:Type}(a:Array α)(n:Nat):(a.extract 0 n).toList=a.toList.take n:=by
 rw[zcw5];simp[List.extract]
theorem zam9{α:Type}(a:Array α){i n:Nat}(h:i<=n):a.toList.take n=a.toList.take i++(a.extract i n).toList:=by
 have e:n=i+(n - i):=by omega
 rw[zcw5,List.extract]
 conv=>lhs;rw[e,List.take_add]
theorem zbx6{x:Keyed}{a:Array Keyed}{n:Nat}(h:x∈a.toList.take n):∃ d,d<n/\d<a.size/\a[d]?=some x:=by
 rw[← zp7] at h
 obtain⟨d,h1,h2,h3⟩:=zi8 h
 rw[zcu6] at h1 h2 h3
 exact⟨d,h1,h2,h3⟩
section
variable {a b out:Array Keyed}{na nb:Nat}
theorem HI.pushA(h:HI a b out na nb)(h0:0<na)(hl:∀ y∈b.toList.take nb,kLe y (a[na - 1]'(by have:=h.a;omega))):HI a b (out.push (a[na - 1]'(by have:=h.a;omega))) (na - 1) nb:=by
 have h1:=h.m
 have ha:=h.a
 rw[zaa3 h0 ha] at h1
 refine⟨?_,by rw[Array.size_push];have:=h.z;omega,by omega,h.b⟩
 rw[zcv0,List.reverse_append]
 exact MH.takeAs h1 fun y hy x hx=>by rw[zcn9.mp hx];exact hl y hy
theorem HI.pushB(h:HI a b out na nb)(h0:0<nb)(hl:∀ y∈a.toList.take na,kLe y (b[nb - 1]'(by have:=h.b;omega))):HI a b (out.push (b[nb - 1]'(by have:=h.b;omega))) na (nb - 1):=by
 have h1:=h.m
 have hb:=h.b
 rw[zaa3 h0 hb] at h1
 refine⟨?_,by rw[Array.size_push];have:=h.z;omega,h.a,by omega⟩
 rw[zcv0,List.reverse_append]
 exact MH.takeBs h1 fun y hy x hx=>by rw[zcn9.mp hx];exact hl y hy
theorem HI.appA{i:Nat}(h:HI a b out na nb)(hi:i<=na)(hl:∀ y∈b.toList.take nb,∀ x∈(a.extract i na).toList,kLe y x):HI a b (out++(a.extract i na).reverse) i nb:=by
 have h1:=h.m
 have ha:=h.a
 rw[zam9 a hi] at h1
 refine⟨?_,by rw[Array.size_append,Array.size_reverse,zcs4,zcs8 ha];have:=h.z;omega,by omega,h.b⟩
 rw[zco8,List.reverse_append,zcu8,List.reverse_reverse]
 exact MH.takeAs h1 hl
theorem HI.appB{i:Nat}(h:HI a b out na nb)(hi:i<=nb)(hl:∀ y∈a.toList.take na,∀ x∈(b.extract i nb).toList,kLe y x):HI a b (out++(b.extract i nb).reverse) na i:=by
 have h1:=h.m
 have hb:=h.b
 rw[zam9 b hi] at h1
 refine⟨?_,by rw[Array.size_append,Array.size_reverse,zcs4,zcs8 hb];have:=h.z;omega,h.a,by omega⟩
 rw[zco8,List.reverse_append,zcu8,List.reverse_reverse]
 exact MH.takeBs h1 hl
theorem HI.finA(h:HI a b out na nb)(e:na=0):MO (a.toList++b.toList) (a.extract 0 na++b.extract 0 nb++out.reverse).toList:=by
 subst e
 rw[zco8,zco8,zp7,zp7,zcu8]
 exact h.m.finA
theorem HI.finB(h:HI a b out na nb)(e:nb=0):MO (a.toList++b.toList) (a.extract 0 na++b.extract 0 nb++out.reverse).toList:=by
 subst e
 rw[zco8,zco8,zp7,zp7,zcu8]
 have:=h.m.finB
 rw[List.take_zero,zcr6]
 exact this
theorem HI.first(h:HI a b out na nb)(e:nb=1)(hf:∀ x∈a.toList,∀ y∈b.toList.take 1,kLe y x):MO (a.toList++b.toList) (b.extract 0 nb++a.extract 0 na++out.reverse).toList:=by
 subst e
 have hb:=h.b
 have h1:=h.m
 rw[zco8,zco8,zp7,zp7,zcu8]
 rw[zaa3 (by decide) hb] at h1 hf ⊢
 exact h1.first fun y hy=>hf y (zcr9 hy) _ (by simp)
theorem HI.hdA(h:HI a b out na nb)(h0:0<na):∀ x∈a.toList.take na,kLe x (a[na - 1]'(by have:=h.a;omega)):=by
 have ha:=h.a
 have h1:=(zco4.mp h.m.a).1
 rw[zaa3 h0 ha] at h1 ⊢
 intro x hx
 rcases zco0.mp hx with hx|hx
 ·exact (zco4.mp h1).2.2 x hx _ (.head _)
 ·rw[zcn9.mp hx];exact zcr4 _
theorem HI.hdB(h:HI a b out na nb)(h0:0<nb):∀ x∈b.toList.take nb,kLe x (b[nb - 1]'(by have:=h.b;omega)):=by
 have hb:=h.b
 have h1:=(zco4.mp h.m.b).1
 rw[zaa3 h0 hb] at h1 ⊢
 intro x hx
 rcases zco0.mp hx with hx|hx
 ·exact (zco4.mp h1).2.2 x hx _ (.head _)
 ·rw[zcn9.mp hx];exact zcr4 _
end
omit [Gh] in
abbrev MhS:=Option (Array Keyed)×Nat×Nat×Array Keyed×Nat×Nat×Nat
omit [Gh] in
noncomputable def mH3(a b out:Array Keyed)(na nb mg ac bc:Nat):StateT SortSt Sem (ForInStep MhS):=do
 let x ← elem' a (na - 1)
 if (na - 1==0)=true then pure (ForInStep.done (some (a.extract 0 (na - 1)++b.extract 0 nb++(out.push x).reverse),na - 1,nb,out.push x,mg,ac,bc))
 else if (decide (ac<7)&&decide (bc<7))=true then pure (ForInStep.done (none,na - 1,nb,out.push x,mg,ac,bc))
 else pure (ForInStep.yield (none,na - 1,nb,out.push x,mg,ac,bc))
omit [Gh] in
noncomputable def mH2(a b out:Array Keyed)(na nb mg ac bc:Nat):StateT SortSt Sem (ForInStep MhS):=do
 let y ← elem' b (nb - 1)
 if (nb - 1==1)=true then pure (ForInStep.done (some (b.extract 0 (nb - 1)++a.extract 0 na++(out.push y).reverse),na,nb - 1,out.push y,mg,ac,bc))
 else do
  let x ← elem' a (na - 1)
  let __x ← zl1 true x b 0 (nb - 1) (nb - 1 - 1)
  match __x with
  | some i=>
   if nb - 1 - i>0 then
    if (i==1)=true then pure (ForInStep.done (some (b.extract 0 i++a.extract 0 na++(out.push y++(b.extract i (nb - 1)).reverse).reverse),na,i,out.push y++(b.extract i (nb - 1)).reverse,mg,ac,nb - 1 - i))
    else if (i==0)=true then pure (ForInStep.done (some (a.extract 0 na++b.extract 0 i++(out.push y++(b.extract i (nb - 1)).reverse).reverse),na,i,out.push y++(b.extract i (nb - 1)).reverse,mg,ac,nb - 1 - i))
    else mH3 a b (out.push y++(b.extract i (nb - 1)).reverse) na i mg ac (nb - 1 - i)
   else mH3 a b (out.push y) na (nb - 1) mg ac (nb - 1 - i)
  | _=>pure (ForInStep.done (some (a.extract 0 na++b.extract 0 (nb - 1)++(out.push y).reverse),na,nb - 1,out.push y,mg,ac,bc))
omit [Gh] in
noncomputable def mH1(a b out:Array Keyed)(na nb mg ac bc:Nat):StateT SortSt Sem (ForInStep MhS):=do
 zf5 mg
 let y ← elem' b (nb - 1)
 let __x ← zl1 false y a 0 na (na - 1)
 match __x with
 | some i=>
  if na - i>0 then
   if (i==0)=true then pure (ForInStep.done (some (a.extract 0 i++b.extract 0 nb++(out++(a.extract i na).reverse).reverse),i,nb,out++(a.extract i na).reverse,mg,na - i,bc))
   else mH2 a b (out++(a.extract i na).reverse) i nb mg (na - i) bc
  else mH2 a b out na nb mg (na - i) bc
 | _=>pure (ForInStep.done (some (a.extract 0 na++b.extract 0 nb++out.reverse),na,nb,out,mg,ac,bc))
def MhR(a b:Array Keyed)(st:SortSt)(z:Nat)(R:ForInStep MhS->SortSt->Prop):Prop:=
 (∀ L out na nb mg ac bc g,MO (a.toList++b.toList) L.toList->R (.done (some L,na,nb,out,mg,ac,bc)) (setG st g)) /\
 ∀ out na nb mg ac bc g,HI a b out na nb->0<na->1<nb->z<out.size->R (.done (none,na,nb,out,mg,ac,bc)) (setG st g)/\R (.yield (none,na,nb,out,mg,ac,bc)) (setG st g)
section
variable {prog:Program}{w:World}{A:Around}{E:Value->Shared->Prop}{s:Shared}{st:SortSt}
theorem zbh4{a b out:Array Keyed}{na nb mg ac bc z g:Nat}{R:ForInStep MhS->SortSt->Prop}(hL:HI a b out na nb)(h0:0<na)(h1:1<nb)(hle:∀ y∈b.toList.take nb,kLe y (a[na - 1]'(by have:=hL.a;omega)))(hz:z<=out.size)(r:MhR a b st z R):wpS (model prog w) A E s (mH3 a b out na nb mg ac bc) R (setG st g):=by
 have ha:=hL.a
 unfold mH3
 refine wpS_bind (zc1 (getElem?_pos a (na - 1) (by omega)) ?_)
 have hL2:=hL.pushA h0 hle
 by_cases e1:na - 1=0
 ·rw[if_pos (by simpa using e1)]
  exact wpS_pure (r.1 _ _ _ _ _ _ _ _ (hL2.finA e1))
 ·rw[if_neg (by simpa using e1)]
  have:=r.2 _ _ _ mg ac bc g hL2 (by omega) h1 (by simp;omega)
  split
  ·exact wpS_pure this.1
  ·exact wpS_pure this.2
theorem zbi2{a b out:Array Keyed}{na nb mg ac bc z g:Nat}{R:ForInStep MhS->SortSt->Prop}(hX:∀ x∈a.toList,∀ y∈b.toList,Gh.ix x<=Gh.ix y)(hk:kindOf st=oneType')(ha0:IntKeys a)(hb0:IntKeys b)(hsb:b.toList.Pairwise kLe)(hf:∀ x∈a.toList,∀ y∈b.toList.take 1,kLe y x)(hL:HI a b out na nb)(h0:0<na)(h1:1<nb)(hle:∀ y∈a.toList.take na,kLe y (b[nb - 1]'(by have:=hL.b;omega)))(hz:z<=out.size)(r:MhR a b st z R):wpS (model prog w) A E s (mH2 a b out na nb mg ac bc) R (setG st g):=by
 have ha:=hL.a
 have hb:=hL.b
 unfold mH2
 refine wpS_bind (zc1 (getElem?_pos b (nb - 1) (by omega)) ?_)
 have hL2:=hL.pushB (by omega) hle
 by_cases e1:nb - 1=1
 ·rw[if_pos (by simpa using e1)]
  exact wpS_pure (r.1 _ _ _ _ _ _ _ _ (hL2.first e1 hf))
 ·rw[if_neg (by simpa using e1)]
  refine wpS_bind (zc1 (getElem?_pos a (na - 1) (by omega)) ?_)
  refine wpS_bind (zm3 hk hb0 (ha0 _ (by simp)) (by omega) (by omega) (fun i j _ h2 h3=>pw_K hsb i j h2 (by omega)) fun i h2 h3 h4=>?_)
  dsimp only
  have lt:∀ y∈b.toList.take i,kLe y (a[na - 1]'(by omega)):=fun y hy=>by
   obtain⟨d,h5,h6,h7⟩:=zbx6 hy
   have:=h3 d (by omega)
   unfold byd at this
   rw[zcu6,zaa5 h7] at this
   have this:numOf y.1<numOf (a[na - 1]'(by omega)).1:=by simpa using this
   exact zct3 (zbf1 this)
  by_cases hk0:nb - 1 - i>0
  ·rw[if_pos hk0]
   have hL3:=hL2.appB (i:=i) (by omega) fun x hx y hy=>by
    obtain⟨d,h5,h6,h7⟩:=zi8 hy
    have h8:=h4 (i+d) (by omega) (by omega)
    unfold byd at h8
    rw[zcu6,zaa5 h7] at h8
    exact zct4 (hL2.hdA h0 x hx) (zbe6 (by simpa using h8) (hX _ (by simp) _ (in_of h7)))
   by_cases e2:i=1
   ·rw[if_pos (by simpa using e2)]
    exact wpS_pure (r.1 _ _ _ _ _ _ _ _ (hL3.first e2 hf))
   ·rw[if_neg (by simpa using e2)]
    by_cases e3:i=0
    ·rw[if_pos (by simpa using e3)]
     exact wpS_pure (r.1 _ _ _ _ _ _ _ _ (hL3.finB e3))
    ·rw[if_neg (by simpa using e3)]
     exact zbh4 hL3 h0 (by omega) lt (by simp;omega) r
  ·rw[if_neg hk0]
   have:i=nb - 1:=by omega
   subst this
   exact zbh4 hL2 h0 (by omega) lt (by simp;omega) r
theorem zbj0{a b out:Array Keyed}{na nb mg ac bc z g:Nat}{R:ForInStep MhS->SortSt->Prop}(hX:∀ x∈a.toList,∀ y∈b.toList,Gh.ix x<=Gh.ix y)(hk:kindOf st=oneType')(ha0:IntKeys a)(hb0:IntKeys b)(hsa:a.toList.Pairwise kLe)(hsb:b.toList.Pairwise kLe)(hf:∀ x∈a.toList,∀ y∈b.toList.take 1,kLe y x)(hL:HI a b out na nb)(h0:0<na)(h1:1<nb)(hz:z<=out.size)(r:MhR a b st z R):wpS (model prog w) A E s (mH1 a b out na nb mg ac bc) R (setG st g):=by
 have ha:=hL.a
 have hb:=hL.b
 unfold mH1
 rw[zh8]
 refine wpS_bind (wpS_modify ?_)
 refine wpS_bind (zc1 (getElem?_pos b (nb - 1) (by omega)) ?_)
 refine wpS_bind (zm3 hk ha0 (hb0 _ (by simp)) (by omega) (by omega) (fun i j _ h2 h3=>pw_K hsa i j h2 (by omega)) fun i h2 h3 h4=>?_)
 dsimp only
 have le:∀ y∈a.toList.take i,kLe y (b[nb - 1]'(by omega)):=fun y hy=>by
  obtain⟨d,h5,h6,h7⟩:=zbx6 hy
  have:=h3 d (by omega)
  unfold byd at this
  rw[zcu6,zaa5 h7] at this
  exact zbe6 (by simpa using this) (hX y (in_of h7) _ (by simp))
 by_cases hk0:na - i>0
 ·rw[if_pos hk0]
  have hL3:=hL.appA (i:=i) (by omega) fun x hx y hy=>by
   obtain⟨d,h5,h6,h7⟩:=zi8 hy
   have h8:=h4 (i+d) (by omega) (by omega)
   unfold byd at h8
   rw[zcu6,zaa5 h7] at h8
   have h9:numOf (b[nb - 1]'(by omega)).1<numOf y.1:=by simpa using h8
   exact zct4 (hL.hdB (by omega) x hx) (zct3 (zbf1 h9))
  by_cases e2:i=0
  ·rw[if_pos (by simpa using e2)]
   exact wpS_pure (r.1 _ _ _ _ _ _ _ _ (hL3.finA e2))
  ·rw[if_neg (by simpa using e2)]
   exact zbi2 hX hk ha0 hb0 hsb hf hL3 (by omega) h1 le (by simp;omega) r
 ·rw[if_neg hk0]
  have:i=na:=by omega
  subst this
  exact zbi2 hX hk ha0 hb0 hsb hf hL h0 h1 le hz r
theorem zax1{a b:Array Keyed}{Q:Array Keyed->SortSt->Prop}(hX:∀ x∈a.toList,∀ y∈b.toList,Gh.ix x<=Gh.ix y)(hk:kindOf st=oneType')(ha0:IntKeys a)(hb0:IntKeys b)(hsa:a.toList.Pairwise kLe)(hsb:b.toList.Pairwise kLe)(hna:0<a.size)(hnb:0<b.size)(hl:∀ y∈b.toList,kLe y a[a.size - 1])(hf:∀ x∈a.toList,∀ y∈b.toList.take 1,kLe y x)(h:∀ L g,MO (a.toList++b.toList) L.toList->Q L (setG st g)) :
  wpS (model prog w) A E s (zam3 a b) Q st:=by
 have ika:∀ i (h:i<a.size),ik a[i]:=fun i h=>ha0 _ (by simp)
 have ikb:∀ i (h:i<b.size),ik b[i]:=fun i h=>hb0 _ (by simp)
 have L0:HI a b #[a[a.size - 1]] (a.size - 1) b.size:=by
  have h1:HI a b #[] a.size b.size:=⟨by
   have e1:a.toList.take a.size=a.toList:=zco9 (zcx2 (zcm7 ..))
   have e2:b.toList.take b.size=b.toList:=zco9 (zcx2 (zcm7 ..))
   rw[e1,e2]
   exact⟨by simpa using hsa,by simpa using hsb,by simp⟩,by simp,zcm3 _,zcm3 _⟩
  exact h1.pushA hna fun y hy=>hl y (zcr9 hy)
 rw[zat4]
 dsimp only
 refine wpS_bind (wpS_lift (wpAny_rule ⟨rfl,?_⟩))
 refine wpS_bind (zc1 (getElem?_pos a (a.size - 1) (by omega)) ?_)
 by_cases ha1:a.size - 1=0
 ·rw[if_pos (by simpa using ha1)]
  exact wpS_pure (h _ (gallopOf st) (L0.finA ha1))
 rw[if_neg (by simpa using ha1)]
 by_cases hb1:b.size=1
 ·rw[if_pos (by simpa using hb1)]
  exact wpS_pure (h _ (gallopOf st) (L0.first hb1 hf))
 rw[if_neg (by simpa using hb1)]
 refine wpS_bind (wpS_get ?_)
 refine wpS_bind (wpS_mono (wpS_forRange (I:=fun x c st'=>∃ out na nb mg g,c=(none,na,nb,out,mg)/\st'=setG st g/\HI a b out na nb/\0<na/\1<nb/\x+1<=out.size)
  (Q:=fun c st'=>∃ L r g,c=(some L,r)/\st'=setG st g/\MO (a.toList++b.toList) L.toList) ?step ?fin ⟨_,_,_,gallopOf st,gallopOf st,rfl,rfl,L0,by omega,by omega,by simp⟩) ?post)
 case fin=>
  rintro c st' ⟨out,na,nb,mg,g,rfl,rfl,h1,h2,h3,h4⟩
  have:=h1.z
  omega
 case post=>
  rintro c st' ⟨L,r,g,rfl,rfl,h1⟩
  exact wpS_pure (h L g h1)
 case step=>
  rintro x c st' _ hx ⟨out,na,nb,mg,g,rfl,rfl,h1,h2,h3,h4⟩
  dsimp only
  refine wpS_bind (wpS_mono (wpS_forRange (I:=fun _ c st'=>∃ out na nb ac bc,c=(none,na,nb,out,ac,bc)/\st'=setG st g/\HI a b out na nb/\0<na/\1<nb/\x+1<=out.size)
   (Q:=fun c st'=>(∃ L r,c=(some L,r)/\st'=setG st g/\MO (a.toList++b.toList) L.toList)∨∃ out na nb ac bc,c=(none,na,nb,out,ac,bc)/\st'=setG st g/\HI a b out na nb/\0<na/\1<nb/\x+1<=out.size) ?step1 ?fin1 ⟨out,na,nb,0,0,rfl,rfl,h1,h2,h3,h4⟩) ?post1)
  case fin1=>exact fun c st' q=>.inr q
  case step1=>
   rintro y c st' _ hy ⟨out,na,nb,ac,bc,rfl,rfl,h1,h2,h3,h4⟩
   dsimp only
   have q1:=h1.a
   have q2:=h1.b
   refine wpS_bind (zc1 (getElem?_pos b (nb - 1) (by omega)) (wpS_bind (zc1 (getElem?_pos a (na - 1) (by omega)) (wpS_bind (zao7 hk (ikb _ _) (ika _ _) ?_)))))
   dsimp only
   by_cases hlt:numOf (b[nb - 1]'(by omega)).1<numOf (a[na - 1]'(by omega)).1
   ·rw[if_pos (by simpa using hlt)]
    refine wpS_bind (zc1 (getElem?_pos a (na - 1) (by omega)) ?_)
    have h5:=h1.pushA h2 fun z hz=>zct3 (Int.lt_of_le_of_lt (h1.hdB (by omega) z hz) (zbf1 hlt))
    by_cases e1:na - 1=0
    ·rw[if_pos (by simpa using e1)]
     exact wpS_pure (.inl ⟨_,_,rfl,rfl,h5.finA e1⟩)
    ·rw[if_neg (by simpa using e1)]
     have h6:x+1<=(out.push (a[na - 1]'(by omega))).size:=by simp;omega
     split
     ·exact wpS_pure (.inr ⟨_,_,_,_,_,rfl,rfl,h5,by omega,h3,h6⟩)
     ·exact wpS_pure ⟨_,_,_,_,_,rfl,rfl,h5,by omega,h3,h6⟩
   ·rw[if_neg (by simpa using hlt)]
    refine wpS_bind (zc1 (getElem?_pos b (nb - 1) (by omega)) ?_)
    have h5:=h1.pushB (by omega) fun z hz=>zct4 (h1.hdA h2 z hz) (zbe6 (Int.not_lt.mp hlt) (hX _ (by simp) _ (by simp)))
    by_cases e1:nb - 1=1
    ·rw[if_pos (by simpa using e1)]
     exact wpS_pure (.inl ⟨_,_,rfl,rfl,h5.first e1 hf⟩)
    ·rw[if_neg (by simpa using e1)]
     have h6:x+1<=(out.push (b[nb - 1]'(by omega))).size:=by simp;omega
     split
     ·exact wpS_pure (.inr ⟨_,_,_,_,_,rfl,rfl,h5,h2,by omega,h6⟩)
     ·exact wpS_pure ⟨_,_,_,_,_,rfl,rfl,h5,h2,by omega,h6⟩
  case post1=>
   rintro c st' (⟨L,r,rfl,rfl,h5⟩|⟨out,na,nb,ac,bc,rfl,rfl,h1,h2,h3,h4⟩)
   ·exact wpS_pure ⟨_,_,_,rfl,rfl,h5⟩
   dsimp only
   refine wpS_bind (wpS_lift (wpAny_rule ⟨rfl,?_⟩))
   refine wpS_bind (wpS_mono (wpS_forRange (I:=fun y c st'=>∃ out na nb mg ac bc g,c=(none,na,nb,out,mg,ac,bc)/\st'=setG st g/\HI a b out na nb/\0<na/\1<nb/\x+1+y<=out.size)
    (Q:=fun c st'=>(∃ L r g,c=(some L,r)/\st'=setG st g/\MO (a.toList++b.toList) L.toList)∨∃ out na nb mg ac bc g,c=(none,na,nb,out,mg,ac,bc)/\st'=setG st g/\HI a b out na nb/\0<na/\1<nb/\x+1<out.size) ?step2 ?fin2 ⟨out,na,nb,_,ac,bc,g,rfl,rfl,h1,h2,h3,h4⟩) ?post2)
   case fin2=>
    rintro c st' ⟨out,na,nb,mg,ac,bc,g,rfl,rfl,h1,h2,h3,h4⟩
    exact .inr ⟨out,na,nb,mg,ac,bc,g,rfl,rfl,h1,h2,h3,by omega⟩
   case step2=>
    rintro y c st' _ hy ⟨out,na,nb,mg,ac,bc,g,rfl,rfl,h1,h2,h3,h4⟩
    dsimp only
    have r:MhR a b st (x+1+y) (fun r st'=>match r with
      | .done c'=>(∃ L r g,c'=(some L,r)/\st'=setG st g/\MO (a.toList++b.toList) L.toList)∨∃ out na nb mg ac bc g,c'=(none,na,nb,out,mg,ac,bc)/\st'=setG st g/\HI a b out na nb/\0<na/\1<nb/\x+1<out.size
      | .yield c'=>∃ out na nb mg ac bc g,c'=(none,na,nb,out,mg,ac,bc)/\st'=setG st g/\HI a b out na nb/\0<na/\1<nb/\x+1+(y+1)<=out.size):=
     ⟨fun L out na nb mg ac bc g q=>.inl ⟨_,_,_,rfl,rfl,q⟩,fun out na nb mg ac bc g q1 q2 q3 q4=>⟨.inr ⟨_,_,_,_,_,_,_,rfl,rfl,q1,q2,q3,by omega⟩,⟨_,_,_,_,_,_,_,rfl,rfl,q1,q2,q3,by omega⟩⟩⟩
    by_cases hm:mg>1
    ·rw[if_pos hm]
     exact zbj0 (ac:=ac) (bc:=bc) hX hk ha0 hb0 hsa hsb hf h1 h2 h3 h4 r
    ·rw[if_neg hm]
     exact zbj0 (ac:=ac) (bc:=bc) hX hk ha0 hb0 hsa hsb hf h1 h2 h3 h4 r
   case post2=>
    rintro c st' (⟨L,r,g,rfl,rfl,h5⟩|⟨out,na,nb,mg,ac,bc,g,rfl,rfl,h1,h2,h3,h4⟩)
    ·exact wpS_pure ⟨_,_,_,rfl,rfl,h5⟩
    dsimp only
    rw[zh8]
    exact wpS_bind (wpS_modify (wpS_pure ⟨_,_,_,_,_,rfl,rfl,h1,h2,h3,by omega⟩))
end
end
section
variable [Gh]
def Seg(xs:Array Keyed)(lo n:Nat):Prop:=∀ i j,i<=j->j<n->KG xs (lo+i)<=KG xs (lo+j)
def SegD(xs:Array Keyed)(lo n:Nat):Prop:=∀ i j,i<=j->j<n->KG xs (lo+j)<=KG xs (lo+i)
structure SW(a₀:Array Keyed)(s0 st:SortSt)(lo:Nat):Prop where
 p:(arrOf st).Perm a₀
 k:kindOf st=oneType'
 f:failedOf st=none
 q:pendingOf st=pendingOf s0
 b:Lcl (arrOf s0) (arrOf st) lo a₀.size
section
variable {a₀:Array Keyed}{s0 st:SortSt}{lo:Nat}
theorem SW.z(h:SW a₀ s0 st lo):(arrOf st).size=a₀.size:=h.p.size_eq
theorem SW.arr(h:SW a₀ s0 st lo){xs:Array Keyed}(hp:xs.Perm (arrOf st))(hb:Lcl (arrOf st) xs lo a₀.size):SW a₀ s0 (setArr st xs) lo:=
 ⟨hp.trans h.p,h.k,h.f,h.q,h.b.trans hb⟩
theorem SW.mir(h:SW a₀ s0 st lo){i j:Nat}(hi:lo<=i)(hj:j<=a₀.size):SW a₀ s0 (setArr st (mirror (arrOf st) i j ((j - i) / 2))) lo:=
 h.arr (mirror_perm _ _ _ _) ((Lcl.mir (by rw[h.z];exact hj)).wide hi hj)
theorem SW.ints(h:SW a₀ s0 st lo)(h0:IntKeys a₀):IntKeys (arrOf st):=fun p hp=>h0 p ((zcr7.mp h.p).mem_iff.mp hp)
variable {prog:Program}{w:World}{A:Around}{E:Value->Shared->Prop}{s:Shared}
theorem zac5{i j:Nat}{Q:Option Bool->SortSt->Prop}(h:SW a₀ s0 st lo)(h0:IntKeys a₀)(hi:i<a₀.size)(hj:j<a₀.size)(q:Q (some (decide (K (arrOf st) i<K (arrOf st) j))) st):wpS (model prog w) A E s (ltAt' i j) Q st:=by
 have z:=h.z
 rw[ltAt'_eq]
 refine wpS_bind (wpS_get ?_)
 refine wpS_bind (zc1 (getElem?_pos (arrOf st) i (by omega)) (wpS_bind (zc1 (getElem?_pos (arrOf st) j (by omega)) (zao7 h.k (h.ints h0 _ (by simp)) (h.ints h0 _ (by simp)) ?_))))
 rw[K_of (by omega),K_of (by omega)] at q
 exact q
omit [Gh] in
def cT3(lo n0 nrem:Nat):StateT SortSt Sem (Option Nat):=do
 let mut n:=n0
 reverseSlice' lo (lo+n)
 for _ in [n:nrem] do
  let some smaller ← ltAt' (lo+n) (lo+n - 1)|return none
  if smaller then break
  n:=n+1
 return some n
omit [Gh] in
noncomputable def cD(lo n0 nrem:Nat):StateT SortSt Sem (Option Nat):=do
 let mut n:=n0
 rule "list.sort.descending-run"
 n:=n+1
 let mut neq:=0
 for _ in [n:nrem] do
  let some smaller ← ltAt' (lo+n) (lo+n - 1)|return none
  if smaller then
   if neq>0 then reverseSlice' (lo+n - (neq+1)) (lo+n)
   neq:=0
  else
   let some larger ← ltAt' (lo+n - 1) (lo+n)|return none
   if larger then break
   neq:=neq+1
  n:=n+1
 if neq>0 then reverseSlice' (lo+n - (neq+1)) (lo+n)
 reverseSlice' lo (lo+n)
 for _ in [n:nrem] do
  let some smaller ← ltAt' (lo+n) (lo+n - 1)|return none
  if smaller then break
  n:=n+1
 return some n
theorem Seg.push{xs:Array Keyed}{lo x:Nat}(h:Seg xs lo x)(h1:1<=x)(hle:KG xs (lo+x - 1)<=KG xs (lo+x)):Seg xs lo (x+1):=by
 intro i j hij hj
 by_cases hjx:j<x
 ·exact h i j hij hjx
 ·have:j=x:=by omega
  subst this
  by_cases hi:i=j
  ·subst hi;exact zcr4 _
  ·have:=h i (j - 1) (by omega) (by omega)
   rw[show lo+(j - 1)=lo+j - 1 by omega] at this
   exact zct4 this hle
theorem zbk2{n nrem:Nat}(h0:IntKeys a₀)(hz:lo+nrem<=a₀.size)(h1:1<=n)(h2:n<=nrem)(hB:SW a₀ s0 st lo)(hs:Seg (arrOf st) lo n)(ho:Bfs (arrOf st) (lo+n)) :
  wpS (model prog w) A E s (forIn [n:nrem] ((none,n):Option (Option Nat)×Nat) fun x __s=>do
   let __x ← ltAt' (lo+__s.snd) (lo+__s.snd - 1)
   match __x with
   | some smaller=>if smaller=true then pure (ForInStep.done (none,__s.snd)) else pure (ForInStep.yield (none,__s.snd+1))
   | x=>pure (ForInStep.done (some none,__s.snd)))
   (fun c st'=>st'=st/\∃ m,c=(none,m)/\n<=m/\m<=nrem/\Seg (arrOf st) lo m/\(m=nrem∨K (arrOf st) (lo+m)<K (arrOf st) (lo+m - 1))) st:=by
 refine wpS_forRange (I:=fun x c st'=>st'=st/\c=(none,x)/\Seg (arrOf st) lo x) ?step ?fin ⟨rfl,rfl,hs⟩
 case fin=>
  rintro c st' ⟨rfl,rfl,h3⟩
  rw[show max n nrem=nrem by omega] at h3 ⊢
  exact⟨rfl,_,rfl,h2,zcm3 _,h3,.inl rfl⟩
 case step=>
  rintro x c st' hx1 hx2 ⟨rfl,rfl,h3⟩
  have z:=hB.z
  dsimp only
  refine wpS_bind (zac5 hB h0 (by omega) (by omega) ?_)
  by_cases hl:K (arrOf st') (lo+x)<K (arrOf st') (lo+x - 1)
  ·dsimp only
   rw[if_pos (by simpa using hl)]
   exact wpS_pure ⟨rfl,x,rfl,hx1,by omega,h3,.inr hl⟩
  ·dsimp only
   rw[if_neg (by simpa using hl)]
   exact wpS_pure ⟨rfl,rfl,h3.push (by omega) (zbm3 (by omega) (Int.not_lt.mp hl) (ho (lo+x) (by omega) _ _ (by omega) (zcm3 _) (by omega)))⟩
theorem zbp0{n nrem:Nat}{Q:Option Nat->SortSt->Prop}(h0:IntKeys a₀)(hz:lo+nrem<=a₀.size)(h1:1<=n)(h2:n<=nrem)(hB:SW a₀ s0 st lo)(hs:SegD (arrOf st) lo n)(ho:Bfs (arrOf st) (lo+n))(h:∀ m st',SW a₀ s0 st' lo->1<=m->m<=nrem->Seg (arrOf st') lo m->Bfs (arrOf st') (lo+m)->Q (some m) st'):wpS (model prog w) A E s (cT3 lo n nrem) Q st:=by
 unfold cT3
 dsimp only
 refine wpS_bind (wpS_reverse ?_)
 have hB2:=hB.mir (i:=lo) (j:=lo+n) (zcm3 _) (by omega)
 have hz2:=hB.z
 have hO2:Bfs (arrOf (setArr st (mirror (arrOf st) lo (lo+n) ((lo+n - lo) / 2)))) (lo+n):=(Lcl.mir (by omega)).so ho (zcm3 _) (by omega)
 have hS2:Seg (arrOf (setArr st (mirror (arrOf st) lo (lo+n) ((lo+n - lo) / 2)))) lo n:=by
  show Seg (mirror (arrOf st) lo (lo+n) ((lo+n - lo) / 2)) lo n
  intro i j hij hj
  rw[zw0 (by omega),zw0 (by omega),if_pos (by omega),if_pos (by omega)]
  have:=hs (n - 1 - j) (n - 1 - i) (by omega) (by omega)
  rw[show lo+(lo+n) - 1 - (lo+i)=lo+(n - 1 - i) by omega,show lo+(lo+n) - 1 - (lo+j)=lo+(n - 1 - j) by omega]
  exact this
 revert hS2 hB2 hO2
 generalize setArr st (mirror (arrOf st) lo (lo+n) ((lo+n - lo) / 2))=st2
 intro hB2 hO2 hS2
 refine wpS_bind (wpS_mono (zbk2 h0 hz h1 h2 hB2 hS2 hO2) ?_)
 rintro c st' ⟨rfl,m,rfl,h3,h4,h5,_⟩
 exact wpS_pure (h m _ hB2 (by omega) h4 h5 (hO2.up (by omega)))
structure Fal(xs:Array Keyed)(lo s x:Nat):Prop where
 z:lo+x<=xs.size
 h:s<x
 d:SegD xs lo s
 t:∀ i,i<s->K xs (lo+(x - 1))<K xs (lo+i)
 e:∀ i,s<=i->i<x->K xs (lo+i)=K xs (lo+(x - 1))
 o:Bfs xs (lo+s)
theorem Fal.rev{xs:Array Keyed}{lo s x:Nat}(F:Fal xs lo s x):SegD (mirror xs (lo+s) (lo+x) ((lo+x - (lo+s)) / 2)) lo x/\Bfs (mirror xs (lo+s) (lo+x) ((lo+x - (lo+s)) / 2)) (lo+x)/\∀ k,K (mirror xs (lo+s) (lo+x) ((lo+x - (lo+s)) / 2)) k=K xs k:=by
 obtain⟨z,hx,d,t,e,o⟩:=F
 refine⟨fun i j hij hj=>?_,(Lcl.mir z).so (o.up (by omega)) (zcm3 _) z,fun k=>K_mirror_equal z (fun k h1 h2=>?_) k⟩
 ·rw[zw0 z,zw0 z]
  by_cases hi:i<s
  ·rw[if_neg (c:=lo+s<=lo+i/\lo+i<lo+x) (by omega)]
   by_cases hj2:j<s
   ·rw[if_neg (by omega)];exact d i j hij hj2
   ·rw[if_pos (by omega)]
    refine zct3 (zbi4 (by omega) ?_)
    have:=e (s+x - 1 - j) (by omega) (by omega)
    rw[show lo+s+(lo+x) - 1 - (lo+j)=lo+(s+x - 1 - j) by omega,this]
    exact t i hi
  ·rw[if_pos (by omega),if_pos (by omega)]
   have e1:=e (s+x - 1 - j) (by omega) (by omega)
   have e2:=e (s+x - 1 - i) (by omega) (by omega)
   rw[show lo+s+(lo+x) - 1 - (lo+j)=lo+(s+x - 1 - j) by omega,show lo+s+(lo+x) - 1 - (lo+i)=lo+(s+x - 1 - i) by omega]
   rcases Nat.eq_or_lt_of_le hij with rfl|hlt
   ·exact zcr4 _
   ·exact zbm3 (by omega) (by rw[e1,e2];exact zcr4 _) (o (lo+(s+x - 1 - i)) (by omega) _ _ (by omega) (zcm3 _) (by omega))
 ·have:=e (k - lo) (by omega) (by omega)
  rw[show lo+(k - lo)=k by omega,show lo+(x - 1)=lo+x - 1 by omega] at this
  exact this
theorem Fal.one{xs:Array Keyed}{lo s x:Nat}(F:Fal xs lo s x)(h:s+1=x):SegD xs lo x/\Bfs xs (lo+x):=by
 obtain⟨z,hx,d,t,e,o⟩:=F
 subst h
 refine⟨fun i j hij hj=>?_,o.up (by omega)⟩
 by_cases hj2:j<s
 ·exact d i j hij hj2
 ·have:j=s:=by omega
  subst this
  by_cases hi:i=j
  ·subst hi;exact zcr4 _
  ·refine zct3 (zbi4 (by omega) ?_)
   have:=t i (by omega)
   rw[Nat.add_sub_cancel] at this
   exact this
theorem Fal.less{xs:Array Keyed}{lo x:Nat}(hz:lo+(x+1)<=xs.size)(d:SegD xs lo x)(o:Bfs xs (lo+x))(hl:∀ i,i<x->K xs (lo+x)<K xs (lo+i)):Fal xs lo x (x+1):=
 ⟨hz,by omega,d,fun i hi=>by rw[Nat.add_sub_cancel];exact hl i hi,fun i h1 h2=>by congr 1;omega,o⟩
theorem Fal.all{xs:Array Keyed}{lo s x:Nat}(F:Fal xs lo s x){i:Nat}(hi:i<x):K xs (lo+(x - 1))<=K xs (lo+i):=by
 by_cases h:i<s
 ·exact zct3 (F.t i h)
 ·rw[F.e i (by omega) hi];exact zcr4 _
theorem Fal.more{xs:Array Keyed}{lo s x:Nat}(F:Fal xs lo s x)(hz:lo+(x+1)<=xs.size)(he:K xs (lo+x)=K xs (lo+(x - 1))):Fal xs lo s (x+1):=
 ⟨hz,by have:=F.h;omega,F.d,fun i hi=>by rw[Nat.add_sub_cancel,he];exact F.t i hi,fun i h1 h2=>by
  rw[Nat.add_sub_cancel]
  by_cases h:i=x
  ·rw[h]
  ·rw[he];exact F.e i h1 (by omega),F.o⟩
theorem zby1{n nrem:Nat}{Q:Option Nat->SortSt->Prop}(h0:IntKeys a₀)(hz:lo+nrem<=a₀.size)(h2:n+1<=nrem)(hB:SW a₀ s0 st lo)(hs:Fal (arrOf st) lo n (n+1))(h:∀ m st',SW a₀ s0 st' lo->1<=m->m<=nrem->Seg (arrOf st') lo m->Bfs (arrOf st') (lo+m)->Q (some m) st'):wpS (model prog w) A E s (cD lo n nrem) Q st:=by
 unfold cD
 dsimp only
 refine wpS_bind (wpS_lift (wpAny_rule ⟨rfl,?_⟩))
 refine wpS_bind (wpS_mono (wpS_forRange (I:=fun x c st'=>∃ q u,c=(none,x,q)/\SW a₀ s0 st' lo/\Fal (arrOf st') lo u x/\u+(q+1)=x)
  (Q:=fun c st'=>∃ x q u,c=(none,x,q)/\x<=nrem/\SW a₀ s0 st' lo/\Fal (arrOf st') lo u x/\u+(q+1)=x) ?step ?fin ⟨0,n,rfl,hB,hs,rfl⟩) ?post)
 case fin=>
  rintro c st' ⟨q,u,rfl,h3,h4,h5⟩
  rw[show max (n+1) nrem=nrem by omega] at h4 h5 ⊢
  exact⟨_,_,_,rfl,zcm3 _,h3,h4,h5⟩
 case step=>
  rintro x c st' hx1 hx2 ⟨q,u,rfl,h3,h4,h5⟩
  have z3:=h3.z
  dsimp only
  refine wpS_bind (zac5 h3 h0 (by omega) (by omega) ?_)
  dsimp only
  by_cases hl:K (arrOf st') (lo+x)<K (arrOf st') (lo+x - 1)
  ·rw[if_pos (by simpa using hl)]
   have hl2:∀ i,i<x->K (arrOf st') (lo+x)<K (arrOf st') (lo+i):=fun i hi=>by
    have:=h4.all hi
    rw[show lo+(x - 1)=lo+x - 1 by omega] at this
    omega
   by_cases hq:q>0
   ·rw[if_pos hq]
    obtain⟨r1,r2,r3⟩:=h4.rev
    refine wpS_bind (wpS_reverse (wpS_pure ⟨0,x,rfl,h3.mir (by omega) (by omega),?_,by omega⟩))
    show Fal (mirror (arrOf st') _ _ _) lo x (x+1)
    rw[show lo+x - (q+1)=lo+u by omega]
    refine Fal.less ?_ r1 r2 fun i hi=>by rw[r3,r3];exact hl2 i hi
    rw[(mirror_perm _ _ _ _).size_eq];omega
   ·rw[if_neg hq]
    obtain⟨r1,r2⟩:=h4.one (by omega)
    exact wpS_pure ⟨0,x,rfl,h3,Fal.less (by omega) r1 r2 hl2,by omega⟩
  ·rw[if_neg (by simpa using hl)]
   refine wpS_bind (zac5 h3 h0 (by omega) (by omega) ?_)
   dsimp only
   by_cases hg:K (arrOf st') (lo+x - 1)<K (arrOf st') (lo+x)
   ·rw[if_pos (by simpa using hg)]
    exact wpS_pure ⟨x,q,u,rfl,by omega,h3,h4,h5⟩
   ·rw[if_neg (by simpa using hg)]
    have he:K (arrOf st') (lo+x)=K (arrOf st') (lo+(x - 1)):=by
     rw[show lo+(x - 1)=lo+x - 1 by omega];omega
    exact wpS_pure ⟨q+1,u,rfl,h3,h4.more (by omega) he,by omega⟩
 case post=>
  rintro c st' ⟨x,q,u,rfl,h7,h3,h4,h5⟩
  have z3:=h3.z
  dsimp only
  by_cases hq:q>0
  ·rw[if_pos hq]
   refine wpS_bind (wpS_reverse ?_)
   have h8:=h3.mir (i:=lo+x - (q+1)) (j:=lo+x) (by omega) (by omega)
   rw[show lo+x - (q+1)=lo+u by omega] at h8 ⊢
   exact zbp0 h0 hz (by omega) h7 h8 h4.rev.1 h4.rev.2.1 h
  ·rw[if_neg hq]
   exact zbp0 h0 hz (by omega) h7 h3 (h4.one (by omega)).1 (h4.one (by omega)).2 h
theorem zcf7{nrem:Nat}{Q:Option Nat->SortSt->Prop}(h0:IntKeys a₀)(hz:lo+nrem<=a₀.size)(h1:1<=nrem)(hB:SW a₀ s0 st lo)(ho:Bfs (arrOf st) lo)(h:∀ m st',SW a₀ s0 st' lo->1<=m->m<=nrem->Seg (arrOf st') lo m->Bfs (arrOf st') (lo+m)->Q (some m) st'):wpS (model prog w) A E s (countRun' lo nrem) Q st:=by
 rw[countRun'_eq]
 dsimp only
 refine wpS_bind (wpS_mono (zbk2 h0 hz (zcm3 1) h1 hB (fun i j hij hj=>by
  have:i=j:=by omega
  subst this;exact zcr4 _) (ho.up (by omega))) ?_)
 rintro c st' ⟨rfl,n,rfl,h3,h4,h5,h6⟩
 have z3:=hB.z
 dsimp only
 by_cases hn:n=nrem
 ·rw[if_pos (by simpa using hn)]
  exact wpS_pure (h n _ hB h3 h4 h5 (ho.up (by omega)))
 rw[if_neg (by simpa using hn)]
 have hlt:=h6.resolve_left hn
 by_cases hg:n>1
 ·rw[if_pos hg]
  refine wpS_bind (zac5 hB h0 (by omega) (by omega) ?_)
  dsimp only
  by_cases hr:K (arrOf st') lo<K (arrOf st') (lo+n - 1)
  ·rw[if_pos (by simpa using hr)]
   exact wpS_pure (h n _ hB h3 h4 h5 (ho.up (by omega)))
  ·rw[if_neg (by simpa using hr)]
   have he:∀ i,i<n->K (arrOf st') (lo+i)=K (arrOf st') (lo+(n - 1)):=fun i hi=>by
    have a1:=zbb1 (by omega) (h5 0 i (by omega) hi)
    have a2:=zbb1 (by omega) (h5 i (n - 1) (by omega) (by omega))
    rw[show lo+(n - 1)=lo+n - 1 by omega] at a2 ⊢
    rw[Nat.add_zero] at a1
    omega
   refine wpS_bind (wpS_reverse ?_)
   have h8:=hB.mir (i:=lo) (j:=lo+n) (by omega) (by omega)
   refine zby1 h0 hz (by omega) h8 ?_ h
   have F:Fal (arrOf st') lo 0 n:=⟨by omega,by omega,fun i j _ hj=>absurd hj (Nat.not_lt_zero _),fun i hi=>absurd hi (Nat.not_lt_zero _),fun i _ hi=>he i hi,ho⟩
   obtain⟨r1,r2,r3⟩:=F.rev
   rw[Nat.add_zero] at r1 r2 r3
   show Fal (mirror (arrOf st') _ _ _) lo n (n+1)
   refine Fal.less ?_ r1 r2 fun i hi=>?_
   ·rw[(mirror_perm _ _ _ _).size_eq];omega
   ·rw[r3,r3,he i hi,show lo+(n - 1)=lo+n - 1 by omega]
    exact hlt
 ·rw[if_neg hg]
  have:n=1:=by omega
  subst this
  refine zby1 h0 hz (by omega) hB (Fal.less (by omega) (fun i j hij hj=>?_) (ho.up (by omega)) fun i hi=>?_) h
  ·have e1:i=0:=by omega
   have e2:j=0:=by omega
   subst e1;subst e2
   exact zcr4 _
  ·have:i=0:=by omega
   subst this
   exact hlt
end
end
section
variable [Gh]
section
variable {a₀:Array Keyed}{s0 st:SortSt}{lo:Nat}
variable {prog:Program}{w:World}{A:Around}{E:Value->Shared->Prop}{s:Shared}
theorem zce1{n ok:Nat}{Q:Bool->SortSt->Prop}(h0:IntKeys a₀)(hz:lo+n<=a₀.size)(hok:ok<=n)(hn1:1<=n)(hB:SW a₀ s0 st lo)(hs:Seg (arrOf st) lo ok)(ho:Bfs (arrOf st) (lo+ok))(h:∀ st',SW a₀ s0 st' lo->Seg (arrOf st') lo n->Bfs (arrOf st') (lo+n)->Q true st'):wpS (model prog w) A E s (binarySort' lo n ok) Q st:=by
 rw[binarySort'_eq]
 dsimp only
 refine wpS_bind (wpS_mono (wpS_forRange (I:=fun k c st'=>c=(none,())/\SW a₀ s0 st' lo/\Seg (arrOf st') lo (min k n)/\Bfs (arrOf st') (lo+k))
  (Q:=fun c st'=>c=(none,())/\SW a₀ s0 st' lo/\Seg (arrOf st') lo n/\Bfs (arrOf st') (lo+n)) ?step ?fin ?init) ?post)
 case post=>
  rintro c st' ⟨rfl,hB',hs',ho'⟩
  exact wpS_pure (h st' hB' hs' ho')
 case init=>
  refine⟨rfl,hB,fun i j hij hj=>?_,ho.up (by omega)⟩
  by_cases h1:ok=0
  ·have:i=j:=by omega
   subst this;exact zcr4 _
  ·exact hs i j hij (by omega)
 case fin=>
  rintro c st' ⟨hc,hB',hs',ho'⟩
  rw[show min (max (max ok 1) n) n=n by omega] at hs'
  rw[show max (max ok 1) n=n by omega] at ho'
  exact⟨hc,hB',hs',ho'⟩
 case step=>
  rintro k c st' hak hkn ⟨rfl,hB',hs',ho'⟩
  have z':=hB'.z
  have pv:∀ i,i<k->Iat (arrOf st') (lo+i)<=Iat (arrOf st') (lo+k):=fun i hi=>ho' (lo+k) (zcm3 _) _ _ (by omega) (zcm3 _) (by omega)
  rw[show min k n=k by omega] at hs'
  refine wpS_bind (wpS_mono (wpS_forRange (I:=fun x c st''=>st''=st'/\∃ l r,c=(none,l,r)/\l<=r/\r<=k/\r - l<=k - x /\
    (∀ i,i<l->KG (arrOf st') (lo+i)<=KG (arrOf st') (lo+k))/\(∀ i,r<=i->i<k->KG (arrOf st') (lo+k)<=KG (arrOf st') (lo+i)))
   (Q:=fun c st''=>st''=st'/\∃ l r,c=(none,l,r)/\l<=k /\
    (∀ i,i<l->KG (arrOf st') (lo+i)<=KG (arrOf st') (lo+k))/\(∀ i,l<=i->i<k->KG (arrOf st') (lo+k)<=KG (arrOf st') (lo+i))) ?istep ?ifin ⟨rfl,0,k,rfl,by omega,by omega,by omega,fun i hi=>by omega,fun i h1 h2=>by omega⟩) ?ipost)
  case ifin=>
   rintro c st'' ⟨rfl,l,r,rfl,hlr,hrk,hm,hlo,hhi⟩
   have:l=r:=by omega
   subst this
   exact⟨rfl,l,l,rfl,hrk,hlo,hhi⟩
  case istep=>
   rintro x c st'' _ hxk ⟨rfl,l,r,rfl,hlr,hrk,hm,hlo,hhi⟩
   dsimp only
   by_cases hge:l≥r
   ·rw[if_pos hge]
    have:l=r:=by omega
    subst this
    exact wpS_pure ⟨rfl,l,l,rfl,hrk,hlo,hhi⟩
   ·rw[if_neg hge]
    refine wpS_bind (zac5 hB' h0 (by omega) (by omega) ?_)
    dsimp only
    by_cases hless:K (arrOf st'') (lo+k)<K (arrOf st'') (lo+(l+r) / 2)
    ·rw[if_pos (by simpa using hless)]
     refine wpS_pure ⟨rfl,l,(l+r) / 2,rfl,by omega,by omega,by omega,hlo,fun i h1 h2=>?_⟩
     exact zct4 (zct3 (zbi4 (by omega) hless)) (hs' _ _ h1 h2)
    ·rw[if_neg (by simpa using hless)]
     refine wpS_pure ⟨rfl,(l+r) / 2+1,r,rfl,by omega,by omega,by omega,fun i h1=>?_,hhi⟩
     exact zct4 (hs' i ((l+r) / 2) (by omega) (by omega)) (zbm3 (by omega) (Int.not_lt.mp hless) (pv _ (by omega)))
  case ipost=>
   rintro c st'' ⟨rfl,l,r,rfl,hlk,hlo,hhi⟩
   show wpS _ _ _ _ (do moveDown' (lo+k) (lo+l);pure (ForInStep.yield (none,()))) _ _
   rw[moveDown'_eq]
   have hks:lo+k<(arrOf st'').size:=by omega
   refine wpS_bind (wpS_modify (wpS_pure ⟨rfl,hB'.arr (bubble_perm _ _ _) ((Lcl.bub hks (by omega)).wide (by omega) (by omega)),?_,(Lcl.bub hks (by omega)).so (ho'.up (by omega)) (by omega) (by omega)⟩))
   rw[show min (k+1) n=k+1 by omega]
   intro i j hij hj
   show KG (bubble (arrOf st'') (lo+k) (lo+k - (lo+l))) (lo+i)<=KG (bubble (arrOf st'') (lo+k) (lo+k - (lo+l))) (lo+j)
   rw[zao0 hks (by omega),zao0 hks (by omega),show lo+k - (lo+k - (lo+l))=lo+l by omega]
   have c1:∀ i,i≠l->l<i->i<=k->lo+i - 1=lo+(i - 1):=fun i _ _ _=>by omega
   by_cases i1:i=l
   ·rw[if_pos (by omega)]
    by_cases j1:j=l
    ·rw[if_pos (by omega)];exact zcr4 _
    ·rw[if_neg (by omega),if_pos (by omega),c1 j j1 (by omega) (by omega)]
     exact hhi _ (by omega) (by omega)
   ·rw[if_neg (by omega)]
    by_cases i2:l<i
    ·rw[if_pos (by omega),if_neg (by omega),if_pos (by omega),c1 i i1 i2 (by omega),c1 j (by omega) (by omega) (by omega)]
     exact hs' _ _ (by omega) (by omega)
    ·rw[if_neg (by omega)]
     by_cases j1:j=l
     ·rw[if_pos (by omega)];exact hlo _ (by omega)
     ·rw[if_neg (by omega)]
      by_cases j2:l<j
      ·rw[if_pos (by omega),c1 j j1 j2 (by omega)];exact hs' _ _ (by omega) (by omega)
      ·rw[if_neg (by omega)];exact hs' _ _ (by omega) (by omega)
omit [Gh] in
theorem zav0(i:Nat):mergeAt' i=(do
 let s ← (get:StateT SortSt Sem SortSt)
 let (some (sa,na,power),some (sb,nb,_)):=((pendingOf s)[i]?,(pendingOf s)[i+1]?)|unsupported "internal:list.sort.pending"
 set (setPending s (((pendingOf s).setIfInBounds i (sa,na+nb,power)).eraseIdxIfInBounds (i+1)))
 let some k ← zl1 false (← elem' (arrOf s) sb) (arrOf s) sa na 0|return false
 let (sa,na):=(sa+k,na - k)
 if na==0 then return true
 let some nb ← zl1 true (← elem' (arrOf s) (sa+na - 1)) (arrOf s) sb nb (nb - 1)|return false
 if nb==0 then return true
 let x:=(arrOf s).extract sa sb
 let y:=(arrOf s).extract sb (sb+nb)
 let merged ← if na<=nb then zal1 x y else zam3 x y
 modify fun s=>setArr s (merged.toList.zipIdx.foldl (fun a (p,j)=>a.setIfInBounds (sa+j) p) (arrOf s))
 return (failedOf (← get)).isNone):=rfl
end
def Ch(xs:Array Keyed):Nat->Nat->List (Nat×Nat×Nat)->Prop
 | a,b,[]=>a=b
 | a,b,(u,n,_) :: r=>u=a/\1<=n/\(Seg xs a n/\Bfr xs a)/\Ch xs (a+n) b r
theorem Ch.le{xs:Array Keyed}:∀ {P:List (Nat×Nat×Nat)}{a b:Nat},Ch xs a b P->a+P.length<=b
 | [],a,b,h=>zcx2 h
 | (u,n,_) :: r,a,b,h=>by
  have:=Ch.le h.2.2.2
  have h1:=h.2.1
  simp only[zcn6]
  omega
theorem Ch.app{xs:Array Keyed}:∀ {P R:List (Nat×Nat×Nat)}{a b:Nat},Ch xs a b (P++R)↔∃ m,Ch xs a m P/\Ch xs m b R
 | [],R,a,b=>⟨fun h=>⟨a,rfl,h⟩,fun ⟨m,h1,h2⟩=>(show a=m from h1)▸h2⟩
 | (u,n,_) :: r,R,a,b=>⟨fun h=>by
   obtain⟨m,h1,h2⟩:=Ch.app.mp h.2.2.2
   exact⟨m,⟨h.1,h.2.1,h.2.2.1,h1⟩,h2⟩,fun ⟨m,h1,h2⟩=>⟨h1.1,h1.2.1,h1.2.2.1,Ch.app.mpr ⟨m,h1.2.2.2,h2⟩⟩⟩
theorem Ch.congr{xs ys:Array Keyed}:∀ {P:List (Nat×Nat×Nat)}{a b:Nat},Ch xs a b P->(∀ k,a<=k->k<b->ys[k]?=xs[k]?)->(∀ m,a<=m->m<b->Bfr xs m->Bfr ys m)->Ch ys a b P
 | [],a,b,h,_,_=>h
 | (u,n,_) :: r,a,b,h,e,f=>by
  have h1:=Ch.le h.2.2.2
  have n1:=h.2.1
  refine⟨h.1,h.2.1,⟨fun i j hij hj=>?_,f a (zcm3 _) (by omega) h.2.2.1.2⟩,Ch.congr h.2.2.2 (fun k h2 h3=>e k (by omega) h3) fun m h2 h3=>f m (by omega) h3⟩
  rw[zk8 (e _ (by omega) (by omega)),zk8 (e _ (by omega) (by omega))]
  exact h.2.2.1.1 i j hij hj
omit [Gh] in
def putL(xs:Array Keyed)(b n:Nat)(L:List Keyed):Array Keyed:=(L.zipIdx n).foldl (fun a x=>a.setIfInBounds (b+x.2) x.1) xs
omit [Gh] in
theorem zas1:∀ (L:List Keyed) (xs:Array Keyed) (b n:Nat),(putL xs b n L).size=xs.size
 | [],_,_,_=>rfl
 | p :: L,xs,b,n=>by
  show (putL (xs.setIfInBounds (b+n) p) b (n+1) L).size=_
  rw[zas1,Array.size_setIfInBounds]
omit [Gh] in
theorem zam1:∀ (L:List Keyed) (xs:Array Keyed) (b n:Nat),b+n+L.length<=xs.size->∀ k,(putL xs b n L)[k]?=if b+n<=k/\k<b+n+L.length then L[k - (b+n)]? else xs[k]?
 | [],xs,b,n,_,k=>by
  rw[if_neg (by simp)];rfl
 | p :: L,xs,b,n,h,k=>by
  rw[zcn6] at h ⊢
  show (putL (xs.setIfInBounds (b+n) p) b (n+1) L)[k]?=_
  rw[zam1 L _ b (n+1) (by rw[Array.size_setIfInBounds];omega) k,Array.getElem?_setIfInBounds]
  by_cases h1:k=b+n
  ·subst h1
   rw[if_neg (by omega),if_pos rfl,if_pos (by omega),if_pos (by omega),zcw6]
   rfl
  ·by_cases h2:b+(n+1)<=k/\k<b+(n+1)+L.length
   ·rw[if_pos h2,if_pos (by omega)]
    obtain⟨d,hd⟩:∃ d,k - (b+n)=d+1:=⟨k - (b+n) - 1,by omega⟩
    rw[hd,List.getElem?_cons_succ]
    congr 1;omega
   ·rw[if_neg h2,if_neg (by omega),if_neg (by omega)]
omit [Gh] in
theorem zbo2{L:List Keyed}{xs:Array Keyed}{b:Nat}(h:b+L.length<=xs.size):(putL xs b 0 L).toList=xs.toList.take b++L++xs.toList.drop (b+L.length):=by
 apply zcp0
 intro k
 rw[zct5,zam1 L xs b 0 (by omega),List.getElem?_append,List.getElem?_append,zcl8,zcn7,zcw0,zcs6]
 have hz:xs.toList.length=xs.size:=zcm7
 rw[zcs8 (by omega)]
 by_cases h1:k<b
 ·rw[if_neg (by omega),if_pos (by omega),if_pos h1,if_pos h1,zct5]
 ·by_cases h2:k<b+L.length
  ·rw[if_pos (by omega),if_pos h2,if_neg h1];rfl
  ·rw[if_neg (by omega),if_neg h2,zct5]
   congr 1;omega
theorem Seg.list{xs:Array Keyed}{i n:Nat}(h:Seg xs i n)(hz:i+n<=xs.size){u v:Nat}(hu:i<=u)(hv:v<=i+n):(xs.extract u v).toList.Pairwise kLe:=by
 rw[zcr0]
 intro p q hp hq hpq
 have hp':=hp
 have hq':=hq
 rw[zcm7,zcs4] at hp' hq'
 have:=h (u - i+p) (u - i+q) (by omega) (by omega)
 rw[show i+(u - i+p)=u+p by omega,show i+(u - i+q)=u+q by omega,zbd7 (by omega),zbd7 (by omega)] at this
 show gK _<=gK _
 simpa using this
structure SS(a₀:Array Keyed)(st:SortSt)(lo:Nat):Prop where
 p:(arrOf st).Perm a₀
 k:kindOf st=oneType'
 f:failedOf st=none
 c:Ch (arrOf st) 0 lo (pendingOf st).toList
 l:lo<=a₀.size
 o:Bfr (arrOf st) lo
section
variable {a₀:Array Keyed}{s0 st:SortSt}{lo:Nat}
variable {prog:Program}{w:World}{A:Around}{E:Value->Shared->Prop}{s:Shared}
omit [Gh] in
theorem zcd8{σ:Type}{x:σ}{st:σ}{M:Model}{Q:PUnit->σ->Prop}(h:Q ⟨⟩ x):wpS M A E s (set x:StateT σ Sem PUnit) Q st:=by
 unfold wpS;rw[StateT.run_set];exact zcx5 ⟨rfl,h⟩
omit [Gh] in
theorem two_at{α:Type}{l:List α}{i:Nat}(h:i+1<l.length):∃ P x y R,l=P++x :: y :: R/\P.length=i:=by
 refine⟨l.take i,l[i],l[i+1],l.drop (i+2),?_,by rw[zcn7];omega⟩
 have e:l.drop i=l[i] :: l[i+1] :: l.drop (i+2):=by
  rw[zcq9 (by omega),zcq9 (by omega)]
 rw[← e,zct6]
theorem zaf4{i:Nat}{Q:Bool->SortSt->Prop}(h0:IntKeys a₀)(hS:SS a₀ st lo)(hi:i+1<(pendingOf st).size)(h:∀ st',SS a₀ st' lo->(pendingOf st').size+1=(pendingOf st).size->(∀ k,lo<=k->(arrOf st')[k]?=(arrOf st)[k]?)->(∀ m,lo<=m->Bfr (arrOf st) m->Bfr (arrOf st') m)->Q true st') :
  wpS (model prog w) A E s (mergeAt' i) Q st:=by
 obtain⟨P,⟨sa,na,pa⟩,⟨sb,nb,pb⟩,R,eP,hP⟩:=two_at (l:=(pendingOf st).toList) (i:=i) (by simpa using hi)
 have z:=hS.p.size_eq
 have hl:=hS.l
 have hc:=hS.c
 rw[eP] at hc
 obtain⟨m,c1,⟨rfl,n1,⟨g1,b1⟩,⟨rfl,n2,⟨g2,b2⟩,c2⟩⟩⟩:=Ch.app.mp hc
 have hle:=c2.le
 have hle1:=c1.le
 have hI:IntKeys (arrOf st):=fun p hp=>h0 p ((zcr7.mp hS.p).mem_iff.mp hp)
 have ea:(pendingOf st)[i]?=some (sa,na,pa):=by
  rw[← zct5,eP,← hP];simp
 have eb:(pendingOf st)[i+1]?=some (sa+na,nb,pb):=by
  rw[← zct5,eP,← hP];simp
 have fin:∀ ys:Array Keyed,∀ g,ys.Perm (arrOf st)->Lcl (arrOf st) ys sa (sa+na+nb)->Seg ys sa (na+nb) ->
   Q true (SortSt.mk' (kindOf st) ys (((pendingOf st).setIfInBounds i (sa,na+nb,pa)).eraseIdxIfInBounds (i+1)) g (failedOf st)):=by
  intro ys g hp hk hs
  have el:(((pendingOf st).setIfInBounds i (sa,na+nb,pa)).eraseIdxIfInBounds (i+1)).toList=P++(sa,na+nb,pa) :: R:=by
   rw[Array.toList_eraseIdxIfInBounds,Array.toList_setIfInBounds,eP,← hP]
   simp[List.eraseIdx_append]
   exact fun h=>absurd h (by omega)
  have hz2:sa+na+nb<=(arrOf st).size:=by omega
  refine h _ ⟨hp.trans hS.p,hS.k,hS.f,?_,hl,hk.sp (.inr (by omega)) hS.o hz2⟩ ?_ (fun k hk2=>hk.o k (.inr (by omega))) fun m hm hb=>hk.sp (.inr (by omega)) hb hz2
  ·show Ch ys 0 lo _
   rw[el]
   refine Ch.app.mpr ⟨sa,c1.congr (fun k _ h2=>hk.o k (.inl h2)) fun m _ h2 hb=>hk.sp (.inl (by omega)) hb hz2,rfl,by omega,⟨hs,hk.sp (.inl (zcm3 _)) b1 hz2⟩,?_⟩
   rw[← Nat.add_assoc]
   exact c2.congr (fun k h1 _=>hk.o k (.inr h1)) fun m h1 _ hb=>hk.sp (.inr h1) hb hz2
  ·show (((pendingOf st).setIfInBounds i (sa,na+nb,pa)).eraseIdxIfInBounds (i+1)).size+1=_
   rw[← zcm7,el,← zcm7,eP]
   simp
   omega
 rw[zav0]
 refine wpS_bind (wpS_get ?_)
 dsimp only
 rw[ea,eb]
 dsimp only
 refine wpS_bind (zcd8 ?_)
 have hsb:sa+na<(arrOf st).size:=by omega
 refine wpS_bind (zc1 (getElem?_pos (arrOf st) (sa+na) hsb) ?_)
 refine wpS_bind (zm3 hS.k hI (hI _ (by simp)) (by omega) (by omega) (fun u v h1 h2 h3=>?_) fun k k1 k2 k3=>?_)
 ·have:=g1 (u - sa) (v - sa) (by omega) (by omega)
  rw[show sa+(u - sa)=u by omega,show sa+(v - sa)=v by omega] at this
  exact zbb1 (by omega) this
 dsimp only
 have cr:∀ u v,u<na->v<nb->Iat (arrOf st) (sa+u)<=Iat (arrOf st) (sa+na+v):=fun u v h1 h2=>b2 _ _ (by omega) (by omega) (by omega)
 have lowA:∀ u,u<k->KG (arrOf st) (sa+u)<=KG (arrOf st) (sa+na):=fun u hu=>by
  have:=k2 u hu
  unfold byd at this
  rw[← K_of hsb] at this
  exact zbm3 (by omega) (by simpa using this) (cr u 0 (by omega) (by omega))
 have higA:∀ u,k<=u->u<na->KG (arrOf st) (sa+na)<KG (arrOf st) (sa+u):=fun u h1 h2=>by
  have:=k3 u h1 h2
  unfold byd at this
  rw[← K_of hsb] at this
  exact zbi4 (by omega) (by simpa using this)
 have headB:∀ v,v<nb->KG (arrOf st) (sa+na)<=KG (arrOf st) (sa+na+v):=fun v hv=>by
  have:=g2 0 v (by omega) hv
  exact this
 by_cases e1:na - k=0
 ·rw[if_pos (by simpa using e1)]
  refine wpS_pure (fin _ _ (Array.Perm.refl _) (Lcl.refl _ _ _) fun u v huv hv=>?_)
  by_cases h1:v<na
  ·exact g1 u v huv h1
  ·by_cases h2:u<na
   ·have h3:=headB (v - na) (by omega)
    rw[show sa+na+(v - na)=sa+v by omega] at h3
    exact zct4 (lowA u (by omega)) h3
   ·have:=g2 (u - na) (v - na) (by omega) (by omega)
    rw[show sa+na+(u - na)=sa+u by omega,show sa+na+(v - na)=sa+v by omega] at this
    exact this
 rw[if_neg (by simpa using e1)]
 have elast:sa+k+(na - k) - 1=sa+na - 1:=by omega
 have hsl:sa+na - 1<(arrOf st).size:=by omega
 rw[elast]
 refine wpS_bind (zc1 (getElem?_pos (arrOf st) (sa+na - 1) hsl) ?_)
 refine wpS_bind (zm3 hS.k hI (hI _ (by simp)) (by omega) (by omega) (fun u v h1 h2 h3=>?_) fun j j1 j2 j3=>?_)
 ·have:=g2 (u - (sa+na)) (v - (sa+na)) (by omega) (by omega)
  rw[show sa+na+(u - (sa+na))=u by omega,show sa+na+(v - (sa+na))=v by omega] at this
  exact zbb1 (by omega) this
 dsimp only
 have lowB:∀ v,v<j->KG (arrOf st) (sa+na+v)<KG (arrOf st) (sa+na - 1):=fun v hv=>by
  have:=j2 v hv
  unfold byd at this
  rw[← K_of hsl] at this
  exact zbi4 (by omega) (by simpa using this)
 have higB:∀ v,j<=v->v<nb->KG (arrOf st) (sa+na - 1)<=KG (arrOf st) (sa+na+v):=fun v h1 h2=>by
  have:=j3 v h1 h2
  unfold byd at this
  rw[← K_of hsl] at this
  have h4:=cr (na - 1) v (by omega) h2
  rw[show sa+(na - 1)=sa+na - 1 by omega] at h4
  exact zbm3 (by omega) (by simpa using this) h4
 have lastA:∀ u,u<na->KG (arrOf st) (sa+u)<=KG (arrOf st) (sa+na - 1):=fun u hu=>by
  have:=g1 u (na - 1) (by omega) (by omega)
  rw[show sa+(na - 1)=sa+na - 1 by omega] at this
  exact this
 by_cases e2:j=0
 ·rw[if_pos (by simpa using e2)]
  refine wpS_pure (fin _ _ (Array.Perm.refl _) (Lcl.refl _ _ _) fun u v huv hv=>?_)
  by_cases h1:v<na
  ·exact g1 u v huv h1
  ·by_cases h2:u<na
   ·have h3:=higB (v - na) (by omega) (by omega)
    rw[show sa+na+(v - na)=sa+v by omega] at h3
    exact zct4 (lastA u h2) h3
   ·have:=g2 (u - na) (v - na) (by omega) (by omega)
    rw[show sa+na+(u - na)=sa+u by omega,show sa+na+(v - na)=sa+v by omega] at this
    exact this
 rw[if_neg (by simpa using e2)]
 have zx:((arrOf st).extract (sa+k) (sa+na)).size=na - k:=by rw[zcs4];omega
 have zy:((arrOf st).extract (sa+na) (sa+na+j)).size=j:=by rw[zcs4];omega
 have px:=g1.list (by omega) (u:=sa+k) (v:=sa+na) (by omega) (by omega)
 have py:=g2.list (by omega) (u:=sa+na) (v:=sa+na+j) (by omega) (by omega)
 have ix:IntKeys ((arrOf st).extract (sa+k) (sa+na)):=fun p hp=>by
  obtain⟨d,_,_,h3⟩:=zi8 hp
  exact hI p (by rw[zcw4];exact Array.mem_of_getElem? h3)
 have iy:IntKeys ((arrOf st).extract (sa+na) (sa+na+j)):=fun p hp=>by
  obtain⟨d,_,_,h3⟩:=zi8 hp
  exact hI p (by rw[zcw4];exact Array.mem_of_getElem? h3)
 have bx:∀ p∈((arrOf st).extract (sa+k) (sa+na)).toList,KG (arrOf st) (sa+na)<=gK p/\gK p<=KG (arrOf st) (sa+na - 1):=fun p hp=>by
  obtain⟨d,h1,_,h3⟩:=zi8 hp
  rw[← zax4 h3]
  have h4:=higA (k+d) (by omega) (by omega)
  have h5:=lastA (k+d) (by omega)
  rw[← Nat.add_assoc] at h4 h5
  exact⟨zct3 h4,h5⟩
 have bY:∀ p∈((arrOf st).extract (sa+na) (sa+na+j)).toList,KG (arrOf st) (sa+na)<=gK p/\gK p<=KG (arrOf st) (sa+na - 1):=fun p hp=>by
  obtain⟨d,h1,_,h3⟩:=zi8 hp
  rw[← zax4 h3]
  exact⟨headB d (by omega),zct3 (lowB d (by omega))⟩
 have xl:gK (((arrOf st).extract (sa+k) (sa+na))[na - k - 1]'(by omega))=KG (arrOf st) (sa+na - 1):=by
  rw[zbd7 hsl,Array.getElem_extract]
  simp only[show sa+k+(na - k - 1)=sa+na - 1 by omega]
 have yf:gK (((arrOf st).extract (sa+na) (sa+na+j))[0]'(by omega))=KG (arrOf st) (sa+na):=by
  rw[zbd7 hsb,Array.getElem_extract]
  simp only[Nat.add_zero]
 have fin2:∀ (L:Array Keyed) g,MO (((arrOf st).extract (sa+k) (sa+na)).toList++((arrOf st).extract (sa+na) (sa+na+j)).toList) L.toList ->
   Q true (SortSt.mk' (kindOf st) (putL (arrOf st) (sa+k) 0 L.toList) (((pendingOf st).setIfInBounds i (sa,na+nb,pa)).eraseIdxIfInBounds (i+1)) g (failedOf st)):=by
  intro L g hM
  have hlen:L.toList.length=na - k+j:=by
   rw[hM.1.length_eq,zcl8,zcm7,zcm7,zx,zy]
  have hb:∀ p∈L.toList,KG (arrOf st) (sa+na)<=gK p/\gK p<=KG (arrOf st) (sa+na - 1):=fun p hp=>by
   rcases zco0.mp (hM.1.mem_iff.mp hp) with h1|h1
   ·exact bx p h1
   ·exact bY p h1
  have gt:=zam1 L.toList (arrOf st) (sa+k) 0 (by omega)
  have kin:∀ v,k<=v->v<na+j->∃ p,L.toList[v - k]?=some p/\KG (putL (arrOf st) (sa+k) 0 L.toList) (sa+v)=gK p:=fun v h1 h2=>by
   have h3:=gt (sa+v)
   rw[if_pos (by omega),show sa+v - (sa+k+0)=v - k by omega] at h3
   have h4:v - k<L.toList.length:=by omega
   refine⟨L.toList[v - k],zcl0 h4,?_⟩
   rw[zcl0 h4] at h3
   exact zax4 h3
  have kou:∀ v,v<sa+k∨sa+na+j<=v->(putL (arrOf st) (sa+k) 0 L.toList)[v]?=(arrOf st)[v]?:=fun v h1=>by
   have h3:=gt v
   rw[if_neg (by omega)] at h3
   exact h3
  have kout:∀ v,v<sa+k∨sa+na+j<=v->KG (putL (arrOf st) (sa+k) 0 L.toList) v=KG (arrOf st) v:=fun v h1=>zk8 (kou v h1)
  have LC:Lcl (arrOf st) (putL (arrOf st) (sa+k) 0 L.toList) sa (sa+na+nb):=⟨zas1 _ _ _ _,fun v h1=>kou v (by omega),fun v h1 h2=>by
   by_cases hv:v<sa+k∨sa+na+j<=v
   ·exact⟨v,h1,h2,kou v hv⟩
   ·have h3:=gt v
    rw[if_pos (by omega)] at h3
    have h4:v - (sa+k+0)<L.toList.length:=by omega
    rw[h3,zcl0 h4]
    rcases zco0.mp (hM.1.mem_iff.mp (zcv3 h4)) with h5|h5
    ·obtain⟨d,e1,e2,e3⟩:=zi8 h5
     exact⟨sa+k+d,by omega,by omega,e3.symm⟩
    ·obtain⟨d,e1,e2,e3⟩:=zi8 h5
     exact⟨sa+na+d,by omega,by omega,e3.symm⟩⟩
  refine fin _ _ ?_ LC fun u v huv hv=>?_
  ·refine zcr7.mpr ?_
   rw[zbo2 (by omega)]
   have e3:(arrOf st).toList=(arrOf st).toList.take (sa+k)++(((arrOf st).extract (sa+k) (sa+na)).toList++((arrOf st).extract (sa+na) (sa+na+j)).toList)++(arrOf st).toList.drop (sa+k+L.toList.length):=by
    rw[hlen,show sa+k+(na - k+j)=sa+na+j by omega,← zcp9,← zam9 _ (by omega),← zam9 _ (by omega),zct6]
   conv=>rhs;rw[e3]
   exact (hM.1.append_left _).append_right _
  ·by_cases v1:v<k
   ·rw[kout _ (by omega),kout _ (by omega)]
    exact g1 u v huv (by omega)
   by_cases v2:v<na+j
   ·obtain⟨q,q1,q2⟩:=kin v (by omega) v2
    rw[q2]
    by_cases u1:u<k
    ·rw[kout _ (by omega)]
     exact zct4 (lowA u u1) (hb q (zcl4 q1)).1
    ·obtain⟨p,p1,p2⟩:=kin u (by omega) (by omega)
     rw[p2]
     rcases Nat.eq_or_lt_of_le huv with rfl|hlt
     ·rw[q1] at p1;cases p1;exact zcr4 _
     ·obtain⟨h5,h6⟩:=zcl1.mp p1
      obtain⟨h7,h8⟩:=zcl1.mp q1
      have:=zcr0.mp hM.2 (u - k) (v - k) h5 h7 (by omega)
      rw[h6,h8] at this
      exact this
   ·have h9:KG (arrOf st) (sa+na - 1)<=KG (arrOf st) (sa+v):=by
     have:=higB (v - na) (by omega) (by omega)
     rw[show sa+na+(v - na)=sa+v by omega] at this
     exact this
    rw[kout (sa+v) (by omega)]
    by_cases u1:u<k
    ·rw[kout _ (by omega)]
     exact zct4 (lastA u (by omega)) h9
    ·by_cases u2:u<na+j
     ·obtain⟨p,p1,p2⟩:=kin u (by omega) u2
      rw[p2]
      exact zct4 (hb p (zcl4 p1)).2 h9
     ·rw[kout _ (by omega)]
      have:=g2 (u - na) (v - na) (by omega) (by omega)
      rw[show sa+na+(u - na)=sa+u by omega,show sa+na+(v - na)=sa+v by omega] at this
      exact this
 have end_:∀ (L:Array Keyed) (g:Nat),MO (((arrOf st).extract (sa+k) (sa+na)).toList++((arrOf st).extract (sa+na) (sa+na+j)).toList) L.toList ->
   wpS (model prog w) A E s (do
    modify fun s=>setArr s (List.foldl (fun a (x:Keyed×Nat)=>a.setIfInBounds (sa+k+x.snd) x.fst) (arrOf s) L.toList.zipIdx)
    let __do_lift ← get
    pure (failedOf __do_lift).isNone) Q (SortSt.mk' (kindOf st) (arrOf st) (((pendingOf st).setIfInBounds i (sa,na+nb,pa)).eraseIdxIfInBounds (i+1)) g (failedOf st)):=by
  intro L g hM
  refine wpS_bind (wpS_modify (wpS_bind (wpS_get (wpS_pure ?_))))
  have:=fin2 L g hM
  show Q (failedOf st).isNone _
  rw[hS.f] at this ⊢
  exact this
 have hX:∀ x∈((arrOf st).extract (sa+k) (sa+na)).toList,∀ y∈((arrOf st).extract (sa+na) (sa+na+j)).toList,Gh.ix x<=Gh.ix y:=fun x hx y hy=>by
  obtain⟨d,e1,_,e3⟩:=zi8 hx
  obtain⟨d2,f1,_,f3⟩:=zi8 hy
  have:=cr (k+d) d2 (by omega) (by omega)
  rw[← Nat.add_assoc,zbk5 e3,zbk5 f3] at this
  exact this
 by_cases hlo:na - k<=j
 ·rw[if_pos hlo]
  refine wpS_bind (zav1 hX hS.k ix iy px py (by omega) (by omega) ?_ ?_ fun L g hM=>end_ L g hM)
  ·intro y hy x hx
   rw[zx,zr0 (by omega),zcr1 (by simp;omega)] at hx
   rw[zcn9.mp hx]
   show gK y<=_
   rw[xl]
   exact (bY y hy).2
  ·intro x hx
   show _<=gK x
   rw[yf]
   exact (bx x hx).1
 ·rw[if_neg hlo]
  refine wpS_bind (zax1 hX hS.k ix iy px py (by omega) (by omega) ?_ ?_ fun L g hM=>end_ L g hM)
  ·intro y hy
   show gK y<=_
   simp only[zx]
   rw[xl]
   exact (bY y hy).2
  ·intro x hx y hy
   rw[zaa3 (by decide) (by omega)] at hy
   have:y=((arrOf st).extract (sa+na) (sa+na+j))[0]'(by omega):=by simpa using hy
   rw[this]
   show _<=gK x
   rw[yf]
   exact (bx x hx).1
end
end
section
variable [Gh]
omit [Gh] in
noncomputable def srM(size pw:Nat):StateT SortSt Sem (Option Unit×Unit):=
 forIn [:size] ((none,()):Option Unit×Unit) fun x __s=>do
  let s ← get
  match (if (pendingOf s).size>1 then (pendingOf s)[(pendingOf s).size - 2]? else none) with
  | some (fst,fst_1,older)=>
   if older<=pw then pure (ForInStep.done (none,()))
   else do
    let r ← mergeAt' ((pendingOf s).size - 2)
    if (!r)=true then pure (ForInStep.done (some (),())) else pure (ForInStep.yield (none,()))
  | x=>pure (ForInStep.done (none,()))
omit [Gh] in
noncomputable def srT(size lo n:Nat):StateT SortSt Sem (ForInStep (Option Unit×Nat)):=do
 let s ← get
 match (pendingOf s).back? with
 | some (s1,n1,snd)=>do
  let __s ← srM size (power' size (2*s1+n1) (2*s1+n1+n1+n) size)
  Break.runK __s.fst (fun _=>do
   modify fun s=>setPending s ((pendingOf s).modify ((pendingOf s).size - 1) fun x=>(x.fst,x.2.fst,power' size (2*s1+n1) (2*s1+n1+n1+n) size))
   modify fun s=>setPending s ((pendingOf s).push (lo,n,0))
   pure (ForInStep.yield (none,lo+n))) (fun r=>pure (ForInStep.done (some r,lo)))
 | x=>do
  modify fun s=>setPending s ((pendingOf s).push (lo,n,0))
  pure (ForInStep.yield (none,lo+n))
section
variable {a₀:Array Keyed}{s0 st:SortSt}{lo:Nat}
variable {prog:Program}{w:World}{A:Around}{E:Value->Shared->Prop}{s:Shared}
theorem Ch.pow{xs:Array Keyed}{f:Nat×Nat×Nat->Nat×Nat×Nat}(hf:∀ x,(f x).1=x.1/\(f x).2.1=x.2.1):∀ {P:List (Nat×Nat×Nat)}{a b:Nat}(i:Nat),Ch xs a b P->Ch xs a b (P.modify i f)
 | [],a,b,i,h=>by
  rw[List.modify_nil];exact h
 | (u,n,p) :: r,a,b,0,h=>by
  rw[List.modify_zero_cons]
  have:=hf (u,n,p)
  generalize f (u,n,p)=y at this
  obtain⟨u2,n2,p2⟩:=y
  obtain⟨e1,e2⟩:=this
  dsimp only at e1 e2
  subst e1;subst e2
  exact h
 | (u,n,p) :: r,a,b,i+1,h=>by
  rw[List.modify_succ_cons]
  exact⟨h.1,h.2.1,h.2.2.1,Ch.pow hf i h.2.2.2⟩
theorem SW.sp(h0:SS a₀ s0 lo)(h:SW a₀ s0 st lo){m:Nat}(hm:m<=lo)(hb:Bfr (arrOf s0) m):Bfr (arrOf st) m:=h.b.sp (.inl hm) hb (zcx2 h0.p.size_eq.symm)
theorem SW.ss{n:Nat}(h0:SS a₀ s0 lo)(h:SW a₀ s0 st lo):SS a₀ st lo:=
 ⟨h.p,h.k,h.f,by
  rw[h.q]
  exact h0.c.congr (fun k _ hk=>h.b.o k (.inl hk)) fun m _ hm hb=>h.sp h0 (zcu3 hm) hb,h0.l,h.sp h0 (zcm3 _) h0.o⟩
theorem SS.push{n p:Nat}(h:SS a₀ st lo)(h1:1<=n)(hz:lo+n<=a₀.size)(hs:Seg (arrOf st) lo n)(ho:Bfs (arrOf st) (lo+n)):SS a₀ (setPending st ((pendingOf st).push (lo,n,p))) (lo+n):=
 ⟨h.p,h.k,h.f,by
  show Ch (arrOf st) 0 (lo+n) ((pendingOf st).push (lo,n,p)).toList
  rw[zcv0]
  exact Ch.app.mpr ⟨lo,h.c,rfl,h1,⟨hs,h.o⟩,rfl⟩,hz,ho _ (zcm3 _)⟩
theorem zcd4{size pw n:Nat}{Q:Option Unit×Unit->SortSt->Prop}(h0:IntKeys a₀)(hS:SS a₀ st lo)(hs:Seg (arrOf st) lo n)(ho:Bfs (arrOf st) (lo+n))(h:∀ st',SS a₀ st' lo->Seg (arrOf st') lo n->Bfs (arrOf st') (lo+n)->Q (none,()) st') :
  wpS (model prog w) A E s (srM size pw) Q st:=by
 unfold srM
 refine wpS_mono (wpS_forRange (I:=fun _ c st'=>c=(none,())/\SS a₀ st' lo/\Seg (arrOf st') lo n/\Bfs (arrOf st') (lo+n)) (Q:=fun c st'=>c=(none,())/\SS a₀ st' lo/\Seg (arrOf st') lo n/\Bfs (arrOf st') (lo+n)) ?_ (fun _ _ q=>q) ⟨rfl,hS,hs,ho⟩) fun c st' ⟨e,q1,q2,q3⟩=>e▸h st' q1 q2 q3
 rintro x c st' _ _ ⟨rfl,q1,q2,q3⟩
 refine wpS_bind (wpS_get ?_)
 by_cases h1:(pendingOf st').size>1
 ·rw[if_pos h1,getElem?_pos (pendingOf st') ((pendingOf st').size - 2) (by omega)]
  dsimp only
  by_cases h2:(pendingOf st')[(pendingOf st').size - 2].2.2<=pw
  ·rw[if_pos h2]
   exact wpS_pure ⟨rfl,q1,q2,q3⟩
  ·rw[if_neg h2]
   refine wpS_bind (zaf4 h0 q1 (by omega) fun st2 r1 _ r2 r3=>?_)
   rw[if_neg (by decide)]
   refine wpS_pure ⟨rfl,r1,fun i j hij hj=>?_,fun m hm=>r3 m (by omega) (q3 m hm)⟩
   rw[zk8 (r2 _ (by omega)),zk8 (r2 _ (by omega))]
   exact q2 i j hij hj
 ·rw[if_neg h1]
  exact wpS_pure ⟨rfl,q1,q2,q3⟩
theorem zbl8{n:Nat}{Q:ForInStep (Option Unit×Nat)->SortSt->Prop}(h0:IntKeys a₀)(hS:SS a₀ st lo)(h1:1<=n)(hz:lo+n<=a₀.size)(hs:Seg (arrOf st) lo n)(ho:Bfs (arrOf st) (lo+n))(h:∀ st',SS a₀ st' (lo+n)->Bfs (arrOf st') (lo+n)->Q (.yield (none,lo+n)) st') :
  wpS (model prog w) A E s (srT a₀.size lo n) Q st:=by
 unfold srT
 refine wpS_bind (wpS_get ?_)
 cases (pendingOf st).back? with
 | none=>exact wpS_bind (wpS_modify (wpS_pure (h _ (hS.push h1 hz hs ho) ho)))
 | some x=>
  obtain⟨s1,n1,p1⟩:=x
  dsimp only
  refine wpS_bind (zcd4 h0 hS hs ho fun st' q1 q2 q3=>?_)
  dsimp only
  refine wpS_bind (wpS_modify (wpS_bind (wpS_modify (wpS_pure (h _ ?_ q3)))))
  refine SS.push (st:=setPending st' ((pendingOf st').modify ((pendingOf st').size - 1) _)) ⟨q1.p,q1.k,q1.f,?_,q1.l,q1.o⟩ h1 hz q2 q3
  show Ch (arrOf st') 0 lo ((pendingOf st').modify _ _).toList
  rw[Array.toList_modify]
  exact Ch.pow (f:=fun x=>(x.1,x.2.1,power' a₀.size (2*s1+n1) (2*s1+n1+n1+n) a₀.size)) (fun _=>⟨rfl,rfl⟩) _ q1.c
theorem zah5:∀ (f n r:Nat),1<=n->1<=minRun' f n r
 | 0,n,r,h=>by show 1<=n+r;omega
 | f+1,n,r,h=>by
  rw[minRun'_succ]
  split
  ·omega
  ·exact zah5 f _ _ (by omega)
theorem zat6{Q:Unit->SortSt->Prop}(h0:IntKeys a₀)(hp:(arrOf st).Perm a₀)(ho:Bfs (arrOf st) 0)(hk:kindOf st=oneType')(hf:failedOf st=none)(hq:pendingOf st=#[])(h2:2<=a₀.size)(h:∀ st',(arrOf st').Perm a₀->failedOf st'=none->(∀ i j,i<=j->j<a₀.size->KG (arrOf st') i<=KG (arrOf st') j)->Q () st'):wpS (model prog w) A E s sortRuns' Q st:=by
 rw[sortRuns'_eq]
 refine wpS_bind (wpS_get ?_)
 dsimp only
 have ez:(arrOf st).size=a₀.size:=hp.size_eq
 rw[ez]
 refine wpS_bind (wpS_mono (wpS_forRange (I:=fun x c st'=>∃ lo,c=(none,lo)/\SS a₀ st' lo/\x<=lo/\Bfs (arrOf st') lo) (Q:=fun c st'=>c=(none,a₀.size)/\SS a₀ st' a₀.size) ?step ?fin ⟨0,rfl,⟨hp,hk,hf,by rw[hq];exact rfl,zcp2 _,ho _ (zcm3 _)⟩,zcm3 _,ho⟩) ?post)
 case fin=>
  rintro c st' ⟨lo,rfl,q1,q2,_⟩
  have:lo=a₀.size:=by have:=q1.l;omega
  subst this
  exact⟨rfl,q1⟩
 case step=>
  rintro x c st' _ hx ⟨lo,rfl,q1,q2,qo⟩
  dsimp only
  have ql:=q1.l
  by_cases hge:lo≥a₀.size
  ·rw[if_pos hge]
   have:lo=a₀.size:=by omega
   subst this
   exact wpS_pure ⟨rfl,q1⟩
  rw[if_neg hge]
  have B:SW a₀ st' st' lo:=⟨q1.p,q1.k,q1.f,rfl,Lcl.refl _ _ _⟩
  refine wpS_bind (zcf7 h0 (by omega) (by omega) B qo fun m st2 B2 m1 m2 g2 o2=>?_)
  dsimp only
  have hm:=zah5 a₀.size a₀.size 0 (by omega)
  by_cases hlt:m<minRun' a₀.size a₀.size 0
  ·rw[if_pos hlt]
   refine wpS_bind (wpS_lift (wpAny_rule ⟨rfl,?_⟩))
   refine wpS_bind (zce1 h0 (by omega) (by omega) (by omega) B2 g2 o2 fun st3 B3 g3 o3=>?_)
   rw[if_neg (by decide)]
   exact zbl8 h0 (SW.ss (n:=0) q1 B3) (by omega) (by omega) g3 o3 fun st4 q4 o4=>⟨_,rfl,q4,by omega,o4⟩
  ·rw[if_neg hlt]
   exact zbl8 h0 (SW.ss (n:=0) q1 B2) m1 (by omega) g2 o2 fun st4 q4 o4=>⟨_,rfl,q4,by omega,o4⟩
 case post=>
  rintro c st' ⟨rfl,q1⟩
  dsimp only
  refine wpS_bind (wpS_mono (wpS_forRange (I:=fun x c st'=>c=(none,())/\SS a₀ st' a₀.size/\(pendingOf st').size<=a₀.size+1 - x) (Q:=fun c st'=>c=(none,())/\SS a₀ st' a₀.size/\(pendingOf st').size<=1) ?step2 ?fin2 ⟨rfl,q1,by
   have:=q1.c.le
   rw[zcm7] at this
   omega⟩) ?post2)
  case fin2=>
   rintro c st2 ⟨rfl,r1,r2⟩
   exact⟨rfl,r1,by omega⟩
  case step2=>
   rintro x c st2 _ hx ⟨rfl,r1,r2⟩
   refine wpS_bind (wpS_get ?_)
   by_cases h1:(pendingOf st2).size<=1
   ·rw[if_pos h1]
    exact wpS_pure ⟨rfl,r1,h1⟩
   rw[if_neg h1]
   have fin:∀ (R:ForInStep (Option Unit×Unit)->SortSt->Prop) i,i+1<(pendingOf st2).size->(∀ st3,SS a₀ st3 a₀.size->(pendingOf st3).size<=a₀.size+1 - (x+1)->R (.yield (none,())) st3)->wpS (model prog w) A E s (do
     let r ← mergeAt' i
     if (!r)=true then pure (ForInStep.done (some (),())) else pure (ForInStep.yield (none,()))) R st2:=by
    intro R i hi hR
    refine wpS_bind (zaf4 h0 r1 hi fun st3 r3 r4 _ _=>?_)
    rw[if_neg (by decide)]
    exact wpS_pure (hR _ r3 (by omega))
   refine fin _ _ ?_ fun st3 r3 r4=>⟨rfl,r3,r4⟩
   have any:∀ c:Bool,(if c=true then (pendingOf st2).size - 2 - 1 else (pendingOf st2).size - 2)+1<(pendingOf st2).size:=fun c=>by
    split<;>omega
   exact any _
  case post2=>
   rintro c st2 ⟨rfl,r1,r2⟩
   refine wpS_pure (h _ r1.p r1.f ?_)
   have hc:=r1.c
   have hl:(pendingOf st2).toList.length<=1:=by rw[zcm7];exact r2
   match e:(pendingOf st2).toList,hl,hc with
   | [],_,hc=>
    have:0=a₀.size:=hc
    omega
   | [(u,n,p)],_,hc=>
    obtain⟨_,_,⟨g,_⟩,e2⟩:=hc
    have e2:0+n=a₀.size:=e2
    intro i j hij hj
    have:=g i j hij (by omega)
    rw[zcu6,zcu6] at this
    exact this
end
end
def kLx(kz:List Int)(i j:Nat):Prop:=kz.getD i 0<kz.getD j 0∨kz.getD i 0=kz.getD j 0/\i<j
structure StO(kz:List Int)(vs out:List Value)(π:List Nat):Prop where
 p:π.Perm (List.range kz.length)
 o:π.Pairwise (kLx kz)
 e:out=π.map fun i=>vs.getD i .none
set_option warn.classDefReducibility false in
open Classical in
noncomputable def ghOf(vs:List Value):Gh where
 N:=vs.length+1
 ix x:=if h:∃ i,vs[i]?=some x.2 then ((Classical.choose h:Nat):Int) else 0
 lo x:=by split<;>omega
 hi x:=by
  split
  ·rename_i h
   have:=(zcl1.mp (Classical.choose_spec h)).1
   omega
  ·omega
open Classical in
theorem zaw5{vs:List Value}(nd:vs.Nodup){x:Keyed}{i:Nat}(e:vs[i]?=some x.2):(ghOf vs).ix x=i:=by
 have h:∃ i,vs[i]?=some x.2:=⟨i,e⟩
 show (if h:∃ i,vs[i]?=some x.2 then ((Classical.choose h:Nat):Int) else 0)=i
 rw[dif_pos h]
 have:=Classical.choose_spec h
 rw[(zcw3 (zcl1.mp this).1 nd).mp (this.trans e.symm)]
theorem zcf3{keys:Array Value}{vs:List Value}{kz:List Int}(hk:IntsAre keys.toList kz)(hlen:kz.length=vs.length)(nd:vs.Nodup){xs:Array Keyed}(hp:xs.Perm (keys.zip vs.toArray))(hs:∀ i j,i<=j->j<xs.size->@KG (ghOf vs) xs i<=@KG (ghOf vs) xs j) :
  ∃ π,StO kz vs (xs.map (·.2)).toList π:=by
 letI:Gh:=ghOf vs
 have hl:=hk.length
 have zk:keys.size=vs.length:=by
  rw[zcm7] at hl
  omega
 have el:(keys.zip vs.toArray).toList=keys.toList.zip vs:=by rw[Array.toList_zip]
 have hP:xs.toList.Perm (keys.toList.zip vs):=by rw[← el];exact zcr7.mp hp
 have num:∀ (l:List Value) (ks:List Int),IntsAre l ks->∀ (i:Nat) v,l[i]?=some v->numOf v=ks.getD i 0:=by
  intro l ks h
  induction h with
  | nil=>intro i v e;simp at e
  | cons n t _ ih=>
   intro i v e
   match i with
   | 0=>cases e;rfl
   | i+1=>exact ih i v e
 have at1:∀ x∈xs.toList,∃ i:Nat,vs[i]?=some x.2/\Gh.ix x=(i:Int)/\numOf x.1=kz.getD i 0:=fun x hx=>by
  obtain⟨i,ei⟩:=zco7 (hP.mem_iff.mp hx)
  rw[List.getElem?_zip_eq_some] at ei
  exact⟨i,ei.2,zaw5 nd ei.2,num _ _ hk i _ ei.1⟩
 have pm:(xs.toList.map fun x=>(Gh.ix x).toNat).Perm (List.range kz.length):=by
  refine (hP.map fun x=>(Gh.ix x).toNat).trans (List.Perm.of_eq ?_)
  apply zcp0
  intro i
  rw[zcl2]
  by_cases h:i<kz.length
  ·obtain⟨k,ek⟩:∃ k,keys.toList[i]?=some k:=⟨_,zcl0 (by omega)⟩
   obtain⟨v,ev⟩:∃ v,vs[i]?=some v:=⟨_,zcl0 (by omega)⟩
   rw[show (keys.toList.zip vs)[i]?=some (k,v) from List.getElem?_zip_eq_some.mpr ⟨ek,ev⟩,zcp1 h]
   show some ((Gh.ix (k,v)).toNat)=some i
   rw[show Gh.ix (k,v)=(i:Int) from zaw5 nd ev,zcr3]
  ·rw[zcn0 (by rw[List.length_zip];omega),zcn0 (by rw[zcn3];omega)]
   rfl
 have ndp:(xs.toList.map fun x=>(Gh.ix x).toNat).Nodup:=pm.nodup_iff.mpr List.nodup_range
 refine⟨_,pm,?_,?_⟩
 ·rw[zct2,zcr0]
  intro i j hi hj hij
  have hi':=hi
  have hj':=hj
  rw[zcm7] at hi' hj'
  have g:=hs i j (zcu3 hij) hj'
  rw[zbd7 hi',zbd7 hj'] at g
  rw[zct8,zct8]
  obtain⟨a,a1,a2,a3⟩:=at1 xs[i] (by simp)
  obtain⟨b,b1,b2,b3⟩:=at1 xs[j] (by simp)
  have ne:a≠b:=fun z=>by
   have:=(zcr0.mp ndp) i j (by rw[zck9];exact hi) (by rw[zck9];exact hj) hij
   rw[zcx0,zcx0,zct8,zct8,a2,b2,z] at this
   exact this rfl
  have n1:=zby9 g
  rw[a3,b3] at n1
  rw[a2,b2,zcr3,zcr3]
  rcases Int.lt_or_eq_of_le n1 with h|h
  ·exact .inl h
  ·refine .inr ⟨h,?_⟩
   unfold gK at g
   rw[a3,b3,h,a2,b2] at g
   omega
 ·rw[Array.toList_map,zcm6]
  refine zcm8 fun x hx=>?_
  obtain⟨i,h1,h2,_⟩:=at1 x hx
  show x.2=vs.getD (Gh.ix x).toNat .none
  rw[h2,zcr3,zcl3,h1]
  rfl
abbrev lO(xs:Array Value)(n:Nat):Obj:=seqObj "list" xs n
section
variable {prog:Program}{w:World}{A:Around}{E:Value->Shared->Prop}{s:Shared}{h₀:Heap}{L:Addr}{m:Str->Option Value}{news:List (Addr×Obj)}{a kS:Addr}{vs:List Value}{kz:List Int}{keys:Array Value}{e e1:Nat}{P:PySem.Fin->Shared->Prop}
theorem zay6{h:Heap}{xs:Array Value}{n:Nat}(ys:Array Value->Array Value)(ho:h.get? a=some (lO xs n))(F:Fr h₀ L h m)(haL:a≠L)(ha0:h₀.get? a=none) :
  (∃ c,(h.update a (Obj.mapSeq ys)).get? a=some (lO (ys xs) c))/\Fr h₀ L (h.update a (Obj.mapSeq ys)) m/\(∀ ns,News h₀ L h ns->(∀ p∈ns,p.1≠a)->News h₀ L (h.update a (Obj.mapSeq ys)) ns)/\∀ b,b≠a->(h.update a (Obj.mapSeq ys)).get? b=h.get? b:=
 have sb:=Heap.SameBut.update h a (Obj.mapSeq ys)
 ⟨⟨_,get?_update_seq ho ys⟩,ksk_fr F sb haL ha0,fun _ N hn=>ksk_news N sb hn,fun b nb=>sb.2 b nb⟩
theorem zbt2{st:SortSt}(F:Fr h₀ L s.heap m)(N:News h₀ L s.heap (news++[(kS,lO keys e),(a,lO #[] e1)]))(hka:kS≠a)(hn:∀ p∈news,p.1≠kS/\p.1≠a)(zk:keys.size<=8192)(za:(arrOf st).size<=8192)(hf:failedOf st=none)(h:∀ h' tk c,Fr h₀ L h' m->News h₀ L h' ((a,lO ((arrOf st).map (·.2)) c) :: news)->P (.done (.ret .none)) { s with heap:=h',toks:=tk }) :
  wpAny (model prog w) A (ksk_tail a false e1 (.ref kS) st) P E s:=by
 have nk:=N (kS,lO keys e) (by simp)
 have na:=N (a,lO #[] e1) (by simp)
 obtain⟨_,F1,N1,o1⟩:=zay6 (fun _=>#[]) nk.1 F nk.2.1 nk.2.2
 have na1:=(o1 a hka.symm).trans na.1
 obtain⟨⟨c,hc⟩,F2,N2,_⟩:=zay6 (fun _=>(arrOf st).map (·.2)) na1 F1 na.2.1 na.2.2
 unfold ksk_tail
 dsimp only
 refine zcx4 (listUpdate_at nk.1 rfl ?_ (by rw[zcx6];omega) (zcp2 _))
 refine zcx4 (wpAny_letGo (zcx4 (seqEpoch_at na1 rfl ?_)))
 refine zcx4 (listUpdate_at na1 rfl ?_ (zcp2 _) (by rw[if_neg (by decide),Array.size_map,zcx6];omega))
 rw[hf]
 simp only[bne_self_eq_false,zcs0,if_false]
 refine zcx5 (h _ _ c F2 fun p hp=>?_)
 rcases zcm1.mp hp with rfl|hp
 ·exact⟨hc,na.2⟩
 ·exact N2 _ (N1 _ (fun q hq=>N q (zcr8 _ hq)) fun q hq=>(hn q hq).1) (fun q hq=>(hn q hq).2) p hp
theorem zcc0(F:Fr h₀ L s.heap m)(N:News h₀ L s.heap (news++[(kS,lO keys e),(a,lO #[] e1)]))(hka:kS≠a)(hn:∀ p∈news,p.1≠kS/\p.1≠a)(hk:IntsAre keys.toList kz)(hlen:kz.length=vs.length)(nd:vs.Nodup)(hz:vs.length<=8192)(h:∀ h' tk out c,Fr h₀ L h' m->News h₀ L h' ((a,lO out c) :: news)->(∃ π,StO kz vs out.toList π)->P (.done (.ret .none)) { s with heap:=h',toks:=tk }) :
  wpAny (model prog w) A (ksk_end a false vs.toArray e1 (.ref kS) keys) P E s:=by
 have zk:keys.size=vs.length:=by
  have:=hk.length
  rw[zcm7] at this
  omega
 have zz:(keys.zip vs.toArray).size=vs.length:=by rw[Array.size_zip,zk,zcl9,Nat.min_self]
 letI:Gh:=ghOf vs
 have done:∀ st:SortSt,(arrOf st).Perm (keys.zip vs.toArray)->failedOf st=none->(∀ i j,i<=j->j<(arrOf st).size->KG (arrOf st) i<=KG (arrOf st) j)->wpAny (model prog w) A (ksk_tail a false e1 (.ref kS) st) P E s:=fun st hp hf hs=>by
  have z2:=hp.size_eq
  exact zbt2 F N hka hn (by omega) (by omega) hf fun h' tk c F' N'=>h h' tk _ c F' N' (zcf3 hk hlen nd hp hs)
 unfold ksk_end
 dsimp only
 rw[if_neg (by decide)]
 by_cases h2:vs.toArray.size<2
 ·rw[if_pos h2,if_pos h2]
  refine zcx4 (zcx5 ?_)
  rw[StateT.run_pure]
  refine zcx4 (zcx5 (done (SortSt.mk' general' _ #[] 7 none) (Array.Perm.refl _) rfl fun i j hij hj=>?_))
  have hj:j<(keys.zip vs.toArray).size:=hj
  rw[zcl9] at h2
  have:i=j:=by omega
  subst this
  exact zcr4 _
 ·rw[if_neg h2,if_neg h2]
  rw[zcl9] at h2
  rw[ksk_kind hk (by omega)]
  have b0:Bfs (keys.zip vs.toArray) 0:=fun m _ i j h3 h4 h5=>by
   have at1:∀ i,i<(keys.zip vs.toArray).size->Iat (keys.zip vs.toArray) i=(i:Int):=fun i hi=>by
    rw[I_at hi]
    refine zaw5 nd ?_
    rw[Array.getElem_zip,List.getElem_toArray]
    exact zcl0 (by omega)
   rw[at1 i (by omega),at1 j h5]
   omega
  refine zcx4 (zcx5 (zcx4 (wpAny_mono (zat6 (st:=SortSt.mk' oneType' (keys.zip vs.toArray) #[] 7 none) (Q:=fun _ st'=>(arrOf st').Perm (keys.zip vs.toArray)/\failedOf st'=none/\∀ i j,i<=j->j<(keys.zip vs.toArray).size->KG (arrOf st') i<=KG (arrOf st') j)
   (ksk_intKeys hk) (Array.Perm.refl _) b0 rfl rfl rfl (by omega) fun st' q1 q2 q3=>⟨q1,q2,q3⟩) ?_ fun _ _ q=>q)))
  rintro⟨⟨⟩,st'⟩ s' ⟨rfl,hp,hf,hs⟩
  exact done st' hp hf (by rw[hp.size_eq];exact hs)
theorem zbt3{f:Value}(F:Fr h₀ L s.heap m)(N:News h₀ L s.heap (news++[(kS,lO #[] 0),(a,lO #[] e1)]))(hka:kS≠a)(hn:∀ p∈news,p.1≠kS/\p.1≠a)(hlen:kz.length=vs.length)(nd:vs.Nodup)(hz:vs.length<=8192)(turn:∀ (i:Nat) (v:Value) (k:Int),vs[i]?=some v->kz[i]?=some k->∀ (h:Heap) (tk:Nat) (own:List (Addr×Obj)),Fr h₀ L h m->News h₀ L h (news++own) ->
   wpAny (model prog w) A (call f [v]) (KskEnd h₀ L m (news++own) k { s with heap:=h,toks:=tk }) (fun _ _=>False) { s with heap:=h,toks:=tk })(h:∀ h' tk out c,Fr h₀ L h' m->News h₀ L h' ((a,lO out c) :: news)->(∃ π,StO kz vs out.toList π)->P (.done (.ret .none)) { s with heap:=h',toks:=tk }) :
  wpAny (model prog w) A (ksk_rest a f false vs.toArray e1 (.ref kS)) P E s:=by
 unfold ksk_rest
 refine zcx4 (wpAny_rule ?_)
 rw[List.forIn_toArray]
 refine zcx4 (ksk_fold (fun i s'=>∃ h' tk kA e,s'={ s with heap:=h',toks:=tk }/\Fr h₀ L h' m/\News h₀ L h' (news++[(kS,lO kA e),(a,lO #[] e1)])/\IntsAre kA.toList (kz.take i)) vs 0 s
  ⟨s.heap,s.toks,#[],0,rfl,F,N,by simpa using IntsAre.nil⟩ (fun j x s' hx=>?_) fun s'=>?_)
 ·rintro⟨h',tk,kA,e,rfl,F',N',hk⟩
  rw[zcu6] at hk ⊢
  have hj:=(zcl1.mp hx).1
  have hkj:kz[j]?=some kz[j]:=zcl0 (by omega)
  have z:kA.size<=8192:=by
   have:=hk.length
   rw[zcm7,zcn7] at this
   omega
  refine zcx4 (wpAny_attempt (wpAny_mono (turn j x _ hx hkj h' tk _ F' N') (fun v s'' hv=>?_) fun _ _ no=>no.elim))
  obtain⟨g,tk2,t2,rfl,rfl,F2,N2⟩:=hv
  dsimp only
  have nk:=N2 (kS,lO kA e) (by simp)
  have na:=N2 (a,lO #[] e1) (by simp)
  obtain⟨⟨c,hc⟩,F3,N3,o3⟩:=zay6 (·.push (.int kz[j] t2)) nk.1 F2 nk.2.1 nk.2.2
  refine zcx4 (listUpdate_at nk.1 rfl ?_ (by rw[zcx6];omega) (by rw[Array.size_push,zcx6];omega))
  refine zcx5 ⟨rfl,_,_,kA.push (.int kz[j] t2),c,rfl,F3,fun p hp=>?_,?_⟩
  ·rcases zco0.mp hp with hp|hp
   ·exact N3 _ (fun q hq=>N2 q (zcr8 _ hq)) (fun q hq=>(hn q hq).1) p hp
   ·rcases zcm1.mp hp with rfl|hp
    ·exact⟨hc,nk.2⟩
    ·rw[zcn9.mp hp]
     exact⟨(o3 a hka.symm).trans na.1,na.2⟩
  ·rw[zcv0,zcv1,hkj]
   exact ksk_snoc hk
 ·rintro⟨h',tk,kA,e,rfl,F',N',hk⟩
  rw[zco9 (by omega)] at hk
  have nk:=N' (kS,lO kA e) (by simp)
  refine zcx4 (listItems_at nk.1 rfl ?_)
  exact zcc0 F' N' hka hn hk hlen nd hz fun h3 tk3 out c F3 N3 ko=>h h3 tk3 out c F3 N3 ko
theorem zbu4{f:Value}{n:Nat}(F:Fr h₀ L s.heap m)(N:News h₀ L s.heap news)(ho:s.heap.get? a=some (lO vs.toArray n))(haL:a≠L)(ha0:h₀.get? a=none)(hna:∀ p∈news,p.1≠a)(hlen:kz.length=vs.length)(nd:vs.Nodup)(hz:vs.length<=8192)(turn:∀ (i:Nat) (v:Value) (k:Int),vs[i]?=some v->kz[i]?=some k->∀ (h:Heap) (tk:Nat) (own:List (Addr×Obj)),Fr h₀ L h m->News h₀ L h (news++own) ->
   wpAny (model prog w) A (call f [v]) (KskEnd h₀ L m (news++own) k { s with heap:=h,toks:=tk }) (fun _ _=>False) { s with heap:=h,toks:=tk })(h:∀ h' tk out c,Fr h₀ L h' m->News h₀ L h' ((a,lO out c) :: news)->(∃ π,StO kz vs out.toList π)->P (.done (.ret .none)) { s with heap:=h',toks:=tk }) :
  wpAny (model prog w) A (ksk_tree a f false) P E s:=by
 obtain⟨⟨e1,ho1⟩,F1,N1,_⟩:=zay6 (fun _=>#[]) ho F haL ha0
 generalize hh:s.heap.update a (Obj.mapSeq fun _=>#[])=h1 at ho1 F1 N1
 have ha:=zcm5 ho1
 have F2:=F1.push (o:=seqObj "tuple" vs.toArray 0)
 have z2:(h1.push (seqObj "tuple" vs.toArray 0)).objs.size=h1.objs.size+1:=size_push' ..
 have lL:=F2.ns.lt
 unfold ksk_tree
 refine zcx4 (listItems_at ho rfl ?_)
 refine zcx4 (listUpdate_at ho rfl ?_ (by rw[zcl9,zcx6];omega) (zcp2 _))
 rw[hh]
 refine zcx4 (seqEpoch_at ho1 rfl ?_)
 refine zcx4 (wpAny_newTuple ?_ (by show vs.length<=_;rw[zcx6];omega))
 refine zcx4 (wpAny_newList ?_ (zcp2 _))
 refine zcx7 ?_
 refine zbt3 (s:={ s with heap:=(h1.push (seqObj "tuple" vs.toArray 0)).push (seqObj "list" #[] 0) }) (kS:=(h1.push (seqObj "tuple" vs.toArray 0)).objs.size) (F2.push _) (fun p hp=>?_) (by rw[z2];exact zcu1 (zct1 ha))
  (fun p hp=>⟨by rw[z2];exact zco6 (zct1 (zcm5 (N1 _ N hna p hp).1)),hna p hp⟩) hlen nd hz turn h
 rcases zco0.mp hp with hp|hp
 ·exact⟨zcl7 _ (zcl7 _ (N1 _ N hna p hp).1),(N p hp).2⟩
 ·rcases zcm1.mp hp with rfl|hp
  ·exact⟨zco2 _ rfl,zcu1 lL,Heap.get?_none_of_le (zcp4 F.above (zcu3 lL))⟩
  ·rw[zcn9.mp hp]
   exact⟨zcl7 _ (zcl7 _ ho1),haL,ha0⟩
theorem zbc7{l:Addr}{f:Value}{Q:Value->Shared->Prop}(F:Fr h₀ L s.heap m)(N:News h₀ L s.heap news)(hl:s.heap.IsList l vs.toArray)(hlen:kz.length=vs.length)(nd:vs.Nodup)(hz:vs.length<=8192)(ht:∀ x,Builtin.«list.sort» ⟨[.ref x],[(Str.ofString "key",f)]⟩=ksk_tree x f false)(turn:∀ (i:Nat) (v:Value) (k:Int),vs[i]?=some v->kz[i]?=some k->∀ (h:Heap) (tk:Nat) (own:List (Addr×Obj)),Fr h₀ L h m->News h₀ L h (news++own) ->
   wpAny (model prog w) A.in1.in1 (call f [v]) (KskEnd h₀ L m (news++own) k { s with heap:=h,toks:=tk }) (fun _ _=>False) { s with heap:=h,toks:=tk })(h:∀ D h' tk out c,Fr h₀ L h' m->News h₀ L h' ((D,lO out c) :: news)->(∀ q∈news,q.1<D)->(∃ π,StO kz vs out.toList π)->Q (.ref D) { s with heap:=h',toks:=tk }) :
  wpAny (model prog w) A (call (.builtin "sorted") [.ref l] [(Str.ofString "key",f)]) Q E s:=by
 refine call_function_entry_kw kind_sorted plain_sorted entry_sorted (ksk_s1 _ _) ?_
 unfold Builtin.«sorted»
 refine zcx4 (m:=checkCount "sorted" 1 1 _) (zcx5 ?_)
 refine zcx4 (collect_list hl ?_ (by rw[zcx6];show vs.length<=_;omega))
 refine zcx4 (wpAny_newList ?_ (by rw[zcx6];show vs.length<=_;omega))
 generalize hh:(s.heap.push (seqObj "list" #[] 0)).update s.heap.objs.size (Obj.mapSeq (·++vs.toArray))=h1
 have z1:h1.objs.size=s.heap.objs.size+1:=by rw[← hh,Heap.size_update,size_push']
 have keep:∀ b o,s.heap.get? b=some o->(h1.push (seqObj "list" vs.toArray 0)).get? b=some o:=fun b o q=>by
  have lt:=zcm5 q
  rw[Heap.get?_push_ne _ _ _ (by rw[z1];exact zco6 (zct1 lt)),← hh,Heap.get?_update_ne _ _ _ _ (zco6 lt),Heap.get?_push_ne _ _ _ (zco6 lt)]
  exact q
 have hD:(h1.push (seqObj "list" vs.toArray 0)).get? (s.heap.objs.size+1)=some (lO vs.toArray 0):=by rw[← z1];exact zco2 _ rfl
 have hL:=F.ns.lt
 show wpAny _ _ _ _ _ { s with heap:=h1.push (seqObj "list" vs.toArray 0) }
 rw[z1]
 refine zcx4 (zcx7 (wpAny_call_entry_kw slot_list_sort ⟨_,hD,rfl⟩ entry_list_sort ?_ (ksk_l1 _ _)))
 rw[show Builtin.«list.sort» ⟨.ref (s.heap.objs.size+1) :: [],[(Str.ofString "key",f)]⟩=_ from ht _]
 refine zbu4 (s:={ s with heap:=h1.push (seqObj "list" vs.toArray 0) }) (F.kept keep) (N.grown keep) hD (zcu1 (zct1 hL)) (Heap.get?_none_of_le (zcp4 F.above (Nat.le_succ_of_le (zcu3 hL))))
  (fun p hp=>zco6 (zct1 (zcm5 (N p hp).1))) hlen nd hz turn fun h' tk out c F' N' ko=>⟨_,rfl,?_⟩
 exact zcx5 ⟨_,rfl,h _ h' tk out c F' N' (fun q hq=>zct1 (zcm5 (N q hq).1)) ko⟩
end
section
variable {X:Cx}{K:zcl5}{pins:List (Addr×Obj)}{σ:St}{H:Hp}{s:Shared}
@[irreducible] noncomputable def rSoJ(K:zcl5)(T:Addr)(ln co:Nat)(qual:Str)(hv:Int)(a:Addr)(H:Hp)(Q:VK):Prop:=∃ (bs:List Addr) (kz:List Int),SqL K H a (bs.map V.ref)/\bs.length<4096/\bs.Nodup/\kz.length=bs.length /\
 (∀ (i:Nat) b k,bs[i]?=some b->kz[i]?=some k->∃ l v ns,H b=some (.tup [.ref l,v])/\H l=some (.lst (List.map V.int ns))/\k=hv - ns.sum)/\zl3 T ln co qual H /\
 ∀ p H' (π:List Nat),H p=none->Chg T H H'->zl3 T ln co qual H'->π.Perm (List.range kz.length)->π.Pairwise (kLx kz)->H' p=some (.lst (π.map fun i=>V.ref (bs.getD i 0)))->Q (.ref p) H'
def qSoJ(K:zcl5)(T:Addr)(ln co:Nat)(qual:Str)(i:Nat)(t:TA):TE:=fun σ H Q=>t σ H fun xs H1=>match xs with
 | [.ref a]=>(match σ[i]? with
  | some (some (.int hv))=>rSoJ K T ln co qual hv a H1 Q
  | _=>False)
 | _=>False
theorem zas4{E:Value->Shared->Prop}{q c' a cA:Addr}{la:Arguments}{lsc:Scope}{pm ctv:Value}{qual:Str}{hv:Int}{th:Tok}{bs:List Addr}{kz:List Int}{Q:VK}{p1 p2 p3 p4 p5 p6 p7:Pos}(hr:Room 3 X.A)(I:Inv X pins σ H s)(hq:s.heap.get? q=some (PySem.W.kla_obj "<lambda>" qual la (.BinOp (.Name "hosts" p1) .Sub (.Call (.Name "sum" p2) [.Subscript (.Name "part" p3) (.Constant (.int 0) 0 p4) p5] [] p6) p7) lsc [("hosts",cA)] pm c' ctv))(hcr:s.heap.CodeRec (.ref c') qual)(hb:∀ u:Value,bindArgs (PySem.W.kla_fn "<lambda>" qual la (.BinOp (.Name "hosts" p1) .Sub (.Call (.Name "sum" p2) [.Subscript (.Name "part" p3) (.Constant (.int 0) 0 p4) p5] [] p6) p7) lsc [("hosts",cA)] pm (.ref c') ctv) ⟨[u],[]⟩=pure [(("part":Str),u)])(s1:lsc.kind=.function)(s2:lsc.isCoroutine=false)(s3:lsc.isGenerator=false)(s4:lsc.names.lookup ("hosts":Str)=some .free)(s5:lsc.names.lookup ("part":Str)=some .local)(s6:lsc.names.lookup ("sum":Str)=some .globalImplicit)(s7:∀ x∈lsc.names,x.2≠.cell)(hm:X.mg "sum"=none)(hcell:s.heap.IsCell cA (some (.int hv th)))(hcL:cA≠X.env.locals)(h1:SqL X.K H a (bs.map V.ref))(h2:bs.length<4096)(nd:bs.Nodup)(h3:kz.length=bs.length)(h4:∀ (i:Nat) b k,bs[i]?=some b->kz[i]?=some k->∃ l v ns,H b=some (.tup [.ref l,v])/\H l=some (.lst (List.map V.int ns))/\k=hv - ns.sum)(h5:∀ p H' (π:List Nat),H p=none->Same H H'->π.Perm (List.range kz.length)->π.Pairwise (kLx kz)->H' p=some (.lst (π.map fun i=>V.ref (bs.getD i 0)))->Q (.ref p) H') :
  wpAny (model X.prog X.w) X.A (call (.builtin "sorted") [.ref a] [(Str.ofString "key",.ref q)]) (EP X pins σ Q) E s:=by
 obtain⟨m,hn,hl⟩:=id I.loc
 obtain⟨its,r',pl,hz⟩:=I.list h1
 have eits:=zbi1 r'
 have hqL:q≠X.env.locals:=fun z=>by
  obtain⟨o,es,ep,e,d,_⟩:=hn
  rw[← z,hq] at e;cases e;cases d
 have hcrL:∀ b,Value.ref c'=.ref b->b≠X.env.locals:=fun b eb z=>by
  obtain⟨o,es,ep,e,d,_⟩:=hn
  obtain⟨c2,oc,vs,t,e1,e2,e3,_⟩:=hcr
  cases e1;cases eb
  rw[z,e] at e2;cases e2;rw[d] at e3;cases e3
 have old:∀ {h:Heap}{own:List (Addr×Obj)},News (Att.noObjs s.heap) X.env.locals h (Att.ledger s.heap X.env.locals X.env.locals++own)->∀ b o,b≠X.env.locals->s.heap.get? b=some o->h.get? b=some o:=
  fun N b o nb e=>(N (b,o) (zcr8 _ (Att.mem_ledger.mpr ⟨nb,nb,e⟩))).1
 have tracked:∀ {b:Addr}{o:HO},H b=some o->b≠X.env.locals:=fun e z=>by rw[z,I.free] at e;cases e
 have ndv:its.Nodup:=by
  rw[eits]
  exact (zct2.mpr (nd.imp fun hne e=>hne (by cases e;rfl)))
 refine zbc7 (h₀:=Att.noObjs s.heap) (L:=X.env.locals) (m:=m) (news:=Att.ledger s.heap X.env.locals X.env.locals) (kz:=kz) (f:=.ref q) (vs:=its) (Att.fr_all hn) (fun p hp=>by
   obtain⟨n1,_,e⟩:=Att.mem_ledger.mp hp
   exact⟨e,n1,Att.noObjs_get _ _⟩) pl.isList (by rw[eits,zck9];exact h3) ndv (by rw[eits,zck9];exact zcp4 (zcu3 h2) (by decide)) (fun x=>ksk_t1 _ _) (fun i v k hv' hk h tk own F N=>?_) fun D h' tk out c F N lt ko=>?_
 ·rw[eits,zcl2] at hv'
  obtain⟨b,eb,rfl⟩:=zcl6.mp hv'
  obtain⟨l,v,ns,e1,e2,rfl⟩:=h4 i b k eb hk
  have kp:=old N
  have ks:∀ b o,X.base.get? b=some o->h.get? b=some o:=fun b o e=>kp b o (fun z=>by
   have:=zcm5 e
   rw[z] at this
   exact absurd (zcn8 this (zcp4 I.ok.bsz I.ok.above)) (zct0 _)) (I.bk b o e)
  refine wpAny_call (PySem.W.kla_callFunE (o:=PySem.W.kla_obj "<lambda>" qual la _ lsc [("hosts",cA)] pm c' ctv) (by have:=hr.dp;show X.A.depth<_;omega) (kp q _ hqL hq) rfl s2 s3 rfl ?_ ?_)
  ·obtain⟨c2,oc,vs,t,e1,e2,e3⟩:=hcr
   cases e1
   exact⟨c',oc,vs,t,rfl,kp c' _ (hcrL c' rfl) e2,e3⟩
  ·rw[hb]
   refine zcx5 (wpAny_newFunctionEnv s7 (fun x hx=>by rw[zcn9.mp hx];exact s5) (fun h₁ hns hsb=>?_) s1)
   have hk₁:∀ b o,h.get? b=some o->h₁.get? b=some o:=fun b o e=>hsb.extBut b o (zco6 (zcm5 e)) (zcl7 _ e)
   refine⟨(I.mod.nolimit.keeps ks).keeps hk₁,?_⟩
   show codeAny _ _ (.expr _ (PySem.W.envX qual lsc h.objs.size q (.ref c') [("hosts",cA)])) _ _
   obtain⟨mb,b1,b2⟩:=I.mod.blt
   obtain⟨zt,itt,rt,tt⟩:=I.hok b _ e1
   obtain⟨zl,itl,nl,rl,el⟩:=I.hok l _ e2
   have rt0:∃ u,itt=[.ref l,u]:=by
    cases rt with
    | cons r1 r2=>cases r1;cases r2 with
     | cons r3 r4=>cases r4;exact⟨_,rfl⟩
   obtain⟨u0,rfl⟩:=rt0
   have ht:IsTup h₁ b ([.ref l,u0]:List Value).toArray:=by
    obtain⟨o,e,c⟩:=tt
    exact⟨o,hk₁ _ _ (kp _ _ (tracked e1) e),c⟩
   have hll:h₁.get? l=some { cls:=.type "list",data:=.seq itl.toArray nl }:=hk₁ _ _ (kp _ _ (tracked e2) el)
   refine PySem.W.kla_codeExpr (wpAny_mono (zbs8 (s:={ s with heap:=h₁,toks:=tk+1 }) (cA:=cA) (m:=fun y=>[(("part":Str),Value.ref b)].reverse.lookup y) (mg:=X.mg) (mb:=mb) (by exact hr.hd) s1 s4 s5 s6 rfl
    (by obtain⟨oc,q1,q2⟩:=hcell;exact⟨oc,hk₁ _ _ (kp _ _ hcL q1),q2⟩) hns rfl ((I.mod.glob.keeps ks).keeps hk₁) hm ((b1.keeps ks).keeps hk₁) ((b2 "sum" (by decide)).trans zw5) ht rfl ⟨_,hll,rfl,_,rfl⟩ (zy1 rl)) (fun v s' hv=>?_) fun _ _ hF=>hF)
   obtain⟨h2',tk2,t2,rfl,rfl,kp2⟩:=hv
   exact KskEnd.intro (s₁:={ s with heap:=h,toks:=tk }) ((F.kept hk₁).kept kp2) ((N.grown hk₁).grown kp2) fun _ hp=>hp
 ·have ND:=N (D,seqObj "list" out c) zcq2
  have kp:∀ b o,b≠X.env.locals->s.heap.get? b=some o->h'.get? b=some o:=fun b o nb e=>(N (b,o) (zcp7 _ (Att.mem_ledger.mpr ⟨nb,nb,e⟩))).1
  have nD:∀ b o,s.heap.get? b=some o->b≠D:=fun b o e z=>by
   by_cases nb:b=X.env.locals
   ·exact ND.2.1 (z.symm.trans nb)
   ·have q':b<D:=lt (b,o) (Att.mem_ledger.mpr ⟨nb,nb,e⟩)
    rw[z] at q'
    exact absurd q' (zct0 _)
  have fD:H D=none:=by
   cases e:H D with
   | none=>rfl
   | some u=>obtain⟨o,ho⟩:=(I.hok D u e).there;exact absurd rfl (nD D o ho)
  obtain⟨π,hp,hs,ho⟩:=ko
  have mem:∀ i∈π,i<bs.length:=fun i hi=>by
   have:=zcq7.mp (hp.mem_iff.mp hi)
   omega
  have ho':out.toList=(π.map fun i=>bs.getD i 0).map Value.ref:=by
   rw[ho,zcm6]
   refine zcm8 fun i hi=>?_
   have il:=mem i hi
   show its.getD i .none=Value.ref (bs.getD i 0)
   rw[zcl3,zcl3,eits,zcl2,zcl0 il]
   rfl
  have lenO:(π.map fun i=>bs.getD i 0).length<4096:=by
   have:=hp.length_eq
   rw[zcn3] at this
   rw[zck9]
   omega
  have eV:(π.map fun i=>V.ref (bs.getD i 0))=(π.map fun i=>bs.getD i 0).map V.ref:=by rw[zcm6];rfl
  have h5:=fun p H' e1 e2 e3=>h5 p H' π e1 e2 hp hs e3
  rw[eV] at h5
  generalize (π.map fun i=>bs.getD i 0)=ps' at ho' lenO h5
  have vl:∀ l:List Addr,Vals (l.map V.ref) (l.map Value.ref):=by
   intro l
   induction l with
   | nil=>exact .nil
   | cons x l ih=>exact .cons rfl ih
  have hD:h'.get? D=some { cls:=.type "list",data:=.seq (ps'.map Value.ref).toArray c }:=by
   have:=ND.1
   rw[← ho',Array.toArray_toList]
   exact this
  have at1:∀ b o,H b=some o->upd H D (.lst (ps'.map V.ref)) b=some o:=fun b o e=>by rw[zc3 (za7 e fD)];exact e
  refine⟨.ref D,upd H D (.lst (ps'.map V.ref)),?_,rfl,h5 D _ fD (Same.upd fD) zb4⟩
  refine I.step (h':=h') (t':=tk) (g':=s.gens) (d':=s.drawn) (ch:=[]) (fun _ z=>nomatch z) (fun b o n1 _ _ e _=>kp b o n1 e) (fun b o n1 _ _ e _=>⟨o.slots,kp b o n1 e⟩) (fun b o _ e n=>by rw[zc3 (nD b o e)];exact n) (fun b o _ e=>?_)
   (fun b xs e=>at1 b _ e) (fun b o u e=>at1 b _ e) (fun b ps e=>⟨#[],by rw[Array.append_empty];exact at1 b _ e⟩) (fun m' hm'=>?_) (fun b u e=>?_) I.bare
  ·by_cases z:b=X.env.locals
   ·obtain⟨o',_,_,e',_⟩:=F.ns
    exact⟨o',z▸e'⟩
   ·exact⟨o,kp b o z e⟩
  ·have:m'=m:=funext fun x=>hm'.agree hn x
   rw[this]
   exact F.ns
  ·by_cases z:b=D
   ·subst z
    rw[zb4] at e;cases e
    refine⟨by rw[zck9];exact zcp4 (zcu3 lenO) (by decide),_,c,vl ps',hD⟩
   ·rw[zc3 z] at e
    refine (I.hok b u e).stay (fun d v hd q=>kp d v (fun z3=>?_) q) (fun d q=>at1 d _ q) fun d xs q=>at1 d _ q
    rcases hd with hd|hd
    ·exact tracked e (hd.symm.trans z3)
    ·exact tracked hd z3
end
section
variable {X:Cx}{K:zcl5}
theorem peSoJ{T c cA:Addr}{i:Nat}{ln co:Nat}{qual:Str}{la:Arguments}{lsc:Scope}{p p1 p2 p3 p4 p5 p6 p7 kp pos lpos:Pos}{e:Expr}{t:TA}(hK:X.K=K)(hr:Room 3 X.A)(hm:X.mg "sorted"=none)(hms:X.mg "sum"=none)(hC:PySem.W.CodeHd X.base c T)(hB:Bm X.mg X.base)(ha:PA X [e] t)(hcode:X.env.code=.ref c)(hN:X.N[i]?=some ("hosts":Str))(hkd:X.env.kindOf ("hosts":Str)=some .cell)(hcA:X.env.cells.lookup ("hosts":Str)=some cA)(hcl:closureFor lsc X.env=pure [(("hosts":Str),cA)])(hql:X.env.qual++"<lambda>"=qual)(hln:lpos.line=ln)(hco:lpos.col=co)(hb:∀ (pm cv ctv u:Value),bindArgs (PySem.W.kla_fn "<lambda>" qual la (.BinOp (.Name "hosts" p1) .Sub (.Call (.Name "sum" p2) [.Subscript (.Name "part" p3) (.Constant (.int 0) 0 p4) p5] [] p6) p7) lsc [("hosts",cA)] pm cv ctv) ⟨[u],[]⟩=pure [(("part":Str),u)])(s1:lsc.kind=.function:=by rfl)(s2:lsc.isCoroutine=false:=by rfl)(s3:lsc.isGenerator=false:=by rfl)(s4:lsc.names.lookup ("hosts":Str)=some .free:=by rfl)(s5:lsc.names.lookup ("part":Str)=some .local:=by rfl)(s6:lsc.names.lookup ("sum":Str)=some .globalImplicit:=by rfl)(s7:∀ x∈lsc.names,x.2≠.cell:=by decide)(hdf:defaultsOf la X.env=([],[]):=by rfl)(hg:Gl X "sorted":=by rfl)(he:backTo pos (starEach [e] X.env)=(false,eval e X.env) :: backTo pos (starEach [] X.env):=by rfl)(hpl:(backTo pos (starEach [e] X.env)).any (·.1)=false:=by rfl) :
  PE X (.Call (.Name "sorted" p) [e] [⟨some "key",.Lambda la (.BinOp (.Name "hosts" p1) .Sub (.Call (.Name "sum" p2) [.Subscript (.Name "part" p3) (.Constant (.int 0) 0 p4) p5] [] p6) p7) lsc lpos,kp⟩] pos) (qSoJ K T ln co qual i t):=by
 subst hK hql hln hco
 intro pins s σ H Q I h
 refine wpAny_Call_Name_kw (zai2 I hg hm zab8 ?_ (by decide) (by decide))
 refine callWith_kw (thn (ha pos pins s σ H _ I h) fun us s1' ⟨vs,H1,I1,r,q⟩=>?_) he hpl
 dsimp only at q
 split at q
 case h_2=>exact q.elim
 rename_i a
 split at q
 case h_2=>exact q.elim
 rename_i hv ei
 unfold rSoJ at q
 obtain⟨bs,kz,h1,h2,nd,h3,h4,⟨tab,hT,htab⟩,h5⟩:=q
 obtain⟨u1,rfl,rx⟩:=zac1 r
 cases rx
 have hTs:s1'.heap.get? T=some (PySem.W.tabObj tab):=I1.hok T _ hT
 obtain⟨m1,hn1,hl1⟩:=id I1.loc
 obtain⟨u,ru,lk⟩:=hl1 i _ _ hN ei (.inr (.inl hkd))
 obtain⟨th,rfl⟩:=ru
 have hcell:s1'.heap.IsCell cA (some (.int hv th)):=by
  rcases lk with ⟨k,_⟩|⟨_,c2,e2,hc2⟩
  ·rw[hkd] at k;cases k
  ·rw[hcA] at e2;cases e2;exact hc2
 have hcL:=I1.cne _ _ hcA
 have gl:=I1.mod.glob.keeps I1.bk
 have hbT:∀ b o,X.base.get? b=some o->b≠T:=fun b o e z=>by
  have:=(I1.bs b o e).2
  rw[z,hT] at this;cases this
 have hgT:zcx8≠T:=by
  obtain⟨o,_,_,e,_⟩:=I1.mod.glob
  exact hbT _ _ e
 have hBT:s1'.heap.BuiltinsAt X.mg T:=by
  obtain⟨bm,ob,b1,b2,b3,b4,b5,b6⟩:=hB
  refine⟨bm,ob,b1,b2,fun z=>?_,hbT _ _ b3,I1.bk _ _ b3,b4,b5,b6⟩
  obtain⟨o,_,_,e,d,_⟩:=I1.mod.glob
  rw[z,e] at b3;cases b3;rw[d] at b6;cases b6
 have hCs:=hC.keeps I1.bk
 refine kws_cons (PySem.W.kla_eval hdf ?_)
 rcases htab with rfl|⟨c0,oc,vs,t0,rfl,ec,ed,ev⟩
 ·refine PySem.W.kla_makeFunction (mg:=X.mg) hcl I1.ok.glob gl hcode hCs hTs trivial rfl hgT hBT fun c' ctv h' tk hx hge hlt hrec htb=>?_
  obtain⟨c2,oc,vs,t0,e2,hoc,ed,ev⟩:=hrec
  cases e2
  have I2:=I1.tab (tk:=tk) (more:=#[rawInt lpos.line,rawInt lpos.col,.ref c']) hT hx hge hoc htb
  have fc:H1 c'=none:=I1.hok.fresh hge
  have nT:c'≠T:=fun z=>by rw[z,hT] at fc;cases fc
  generalize hF:PySem.W.kla_obj "<lambda>" (X.env.qual++"<lambda>") la _ lsc [(("hosts":Str),cA)] ((X.mg "__name__").getD .none) c' ctv=fo
  have I3:=I2.kept (t':=tk) (h':=h'.push fo) (fun b o e=>zcl7 _ e)
  generalize hH3:upd (upd H1 T (.tbl (#[]++#[rawInt lpos.line,rawInt lpos.col,.ref c']))) c' (.frz oc (.own c'))=H3 at I3
  have at1:∀ b o,b≠T->H1 b=some o->H3 b=some o:=fun b o n e=>by rw[← hH3,zc3 (za7 e fc),zc3 n];exact e
  have none1:∀ b,H3 b=none->H1 b=none:=fun b e=>by
   by_cases z:b=T
   ·subst z;rw[← hH3,zc3 nT.symm,zb4] at e;cases e
   ·cases e1:H1 b with
    | none=>rfl
    | some o=>rw[at1 b o z e1] at e;cases e
  have tb3:zl3 T lpos.line lpos.col (X.env.qual++"<lambda>") H3:=⟨_,by rw[← hH3,zc3 nT.symm,zb4,Array.empty_append],.inr ⟨c',oc,vs,t0,rfl,by rw[← hH3,zb4],ed,ev⟩⟩
  have sq3:SqL X.K H3 a (bs.map V.ref):=by
   rcases h1 with h1|h1
   ·rcases h1 with h1|⟨o,h1⟩
    ·exact .inl (.inl (at1 _ _ (fun z=>by rw[z,hT] at h1;cases h1) h1))
    ·exact .inl (.inr ⟨o,at1 _ _ (fun z=>by rw[z,hT] at h1;cases h1) h1⟩)
   ·exact .inr h1
  refine kws_nil ?_
  subst hF
  refine zas4 (c':=c') (cA:=cA) (hv:=hv) (th:=th) hr I3 (zco2 _ rfl) ⟨c',oc,vs,t0,rfl,zcl7 _ hoc,ed,ev⟩ (fun u=>hb _ _ _ u) s1 s2 s3 s4 s5 s6 s7 hms ?_ hcL sq3 h2 nd h3 (fun j b k e1 e2=>?_) fun p H' ps n1 n2 n3 n4 n5=>?_
  ·obtain⟨o,q1,q2⟩:=hcell
   exact⟨o,zcl7 _ (hx _ _ (fun z=>by rw[z,hTs] at q1;cases q1;cases q2) q1),q2⟩
  ·obtain⟨l,v,ns,a1,a2,a3⟩:=h4 j b k e1 e2
   exact⟨l,v,ns,at1 _ _ (fun z=>by rw[z,hT] at a1;cases a1) a1,at1 _ _ (fun z=>by rw[z,hT] at a2;cases a2) a2,a3⟩
  ·exact h5 p H' ps (none1 p n1) (fun b o nb e=>n2 b o (at1 b o nb e)) (tb3.same n2) n3 n4 n5
 ·have hcs:s1'.heap.get? c0=some oc:=(I1.hok c0 _ ec).1
  refine PySem.W.kla_makeFunctionHit (mg:=X.mg) (cv:=.ref c0) hcl I1.ok.glob gl hcode hCs hTs ?_ ?_ hBT fun ctv h' tk hk hsz=>?_
  ·simp[TriplesOk,rawInt]
  ·simp[codeAmong,rawInt]
  ·generalize hF:({ cls:=.type "function",data:=.func (PySem.W.kla_fn "<lambda>" (X.env.qual++"<lambda>") la _ lsc [(("hosts":Str),cA)] ((X.mg "__name__").getD .none) (.ref c0) ctv) }:Obj)=fo
   have I3:=I1.kept (t':=tk) (h':=h'.push fo) (fun b o e=>zcl7 _ (hk b o e))
   refine kws_nil ?_
   subst hF
   refine zas4 (c':=c0) (cA:=cA) (hv:=hv) (th:=th) hr I3 (zco2 _ rfl) ⟨c0,oc,vs,t0,rfl,zcl7 _ (hk _ _ hcs),ed,ev⟩ (fun u=>hb _ _ _ u) s1 s2 s3 s4 s5 s6 s7 hms ?_ hcL h1 h2 nd h3 h4 fun p H' ps n1 n2 n3 n4 n5=>?_
   ·obtain⟨o,q1,q2⟩:=hcell
    exact⟨o,zcl7 _ (hk _ _ q1),q2⟩
   ·have tb:zl3 T lpos.line lpos.col (X.env.qual++"<lambda>") H1:=⟨_,hT,.inr ⟨c0,oc,vs,t0,rfl,ec,ed,ev⟩⟩
    exact h5 p H' ps n1 (fun b o _ e=>n2 b o e) (tb.same n2) n3 n4 n5
theorem soJ_rd{T:Addr}{ln co:Nat}{qual:Str}{hv:Int}{a:Addr}{H:Hp}{Q:VK}{bs:List Addr}{kz:List Int}(h1:H a=some (.lst (bs.map V.ref)))(h2:bs.length<4096)(nd:bs.Nodup)(h3:kz.length=bs.length)(h4:∀ (i:Nat) b k,bs[i]?=some b->kz[i]?=some k->∃ l v ns,H b=some (.tup [.ref l,v])/\H l=some (.lst (List.map V.int ns))/\k=hv - ns.sum)(h5:zl3 T ln co qual H)(q:∀ p H' (π:List Nat),H p=none->Chg T H H'->zl3 T ln co qual H'->π.Perm (List.range kz.length)->π.Pairwise (kLx kz)->H' p=some (.lst (π.map fun i=>V.ref (bs.getD i 0)))->Q (.ref p) H') :
  rSoJ K T ln co qual hv a H Q:=by unfold rSoJ;exact⟨bs,kz,SqL.of h1,h2,nd,h3,h4,h5,q⟩
end
section
variable {X:Cx}{K:zcl5}
@[irreducible] def rInLL(K:zcl5)(a p:Addr)(H:Hp)(Q:VK):Prop:=∃ (rs:List Addr) (c:Addr->Bool) (n:Nat),SqL K H p (rs.map V.ref)/\n<=38/\(∀ r∈rs,EqR K H n (.ref r) (.ref a) (c r))/\Q (.bl (rs.any c)) H
def zby0(K:zcl5):R2:=fun x y H Q=>match x,y with
 | .ref a,.ref p=>rInLL K a p H Q
 | _,_=>False
theorem oInLLK(hK:X.K=K)(hu:X.A.units+40<cLine):OpR X (compareOp .In) (zby0 K):=by
 subst hK
 intro pins s σ H x y v u Q I rx ry h
 unfold zby0 at h
 split at h
 ·unfold rInLL at h
  obtain⟨rs,c,n,h1,h2,h3,h4⟩:=h
  cases rx
  cases ry
  obtain⟨its,r,pl,hz⟩:=I.list h1
  have e:=zaq2 r
  subst e
  refine SeqAt.in_listAt (eRef c) pl.isList (fun w hw=>?_) ⟨.bl _,H,I,rfl,?_⟩
  ·obtain⟨q,hq,rfl⟩:=zcm0.mp (by simpa using hw)
   exact EqR.at I (h3 q hq) rfl rfl (by rw[zr8];omega)
  ·have e2:(rs.map Value.ref).toArray.any (eRef c)=rs.any c:=by
    rw[List.any_toArray,List.any_map];rfl
   rw[e2]
   exact h4
 ·exact h.elim
theorem zcd5{a p:Addr}{H:Hp}{Q:VK}{rs:List Addr}{c:Addr->Bool}(n:Nat)(h1:H p=some (.lst (rs.map V.ref)))(h2:n<=38)(h3:∀ r∈rs,EqR K H n (.ref r) (.ref a) (c r))(q:Q (.bl (rs.any c)) H):rInLL K a p H Q:=by unfold rInLL;exact⟨rs,c,n,SqL.of h1,h2,h3,q⟩
end
end L2
end
set_option maxHeartbeats 1000000
set_option maxHeartbeats 0
namespace G
local macro_rules | `(tactic| eq_refl)=>`(tactic| first|exact Or.inl rfl|exact Or.inr rfl)
local macro_rules | `(tactic| ac_rfl)=>`(tactic| exact⟨rfl,rfl,rfl,by decide +kernel,rfl,by decide +kernel,by decide +kernel⟩)
open PySem L2
variable {H H' H0:Hp}{Q:VK}{E:XK}{fd:FuncData}{ds:List PyData}{i:Nat}{ts:List (Addr×Addr)}{ms ms2:List (List Int×Int)}{xs:List (Int×Int×Int)}{rs xss:List (List (Int×Int×Int))}{W:Int}{T:Addr}{es:List (List Int)}{S:List Addr}
def top(i:Nat):Stmt:=PySem.Challenge.pw_hostfields_k22_whole_streams_taken_apart.main.body.getD i (.Pass ⟨0,0,0,0⟩)
abbrev zz2:Stmt:=top 5
theorem zaw1:zb2 ["thing"] ["thing"] (za5 zz2):=by ac_rfl
abbrev zac9:Stmt:=top 6
theorem zbe8:zb2 ["thing","least"] ["thing","least"] (za5 zac9):=by ac_rfl
abbrev zr6:Stmt:=top 7
theorem zak8:zb2 ["thing","least","most"] ["thing","least","most"] (za5 zr6):=by ac_rfl
abbrev zad6:Stmt:=top 11
theorem zbe1:zb2 ["hosts","fields","plan"] ["hosts","fields","plan"] (za5 zad6):=by ac_rfl
abbrev zp8:Stmt:=top 12
theorem zag8:zb2 ["plan"] ["plan"] (za5 zp8):=by ac_rfl
abbrev zae5:Stmt:=top 13
theorem zbc8:zb2 ["hosts","fields"] ["hosts","fields"] (za5 zae5):=by ac_rfl
abbrev zak4:Stmt:=top 15
theorem zab9:zb2 ["mix","hosts","fields"] ["mix"] (za5 zak4):=by ac_rfl
abbrev zae4:Stmt:=top 16
theorem zbb7:zb2 ["part"] ["part"] (za5 zae4):=by ac_rfl
abbrev zy3:Stmt:=top 17
theorem zat3:zb2 ["mix"] ["mix"] (za5 zy3):=by ac_rfl
abbrev zv5:Stmt:=top 18
theorem zt1:zb2 ["hosts","fields","stream","comes_full","goes_empty"] ["hosts","fields","stream"] (za5 zv5):=by ac_rfl
abbrev zal4:Stmt:=top 19
theorem zbj9:zb2 ["stream"] ["stream"] (za5 zal4):=by ac_rfl
abbrev zal2:Stmt:=top 20
theorem zbg2:zb2 ["row"] ["row"] (za5 zal2):=by ac_rfl
abbrev zae3:Stmt:=top 21
theorem zbd0:zb2 ["thing"] ["thing"] (za5 zae3):=by ac_rfl
abbrev zav8:Stmt:=top 22
theorem zaz4:zb2 ["ahead","row","leaving"] ["ahead","row"] (za5 zav8):=by ac_rfl
abbrev zal7:Stmt:=top 23
theorem zw6:zb2 ["pairs","sums","key","amount"] ["pairs"] (za5 zal7):=by ac_rfl
abbrev zaa4:Stmt:=top 24
theorem zav9:zb2 ["stream"] ["stream"] (za5 zaa4):=by ac_rfl
abbrev zn4:Stmt:=top 25
theorem zab4:zb2 ["stream"] ["stream"] (za5 zn4):=by ac_rfl
abbrev zq0:Stmt:=top 26
theorem zag0:zb2 ["stream"] ["stream"] (za5 zq0):=by ac_rfl
abbrev zy9:Stmt:=top 27
theorem zat9:zb2 ["stream"] ["stream"] (za5 zy9):=by ac_rfl
abbrev zu7:Stmt:=top 28
theorem zas7:zb2 ["mix"] ["mix"] (za5 zu7):=by ac_rfl
abbrev zal5:Stmt:=top 29
theorem zaq7:zb2 ["mix","field","flows"] ["mix","field"] (za5 zal5):=by ac_rfl
abbrev zq2:Stmt:=top 30
theorem zh7:zb2 ["stream","hosts","begun","row"] ["stream"] (za5 zq2):=by ac_rfl
abbrev zad9:Stmt:=top 31
theorem zd8:zb2 ["begun","row","told","place","used","plan","weight","rest","taken"] ["begun","row"] (za5 zad9):=by ac_rfl
abbrev zv4:Stmt:=top 32
theorem zar9:zb2 ["stream"] ["stream"] (za5 zv4):=by ac_rfl
abbrev zr4:Stmt:=top 33
theorem zx2:zb2 ["hosts","row","flows"] ["hosts","row"] (za5 zr4):=by ac_rfl
abbrev zz8:Stmt:=top 35
theorem zaf1:zb2 ["_law_number","_law_k","_law_mixed"] ["_law_number","_law_k"] (za5 zz8):=by ac_rfl
abbrev zo3:Stmt:=top 36
theorem zad4:zb2 ["_law_script","_law_k"] ["_law_script","_law_k"] (za5 zo3):=by ac_rfl
abbrev zv6:Stmt:=top 37
theorem zaa8:zb2 ["_law_script","_law_k","_law_cell"] ["_law_script","_law_k"] (za5 zv6):=by ac_rfl
abbrev zu9:Stmt:=top 38
theorem zs1:zb2 ["_law_left_here","_law_base","_law_mixed","_law_digit"] ["_law_left_here","_law_base"] (za5 zu9):=by ac_rfl
abbrev zu8:Stmt:=top 39
theorem zi5:zb2 ["_law_left_here","_law_hosts","_law_many","_law_plan_here","_law_rest","_law_k","_law_at"] ["_law_left_here","_law_hosts","_law_many"] (za5 zu8):=by ac_rfl
abbrev zy5:Stmt:=top 40
theorem zk2:zb2 ["_law_left_here","_law_most","_law_fields","_law_parts","_law_hosts","_law_many","_law_mix_here","_law_k","_law_weight"] ["_law_left_here","_law_most","_law_fields","_law_parts"] (za5 zy5):=by ac_rfl
abbrev zs0:Stmt:=top 41
theorem zg7:zb2 ["_law_mix_here","_law_flows_here","_law_plan_here","_law_weight","_law_k","_law_spot"] ["_law_mix_here"] (za5 zs0):=by ac_rfl
abbrev zs9:Stmt:=top 42
theorem zai8:zb2 ["_law_thing"] ["_law_thing"] (za5 zs9):=by ac_rfl
abbrev zu6:Stmt:=top 45
theorem zab1:zb2 ["_law_thing"] ["_law_thing"] (za5 zu6):=by ac_rfl
abbrev zm9:Stmt:=top 46
theorem zl2:zb2 ["_law_stream","_law_hosts","_law_many","_law_told","_law_plans","_law_part"] ["_law_stream","_law_hosts","_law_many","_law_told"] (za5 zm9):=by ac_rfl
abbrev zp9:Stmt:=top 47
theorem zf8:zb2 ["_law_mix_here","_law_hosts","_law_found","_law_k","_law_some","_law_plan_here","_law_weight"] ["_law_mix_here","_law_hosts"] (za5 zp9):=by ac_rfl
abbrev zs3:Stmt:=top 48
theorem zq7:zb2 ["_law_lists","_law_size","_law_k"] ["_law_lists"] (za5 zs3):=by ac_rfl
abbrev zh2:Stmt:=top 49
theorem zd9:zb2 ["_law_handed","_law_hosts","_law_mix_here","_law_row","_law_k","_law_changed"] ["_law_handed","_law_hosts","_law_mix_here"] (za5 zh2):=by ac_rfl
abbrev zat8:Stmt:=top 50
theorem zn2:zb2 ["_law_script","_law_last","_law_cell","_law_left_here","_law_mix_here","_law_hosts","_law_stream","_law_handed","_law_told","_law_parted","_law_doubled","_law_shares_here","_law_kept","_law_spoilt"] ["_law_script"] (za5 zat8):=by ac_rfl
theorem nb_0:(["sent"]:List Str).Nodup:=by decide +kernel
theorem nb_1:(["part"]:List Str).Nodup:=by decide +kernel
theorem nb_2:(["plan","weight","hosts","fields"]:List Str).Nodup:=by decide +kernel
theorem nb_3:(["thing"]:List Str).Nodup:=by decide +kernel
theorem nb_4:(["one","other"]:List Str).Nodup:=by decide +kernel
theorem nb_5:(["left","sent","flow"]:List Str).Nodup:=by decide +kernel
theorem nb_6:(["row"]:List Str).Nodup:=by decide +kernel
theorem nb_7:(["left","sent","flow","hosts"]:List Str).Nodup:=by decide +kernel
theorem nb_8:(["left","sent","flow"]:List Str).Nodup:=by decide +kernel
theorem nb_9:(["ahead","row"]:List Str).Nodup:=by decide +kernel
theorem nb_10:(["left","sent","flow"]:List Str).Nodup:=by decide +kernel
theorem nb_11:(["plan","weight","field"]:List Str).Nodup:=by decide +kernel
theorem nb_12:(["left","sent","flows"]:List Str).Nodup:=by decide +kernel
theorem nb_13:(["field","mix"]:List Str).Nodup:=by decide +kernel
theorem nb_14:(["left","sent","flow"]:List Str).Nodup:=by decide +kernel
theorem nb_15:(["count","flows"]:List Str).Nodup:=by decide +kernel
theorem nb_16:(["row","stream"]:List Str).Nodup:=by decide +kernel
theorem nb_17:(["_law_place"]:List Str).Nodup:=by decide +kernel
theorem nb_18:(["_law_flow"]:List Str).Nodup:=by decide +kernel
theorem nb_19:(["_law_rest","_law_sent","_law_flow"]:List Str).Nodup:=by decide +kernel
theorem nb_20:(["_law_part"]:List Str).Nodup:=by decide +kernel
theorem nb_21:(["_law_row"]:List Str).Nodup:=by decide +kernel
theorem nb_22:(["_law_one"]:List Str).Nodup:=by decide +kernel
theorem nb_23:(["_law_some","_law_size"]:List Str).Nodup:=by decide +kernel
theorem nb_24:(["_law_j","_law_k"]:List Str).Nodup:=by decide +kernel
theorem nb_25:(["_law_row"]:List Str).Nodup:=by decide +kernel
theorem nb_26:(["_law_share"]:List Str).Nodup:=by decide +kernel
theorem nb_27:(["_law_plan_here","_law_weight"]:List Str).Nodup:=by decide +kernel
theorem nb_28:(["_law_row"]:List Str).Nodup:=by decide +kernel
theorem nb_29:(["_law_rest","_law_sent","_law_flow"]:List Str).Nodup:=by decide +kernel
structure Cz(K:zcl5)(mg:Str->Option Value)(base:Heap)(zcg3 zcg2 zcg1:Addr):Prop where
 g_HostError:mg "HostError"=some (.ref zcg3)
 g_NoMix:mg "NoMix"=some (.ref zcg2)
 g_NoStream:mg "NoStream"=some (.ref zcg1)
 o_NoMix:PyProof.Rows.OwnCls "NoMix" zcg2 bmV newV mg base
 k_NoMix:ExcK K zcg2
 c_NoMix:(PySem.W.clsIn K zcg2).isSome=true
 m_NoMix:PySem.W.exmOne K (.ref zcg2) (.ref zcg3)=some true
 v_NoMix:zcp8 K (.ref zcg2) (.type "ValueError")=some true
 i_NoMix_HostError:zcp8 K (.ref zcg2) (.ref zcg3)=some true
 i_NoMix_NoMix:zcp8 K (.ref zcg2) (.ref zcg2)=some true
 i_NoMix_NoStream:zcp8 K (.ref zcg2) (.ref zcg1)=some false
 o_NoStream:PyProof.Rows.OwnCls "NoStream" zcg1 bmV newV mg base
 k_NoStream:ExcK K zcg1
 c_NoStream:(PySem.W.clsIn K zcg1).isSome=true
 m_NoStream:PySem.W.exmOne K (.ref zcg1) (.ref zcg3)=some true
 v_NoStream:zcp8 K (.ref zcg1) (.type "ValueError")=some true
 i_NoStream_HostError:zcp8 K (.ref zcg1) (.ref zcg3)=some true
 i_NoStream_NoMix:zcp8 K (.ref zcg1) (.ref zcg2)=some false
 i_NoStream_NoStream:zcp8 K (.ref zcg1) (.ref zcg1)=some true
 n_HostError:zcp8 K (.type "NoneType") (.ref zcg3)=some false
 n_NoMix:zcp8 K (.type "NoneType") (.ref zcg2)=some false
 n_NoStream:zcp8 K (.type "NoneType") (.ref zcg1)=some false
structure Nm(mg:Str->Option Value):Prop where
 all_:mg "all"=none
 bool_:mg "bool"=none
 int_:mg "int"=none
 isinstance_:mg "isinstance"=none
 len_:mg "len"=none
 list_:mg "list"=none
 min_:mg "min"=none
 range_:mg "range"=none
 set_:mg "set"=none
 sorted_:mg "sorted"=none
 sum_:mg "sum"=none
 tuple_:mg "tuple"=none
 zip_:mg "zip"=none
local macro_rules | `(tactic| walk_at "hp")=>`(tactic| first|assumption|(refine Same.at (H:=?H) ?s ?e;(case s=>assumption);(case e=>walk_at "hp"))|(refine Chg.at (a:=?a) (H:=?H) ?c ?e ?n;(case c=>assumption);(case n=>walk_at "ne");(case e=>walk_at "hp"))|fail "hp")
local macro_rules | `(tactic| walk_at "ne")=>`(tactic| first|assumption|(apply Ne.symm;assumption)|fail "ne")
local macro_rules | `(tactic| ac_nf)=>`(tactic| (conv=>whnf))
local macro_rules | `(tactic| walk_at "st")=>`(tactic| (conv=>whnf);first
 | refine zcc9 (by omega) (by omega) ?_
 | refine zv3 (by omega) (by omega) ?_
 | refine zac8 (by omega) (fun r h0 h1=>?_)
 | refine div_rd (by omega) (by omega) ?_
 | (refine zbz4 ⟨by decide,by decide,by decide⟩ ?_;simp only[Int.reduceToNat,Int.reducePow])
 | (refine zd2 (xs:=?xs) (v:=?v) ?hp ?ev ?_;(case hp=>walk_at "hp");(case ev=>rfl))
 | (refine zb8 (xs:=?xs) (v:=?v) ?hp ?ev ?_;(case hp=>walk_at "hp");(case ev=>rfl))
 | refine zd6 (fun p H' hf hs ha=>?_)
 | refine zd5 (fun p H' hf hs ha=>?_)
 | refine zac2 ?_
 | (refine zbh1 (xs:=?xs) ?hp ?_;(case hp=>walk_at "hp"))
 | (refine zbi9 (xs:=?xs) ?hp ?_;(case hp=>walk_at "hp"))
 | (refine zaj9 (xs:=?xs) ?hp ?_;(case hp=>walk_at "hp"))
 | (refine zc9 (xs:=?xs) ?hp ?_;(case hp=>walk_at "hp"))
 | refine zaf8 ?_
 | refine br_T ?_
 | refine br_F ?_
 | refine zat1 (by omega) ?_
 | refine zau9 (by omega) ?_
 | fail "st")
def g0(f t:Nat):Int:=if f=0/\t=0 then 1 else 0
def pl(ns:List Nat):List V:=ns.map fun (n:Nat)=>V.int (n:Int)
def il(ns:List Nat):List Int:=ns.map fun (n:Nat)=>(n:Int)
local macro_rules | `(tactic| rfl')=>`(tactic| first|decide|omega)
section
variable {P:Program}{w:World}{K:zcl5}{mg:Str->Option Value}{base:Heap}{zcg3:Addr}{zcg2:Addr}{zcg1:Addr}{a_tab:Addr}{a_cod:Addr}
def isW:PyData->Bool
 | .int _=>true
 | _=>false
def zj3(l:Int):PyData->Bool
 | .int i=>decide (l<=i)
 | _=>false
def zag2(l m:Int):PyData->Bool
 | .int i=>decide (l<=i/\i<=m)
 | _=>false
theorem zbs9{p q:Prop}[Decidable p][Decidable q](h:p):decide (p/\q)=decide q:=by simp[h]
theorem zbs2{p q:Prop}[Decidable p][Decidable q](h:¬ p):decide (p/\q)=false:=by simp[h]
@[irreducible] def zk3:Sp:=fun vs H Q _=>∃ (v:V) (d:PyData),vs=[v]/\ShV H v d/\Q (.bl (isW d)) H
theorem zca8{v:V}{d:PyData}(h:ShV H v d)(q:Q (.bl (isW d)) H):zk3 [v] H Q E:=by unfold zk3;exact⟨v,d,rfl,h,q⟩
theorem zau7{f:Addr}(F:Fun K "is_whole" "is_whole" zz2 f fd)(N:Nm mg):FnOk P w K mg base CX0 1 f fd ["thing"] zk3:=by
 refine F.ok zaw1 (fun vs H Q E h=>by unfold zk3 at h;obtain⟨_,_,rfl,_⟩:=h;rfl) fun _ _ _ s H vs Q E hr h=>?_
 unfold zk3 at h
 obtain⟨v,d,rfl,h,q⟩:=h
 refine⟨_,(za4 (zb1 (zo8 (pB (zv2 (K:=K) rfl) N.isinstance_ zb3 (za0 (pq 0) (za0 (pTy N.int_ zbn6) za1))) (zo7 (peNot (pB (zv2 (K:=K) rfl) N.isinstance_ zb3 (za0 (pq 0) (za0 (pTy N.bool_ zbm9) za1)))))))),?_⟩
 refine zg9 h (.inl rfl) ?_
 cases h
 case int i=>
  refine br_T ?_
  refine zac2 ?_
  ac_nf
  exact q
 case bl b=>
  refine br_T ?_
  refine zaf8 ?_
  ac_nf
  exact q
 all_goals (ac_nf;refine br_F ?_;ac_nf;exact q)
@[irreducible] def zh0:Sp:=fun vs H Q _=>∃ (v:V) (d:PyData) (l:Int),vs=[v,.int l]/\ShV H v d/\Q (.bl (zj3 l d)) H
theorem zad0{v:V}{d:PyData}{l:Int}(h:ShV H v d)(q:Q (.bl (zj3 l d)) H):zh0 [v,.int l] H Q E:=by unfold zh0;exact⟨v,d,l,rfl,h,q⟩
theorem zbb4{f:Addr}(F:Fun K "is_from" "is_from" zac9 f fd)(N:Nm mg)(zcj3:Def P w K mg base CX0 1 "is_whole" ["thing"] zk3):FnOk P w K mg base CX0 2 f fd ["thing","least"] zh0:=by
 refine F.ok zbe8 (fun vs H Q E h=>by unfold zh0 at h;obtain⟨_,_,_,rfl,_⟩:=h;rfl) fun _ _ _ s H vs Q E hr h=>?_
 unfold zh0 at h
 obtain⟨v,d,l,rfl,h,q⟩:=h
 refine⟨_,(za4 (zb1 (zo8 (pD zcj3 hr zb6 (za0 (pq 0) za1)) (zo7 (peC oLe (pq 1) (pq 0)))))),?_⟩
 refine zca8 h ?_
 cases h
 case int i=>
  refine br_T ?_
  ac_nf
  exact q
 all_goals (ac_nf;refine br_F ?_;ac_nf;exact q)
@[irreducible] def ze0:Sp:=fun vs H Q _=>∃ (v:V) (d:PyData) (l m:Int),vs=[v,.int l,.int m]/\ShV H v d/\Q (.bl (zag2 l m d)) H
theorem zbp4{v:V}{d:PyData}{l m:Int}(h:ShV H v d)(q:Q (.bl (zag2 l m d)) H):ze0 [v,.int l,.int m] H Q E:=by unfold ze0;exact⟨v,d,l,m,rfl,h,q⟩
theorem zbx3{i l m:Int}(q:Q (.bl (decide (l<=i/\i<=m))) H):ze0 [.int i,.int l,.int m] H Q E:=zbp4 (.int i) q
theorem zal6{f:Addr}(F:Fun K "is_between" "is_between" zr6 f fd)(N:Nm mg)(zcg8:Def P w K mg base CX0 2 "is_from" ["thing","least"] zh0):FnOk P w K mg base CX0 3 f fd ["thing","least","most"] ze0:=by
 refine F.ok zak8 (fun vs H Q E h=>by unfold ze0 at h;obtain⟨_,_,_,_,rfl,_⟩:=h;rfl) fun _ _ _ s H vs Q E hr h=>?_
 unfold ze0 at h
 obtain⟨v,d,l,m,rfl,h,q⟩:=h
 refine⟨_,(za4 (zb1 (zo8 (pD zcg8 hr zb6 (za0 (pq 0) (za0 (pq 1) za1))) (zo7 (peC oLe (pq 0) (pq 2)))))),?_⟩
 refine zad0 h ?_
 cases h
 case int i=>
  have q:Q (.bl (decide (l<=i/\i<=m))) H:=q
  refine zn3 (fun h=>?_) (fun h=>?_)
  ·ac_nf
   rw[zbs9 h] at q
   exact q
  ·ac_nf
   rw[zbs2 h] at q
   exact q
 all_goals (ac_nf;refine br_F ?_;ac_nf;exact q)
def za8:PyData->List PyData
 | .list ds=>ds
 | _=>[]
def intD:PyData->Int
 | .int i=>i
 | _=>0
def zp6:PyData->Bool
 | .list ds=>ds.all (zj3 0)
 | _=>false
theorem zl0{l:Int}{d:PyData}(h:zj3 l d=true):∃ i:Int,d=.int i/\l<=i:=by
 cases d with
 | int i=>exact⟨i,rfl,of_decide_eq_true h⟩
 | _=>simp[zj3] at h
theorem zn6(h:sml (.list ds)=true):ds.length<=1000/\∀ d∈ds,sml d=true:=by
 simp only[sml,zcm4,decide_eq_true_eq] at h
 exact⟨h.1,zy6 h.2⟩
theorem zam8(h:sml (.tuple ds)=true):ds.length<=1000/\∀ d∈ds,sml d=true:=by
 simp only[sml,zcm4,decide_eq_true_eq] at h
 exact⟨h.1,zy6 h.2⟩
theorem zo6(g:PyData->Bool):(List.range ds.length).map (fun i=>V.bl (g (ds.getD i .none)))=(ds.map g).map V.bl:=by
 apply zcp0
 intro i
 rw[zcl2,zcl2,zcl2]
 by_cases h:i<ds.length
 ·rw[zcp1 h,zcl0 h]
  simp[h]
 ·rw[zcn0 (by simp;omega),zcn0 (by rfl')]
  rfl
theorem zw4(g:PyData->Bool):(ds.map g).all id=ds.all g:=by rw[zcu9];rfl
@[irreducible] def ze5:Sp:=fun vs H Q _=>∃ (v:V) (d:PyData),vs=[v]/\ShV H v d/\sml d=true/\∀ H',Same H H'->Q (.bl (zp6 d)) H'
theorem zao3{v:V}{d:PyData}(h:ShV H v d)(hs:sml d=true)(q:∀ H',Same H H'->Q (.bl (zp6 d)) H'):ze5 [v] H Q E:=by unfold ze5;exact⟨v,d,rfl,h,hs,q⟩
theorem zag4{f:Addr}(F:Fun K "sends_hosts" "sends_hosts" zp8 f fd)(N:Nm mg)(zcg8:Def P w K mg base CX0 2 "is_from" ["thing","least"] zh0):FnOk P w K mg base CX0 3 f fd ["plan"] ze5:=by
 refine F.ok zag8 (fun vs H Q E h=>by unfold ze5 at h;obtain⟨_,_,rfl,_⟩:=h;rfl) fun _ _ _ s H vs Q E hr h=>?_
 unfold ze5 at h
 obtain⟨v,d,rfl,h,hs,q⟩:=h
 refine⟨_,(za4 (zb1 (zo8 (pB (zv2 (K:=K) rfl) N.isinstance_ zb3 (za0 (pq 0) (za0 (pTy N.list_ zq5) za1))) (zo7 (pB (zam0 (K:=K) rfl rfl) N.all_ zx3 (za0 (zd4 (N:=["sent"]) (ks:=[none]) (zc2 (K:=K) rfl (pq 0)) (fun _ _ _ _ _=>(za6 (i:=0) nb_0 rfl (by eq_refl))) (fun _ _ _ _ _=>zb7) (fun _ _ _ _ _=>(pD zcg8 hr zb6 (za0 (pq 0) (za0 za3 za1)))) (.skip .nil)) za1)))))),?_⟩
 refine zg9 h (.inr (.inr (.inl rfl))) ?_
 cases h
 case lst a xs ds e l=>
  have ll:=l.len
  obtain⟨dl,dm⟩:=zn6 hs
  refine br_T ?_
  refine za9 e ?_
  refine zk9 (Wk.list (SqL.of e)) (by rw[zcx6];omega) (fun i=>.bl (zj3 0 (ds.getD i .none))) (fun _=>true) (fun j σ=>∃ t:Option V,σ=[t]) ⟨none,rfl⟩ ?_ ?_
  ·rintro j x σ H1 R S hj s1 hx ⟨t,rfl⟩ k _
   obtain⟨d,ed,hd⟩:=l.get j x hx
   have eg:ds.getD j .none=d:=by rw[zcl3,ed];rfl
   refine br_T ?_
   refine zad0 (hd.same s1) ?_
   ac_nf
   rw[← eg]
   exact k rfl _ _ (Same.refl _) ⟨_,rfl⟩
  intro acc H1 f1 s1 h1
  rw[ze7,ll,zo6 (zj3 0)] at h1
  refine zx6 h1 ?_
  rw[zw4]
  ac_nf
  exact q _ s1
 all_goals (ac_nf;refine br_F ?_;ac_nf;exact q _ (Same.refl _))
theorem zaz6{H:Hp}:∀ {xs:List V}{ds:List PyData},ShL H xs ds->(∀ d∈ds,zj3 0 d=true)->∃ ns:List Int,xs=ns.map V.int/\ds=ns.map PyData.int/\∀ x∈ns,0<=x
 | _,_,.nil,_=>⟨[],rfl,rfl,fun _ h=>by cases h⟩
 | _,_,.cons (x:=x) (d:=d) a b,h=>by
  obtain⟨i,rfl,hi⟩:=zl0 (h d (.head _))
  obtain⟨ns,e1,e2,e3⟩:=zaz6 b fun y hy=>h y (.tail _ hy)
  cases a
  refine⟨i :: ns,by rw[e1];rfl,by rw[e2];rfl,fun y hy=>?_⟩
  rcases zcm1.mp hy with rfl|hy
  ·exact hi
  ·exact e3 y hy
theorem zah8{v:V}{d:PyData}(h:ShV H v d)(e:zp6 d=true):∃ (a:Addr) (ns:List Int),v=.ref a/\H a=some (.lst (ns.map V.int))/\d=.list (ns.map PyData.int)/\∀ x∈ns,0<=x:=by
 cases h
 case lst a xs ds e1 l=>
  have e:ds.all (zj3 0)=true:=e
  rw[zcn1] at e
  obtain⟨ns,rfl,rfl,e3⟩:=zaz6 l e
  exact⟨a,ns,rfl,e1,rfl,e3⟩
 all_goals simp[zp6] at e
def zag3(d:PyData):List Int:=(za8 d).map intD
theorem zaa1(ns:List Int):zag3 (.list (ns.map PyData.int))=ns:=by
 unfold zag3 za8
 rw[zcm6]
 exact (zcm8 fun x _=>rfl).trans (zcx3 _)
def zz4(h f:Int)(d:PyData):Bool:=zp6 d&&decide (((zag3 d).length:Int)=f)&&decide ((zag3 d).sum=h)
@[irreducible] def zm5:Sp:=fun vs H Q _=>∃ (h f:Int) (v:V) (d:PyData),vs=[.int h,.int f,v]/\ShV H v d/\sml d=true/\∀ H',Same H H'->Q (.bl (zz4 h f d)) H'
theorem zbq6{h f:Int}{v:V}{d:PyData}(hv:ShV H v d)(hs:sml d=true)(q:∀ H',Same H H'->Q (.bl (zz4 h f d)) H'):zm5 [.int h,.int f,v] H Q E:=by unfold zm5;exact⟨h,f,v,d,rfl,hv,hs,q⟩
theorem zbd9{f:Addr}(F:Fun K "is_plan" "is_plan" zad6 f fd)(N:Nm mg)(zch3:Def P w K mg base CX0 3 "sends_hosts" ["plan"] ze5):FnOk P w K mg base CX0 4 f fd ["hosts","fields","plan"] zm5:=by
 refine F.ok zbe1 (fun vs H Q E h=>by unfold zm5 at h;obtain⟨_,_,_,_,rfl,_⟩:=h;rfl) fun _ _ _ s H vs Q E hr h=>?_
 unfold zm5 at h
 obtain⟨h,f,v,d,rfl,hv,hs,q⟩:=h
 have hu:=hu40 hr
 refine⟨_,(za4 (zb1 (zo8 (pD zch3 hr zb6 (za0 (pq 2) za1)) (zo8 (peC (zz7 (K:=K) rfl (by exact hu)) (pB (zk0 (K:=K) rfl) N.len_ ze9 (za0 (pq 2) za1)) (pq 1)) (zo7 (peC (zz7 (K:=K) rfl (by exact hu)) (pB (zan5 (K:=K) rfl rfl) N.sum_ zw5 (za0 (pq 2) za1)) (pq 0))))))),?_⟩
 refine zao3 hv hs (fun H1 s1=>?_)
 have q:=q _ s1
 cases es:zp6 d
 ·ac_nf
  refine br_F ?_
  ac_nf
  unfold zz4 at q
  rw[es] at q
  exact q
 ·obtain⟨a,ns,rfl,ha,rfl,nn⟩:=zah8 hv es
  have q:Q (.bl (decide ((ns.length:Int)=f)&&decide (ns.sum=h))) H1:=by
   unfold zz4 at q
   rw[es,zaa1,zcq1] at q
   exact q
  refine br_T ?_
  refine zc9 (s1 _ _ ha) ?_
  rw[zck9]
  refine zn3 (fun h2=>?_) (fun h2=>?_)
  ·rw[decide_eq_true h2,zcq1] at q
   refine zaa7 (s1 _ _ ha) ?_
   ac_nf
   exact q
  ·rw[decide_eq_false h2,Bool.false_and] at q
   ac_nf
   exact q
def zt8:PyData->Bool
 | .tuple [a,b]=>zp6 a&&zj3 1 b
 | _=>false
@[irreducible] def zm0:Sp:=fun vs H Q _=>∃ (v:V) (d:PyData),vs=[v]/\ShV H v d/\sml d=true/\∀ H',Same H H'->Q (.bl (zt8 d)) H'
theorem zbu9{v:V}{d:PyData}(h:ShV H v d)(hs:sml d=true)(q:∀ H',Same H H'->Q (.bl (zt8 d)) H'):zm0 [v] H Q E:=by unfold zm0;exact⟨v,d,rfl,h,hs,q⟩
theorem zaw3{xs:List V}(l:ShL H xs ds)(e:xs.length=2):∃ x y a b,xs=[x,y]/\ds=[a,b]/\ShV H x a/\ShV H y b:=by
 cases l with
 | nil=>simp at e
 | cons h1 l=>
  cases l with
  | nil=>simp at e
  | cons h2 l=>
   cases l with
   | nil=>exact⟨_,_,_,_,rfl,rfl,h1,h2⟩
   | cons _ _=>simp at e
theorem zaj3(h:ds.length≠2):zt8 (.tuple ds)=false:=by
 match ds,h with
 | [],_=>rfl
 | [_],_=>rfl
 | [_,_],h=>simp at h
 | _ :: _ :: _ :: _,_=>rfl
theorem zbc4{f:Addr}(F:Fun K "is_part" "is_part" zae4 f fd)(N:Nm mg)(zcg8:Def P w K mg base CX0 2 "is_from" ["thing","least"] zh0)(zch3:Def P w K mg base CX0 3 "sends_hosts" ["plan"] ze5):FnOk P w K mg base CX0 4 f fd ["part"] zm0:=by
 refine F.ok zbb7 (fun vs H Q E h=>by unfold zm0 at h;obtain⟨_,_,rfl,_⟩:=h;rfl) fun _ _ _ s H vs Q E hr h=>?_
 unfold zm0 at h
 obtain⟨v,d,rfl,h,hs,q⟩:=h
 have hu:=hu40 hr
 refine⟨_,(za4 (zb1 (zo8 (pB (zv2 (K:=K) rfl) N.isinstance_ zb3 (za0 (pq 0) (za0 (pTy N.tuple_ zx0) za1))) (zo8 (peC (zz7 (K:=K) rfl (by exact hu)) (pB (zk0 (K:=K) rfl) N.len_ ze9 (za0 (pq 0) za1)) za3) (zo8 (pD zch3 hr zb6 (za0 (zb5 (K:=K) rfl (pq 0) za3) za1)) (zo7 (pD zcg8 hr zb6 (za0 (zb5 (K:=K) rfl (pq 0) za3) (za0 za3 za1))))))))),?_⟩
 refine zg9 h (.inr (.inr (.inr rfl))) ?_
 cases h
 case tup t xs ds e l=>
  have ll:=l.len
  obtain⟨dl,dm⟩:=zam8 hs
  refine br_T ?_
  refine zaj9 e ?_
  refine zn3 (fun h2=>?_) (fun h2=>?_)
  ·obtain⟨x,y,a,b,rfl,rfl,ha,hb⟩:=zaw3 l (by rfl')
   refine zd2 (v:=x) e rfl ?_
   refine zao3 ha (dm a (by simp)) (fun H1 s1=>?_)
   have q:Q (.bl (zp6 a&&zj3 1 b)) H1:=q _ s1
   cases es:zp6 a
   ·rw[es] at q
    refine br_F ?_
    ac_nf
    exact q
   ·rw[es,zcq1] at q
    refine br_T ?_
    refine zd2 (v:=y) (s1 _ _ e) rfl ?_
    refine zad0 (hb.same s1) ?_
    ac_nf
    exact q
  ·have q:=q _ (Same.refl _)
   rw[zaj3 (by rfl')] at q
   ac_nf
   exact q
 all_goals (ac_nf;refine br_F ?_;ac_nf;exact q _ (Same.refl _))
theorem zaj0{v:V}{d:PyData}(h:ShV H v d)(e:zt8 d=true):∃ (t l:Addr) (w:Int) (ns:List Int),v=.ref t/\H t=some (.tup [.ref l,.int w])/\H l=some (.lst (ns.map V.int))/\d=.tuple [.list (ns.map PyData.int),.int w]/\(∀ x∈ns,0<=x)/\1<=w:=by
 cases h
 case tup t xs ds e1 l=>
  have l2:ds.length=2:=Classical.byContradiction fun z=>by rw[zaj3 z] at e;cases e
  obtain⟨x,y,a,b,rfl,rfl,ha,hb⟩:=zaw3 l (by rw[l.len];exact l2)
  have e:(zp6 a&&zj3 1 b)=true:=e
  rw[zcm4] at e
  obtain⟨p,ns,rfl,h1,rfl,nn⟩:=zah8 ha e.1
  obtain⟨w,rfl,hw⟩:=zl0 e.2
  cases hb
  exact⟨t,p,w,ns,rfl,e1,h1,rfl,nn,hw⟩
 all_goals simp[zt8] at e
def zn8:PyData->PyData
 | .tuple (a :: _)=>a
 | _=>.none
def zs6(h f:Int):Bool:=decide (0<=h/\h<=40)&&decide (1<=f/\f<=8)
def zj5(ds:List PyData):List Int:=zag3 (zn8 (ds.getD 0 .none))
def mixD:PyData->Bool
 | .list ds=>decide (ds.length≠0)&&ds.all zt8&&zs6 (zj5 ds).sum (zj5 ds).length&&ds.all fun d=>zz4 (zj5 ds).sum (zj5 ds).length (zn8 d)
 | _=>false
@[irreducible] def zk5:Sp:=fun vs H Q _=>∃ i l:Int,vs=[.int i,.int l]/\Q (.bl (zs6 i l)) H
theorem zba2{i l:Int}(q:Q (.bl (zs6 i l)) H):zk5 [.int i,.int l] H Q E:=by unfold zk5;exact⟨i,l,rfl,q⟩
theorem zbf2{f:Addr}(F:Fun K "is_size" "is_size" zae5 f fd)(N:Nm mg){zci0:Tok}(c_MOST_FIELDS:mg "MOST_FIELDS"=some (.int 8 zci0)){zci3:Tok}(c_MOST_HOSTS:mg "MOST_HOSTS"=some (.int 40 zci3))(zch1:Def P w K mg base CX0 3 "is_between" ["thing","least","most"] ze0):FnOk P w K mg base CX0 4 f fd ["hosts","fields"] zk5:=by
 refine F.ok zbc8 (fun vs H Q E h=>by unfold zk5 at h;obtain⟨_,_,rfl,_⟩:=h;rfl) fun _ _ _ s H vs Q E hr h=>?_
 unfold zk5 at h
 obtain⟨i,l,rfl,q⟩:=h
 refine⟨_,(za4 (zb1 (zo8 (pD zch1 hr zb6 (za0 (pq 0) (za0 za3 (za0 (zbp7 (v:=.int 40) rfl c_MOST_HOSTS ⟨_,rfl⟩) za1)))) (zo7 (pD zch1 hr zb6 (za0 (pq 1) (za0 za3 (za0 (zbp7 (v:=.int 8) rfl c_MOST_FIELDS ⟨_,rfl⟩) za1)))))))),?_⟩
 refine zbx3 ?_
 ac_nf
 unfold zs6 at q
 refine zn3 (fun h=>?_) (fun h=>?_)
 ·rw[decide_eq_true h,zcq1] at q
  refine zbx3 ?_
  ac_nf
  exact q
 ·rw[decide_eq_false h,Bool.false_and] at q
  ac_nf
  exact q
theorem getD_some{d:PyData}(h:ds[i]?=some d):ds.getD i .none=d:=by rw[zcl3,h];rfl
theorem zt0(ds:List PyData):mixD (.list ds)=(decide (ds.length≠0)&&ds.all zt8&&zs6 (zj5 ds).sum (zj5 ds).length&&ds.all fun d=>zz4 (zj5 ds).sum (zj5 ds).length (zn8 d)):=rfl
@[irreducible] def zo4:Sp:=fun vs H Q _=>∃ (v:V) (d:PyData),vs=[v]/\ShV H v d/\sml d=true/\∀ H',Same H H'->Q (.bl (mixD d)) H'
theorem zce4{v:V}{d:PyData}(h:ShV H v d)(hs:sml d=true)(q:∀ H',Same H H'->Q (.bl (mixD d)) H'):zo4 [v] H Q E:=by unfold zo4;exact⟨v,d,rfl,h,hs,q⟩
theorem zbk9{f:Addr}(F:Fun K "is_mix" "is_mix" zak4 f fd)(N:Nm mg)(zcj7:Def P w K mg base CX0 4 "is_part" ["part"] zm0)(zcj8:Def P w K mg base CX0 4 "is_plan" ["hosts","fields","plan"] zm5)(zci2:Def P w K mg base CX0 4 "is_size" ["hosts","fields"] zk5):FnOk P w K mg base CX0 5 f fd ["mix"] zo4:=by
 refine F.ok zab9 (fun vs H Q E h=>by unfold zo4 at h;obtain⟨_,_,rfl,_⟩:=h;rfl) fun _ _ _ s H vs Q E hr h=>?_
 unfold zo4 at h
 obtain⟨v,d,rfl,h,hs,q⟩:=h
 have hu:=hu40 hr
 refine⟨_,(za2 (psIf (ptW (pwOr (zi7 (ptV (pB (zv2 (K:=K) rfl) N.isinstance_ zb3 (za0 (pq 0) (za0 (pTy N.list_ zq5) za1))))) (pwOr (ptC (zz7 (K:=K) rfl (by exact hu)) (pB (zk0 (K:=K) rfl) N.len_ ze9 (za0 (pq 0) za1)) za3) (zp4 (zi7 (ptV (pB (zam0 (K:=K) rfl rfl) N.all_ zx3 (za0 (zd4 (N:=["part"]) (ks:=[none]) (zc2 (K:=K) rfl (pq 0)) (fun _ _ _ _ _=>(za6 (i:=0) nb_1 rfl (by eq_refl))) (fun _ _ _ _ _=>zb7) (fun _ _ _ _ _=>(pD zcj7 hr zb6 (za0 (pq 0) za1))) (.skip .nil)) za1)))))))) (za4 (zb1 zq9)) zc7)
   (za2 (psS (i:=1) zab9.nd (pB (zan5 (K:=K) rfl rfl) N.sum_ zw5 (za0 (zb5 (K:=K) rfl (zb5 (K:=K) rfl (pq 0) za3) za3) za1)))
   (za2 (psS (i:=2) zab9.nd (pB (zk0 (K:=K) rfl) N.len_ ze9 (za0 (zb5 (K:=K) rfl (zb5 (K:=K) rfl (pq 0) za3) za3) za1)))
   (za4 (zb1 (zo8 (pD zci2 hr zb6 (za0 (pq 1) (za0 (pq 2) za1))) (zo7 (pB (zam0 (K:=K) rfl rfl) N.all_ zx3 (za0 (zd4 (N:=["plan","weight","hosts","fields"]) (ks:=[none,none,some 1,some 2]) (zc2 (K:=K) rfl (pq 0)) (fun _ _ _ _ _=>(zi9 (K:=K) (n:=2) rfl rfl (zb0 (za6 (i:=0) nb_2 rfl (by eq_refl)) (zb0 (za6 (i:=1) nb_2 rfl (by eq_refl)) zj2)))) (fun _ _ _ _ _=>zb7) (fun _ _ _ _ _=>(pD zcj8 hr zb6 (za0 (pq 2) (za0 (pq 3) (za0 (pq 0) za1))))) (.skip (.skip (.take rfl rfl (by eq_refl) (.take rfl rfl (by eq_refl) .nil))))) za1))))))))),?_⟩
 refine zg9 h (.inr (.inr (.inl rfl))) ?_
 cases h
 case lst a xs ds e l=>
  have ll:=l.len
  obtain⟨dl,dm⟩:=zn6 hs
  refine zc6 (br_T ?_)
  refine zc9 e ?_
  rw[ll]
  refine zn3 (fun h0=>?_) (fun h0=>?_)
  ·ac_nf
   refine br_T ?_
   ac_nf
   have q:=q _ (Same.refl _)
   rw[zt0,decide_eq_false (by rfl')] at q
   exact q
  have d0:decide (ds.length≠0)=true:=decide_eq_true (by rfl')
  refine za9 e ?_
  refine zk9 (Wk.list (SqL.of e)) (by rw[zcx6];omega) (fun i=>.bl (zt8 (ds.getD i .none))) (fun _=>true) (fun j σ=>∃ t:Option V,σ=[t]) ⟨none,rfl⟩ ?_ ?_
  ·rintro j x σ H1 R S hj s1 hx ⟨t,rfl⟩ k _
   obtain⟨d,ed,hd⟩:=l.get j x hx
   refine br_T ?_
   refine zbu9 (hd.same s1) (dm d (zcl4 ed)) (fun H2 s2=>?_)
   ac_nf
   rw[← getD_some ed]
   exact k rfl _ _ s2 ⟨_,rfl⟩
  intro acc H1 f1 s1 h1
  rw[ze7,ll,zo6 zt8] at h1
  refine zx6 h1 ?_
  rw[zw4]
  cases ea:ds.all zt8
  ·ac_nf
   refine zc6 (br_F ?_)
   ac_nf
   have q:=q _ s1
   rw[zt0,d0,ea] at q
   exact q
  have ea':∀ d∈ds,zt8 d=true:=zcn1.mp ea
  refine zc6 (br_T ?_)
  obtain⟨x0,ex0⟩:∃ x,xs[0]?=some x:=⟨_,zcl0 (by rfl')⟩
  obtain⟨dd0,ed0,hd0⟩:=l.get 0 x0 ex0
  obtain⟨t,p,w,ns,rfl,ht,hp,rfl,nn,hw⟩:=zaj0 hd0 (ea' dd0 (zcl4 ed0))
  have fp:zj5 ds=ns:=by unfold zj5;rw[getD_some ed0];exact zaa1 ns
  have at0:atI xs 0=some (.ref t):=zh4 (j:=0) ex0
  refine zb8 (v:=.ref t) (s1 _ _ e) at0 ?_
  refine zd2 (v:=.ref p) (s1 _ _ ht) rfl ?_
  refine zaa7 (s1 _ _ hp) ?_
  refine zb8 (v:=.ref t) (s1 _ _ e) at0 ?_
  refine zd2 (v:=.ref p) (s1 _ _ ht) rfl ?_
  refine zc9 (s1 _ _ hp) ?_
  rw[zck9]
  refine zba2 ?_
  have qq:∀ H',Same H1 H'->Q (.bl (zs6 ns.sum ns.length&&ds.all fun d=>zz4 ns.sum ns.length (zn8 d))) H':=fun H' s'=>by
   have q:=q _ (s1.trans s')
   rw[zt0,d0,ea,fp,zcq1,zcq1] at q
   exact q
  cases es:zs6 ns.sum ns.length
  ·have qq:=qq _ (Same.refl _)
   rw[es] at qq
   refine br_F ?_
   ac_nf
   exact qq
  refine br_T ?_
  refine za9 (s1 _ _ e) ?_
  refine zk9 (Wk.list (SqL.of (s1 _ _ e))) (by rw[zcx6];omega) (fun i=>.bl (zz4 ns.sum ns.length (zn8 (ds.getD i .none)))) (fun _=>true) (fun j σ=>∃ t u:Option V,σ=[t,u,some (.int ns.sum),some (.int ns.length)]) ⟨none,none,rfl⟩ ?_ ?_
  ·rintro j x σ H2 R S hj s2 hx ⟨t',u',rfl⟩ k _
   obtain⟨d,ed,hd⟩:=l.get j x hx
   have hd:=hd.same (s1.trans s2)
   have hm:=dm d (zcl4 ed)
   obtain⟨t,p,w,ns',rfl,ht,hp,rfl,nn',hw'⟩:=zaj0 hd (ea' d (zcl4 ed))
   have sp:sml (.list (ns'.map PyData.int))=true:=(zam8 hm).2 _ (by simp)
   have hv:ShV H2 (.ref p) (.list (ns'.map PyData.int)):=.lst hp (ShL.idx (by rw[zck9,zck9]) fun i x d h1 h2=>by
    rw[zcl2] at h1 h2
    obtain⟨n,en,rfl⟩:=zcl6.mp h1
    rw[en] at h2
    cases h2
    exact .int n)
   refine zf1 ht ?_
   refine br_T ?_
   refine zbq6 hv sp (fun H3 s3=>?_)
   ac_nf
   have e1:=getD_some ed
   rw[e1] at k
   exact k rfl _ _ s3 ⟨_,_,rfl⟩
  intro acc2 H2 f2 s2 h2
  rw[ze7,ll,zo6 fun d=>zz4 ns.sum ns.length (zn8 d)] at h2
  refine zx6 h2 ?_
  rw[zw4]
  ac_nf
  have qq:=qq _ s2
  rw[es,zcq1] at qq
  exact qq
 all_goals (ac_nf;refine zc6 (br_F ?_);ac_nf;refine br_T ?_;ac_nf;exact q _ (Same.refl _))
@[irreducible] def zk4(zcg2:Addr):Sp:=fun vs H Q E=>∃ (v:V) (d:PyData),vs=[v]/\ShV H v d/\sml d=true/\(mixD d=true->∀ H',Same H H'->Q .non H')/\(mixD d=false->∀ H',Same H H'->E (.ref zcg2) none H')
theorem zap7{zcg2:Addr}{v:V}{d:PyData}(h:ShV H v d)(hs:sml d=true)(q:mixD d=true->∀ H',Same H H'->Q .non H')(qe:mixD d=false->∀ H',Same H H'->E (.ref zcg2) none H'):zk4 zcg2 [v] H Q E:=by unfold zk4;exact⟨v,d,rfl,h,hs,q,qe⟩
theorem zaw8{f:Addr}(F:Fun K "look_mix" "look_mix" zy3 f fd)(N:Nm mg)(zck1:Def P w K mg base CX0 5 "is_mix" ["mix"] zo4)(Z:Cz K mg base zcg3 zcg2 zcg1):FnOk P w K mg base (CXR P w) 6 f fd ["mix"] (zk4 zcg2):=by
 refine F.okR zat3 (fun vs H Q E h=>by unfold zk4 at h;obtain⟨_,_,rfl,_⟩:=h;rfl) (fun cdv A outer s H vs Q E hr hX h=>?_)
 unfold zk4 at h
 obtain⟨v,d,rfl,h,hs,q,qe⟩:=h
 refine⟨_,(za4 (psIf (zi7 (ptV (pD zck1 hr zb6 (za0 (pq 0) za1)))) (za4 (zbh9 Z.o_NoMix PySem.F.excBase_ValueError rfl hX (za0 zbw1 za1))) zc7)),?_⟩
 refine zce4 h hs (fun H1 s1=>?_)
 cases em:mixD d
 ·ac_nf
  refine zc6 (br_F ?_)
  ac_nf
  exact⟨by decide,qe em _ s1⟩
 ·ac_nf
  refine zc6 (br_T ?_)
  ac_nf
  exact q em _ s1
def wtD:PyData->Int
 | .tuple [_,b]=>intD b
 | _=>0
theorem mix_of{v:V}{d:PyData}(h:ShV H v d)(e:mixD d=true):∃ (a:Addr) (xs:List V) (ds:List PyData),v=.ref a/\d=.list ds/\H a=some (.lst xs)/\ShL H xs ds/\ds.length≠0/\∀ d∈ds,zt8 d=true:=by
 cases h
 case lst a xs ds e1 l=>
  unfold mixD at e
  simp only[zcm4,decide_eq_true_eq] at e
  exact⟨a,xs,ds,rfl,rfl,e1,l,e.1.1.1,zcn1.mp e.1.1.2⟩
 all_goals simp[mixD] at e
theorem zau5{d:PyData}(h:zt8 d=true):∃ (ns:List Int) (w:Int),d=.tuple [.list (ns.map PyData.int),.int w]/\(∀ x∈ns,0<=x)/\1<=w:=by
 cases d with
 | tuple ds=>
  have l2:ds.length=2:=Classical.byContradiction fun z=>by rw[zaj3 z] at h;cases h
  match ds,l2 with
  | [a,b],_=>
   have h:(zp6 a&&zj3 1 b)=true:=h
   rw[zcm4] at h
   obtain⟨w,rfl,hw⟩:=zl0 h.2
   cases a with
   | list es=>
    have h1:es.all (zj3 0)=true:=h.1
    rw[zcn1] at h1
    have:∀ {es:List PyData},(∀ d∈es,zj3 0 d=true)->∃ ns:List Int,es=ns.map PyData.int/\∀ x∈ns,0<=x:=fun {es} h1=>by
     induction es with
     | nil=>exact⟨[],rfl,fun _ h=>by cases h⟩
     | cons d es ih=>
      obtain⟨i,rfl,hi⟩:=zl0 (h1 d (.head _))
      obtain⟨ns,rfl,hn⟩:=ih fun d hd=>h1 d (.tail _ hd)
      refine⟨i :: ns,rfl,fun x hx=>?_⟩
      rcases zcm1.mp hx with rfl|hx
      ·exact hi
      ·exact hn x hx
    obtain⟨ns,rfl,hn⟩:=this h1
    exact⟨ns,w,rfl,hn,hw⟩
   | _=>simp[zp6] at h
 | _=>simp[zt8] at h
theorem zp1(ns:List Int)(w:Int):zag3 (zn8 (.tuple [.list (ns.map PyData.int),.int w]))=ns:=zaa1 ns
structure zc0(H:Hp)(m:Addr)(ts:List (Addr×Addr))(ms:List (List Int×Int)):Prop where
 out:H m=some (.lst (ts.map fun t=>V.ref t.1))
 len:ts.length=ms.length
 part:∀ (i:Nat) t x,ts[i]?=some t->ms[i]?=some x->H t.1=some (.tup [.ref t.2,.int x.2])/\H t.2=some (.lst (x.1.map V.int))
theorem zc0.same{m:Addr}(M:zc0 H m ts ms)(s:Same H H'):zc0 H' m ts ms:=⟨s _ _ M.out,M.len,fun i t x h1 h2=>⟨s _ _ (M.part i t x h1 h2).1,s _ _ (M.part i t x h1 h2).2⟩⟩
theorem zc0.get{m:Addr}(M:zc0 H m ts ms)(hi:i<ms.length):∃ t x,ts[i]?=some t/\ms[i]?=some x/\H t.1=some (.tup [.ref t.2,.int x.2])/\H t.2=some (.lst (x.1.map V.int)):=
 ⟨_,_,zcl0 (by have:=M.len;omega),zcl0 hi,M.part i _ _ (zcl0 (by have:=M.len;omega)) (zcl0 hi)⟩
theorem zc0.elt{m:Addr}(M:zc0 H m ts ms){v:V}(e:(ts.map fun t=>V.ref t.1)[i]?=some v):∃ t x,v=.ref t.1/\ts[i]?=some t/\ms[i]?=some x/\H t.1=some (.tup [.ref t.2,.int x.2])/\H t.2=some (.lst (x.1.map V.int)):=by
 rw[zcl2] at e
 obtain⟨t,et,rfl⟩:=zcl6.mp e
 obtain⟨t',x,h1,h2,h3⟩:=M.get (i:=i) (by have:=(zcl1.mp et).1;have:=M.len;omega)
 rw[et] at h1
 cases h1
 exact⟨t,x,rfl,et,h2,h3⟩
theorem zc0.ix{m:Addr}(M:zc0 H m ts ms){k:Nat}{x:List Int×Int}(e:ms[k]?=some x):∃ t,ts[k]?=some t/\atI (ts.map fun t=>V.ref t.1) (k:Int)=some (.ref t.1)/\H t.1=some (.tup [.ref t.2,.int x.2])/\H t.2=some (.lst (x.1.map V.int)):=by
 obtain⟨t,x',h1,h2,h3⟩:=M.get (i:=k) ((zcl1.mp e).1)
 rw[e] at h2
 cases h2
 exact⟨t,h1,zh4 (by rw[zcl2,h1];rfl),h3⟩
def rm(p:Addr)(H:Hp):Hp:=fun b=>if b=p then none else H b
def nw(H H':Hp):Hp:=fun b=>match H b with
 | none=>H' b
 | some _=>none
theorem zp5{p b:Addr}{o:HO}(n:b≠p)(h:H b=some o):rm p H b=some o:=by unfold rm;rw[if_neg n];exact h
theorem zj4{p b:Addr}{o:HO}(h:rm p H b=some o):b≠p/\H b=some o:=by
 unfold rm at h
 by_cases e:b=p
 ·rw[if_pos e] at h;cases h
 ·rw[if_neg e] at h;exact⟨e,h⟩
theorem zh1{b:Addr}{o:HO}(n:H b=none)(h:H' b=some o):nw H H' b=some o:=by unfold nw;rw[n];exact h
theorem zg4{b:Addr}{o:HO}(h:nw H H' b=some o):H b=none/\H' b=some o:=by
 unfold nw at h
 cases e:H b with
 | none=>rw[e] at h;exact⟨rfl,h⟩
 | some v=>rw[e] at h;cases h
theorem zs7(p:Addr)(H:Hp):Same (rm p H) H:=fun b o h=>(zj4 h).2
theorem ze3(H H':Hp):Same (nw H H') H':=fun b o h=>(zg4 h).2
theorem Same.rm{p:Addr}{H H':Hp}(s:Same H H'):Same (rm p H) (G.rm p H'):=fun b o h=>zp5 (zj4 h).1 (s _ _ (zj4 h).2)
theorem Chg.rm{p:Addr}{H H':Hp}(s:Chg p H H'):Same (rm p H) (G.rm p H'):=fun b o h=>zp5 (zj4 h).1 (s _ _ (zj4 h).1 (zj4 h).2)
theorem zbb9{H'':Hp}(s:Same H' H''):Same (nw H H') (nw H H''):=fun b o h=>zh1 (zg4 h).1 (s _ _ (zg4 h).2)
theorem zbg3(s:Same H0 H):Same (nw H H') (nw H0 H'):=fun b o h=>zh1 (s.free (zg4 h).1) (zg4 h).2
theorem zbd3{p:Addr}{o:HO}(hp:H p=some o)(c:Chg p H0 H):Same (nw H H') (nw H0 H'):=fun b o' h=>by
 have hb:=zg4 h
 refine zh1 ?_ hb.2
 cases e:H0 b with
 | none=>rfl
 | some v=>
  have np:b≠p:=fun z=>by rw[z,hp] at hb;cases hb.1
  have:=c _ _ np e
  rw[hb.1] at this
  cases this
def zs4:PyData->Bool
 | .tuple [a,b,c]=>zj3 0 a&&zag2 0 (intD a) b&&zj3 1 c
 | _=>false
theorem zak9(h:ds.length≠3):zs4 (.tuple ds)=false:=by
 match ds,h with
 | [],_=>rfl
 | [_],_=>rfl
 | [_,_],_=>rfl
 | [_,_,_],h=>simp at h
 | _ :: _ :: _ :: _ :: _,_=>rfl
theorem zar1{xs:List V}(l:ShL H xs ds)(e:xs.length=3):∃ x y z a b c,xs=[x,y,z]/\ds=[a,b,c]/\ShV H x a/\ShV H y b/\ShV H z c:=by
 cases l with
 | nil=>simp at e
 | cons h1 l=>
  obtain⟨y,z,b,c,rfl,rfl,h2,h3⟩:=zaw3 l (by simpa using e)
  exact⟨_,_,_,_,_,_,rfl,rfl,h1,h2,h3⟩
@[irreducible] def zm4:Sp:=fun vs H Q _=>∃ (v:V) (d:PyData),vs=[v]/\ShV H v d/\Q (.bl (zs4 d)) H
theorem zbt8{v:V}{d:PyData}(h:ShV H v d)(q:Q (.bl (zs4 d)) H):zm4 [v] H Q E:=by unfold zm4;exact⟨v,d,rfl,h,q⟩
theorem zbb8{f:Addr}(F:Fun K "is_flow" "is_flow" zae3 f fd)(N:Nm mg)(zch1:Def P w K mg base CX0 3 "is_between" ["thing","least","most"] ze0)(zcg8:Def P w K mg base CX0 2 "is_from" ["thing","least"] zh0):FnOk P w K mg base CX0 4 f fd ["thing"] zm4:=by
 refine F.ok zbd0 (fun vs H Q E h=>by unfold zm4 at h;obtain⟨_,_,rfl,_⟩:=h;rfl) fun _ _ _ s H vs Q E hr h=>?_
 unfold zm4 at h
 obtain⟨v,d,rfl,h,q⟩:=h
 have hu:=hu40 hr
 refine⟨_,(za2 (psIf (ptW (pwOr (zi7 (ptV (pB (zv2 (K:=K) rfl) N.isinstance_ zb3 (za0 (pq 0) (za0 (pTy N.tuple_ zx0) za1))))) (zp4 (ptC (zt7 (K:=K) rfl (by exact hu)) (pB (zk0 (K:=K) rfl) N.len_ ze9 (za0 (pq 0) za1)) za3)))) (za4 (zb1 zq9)) zc7)
   (za4 (zb1 (zo8 (pD zcg8 hr zb6 (za0 (zb5 (K:=K) rfl (pq 0) za3) (za0 za3 za1))) (zo8 (pD zch1 hr zb6 (za0 (zb5 (K:=K) rfl (pq 0) za3) (za0 za3 (za0 (zb5 (K:=K) rfl (pq 0) za3) za1)))) (zo7 (pD zcg8 hr zb6 (za0 (zb5 (K:=K) rfl (pq 0) za3) (za0 za3 za1))))))))),?_⟩
 refine zg9 h (.inr (.inr (.inr rfl))) ?_
 cases h
 case tup t xs ds e l=>
  have ll:=l.len
  refine zc6 (br_T ?_)
  refine zaj9 e ?_
  refine zc6 (zn3 (fun h3=>?_) (fun h3=>?_))
  ·obtain⟨x,y,z,a,b,c,rfl,rfl,ha,hb,hc⟩:=zar1 l (by rfl')
   have q:Q (.bl (zj3 0 a&&zag2 0 (intD a) b&&zj3 1 c)) H:=q
   refine zd2 (v:=x) e rfl ?_
   refine zad0 ha ?_
   cases e1:zj3 0 a
   ·rw[e1] at q
    refine br_F ?_
    ac_nf
    exact q
   ·rw[e1,zcq1] at q
    obtain⟨i,rfl,hi⟩:=zl0 e1
    cases ha
    refine br_T ?_
    refine zd2 (v:=y) e rfl ?_
    refine zd2 (v:=.int i) e rfl ?_
    refine zbp4 hb ?_
    have q:Q (.bl (zag2 0 i b&&zj3 1 c)) H:=q
    cases e2:zag2 0 i b
    ·rw[e2] at q
     refine br_F ?_
     ac_nf
     exact q
    ·rw[e2,zcq1] at q
     refine br_T ?_
     refine zd2 (v:=z) e rfl ?_
     refine zad0 hc ?_
     ac_nf
     exact q
  ·rw[zak9 (by rfl')] at q
   ac_nf
   exact q
 all_goals (ac_nf;refine zc6 (br_F ?_);ac_nf;refine br_T ?_;ac_nf;exact q)
theorem zbn5{l m:Int}{d:PyData}(h:zag2 l m d=true):∃ i,d=.int i/\l<=i/\i<=m:=by
 cases d with
 | int i=>have:=of_decide_eq_true h;exact⟨i,rfl,this⟩
 | _=>simp[zag2] at h
theorem zav5{v:V}{d:PyData}(h:ShV H v d)(e:zs4 d=true):∃ (t:Addr) (i j w:Int),v=.ref t/\H t=some (.tup [.int i,.int j,.int w])/\d=.tuple [.int i,.int j,.int w]/\0<=j/\j<=i/\1<=w:=by
 cases h
 case tup t xs ds e1 l=>
  have l3:ds.length=3:=Classical.byContradiction fun z=>by rw[zak9 z] at e;cases e
  obtain⟨x,y,z,a,b,c,rfl,rfl,ha,hb,hc⟩:=zar1 l (by rw[l.len];exact l3)
  have e:(zj3 0 a&&zag2 0 (intD a) b&&zj3 1 c)=true:=e
  rw[zcm4,zcm4] at e
  obtain⟨i,rfl,hi⟩:=zl0 e.1.1
  obtain⟨j,rfl,hj1,hj2⟩:=zbn5 e.1.2
  obtain⟨w,rfl,hw⟩:=zl0 e.2
  cases ha
  cases hb
  cases hc
  exact⟨t,i,j,w,rfl,e1,rfl,hj1,hj2,hw⟩
 all_goals simp[zs4] at e
def keyD:PyData->Int×Int
 | .tuple (a :: b :: _)=>(intD a,intD b)
 | _=>(0,0)
def incD(ds:List PyData):Bool:=(List.range (ds.length - 1)).all fun i=>ltP (keyD (ds.getD i .none)) (keyD (ds.getD (i+1) .none))
def rowD:PyData->Bool
 | .list ds=>ds.all zs4&&incD ds
 | _=>false
@[irreducible] def zm8:Sp:=fun vs H Q _=>∃ (v:V) (d:PyData),vs=[v]/\ShV H v d/\sml d=true/\∀ H',Same H H'->Q (.bl (rowD d)) H'
theorem zbg9{v:V}{d:PyData}(h:ShV H v d)(hs:sml d=true)(q:∀ H',Same H H'->Q (.bl (rowD d)) H'):zm8 [v] H Q E:=by unfold zm8;exact⟨v,d,rfl,h,hs,q⟩
theorem zbi3{f:Addr}(F:Fun K "is_row" "is_row" zal2 f fd)(N:Nm mg)(zcj9:Def P w K mg base CX0 4 "is_flow" ["thing"] zm4):FnOk P w K mg base CX0 5 f fd ["row"] zm8:=by
 refine F.ok zbg2 (fun vs H Q E h=>by unfold zm8 at h;obtain⟨_,_,rfl,_⟩:=h;rfl) fun _ _ _ s H vs Q E hr h=>?_
 unfold zm8 at h
 obtain⟨v,d,rfl,h,hs,q⟩:=h
 have hu:=hu40 hr
 refine⟨_,(za2 (psIf (ptW (pwOr (zi7 (ptV (pB (zv2 (K:=K) rfl) N.isinstance_ zb3 (za0 (pq 0) (za0 (pTy N.list_ zq5) za1))))) (zp4 (zi7 (ptV (pB (zam0 (K:=K) rfl rfl) N.all_ zx3 (za0 (zd4 (N:=["thing"]) (ks:=[none]) (zc2 (K:=K) rfl (pq 0)) (fun _ _ _ _ _=>(za6 (i:=0) nb_3 rfl (by eq_refl))) (fun _ _ _ _ _=>zb7) (fun _ _ _ _ _=>(pD zcj9 hr zb6 (za0 (pq 0) za1))) (.skip .nil)) za1))))))) (za4 (zb1 zq9)) zc7)
   (za4 (zb1 (pB (zam0 (K:=K) rfl rfl) N.all_ zx3 (za0 (zd4 (N:=["one","other"]) (ks:=[none,none]) (zbv9 (K:=K) rfl N.zip_ (za0 (pq 0) (za0 (zk7 (slXK (K:=K) rfl) (pq 0) (zu3 za3) zo1) za1))) (fun _ _ _ _ _=>(zi9 (K:=K) (n:=2) rfl rfl (zb0 (za6 (i:=0) nb_4 rfl (by eq_refl)) (zb0 (za6 (i:=1) nb_4 rfl (by eq_refl)) zj2)))) (fun _ _ _ _ _=>zb7) (fun _ _ _ _ _=>(peC (oLtX (by exact hu)) (zk7 (slXK (K:=K) rfl) (pq 0) zo1 (zu3 za3)) (zk7 (slXK (K:=K) rfl) (pq 1) zo1 (zu3 za3)))) (.skip (.skip .nil))) za1))))),?_⟩
 refine zg9 h (.inr (.inr (.inl rfl))) ?_
 cases h
 case lst a xs ds e l=>
  have ll:=l.len
  obtain⟨dl,dm⟩:=zn6 hs
  refine zc6 (br_T ?_)
  refine za9 e ?_
  refine zk9 (Wk.list (SqL.of e)) (by rw[zcx6];omega) (fun i=>.bl (zs4 (ds.getD i .none))) (fun _=>true) (fun j σ=>∃ t:Option V,σ=[t]) ⟨none,rfl⟩ ?_ ?_
  ·rintro j x σ H1 R S hj s1 hx ⟨t,rfl⟩ k _
   obtain⟨d,ed,hd⟩:=l.get j x hx
   refine br_T ?_
   refine zbt8 (hd.same s1) ?_
   ac_nf
   rw[← getD_some ed]
   exact k rfl _ _ (Same.refl _) ⟨_,rfl⟩
  intro acc H1 f1 s1 h1
  rw[ze7,ll,zo6 zs4] at h1
  refine zx6 h1 ?_
  rw[zw4]
  cases ea:ds.all zs4
  ·ac_nf
   refine zc6 (br_F ?_)
   ac_nf
   have q:Q (.bl (ds.all zs4&&incD ds)) H1:=q _ s1
   rw[ea] at q
   exact q
  have ea':∀ d∈ds,zs4 d=true:=zcn1.mp ea
  refine zc6 (br_T ?_)
  have e1:=s1 _ _ e
  refine zaa6 (SqL.of e1) (fun p2 H2 f2 s2 h2=>?_)
  rw[zt2 (by rfl')] at h2
  refine zby3 (SqL.of (s2 _ _ e1)) (SqL.of h2) ?_
  refine zk9 (Wk.zipN (n:=ds.length - 1) (SqL.of (s2 _ _ e1)) (SqL.of h2) (by rfl') (by rw[zcp5];show _<=_ - 1;omega) (.inr (by rw[zcp5,ll];rfl))) (by rw[zcx6];omega) (fun i=>.bl (ltP (keyD (ds.getD i .none)) (keyD (ds.getD (i+1) .none)))) (fun _=>true) (fun j σ=>∃ t u:Option V,σ=[t,u]) ⟨none,none,rfl⟩ ?_ ?_
  ·rintro j v σ H3 R S hj s3 ⟨p,x,y,rfl,hp,hx,hy⟩ ⟨t,u,rfl⟩ k _
   rw[zcs6,show (1:Int).toNat+j=j+1 by show 1+j=j+1;omega] at hy
   obtain⟨d,ed,hd⟩:=l.get j x hx
   obtain⟨d',ed',hd'⟩:=l.get (j+1) y hy
   have s03:=(s1.trans s2).trans s3
   obtain⟨t1,i1,j1,w1,rfl,ht1,rfl,_⟩:=zav5 (hd.same s03) (ea' d (zcl4 ed))
   obtain⟨t2,i2,j2,w2,rfl,ht2,rfl,_⟩:=zav5 (hd'.same s03) (ea' d' (zcl4 ed'))
   rw[getD_some ed,getD_some ed'] at k
   refine zf1 hp ?_
   refine br_T ?_
   refine zbx8 ht1 (fun p4 H4 f4 s4 h4=>?_)
   refine zbx8 (s4 _ _ ht2) (fun p5 H5 f5 s5 h5=>?_)
   refine ltP_rd (x:=(i1,j1)) (y:=(i2,j2)) (s5 _ _ h4) h5 ?_
   ac_nf
   exact k rfl _ _ (s4.trans s5) ⟨_,_,rfl⟩
  intro acc2 H3 f3 s3 h3
  rw[ze7] at h3
  have h3:H3 acc2=some (.lst (((List.range (ds.length - 1)).map fun i=>ltP (keyD (ds.getD i .none)) (keyD (ds.getD (i+1) .none))).map V.bl)):=by rw[h3,zcm6];rfl
  refine zx6 h3 ?_
  have q:Q (.bl (ds.all zs4&&incD ds)) H3:=q _ ((s1.trans s2).trans s3)
  rw[ea,zcq1] at q
  rw[zcu9]
  exact q
 all_goals (ac_nf;refine zc6 (br_F ?_);ac_nf;refine br_T ?_;ac_nf;exact q _ (Same.refl _))
def valG{κ:Type}[DecidableEq κ](kv:List (κ×Int))(k:κ):Option Int:=(kv.find? fun z=>decide (z.1=k)).map (·.2)
def putG{κ:Type}[DecidableEq κ](kv:List (κ×Int))(k:κ)(n:Int):List (κ×Int):=if (kv.any fun z=>decide (z.1=k))=true then kv.map (fun z=>if z.1=k then (z.1,n) else z) else kv++[(k,n)]
def addG{κ:Type}[DecidableEq κ](s:List (κ×Int))(z:κ×Int):List (κ×Int):=putG s z.1 ((valG s z.1).getD 0+z.2)
def sumG{κ:Type}[DecidableEq κ](zs:List (κ×Int)):List (κ×Int):=zs.foldl addG []
def dF{κ κ':Type}(f:κ->κ')(kv:List (κ×Int)):List (κ'×V):=kv.map fun z=>(f z.1,V.int z.2)
section
variable {κ κ':Type}[DecidableEq κ] [DecidableEq κ']
theorem zl7{z:κ×Int}{kv:List (κ×Int)}{k:κ}(e:z.1=k):valG (z :: kv) k=some z.2:=by unfold valG;rw[zcs9,decide_eq_true e];rfl
theorem zl8{z:κ×Int}{kv:List (κ×Int)}{k:κ}(e:¬ z.1=k):valG (z :: kv) k=valG kv k:=by unfold valG;rw[zcs9,decide_eq_false e]
theorem zu5{f:κ->κ'}(hf:∀ a b,f a=f b->a=b)(k:κ):∀ kv:List (κ×Int),valV (dF f kv) (f k)=(valG kv k).map V.int
 | []=>rfl
 | z :: kv=>by
  show valV ((f z.1,V.int z.2) :: dF f kv) (f k)=_
  by_cases e:z.1=k
  ·rw[zx5 (p:=(f z.1,V.int z.2)) (congrArg f e),zl7 e];rfl
  ·rw[zv8 (p:=(f z.1,V.int z.2)) (fun q=>e (hf _ _ q)),zu5 hf k kv,zl8 e]
theorem zau6{f:κ->κ'}(hf:∀ a b,f a=f b->a=b)(kv:List (κ×Int))(k:κ)(n:Int):putK (dF f kv) (f k) (.int n)=dF f (putG kv k n):=by
 unfold putK putG dF
 have e1:((kv.map fun z=>(f z.1,V.int z.2)).any fun kv=>decide (kv.1=f k))=kv.any fun z=>decide (z.1=k):=by
  rw[List.any_map]
  congr 1;funext z
  exact decide_eq_decide.mpr ⟨hf _ _,congrArg f⟩
 rw[e1]
 split
 ·rw[zcm6,zcm6]
  refine zcm8 fun z _=>?_
  show (if f z.1=f k then (f z.1,V.int n) else (f z.1,V.int z.2))=(f (if z.1=k then (z.1,n) else z).1,V.int (if z.1=k then (z.1,n) else z).2)
  by_cases e:z.1=k
  ·rw[if_pos (congrArg f e),if_pos e]
  ·rw[if_neg (fun q=>e (hf _ _ q)),if_neg e]
 ·rw[zcn4];rfl
theorem zbr9(kv:List (κ×Int))(k:κ)(n:Int):(putG kv k n).length<=kv.length+1:=by
 unfold putG
 split
 ·rw[zck9];omega
 ·rw[zcl8];exact zcm3 _
theorem zw2(zs:List (κ×Int))(z:κ×Int):sumG (zs++[z])=addG (sumG zs) z:=by unfold sumG;rw[List.foldl_append];rfl
theorem zw3(zs:List (κ×Int)):(sumG zs).length<=zs.length:=by
 have:∀ (zs s:List (κ×Int)),(zs.foldl addG s).length<=s.length+zs.length:=fun zs=>by
  induction zs with
  | nil=>exact fun s=>zcm3 _
  | cons z zs ih=>
   intro s
   have h1:=ih (addG s z)
   have h2:(addG s z).length<=s.length+1:=zbr9 _ _ _
   rw[List.foldl_cons,zcn6]
   omega
 have:=this zs []
 unfold sumG
 simpa using this
theorem zan0{zs:List (κ×Int)}{z:κ×Int}(h:zs[i]?=some z):sumG (zs.take (i+1))=addG (sumG (zs.take i)) z:=by
 rw[zcx1,h];exact zw2 _ _
end
theorem zal8(a b:Int)(h:(Sum.inl a:Key)=Sum.inl b):a=b:=Sum.inl.inj h
theorem zz3(a b:Int×Int)(h:pK a=pK b):a=b:=by
 unfold pK at h
 simp only[List.cons.injEq,Sum.inl.injEq,and_true] at h
 exact Prod.ext h.1 h.2
@[irreducible] noncomputable def zh6:Sp:=fun vs H Q _=>
 (∃ (p:Addr) (ts:List Addr) (zs:List (Int×Int)),vs=[.ref p]/\H p=some (.lst (ts.map V.ref))/\ts.length=zs.length/\zs.length<=2000/\(∀ (i:Nat) t z,ts[i]?=some t->zs[i]?=some z->H t=some (.tup [.int z.1,.int z.2]))/\∀ r H',H r=none->Same H H'->H' r=some (.dK (dF Sum.inl (sumG zs)))->Q (.ref r) H') ∨
 ∃ (p:Addr) (ts:List (Addr×Addr)) (zs:List ((Int×Int)×Int)),vs=[.ref p]/\H p=some (.lst (ts.map fun t=>V.ref t.1))/\ts.length=zs.length/\zs.length<=2000/\(∀ (i:Nat) t z,ts[i]?=some t->zs[i]?=some z->H t.1=some (.tup [.ref t.2,.int z.2])/\H t.2=some (.tup (pV z.1)))/\∀ r H',H r=none->Same H H'->H' r=some (.dT (dF pK (sumG zs)))->Q (.ref r) H'
theorem zy7{p:Addr}{ts:List Addr}{zs:List (Int×Int)}(hp:H p=some (.lst (ts.map V.ref)))(hl:ts.length=zs.length)(hz:zs.length<=2000)(ht:∀ (i:Nat) t z,ts[i]?=some t->zs[i]?=some z->H t=some (.tup [.int z.1,.int z.2]))(q:∀ r H',H r=none->Same H H'->H' r=some (.dK (dF Sum.inl (sumG zs)))->Q (.ref r) H'):zh6 [.ref p] H Q E:=by
 unfold zh6;exact .inl ⟨p,ts,zs,rfl,hp,hl,hz,ht,q⟩
theorem zbe7{p:Addr}{zs:List ((Int×Int)×Int)}(hp:H p=some (.lst (ts.map fun t=>V.ref t.1)))(hl:ts.length=zs.length)(hz:zs.length<=2000)(ht:∀ (i:Nat) t z,ts[i]?=some t->zs[i]?=some z->H t.1=some (.tup [.ref t.2,.int z.2])/\H t.2=some (.tup (pV z.1)))(q:∀ r H',H r=none->Same H H'->H' r=some (.dT (dF pK (sumG zs)))->Q (.ref r) H'):zh6 [.ref p] H Q E:=by
 unfold zh6;exact .inr ⟨p,ts,zs,rfl,hp,hl,hz,ht,q⟩
theorem zbk4{f:Addr}(F:Fun K "summed" "summed" zal7 f fd)(N:Nm mg):FnOk P w K mg base CX0 1 f fd ["pairs"] zh6:=by
 refine F.ok zw6 (fun vs H Q E h=>by unfold zh6 at h;rcases h with ⟨_,_,_,rfl,_⟩|⟨_,_,_,rfl,_⟩<;>rfl) fun _ _ _ s H vs Q E hr h=>?_
 unfold zh6 at h
 have hu:=hu40 hr
 refine⟨_,(za2 (psS (i:=1) zw6.nd zbn3)
   (za2 (zx4 PassesOwn.never rfl (zc2 (K:=K) rfl (pq 0)) (zi9 (K:=K) (n:=2) rfl rfl (zb0 (za6 (i:=2) zw6.nd rfl (by eq_refl)) (zb0 (za6 (i:=3) zw6.nd rfl (by eq_refl)) zj2))) (za4 (zby8 (by exact hu) (pq 1) (pq 2) (zc4 oAdd (zak3 (by exact hu) (pq 1) (pq 2) za3) (pq 3)))))
   (za4 (zb1 (pq 1))))),?_⟩
 rcases h with ⟨p,ts,zs,rfl,hp,hl,hz,ht,q⟩|⟨p,ts,zs,rfl,hp,hl,hz,ht,q⟩
 ·ac_nf
  refine dnK_rd (fun r H1 f1 s1 h1=>?_)
  have npr:p≠r:=za7 hp f1
  refine za9 (s1 _ _ hp) ?_
  refine zj1 (xs:=ts.map V.ref) (fun i σ I=>∃ t u:Option V,σ=[some (.ref p),some (.ref r),t,u]/\Chg r H1 I/\I r=some (.dK (dF Sum.inl (sumG (zs.take i))))) ?_ ?_ ?_ ?_
  ·exact⟨_,_,rfl,Chg.refl _ _,h1⟩
  ·rintro i σ I _ ⟨_,_,_,c,_⟩
   exact SqL.of (c _ _ npr (s1 _ _ hp))
  ·rintro i v σ I hi ⟨t',u',rfl,c,hr'⟩
   rw[zcl2] at hi
   obtain⟨t,et,rfl⟩:=zcl6.mp hi
   obtain⟨z,ez⟩:∃ z,zs[i]?=some z:=⟨_,zcl0 (by have:=(zcl1.mp et).1;omega)⟩
   have e0:=ht i t z et ez
   have e1:=c _ _ (za7 e0 f1) (s1 _ _ e0)
   refine zf1 e1 ?_
   refine zbj6 hr' ?_
   refine zbf6 hr' ?_
   have ev:(valV (dF Sum.inl (sumG (zs.take i))) (Sum.inl z.1:Key)).getD (V.int 0)=.int ((valG (sumG (zs.take i)) z.1).getD 0):=by
    rw[zu5 zal8]
    cases valG (sumG (zs.take i)) z.1<;>rfl
   rw[ev]
   refine dpK_rd hr' (by unfold dF;rw[zck9,zcx6];have:=zw3 (zs.take i);rw[zcn7] at this;omega) (fun I2 c2 h2=>?_)
   rw[zau6 zal8] at h2
   ac_nf
   exact⟨_,_,rfl,c.trans c2,by rw[zan0 ez];exact h2⟩
  ·rintro σ I ⟨t',u',rfl,c,hr'⟩
   rw[zck9,hl,zcq6] at hr'
   ac_nf
   exact q r I f1 (s1.chg f1 c) hr'
 ·ac_nf
  refine zbx5 (fun r H1 f1 s1 h1=>?_)
  have npr:p≠r:=za7 hp f1
  refine za9 (s1 _ _ hp) ?_
  refine zj1 (xs:=ts.map fun t=>V.ref t.1) (fun i σ I=>∃ t u:Option V,σ=[some (.ref p),some (.ref r),t,u]/\Chg r H1 I/\I r=some (.dT (dF pK (sumG (zs.take i))))) ?_ ?_ ?_ ?_
  ·exact⟨_,_,rfl,Chg.refl _ _,h1⟩
  ·rintro i σ I _ ⟨_,_,_,c,_⟩
   exact SqL.of (c _ _ npr (s1 _ _ hp))
  ·rintro i v σ I hi ⟨t',u',rfl,c,hr'⟩
   rw[zcl2] at hi
   obtain⟨t,et,rfl⟩:=zcl6.mp hi
   obtain⟨z,ez⟩:∃ z,zs[i]?=some z:=⟨_,zcl0 (by have:=(zcl1.mp et).1;omega)⟩
   obtain⟨e0,e0'⟩:=ht i t z et ez
   have e1:=c _ _ (za7 e0 f1) (s1 _ _ e0)
   have e2:=c _ _ (za7 e0' f1) (s1 _ _ e0')
   refine zf1 e1 ?_
   refine zbo5 hr' ?_
   refine zbg0 hr' (k:=pK z.1) e2 ?_
   have ev:(valV (dF pK (sumG (zs.take i))) (pK z.1)).getD (V.int 0)=.int ((valG (sumG (zs.take i)) z.1).getD 0):=by
    rw[zu5 zz3]
    cases valG (sumG (zs.take i)) z.1<;>rfl
   rw[ev]
   refine zbw5 hr' (k:=pK z.1) e2 (by unfold dF;rw[zck9,zcx6];have:=zw3 (zs.take i);rw[zcn7] at this;omega) (fun I2 c2 h2=>?_)
   rw[zau6 zz3] at h2
   ac_nf
   exact⟨_,_,rfl,c.trans c2,by rw[zan0 ez];exact h2⟩
  ·rintro σ I ⟨t',u',rfl,c,hr'⟩
   rw[zck9,hl,zcq6] at hr'
   ac_nf
   exact q r I f1 (s1.chg f1 c) hr'
def triD:PyData->Int×Int×Int
 | .tuple [a,b,c]=>(intD a,intD b,intD c)
 | _=>(0,0,0)
def rowF(d:PyData):List (Int×Int×Int):=(za8 d).map triD
def zg1:PyData->Bool
 | .list ds=>decide (0<ds.length)&&rowD (ds.getD 0 .none)&&decide (0<(za8 (ds.getD 0 .none)).length)
 | _=>false
theorem zx8{v:V}{d:PyData}(h:ShV H v d)(e:rowD d=true):∃ (a:Addr) (ts:List Addr) (ds:List PyData),v=.ref a/\d=.list ds/\H a=some (.lst (ts.map V.ref))/\ts.length=ds.length/\(∀ (i:Nat) t x,ts[i]?=some t->(rowF d)[i]?=some x->H t=some (.tup [.int x.1,.int x.2.1,.int x.2.2]))/\∀ x∈rowF d,0<=x.2.1/\x.2.1<=x.1/\1<=x.2.2:=by
 cases h
 case lst a xs ds e1 l=>
  have e:(ds.all zs4&&incD ds)=true:=e
  have ea:=zcn1.mp (Bool.and_eq_true_iff.mp e).1
  have key:∀ {xs:List V}{ds:List PyData},ShL H xs ds->(∀ d∈ds,zs4 d=true)->∃ ts:List Addr,xs=ts.map V.ref/\(∀ (i:Nat) t x,ts[i]?=some t->(ds.map triD)[i]?=some x->H t=some (.tup [.int x.1,.int x.2.1,.int x.2.2]))/\∀ x∈ds.map triD,0<=x.2.1/\x.2.1<=x.1/\1<=x.2.2:=fun {xs ds} l ea=>by
   induction ds generalizing xs with
   | nil=>cases l;exact⟨[],rfl,fun i t x h=>by simp at h,fun x h=>by cases h⟩
   | cons d ds ih=>
    cases l with
    | cons h1 l=>
     obtain⟨ts,rfl,k1,k2⟩:=ih l fun d hd=>ea d (.tail _ hd)
     obtain⟨t,i,j,w,rfl,ht,rfl,hj1,hj2,hw⟩:=zav5 h1 (ea _ (.head _))
     refine⟨t :: ts,rfl,fun n t' x g1 g2=>?_,fun x hx=>?_⟩
     ·match n with
      | 0=>cases g1;cases g2;exact ht
      | n+1=>exact k1 n t' x g1 g2
     ·rcases zcm1.mp hx with rfl|hx
      ·exact⟨hj1,hj2,hw⟩
      ·exact k2 x hx
  obtain⟨ts,rfl,k1,k2⟩:=key l ea
  exact⟨a,ts,ds,rfl,rfl,e1,by have:=l.len;rwa [zck9] at this,k1,k2⟩
 all_goals simp[rowD] at e
theorem ze8(ds:List PyData):(rowF (.list ds)).length=ds.length:=by unfold rowF;rw[zck9];rfl
@[irreducible] def zm7:Sp:=fun vs H Q _=>∃ (v:V) (d:PyData),vs=[v]/\ShV H v d/\sml d=true/\∀ H',Same H H'->Q (.bl (zg1 d)) H'
theorem zah9{v:V}{d:PyData}(h:ShV H v d)(hs:sml d=true)(q:∀ H',Same H H'->Q (.bl (zg1 d)) H'):zm7 [v] H Q E:=by unfold zm7;exact⟨v,d,rfl,h,hs,q⟩
theorem zbl3{f:Addr}(F:Fun K "begins" "begins" zal4 f fd)(N:Nm mg)(zci7:Def P w K mg base CX0 5 "is_row" ["row"] zm8):FnOk P w K mg base CX0 6 f fd ["stream"] zm7:=by
 refine F.ok zbj9 (fun vs H Q E h=>by unfold zm7 at h;obtain⟨_,_,rfl,_⟩:=h;rfl) fun _ _ _ s H vs Q E hr h=>?_
 unfold zm7 at h
 obtain⟨v,d,rfl,h,hs,q⟩:=h
 have hu:=hu40 hr
 refine⟨_,(za4 (zb1 (zo8 (pB (zv2 (K:=K) rfl) N.isinstance_ zb3 (za0 (pq 0) (za0 (pTy N.list_ zq5) za1))) (zo8 (peC oGt (pB (zk0 (K:=K) rfl) N.len_ ze9 (za0 (pq 0) za1)) za3) (zo8 (pD zci7 hr zb6 (za0 (zb5 (K:=K) rfl (pq 0) za3) za1)) (zo7 (peC oGt (pB (zk0 (K:=K) rfl) N.len_ ze9 (za0 (zb5 (K:=K) rfl (pq 0) za3) za1)) za3))))))),?_⟩
 refine zg9 h (.inr (.inr (.inl rfl))) ?_
 cases h
 case lst a xs ds e l=>
  have ll:=l.len
  obtain⟨dl,dm⟩:=zn6 hs
  have q:∀ H',Same H H'->Q (.bl (decide (0<ds.length)&&rowD (ds.getD 0 .none)&&decide (0<(za8 (ds.getD 0 .none)).length))) H':=q
  refine br_T ?_
  refine zc9 e ?_
  rw[ll]
  refine zn3 (fun h0=>?_) (fun h0=>?_)
  ·rw[decide_eq_true (show 0<ds.length by rfl'),zcq1] at q
   obtain⟨x0,ex0⟩:∃ x,xs[0]?=some x:=⟨_,zcl0 (by rfl')⟩
   obtain⟨d0,ed0,hd0⟩:=l.get 0 x0 ex0
   rw[getD_some ed0] at q
   have at0:atI xs 0=some x0:=zh4 (j:=0) ex0
   refine zb8 (v:=x0) e at0 ?_
   refine zbg9 hd0 (dm d0 (zcl4 ed0)) (fun H1 s1=>?_)
   cases er:rowD d0
   ·have q:=q _ s1
    rw[er] at q
    refine br_F ?_
    ac_nf
    exact q
   ·have q:=q _ s1
    rw[er,zcq1] at q
    obtain⟨b,ts,es,rfl,rfl,hb,hl,_⟩:=zx8 hd0 er
    refine br_T ?_
    refine zb8 (v:=.ref b) (s1 _ _ e) at0 ?_
    refine zc9 (s1 _ _ hb) ?_
    rw[zck9,hl]
    ac_nf
    have ed:decide ((es.length:Int)>0)=decide (0<(za8 (.list es)).length):=decide_eq_decide.mpr (by show (es.length:Int)>0↔0<es.length;omega)
    first|(rw[← ed] at q;exact q)|exact q
  ·have q:=q _ (Same.refl _)
   rw[decide_eq_false (show ¬ 0<ds.length by rfl')] at q
   ac_nf
   exact q
 all_goals (ac_nf;refine br_F ?_;ac_nf;exact q _ (Same.refl _))
def zx7(a b:PyData):Bool:=eqDI (sumG ((rowF a).map fun z=>(z.1 - z.2.1,z.2.2))) (sumG ((rowF b).map fun z=>(z.1,z.2.2)))
@[irreducible] def zt3:Sp:=fun vs H Q _=>∃ (v u:V) (d e:PyData),vs=[v,u]/\ShV H v d/\ShV H u e/\rowD d=true/\rowD e=true/\(za8 d).length<=1000/\(za8 e).length<=1000/\∀ H',Same H H'->Q (.bl (zx7 d e)) H'
theorem zbj1{v u:V}{d e:PyData}(hv:ShV H v d)(hu:ShV H u e)(rd:rowD d=true)(re:rowD e=true)(ld:(za8 d).length<=1000)(le:(za8 e).length<=1000)(q:∀ H',Same H H'->Q (.bl (zx7 d e)) H'):zt3 [v,u] H Q E:=by unfold zt3;exact⟨v,u,d,e,rfl,hv,hu,rd,re,ld,le,q⟩
theorem zbs6{f:Addr}(F:Fun K "meets" "meets" zav8 f fd)(N:Nm mg)(zch7:Def P w K mg base CX0 1 "summed" ["pairs"] zh6):FnOk P w K mg base CX0 2 f fd ["ahead","row"] zt3:=by
 refine F.ok zaz4 (fun vs H Q E h=>by unfold zt3 at h;obtain⟨_,_,_,_,rfl,_⟩:=h;rfl) fun _ _ _ s H vs Q E hr h=>?_
 unfold zt3 at h
 obtain⟨v,u,d,e,rfl,hv,hu',rd,re,ld,le,q⟩:=h
 have hu:=hu40 hr
 obtain⟨a,ts,ds,rfl,rfl,ha,hl,hp,_⟩:=zx8 hv rd
 obtain⟨b,us,es,rfl,rfl,hb,hl',hp',_⟩:=zx8 hu' re
 have ld:ds.length<=1000:=ld
 have le:es.length<=1000:=le
 refine⟨_,(za2 (psS (i:=2) zaz4.nd (pD zch7 hr zb6 (za0 (zd4 (N:=["left","sent","flow"]) (ks:=[none,none,none]) (zc2 (K:=K) rfl (pq 0)) (fun _ _ _ _ _=>(zi9 (K:=K) (n:=3) rfl rfl (zb0 (za6 (i:=0) nb_5 rfl (by eq_refl)) (zb0 (za6 (i:=1) nb_5 rfl (by eq_refl)) (zb0 (za6 (i:=2) nb_5 rfl (by eq_refl)) zj2))))) (fun _ _ _ _ _=>zb7) (fun _ _ _ _ _=>(zp0 (za0 (zc4 oSub (pq 0) (pq 1)) (za0 (pq 2) za1)))) (.skip (.skip (.skip .nil)))) za1)))
   (za4 (zb1 (peC (zz7 (K:=K) rfl (by exact hu)) (pq 2) (pD zch7 hr zb6 (za0 (zd4 (N:=["left","sent","flow"]) (ks:=[none,none,none]) (zc2 (K:=K) rfl (pq 1)) (fun _ _ _ _ _=>(zi9 (K:=K) (n:=3) rfl rfl (zb0 (za6 (i:=0) nb_5 rfl (by eq_refl)) (zb0 (za6 (i:=1) nb_5 rfl (by eq_refl)) (zb0 (za6 (i:=2) nb_5 rfl (by eq_refl)) zj2))))) (fun _ _ _ _ _=>zb7) (fun _ _ _ _ _=>(zp0 (za0 (pq 0) (za0 (pq 2) za1)))) (.skip (.skip (.skip .nil)))) za1)))))),?_⟩
 refine za9 ha ?_
 refine zw7 (Wk.list (SqL.of ha)) (by rw[zck9,zcx6];omega) (fun i=>.tup [.int (((rowF (.list ds)).getD i (0,0,0)).1 - ((rowF (.list ds)).getD i (0,0,0)).2.1),.int ((rowF (.list ds)).getD i (0,0,0)).2.2]) (fun j σ=>∃ t u w:Option V,σ=[t,u,w]) ⟨none,none,none,rfl⟩ ?_ ?_
 ·rintro i x σ I R S hi s1 hx ⟨_,_,_,rfl⟩ k
  rw[zck9] at hi
  rw[zcl2] at hx
  obtain⟨t,et,rfl⟩:=zcl6.mp hx
  obtain⟨z,ez⟩:∃ z,(rowF (.list ds))[i]?=some z:=⟨_,zcl0 (by rw[ze8];omega)⟩
  rw[show (rowF (.list ds)).getD i (0,0,0)=z by rw[zcl3,ez];rfl] at k
  refine zf1 (s1 _ _ (hp i t z et ez)) ?_
  refine br_T ?_
  refine zd6 (fun p I1 f1 r1 k1=>?_)
  ac_nf
  exact k _ _ _ f1 r1 k1 ⟨_,_,_,rfl⟩
 rintro l1 ps1 H1 F1
 rw[zck9] at F1
 refine zy7 (zs:=(rowF (.list ds)).map fun z=>(z.1 - z.2.1,z.2.2)) F1.out (by rw[F1.len,zck9,ze8];exact hl) (by rw[zck9,ze8];omega) (fun i t z g1 g2=>?_) (fun r2 H2 f2 s2 h2=>?_)
 ·rw[zcl2] at g2
  obtain⟨y,ey,rfl⟩:=zcl6.mp g2
  have:=(F1.row i t g1).2
  rw[show (rowF (.list ds)).getD i (0,0,0)=y by rw[zcl3,ey];rfl] at this
  exact this
 have hb2:=s2 _ _ (F1.same _ _ hb)
 refine za9 hb2 ?_
 refine zw7 (Wk.list (SqL.of hb2)) (by rw[zck9,zcx6];omega) (fun i=>.tup [.int ((rowF (.list es)).getD i (0,0,0)).1,.int ((rowF (.list es)).getD i (0,0,0)).2.2]) (fun j σ=>∃ t u w:Option V,σ=[t,u,w]) ⟨none,none,none,rfl⟩ ?_ ?_
 ·rintro i x σ I R S hi s1 hx ⟨_,_,_,rfl⟩ k
  rw[zck9] at hi
  rw[zcl2] at hx
  obtain⟨t,et,rfl⟩:=zcl6.mp hx
  obtain⟨z,ez⟩:∃ z,(rowF (.list es))[i]?=some z:=⟨_,zcl0 (by rw[ze8];omega)⟩
  rw[show (rowF (.list es)).getD i (0,0,0)=z by rw[zcl3,ez];rfl] at k
  refine zf1 (s1 _ _ (s2 _ _ (F1.same _ _ (hp' i t z et ez)))) ?_
  refine br_T ?_
  refine zd6 (fun p I1 f1 r1 k1=>?_)
  ac_nf
  exact k _ _ _ f1 r1 k1 ⟨_,_,_,rfl⟩
 rintro l3 ps3 H3 F3
 rw[zck9] at F3
 refine zy7 (zs:=(rowF (.list es)).map fun z=>(z.1,z.2.2)) F3.out (by rw[F3.len,zck9,ze8];exact hl') (by rw[zck9,ze8];omega) (fun i t z g1 g2=>?_) (fun r4 H4 f4 s4 h4=>?_)
 ·rw[zcl2] at g2
  obtain⟨y,ey,rfl⟩:=zcl6.mp g2
  have:=(F3.row i t g1).2
  rw[show (rowF (.list es)).getD i (0,0,0)=y by rw[zcl3,ey];rfl] at this
  exact this
 refine eqD_rd (s4 _ _ (F3.same _ _ h2)) h4 ?_
 ac_nf
 exact q _ (((F1.same.trans s2).trans F3.same).trans s4)
def zbl5(h:Int)(d:PyData):Bool:=(rowF d).all fun z=>decide (z.1=h)
def goneD(d:PyData):Bool:=(rowF d).all fun z=>decide (z.1=z.2.1)
def zaf2(ds:List PyData):Bool:=(List.range (ds.length - 1)).all fun i=>zx7 (ds.getD i .none) (ds.getD (i+1) .none)
def zo0(h f:Int)(d:PyData):Bool:=zg1 d&&(decide (((za8 d).length:Int)=f)&&((za8 d).all rowD&&(zbl5 h ((za8 d).getD 0 .none)&&(goneD ((za8 d).getD ((za8 d).length - 1) .none)&&zaf2 (za8 d)))))
theorem zay8{α:Type}(g:α->Bool)(xs:List α):(xs.map g).all id=xs.all g:=by rw[zcu9];rfl
theorem zaq5(g:Int×Int×Int->Bool):(List.range xs.length).map (fun i=>V.bl (g (xs.getD i (0,0,0))))=(xs.map g).map V.bl:=by
 apply zcp0
 intro i
 rw[zcl2,zcl2,zcl2]
 by_cases h:i<xs.length
 ·rw[zcp1 h,zcl0 h]
  simp[h]
 ·rw[zcn0 (by simp;omega),zcn0 (by rfl')]
  rfl
@[irreducible] def zi2:Sp:=fun vs H Q _=>∃ (h f:Int) (v:V) (d:PyData),vs=[.int h,.int f,v]/\ShV H v d/\sml d=true/\∀ H',Same H H'->Q (.bl (zo0 h f d)) H'
theorem zbd5{h f:Int}{v:V}{d:PyData}(hv:ShV H v d)(hs:sml d=true)(q:∀ H',Same H H'->Q (.bl (zo0 h f d)) H'):zi2 [.int h,.int f,v] H Q E:=by unfold zi2;exact⟨h,f,v,d,rfl,hv,hs,q⟩
theorem zat0{f:Addr}(F:Fun K "is_stream" "is_stream" zv5 f fd)(N:Nm mg)(zci8:Def P w K mg base CX0 6 "begins" ["stream"] zm7)(zci7:Def P w K mg base CX0 5 "is_row" ["row"] zm8)(zck6:Def P w K mg base CX0 2 "meets" ["ahead","row"] zt3):FnOk P w K mg base CX0 7 f fd ["hosts","fields","stream"] zi2:=by
 refine F.ok zt1 (fun vs H Q E h=>by unfold zi2 at h;obtain⟨_,_,_,_,rfl,_⟩:=h;rfl) fun _ _ _ s H vs Q E hr h=>?_
 unfold zi2 at h
 obtain⟨h,f,v,d,rfl,hv,hs,q⟩:=h
 have hu:=hu40 hr
 refine⟨_,(za2 (psIf (ptW (pwOr (zi7 (ptV (pD zci8 hr zb6 (za0 (pq 2) za1)))) (pwOr (ptC (zt7 (K:=K) rfl (by exact hu)) (pB (zk0 (K:=K) rfl) N.len_ ze9 (za0 (pq 2) za1)) (pq 1)) (zp4 (zi7 (ptV (pB (zam0 (K:=K) rfl rfl) N.all_ zx3 (za0 (zd4 (N:=["row"]) (ks:=[none]) (zc2 (K:=K) rfl (pq 2)) (fun _ _ _ _ _=>(za6 (i:=0) nb_6 rfl (by eq_refl))) (fun _ _ _ _ _=>zb7) (fun _ _ _ _ _=>(pD zci7 hr zb6 (za0 (pq 0) za1))) (.skip .nil)) za1)))))))) (za4 (zb1 zq9)) zc7)
   (za2 (psS (i:=3) zt1.nd (pB (zam0 (K:=K) rfl rfl) N.all_ zx3 (za0 (zd4 (N:=["left","sent","flow","hosts"]) (ks:=[none,none,none,some 0]) (zc2 (K:=K) rfl (zb5 (K:=K) rfl (pq 2) za3)) (fun _ _ _ _ _=>(zi9 (K:=K) (n:=3) rfl rfl (zb0 (za6 (i:=0) nb_7 rfl (by eq_refl)) (zb0 (za6 (i:=1) nb_7 rfl (by eq_refl)) (zb0 (za6 (i:=2) nb_7 rfl (by eq_refl)) zj2))))) (fun _ _ _ _ _=>zb7) (fun _ _ _ _ _=>(peC (zz7 (K:=K) rfl (by exact hu)) (pq 0) (pq 3))) (.skip (.skip (.skip (.take rfl rfl (by eq_refl) .nil))))) za1)))
   (za2 (psS (i:=4) zt1.nd (pB (zam0 (K:=K) rfl rfl) N.all_ zx3 (za0 (zd4 (N:=["left","sent","flow"]) (ks:=[none,none,none]) (zc2 (K:=K) rfl (zb5 (K:=K) rfl (pq 2) (pe_un uNeg za3))) (fun _ _ _ _ _=>(zi9 (K:=K) (n:=3) rfl rfl (zb0 (za6 (i:=0) nb_8 rfl (by eq_refl)) (zb0 (za6 (i:=1) nb_8 rfl (by eq_refl)) (zb0 (za6 (i:=2) nb_8 rfl (by eq_refl)) zj2))))) (fun _ _ _ _ _=>zb7) (fun _ _ _ _ _=>(peC (zz7 (K:=K) rfl (by exact hu)) (pq 0) (pq 1))) (.skip (.skip (.skip .nil)))) za1)))
   (za4 (zb1 (zo8 (pq 3) (zo8 (pq 4) (zo7 (pB (zam0 (K:=K) rfl rfl) N.all_ zx3 (za0 (zd4 (N:=["ahead","row"]) (ks:=[none,none]) (zbv9 (K:=K) rfl N.zip_ (za0 (pq 2) (za0 (zk7 (slXK (K:=K) rfl) (pq 2) (zu3 za3) zo1) za1))) (fun _ _ _ _ _=>(zi9 (K:=K) (n:=2) rfl rfl (zb0 (za6 (i:=0) nb_9 rfl (by eq_refl)) (zb0 (za6 (i:=1) nb_9 rfl (by eq_refl)) zj2)))) (fun _ _ _ _ _=>zb7) (fun _ _ _ _ _=>(pD zck6 hr zb6 (za0 (pq 0) (za0 (pq 1) za1)))) (.skip (.skip .nil))) za1)))))))))),?_⟩
 refine zah9 hv hs (fun H1 s1=>?_)
 unfold zo0 at q
 cases eb:zg1 d
 ·have q:=q _ s1
  rw[eb] at q
  refine zc6 (br_F ?_)
  refine br_T ?_
  ac_nf
  exact q
 cases hv
 case lst a xs ds e l=>
  have q:∀ H',Same H H'->Q (.bl (true&&(decide ((ds.length:Int)=f)&&(ds.all rowD&&(zbl5 h (ds.getD 0 .none)&&(goneD (ds.getD (ds.length - 1) .none)&&zaf2 ds)))))) H':=fun H' s'=>by
   have q:=q H' s'
   rw[eb] at q
   exact q
  have ll:=l.len
  obtain⟨dl,dm⟩:=zn6 hs
  have d0:0<ds.length:=by
   have eb:(decide (0<ds.length)&&rowD (ds.getD 0 .none)&&decide (0<(za8 (ds.getD 0 .none)).length))=true:=eb
   rw[zcm4,zcm4] at eb
   exact of_decide_eq_true eb.1.1
  have e1:=s1 _ _ e
  refine zc6 (br_T ?_)
  refine zc9 e1 ?_
  rw[ll]
  refine zc6 (zn3 (fun hf=>?_) (fun hf=>?_))
  ·rw[decide_eq_true hf,zcq1,zcq1] at q
   refine za9 e1 ?_
   refine zk9 (Wk.list (SqL.of e1)) (by rw[zcx6];omega) (fun i=>.bl (rowD (ds.getD i .none))) (fun _=>true) (fun j σ=>∃ t:Option V,σ=[t]) ⟨none,rfl⟩ ?_ ?_
   ·rintro j x σ H2 R S hj s2 hx ⟨t,rfl⟩ k _
    obtain⟨d,ed,hd⟩:=l.get j x hx
    refine br_T ?_
    refine zbg9 (hd.same (s1.trans s2)) (dm d (zcl4 ed)) (fun H3 s3=>?_)
    ac_nf
    rw[← getD_some ed]
    exact k rfl _ _ s3 ⟨_,rfl⟩
   intro acc H2 f2 s2 h2
   rw[ze7,ll,zo6 rowD] at h2
   have s02:=s1.trans s2
   refine zx6 h2 ?_
   rw[zw4]
   cases ea:ds.all rowD
   ·have q:=q _ s02
    rw[ea] at q
    refine zc6 (br_F ?_)
    ac_nf
    exact q
   have ea':∀ d∈ds,rowD d=true:=zcn1.mp ea
   rw[ea,zcq1] at q
   refine zc6 (br_T ?_)
   obtain⟨x0,ex0⟩:∃ x,xs[0]?=some x:=⟨_,zcl0 (by rfl')⟩
   obtain⟨d0',ed0,hd0⟩:=l.get 0 x0 ex0
   have m0:=dm d0' (zcl4 ed0)
   obtain⟨r0,ts0,es0,rfl,rfl,hr0,hl0,hp0,_⟩:=zx8 hd0 (ea' d0' (zcl4 ed0))
   have b0:=(zn6 m0).1
   rw[getD_some ed0] at q
   have e2:=s2 _ _ e1
   refine zb8 (v:=.ref r0) e2 (zh4 (j:=0) ex0) ?_
   refine za9 (s02 _ _ hr0) ?_
   refine zk9 (Wk.list (SqL.of (s02 _ _ hr0))) (by rw[zck9,zcx6];omega) (fun i=>.bl (decide (((rowF (.list es0)).getD i (0,0,0)).1=h))) (fun _=>true) (fun j σ=>∃ t u w:Option V,σ=[t,u,w,some (.int h)]) ⟨none,none,none,rfl⟩ ?_ ?_
   ·rintro i x σ I R S hi s3 hx ⟨_,_,_,rfl⟩ k _
    rw[zck9] at hi
    rw[zcl2] at hx
    obtain⟨t,et,rfl⟩:=zcl6.mp hx
    obtain⟨z,ez⟩:∃ z,(rowF (.list es0))[i]?=some z:=⟨_,zcl0 (by rw[ze8];omega)⟩
    rw[show (rowF (.list es0)).getD i (0,0,0)=z by rw[zcl3,ez];rfl] at k
    refine zf1 (s3 _ _ (s02 _ _ (hp0 i t z et ez))) ?_
    refine br_T ?_
    ac_nf
    exact k rfl _ _ (Same.refl _) ⟨_,_,_,rfl⟩
   intro acc3 H3 f3 s3 h3
   rw[ze7,zck9,hl0,← ze8 es0,zaq5 fun z=>decide (z.1=h)] at h3
   refine zx6 h3 ?_
   rw[zay8]
   obtain⟨x1,ex1⟩:∃ x,xs[ds.length - 1]?=some x:=⟨_,zcl0 (by rfl')⟩
   obtain⟨d1',ed1,hd1⟩:=l.get _ x1 ex1
   have m1:=dm d1' (zcl4 ed1)
   obtain⟨r1,ts1,es1,rfl,rfl,hr1,hl1,hp1,_⟩:=zx8 hd1 (ea' d1' (zcl4 ed1))
   have b1:=(zn6 m1).1
   rw[getD_some ed1] at q
   have s03:=s02.trans s3
   have e3:=s3 _ _ e2
   refine zb8 (v:=.ref r1) e3 (zbq2 (n:=ds.length - 1) (by rfl') ex1) ?_
   refine za9 (s03 _ _ hr1) ?_
   refine zk9 (Wk.list (SqL.of (s03 _ _ hr1))) (by rw[zck9,zcx6];omega) (fun i=>.bl (decide (((rowF (.list es1)).getD i (0,0,0)).1=((rowF (.list es1)).getD i (0,0,0)).2.1))) (fun _=>true) (fun j σ=>∃ t u w:Option V,σ=[t,u,w]) ⟨none,none,none,rfl⟩ ?_ ?_
   ·rintro i x σ I R S hi s4 hx ⟨_,_,_,rfl⟩ k _
    rw[zck9] at hi
    rw[zcl2] at hx
    obtain⟨t,et,rfl⟩:=zcl6.mp hx
    obtain⟨z,ez⟩:∃ z,(rowF (.list es1))[i]?=some z:=⟨_,zcl0 (by rw[ze8];omega)⟩
    rw[show (rowF (.list es1)).getD i (0,0,0)=z by rw[zcl3,ez];rfl] at k
    refine zf1 (s4 _ _ (s03 _ _ (hp1 i t z et ez))) ?_
    refine br_T ?_
    ac_nf
    exact k rfl _ _ (Same.refl _) ⟨_,_,_,rfl⟩
   intro acc4 H4 f4 s4 h4
   rw[ze7,zck9,hl1,← ze8 es1,zaq5 fun z=>decide (z.1=z.2.1)] at h4
   refine zx6 h4 ?_
   rw[zay8]
   have s04:=s03.trans s4
   have e4:=s4 _ _ e3
   have q:∀ H',Same H H'->Q (.bl ((rowF (.list es0)).all (fun z=>decide (z.1=h))&&((rowF (.list es1)).all (fun z=>decide (z.1=z.2.1))&&zaf2 ds))) H':=q
   ac_nf
   cases e5:(rowF (.list es0)).all (fun z=>decide (z.1=h))
   ·have q:=q _ s04
    rw[e5] at q
    refine br_F ?_
    ac_nf
    exact q
   rw[e5,zcq1] at q
   refine br_T ?_
   ac_nf
   cases e6:(rowF (.list es1)).all (fun z=>decide (z.1=z.2.1))
   ·have q:=q _ s04
    rw[e6] at q
    refine br_F ?_
    ac_nf
    exact q
   rw[e6,zcq1] at q
   refine br_T ?_
   refine zaa6 (SqL.of e4) (fun p5 H5 f5 s5 h5=>?_)
   rw[zt2 (by rfl')] at h5
   have s05:=s04.trans s5
   refine zby3 (SqL.of (s5 _ _ e4)) (SqL.of h5) ?_
   refine zk9 (Wk.zipN (n:=ds.length - 1) (SqL.of (s5 _ _ e4)) (SqL.of h5) (by rfl') (by rw[zcp5];show _<=_ - 1;omega) (.inr (by rw[zcp5,ll];rfl))) (by rw[zcx6];omega) (fun i=>.bl (zx7 (ds.getD i .none) (ds.getD (i+1) .none))) (fun _=>true) (fun j σ=>∃ t u:Option V,σ=[t,u]) ⟨none,none,rfl⟩ ?_ ?_
   ·rintro j v σ H6 R S hj s6 ⟨p,x,y,rfl,hp,hx,hy⟩ ⟨t,u,rfl⟩ k _
    rw[zcs6,show (1:Int).toNat+j=j+1 by show 1+j=j+1;omega] at hy
    obtain⟨d,ed,hd⟩:=l.get j x hx
    obtain⟨d',ed',hd'⟩:=l.get (j+1) y hy
    have s06:=s05.trans s6
    rw[getD_some ed,getD_some ed'] at k
    have il:∀ {d:PyData},sml d=true->rowD d=true->(za8 d).length<=1000:=fun {d} m r=>by
     cases d with
     | list es=>exact (zn6 m).1
     | _=>simp[rowD] at r
    have rd:=ea' d (zcl4 ed)
    have rd':=ea' d' (zcl4 ed')
    refine zf1 hp ?_
    refine br_T ?_
    refine zbj1 (hd.same s06) (hd'.same s06) rd rd' (il (dm d (zcl4 ed)) rd) (il (dm d' (zcl4 ed')) rd') (fun H7 s7=>?_)
    ac_nf
    exact k rfl _ _ s7 ⟨_,_,rfl⟩
   intro acc6 H6 f6 s6 h6
   rw[ze7] at h6
   have h6:H6 acc6=some (.lst (((List.range (ds.length - 1)).map fun i=>zx7 (ds.getD i .none) (ds.getD (i+1) .none)).map V.bl)):=by rw[h6,zcm6];rfl
   refine zx6 h6 ?_
   rw[zcu9]
   exact q _ (s05.trans s6)
  ·have q:=q _ s1
   rw[decide_eq_false hf] at q
   refine br_T ?_
   ac_nf
   exact q
 all_goals simp[zg1] at eb
structure RwAt(H:Hp)(p:Addr)(bs:List Addr)(xs:List (Int×Int×Int)):Prop where
 out:H p=some (.lst (bs.map V.ref))
 len:bs.length=xs.length
 row:∀ (i:Nat) b x,bs[i]?=some b->xs[i]?=some x->H b=some (.tup [.int x.1,.int x.2.1,.int x.2.2])
theorem RwAt.same{p:Addr}{bs:List Addr}(R:RwAt H p bs xs)(s:Same H H'):RwAt H' p bs xs:=⟨s _ _ R.out,R.len,fun i b x e1 e2=>s _ _ (R.row i b x e1 e2)⟩
def flw(ms:List (List Int×Int))(i:Nat):List ((Int×Int)×Int):=ms.map fun x=>(((x.1.drop i).sum,x.1.getD i 0),x.2)
def keyT(z:Int×Int×Int):Int×Int:=(z.1,z.2.1)
def zl9(ms:List (List Int×Int))(i:Nat)(xs:List (Int×Int×Int)):Prop:=OrdK (xs.map keyT)/\(∀ k,k∈xs.map keyT↔k∈(sumG (flw ms i)).map (·.1))/\∀ z∈xs,valG (sumG (flw ms i)) (keyT z)=some z.2.2
theorem zaj8{κ:Type}[DecidableEq κ]{k:κ}:∀ {kv:List (κ×Int)},k∈kv.map (·.1)->∃ n,valG kv k=some n
 | [],h=>by cases h
 | z :: kv,h=>by
  by_cases e:z.1=k
  ·exact⟨z.2,zl7 e⟩
  ·rw[zl8 e]
   rw[zcn5] at h
   rcases zcm1.mp h with h|h
   ·exact absurd h.symm e
   ·exact zaj8 h
@[irreducible] def zo5:Sp:=fun vs H Q _=>∃ (m:Addr) (ts:List (Addr×Addr)) (ms:List (List Int×Int)) (i:Nat),vs=[.ref m,.int i]/\zc0 H m ts ms/\ms.length<=1000/\(sumG (flw ms i)).length<64/\(∀ x∈ms,i<x.1.length/\x.1.length<=1000)/\∀ r bs xs H',Same H H'->RwAt (nw H H') r bs xs->zl9 ms i xs->xs.length<=ms.length->Q (.ref r) H'
theorem zbf9{m:Addr}(M:zc0 H m ts ms)(hl:ms.length<=1000)(hk:(sumG (flw ms i)).length<64)(hi:∀ x∈ms,i<x.1.length/\x.1.length<=1000)(q:∀ r bs xs H',Same H H'->RwAt (nw H H') r bs xs->zl9 ms i xs->xs.length<=ms.length->Q (.ref r) H'):zo5 [.ref m,.int i] H Q E:=by unfold zo5;exact⟨m,ts,ms,i,rfl,M,hl,hk,hi,q⟩
theorem zbp1{f:Addr}(F:Fun K "row_of" "row_of" zal5 f fd)(N:Nm mg)(zch7:Def P w K mg base CX0 1 "summed" ["pairs"] zh6):FnOk P w K mg base CX0 2 f fd ["mix","field"] zo5:=by
 refine F.ok zaq7 (fun vs H Q E h=>by unfold zo5 at h;obtain⟨_,_,_,_,rfl,_⟩:=h;rfl) fun _ _ _ s H vs Q E hr h=>?_
 unfold zo5 at h
 obtain⟨m,ts,ms,i,rfl,M,hl,hk,hi,q⟩:=h
 have hu:=hu40 hr
 have ml:=M.len
 refine⟨_,(za2 (psS (i:=2) zaq7.nd (pD zch7 hr zb6 (za0 (zd4 (N:=["plan","weight","field"]) (ks:=[none,none,some 1]) (zc2 (K:=K) rfl (pq 0)) (fun _ _ _ _ _=>(zi9 (K:=K) (n:=2) rfl rfl (zb0 (za6 (i:=0) nb_11 rfl (by eq_refl)) (zb0 (za6 (i:=1) nb_11 rfl (by eq_refl)) zj2)))) (fun _ _ _ _ _=>zb7) (fun _ _ _ _ _=>(zp0 (za0 (zp0 (za0 (pB (zan5 (K:=K) rfl rfl) N.sum_ zw5 (za0 (zk7 (slXK (K:=K) rfl) (pq 0) (zu3 (pq 2)) zo1) za1)) (za0 (zb5 (K:=K) rfl (pq 0) (pq 2)) za1))) (za0 (pq 1) za1)))) (.skip (.skip (.take rfl rfl (by eq_refl) .nil)))) za1)))
   (za4 (zb1 (zd4 (N:=["left","sent","flows"]) (ks:=[none,none,some 2]) (zc2 (K:=K) rfl (pB (zby2 rfl) N.sorted_ zab8 (za0 (pq 2) za1))) (fun _ _ _ _ _=>(zi9 (K:=K) (n:=2) rfl rfl (zb0 (za6 (i:=0) nb_12 rfl (by eq_refl)) (zb0 (za6 (i:=1) nb_12 rfl (by eq_refl)) zj2)))) (fun _ _ _ _ _=>zb7) (fun _ _ _ _ _=>(zp0 (za0 (pq 0) (za0 (pq 1) (za0 (zbw2 (by exact hu) (pq 2) (zp0 (za0 (pq 0) (za0 (pq 1) za1)))) za1))))) (.skip (.skip (.take rfl rfl (by eq_refl) .nil))))))),?_⟩
 refine za9 M.out ?_
 refine zac6 (Wk.list (SqL.of M.out)) (by rw[zck9,zcx6];omega) (fun acc j ys σ I=>∃ (t u:Option V) (qs:List (Addr×Addr)),σ=[t,u,some (.int i)]/\ys=(qs.map fun t=>V.ref t.1)/\qs.length=j/\∀ (k:Nat) q x,qs[k]?=some q->ms[k]?=some x->rm acc I q.1=some (.tup [.ref q.2,.int x.2])/\rm acc I q.2=some (.tup (pV ((x.1.drop i).sum,x.1.getD i 0)))) ?_ ?_ ?_ ?_
 ·intro acc I f1 s1 h1
  exact⟨none,none,[],rfl,rfl,rfl,fun k q x e=>by simp at e⟩
 ·rintro acc j ys σ I I' s' ⟨t,u,qs,r1,r2,r3,r5⟩
  exact⟨t,u,qs,r1,r2,r3,fun k q x e1 e2=>⟨Same.rm s' _ _ (r5 k q x e1 e2).1,Same.rm s' _ _ (r5 k q x e1 e2).2⟩⟩
 ·rintro acc j v ys σ I R S hj facc s1 hacc hx ⟨t',u',qs,rfl,rfl,ql,qp⟩ kR _
  obtain⟨t,x,rfl,e1,e2,e3,e4⟩:=(M.same s1).elt hx
  obtain⟨ix,il⟩:=hi x (zcl4 e2)
  refine zf1 e3 ?_
  refine br_T ?_
  refine zaa6 (SqL.of e4) (fun p0 I0 f0 r0 k0=>?_)
  rw[zt2 (by rfl'),zcr3,← List.map_drop] at k0
  refine zaa7 k0 ?_
  refine zb8 (v:=.int (x.1.getD i 0)) (r0 _ _ e4) (zbw7 (by rfl') (by rw[zcr3,zcl3,zcl0 ix];rfl)) ?_
  refine zd6 (fun p1 I1 f1 r1 k1=>?_)
  refine zd6 (fun p2 I2 f2 r2 k2=>?_)
  ac_nf
  have n1:p1≠acc:=Ne.symm (za7 (r0 _ _ hacc) f1)
  have n2:p2≠acc:=Ne.symm (za7 ((r0.trans r1) _ _ hacc) f2)
  have r12:=(r0.trans r1).trans r2
  refine kR _ _ _ r12 (fun I3 c3=>⟨_,_,qs++[(p2,p1)],rfl,by rw[zcn4];rfl,by rw[zcl8,ql];rfl,fun k q y g1 g2=>?_⟩)
  by_cases hk:k<qs.length
  ·rw[zcn2 hk] at g1
   have w:=qp k q y g1 g2
   have up:Same (rm acc I) (rm acc I3):=(Same.rm r12).trans (Chg.rm c3)
   exact⟨up _ _ w.1,up _ _ w.2⟩
  ·rw[zcm9 (by rfl')] at g1
   have k0':k - qs.length=0:=by
    have:=(zcl1.mp g1).1
    simp at this;omega
   rw[k0'] at g1
   cases g1
   have:k=j:=by rfl'
   subst this
   rw[e2] at g2
   cases g2
   exact⟨Chg.rm c3 _ _ (zp5 n2 k2),Chg.rm c3 _ _ (zp5 n1 (r2 _ _ k1))⟩
 rintro acc ys σ H1 facc s1 hacc ⟨t',u',qs,rfl,rfl,ql,qp⟩
 rw[zck9] at ql
 refine zbe7 (zs:=flw ms i) hacc (by unfold flw;rw[zck9];omega) (by unfold flw;rw[zck9];omega) (fun k t z g1 g2=>?_) (fun r2 H2 f2 s2 h2=>?_)
 ·unfold flw at g2
  rw[zcl2] at g2
  obtain⟨x,ex,rfl⟩:=zcl6.mp g2
  exact⟨zs7 acc H1 _ _ (qp k t x g1 ex).1,zs7 acc H1 _ _ (qp k t x g1 ex).2⟩
 have sl:(sumG (flw ms i)).length<=ms.length:=by have:=zw3 (flw ms i);unfold flw at this ⊢;rw[zck9] at this;exact this
 have h2':H2 r2=some (.dT (((sumG (flw ms i)).map fun z=>(z.1,V.int z.2)).map fun z=>(pK z.1,z.2))):=by rw[h2,zcm6];rfl
 refine zbv7 h2' (by rw[zck9];omega) (fun p3 H3 bs ks f3 s3 pm od pr h3=>?_)
 have pm:ks.Perm ((sumG (flw ms i)).map (·.1)):=by rw[zcm6] at pm;exact pm
 have bl:bs.length=ks.length:=pr.length
 have kl:ks.length<=ms.length:=by have:=pm.length_eq;rw[zck9] at this;omega
 have eg:∀ x∈ks,valG (sumG (flw ms i)) x=some ((valG (sumG (flw ms i)) x).getD 0):=fun x hx=>by
  obtain⟨n,e⟩:=zaj8 (pm.mem_iff.mp hx)
  rw[e];rfl
 refine za9 h3 ?_
 refine zw7 (n:=(bs.map V.ref).length) (Wk.list (SqL.of h3)) (by rw[zck9,zcx6];omega) (fun j=>.tup [.int (ks.getD j (0,0)).1,.int (ks.getD j (0,0)).2,.int ((valG (sumG (flw ms i)) (ks.getD j (0,0))).getD 0)]) (fun j σ=>∃ t u:Option V,σ=[t,u,some (.ref r2)]) ⟨none,none,rfl⟩ ?_ ?_
 ·rintro j v σ H4 R' S' hj s4 hx ⟨t,u,rfl⟩ k
  rw[zcl2] at hx
  obtain⟨b,eb,rfl⟩:=zcl6.mp hx
  obtain⟨x,ex⟩:∃ x,ks[j]?=some x:=⟨ks[j]'(by have:=(zcl1.mp eb).1;omega),zcl0 _⟩
  have eb':=s4 _ _ (zae8 pr j b x eb ex)
  rw[show ks.getD j (0,0)=x by rw[zcl3,ex];rfl] at k
  have h4:=s4 _ _ (s3 _ _ h2)
  refine zf1 eb' ?_
  refine br_T ?_
  refine zd6 (fun p5 H5 f5 s5 h5=>?_)
  refine zbx0 (s5 _ _ h4) (k:=pK x) h5 (by rw[zu5 zz3,eg x (zcl4 ex)];rfl) ?_
  refine zd6 (fun pa Ha fa sa ha=>?_)
  ac_nf
  exact k _ _ _ (s5.free fa) (s5.trans sa) ha ⟨_,_,rfl⟩
 ·intro acc4 ps H4 F4
  rw[zck9] at F4
  have F4l:=F4.len
  have s03:=(s1.trans s2).trans s3
  ac_nf
  refine q acc4 ps (ks.map fun x=>(x.1,x.2,(valG (sumG (flw ms i)) x).getD 0)) H4 (s03.trans F4.same) ⟨zh1 (s03.free F4.facc) F4.out,by rw[zck9];omega,fun j b x e1 e2=>?_⟩ ?_ (by rw[zck9];exact kl)
  ·rw[zcl2] at e2
   obtain⟨y,ey,rfl⟩:=zcl6.mp e2
   obtain⟨z1,z2⟩:=F4.row j b e1
   rw[show ks.getD j (0,0)=y by rw[zcl3,ey];rfl] at z2
   exact zh1 (s03.free z1) z2
  ·have em:(ks.map fun x=>(x.1,x.2,(valG (sumG (flw ms i)) x).getD 0)).map keyT=ks:=by
    rw[zcm6]
    exact (zcm8 fun x _=>rfl).trans (zcx3 _)
   refine⟨by rw[em];exact od,fun k=>by rw[em];exact pm.mem_iff,fun z hz=>?_⟩
   obtain⟨x,hx,rfl⟩:=zcm0.mp hz
   exact eg x hx
def msD(d:PyData):List (List Int×Int):=(za8 d).map fun x=>(zag3 (zn8 x),wtD x)
def zn9(d:PyData):Nat:=(zj5 (za8 d)).length
def zbn4(d:PyData):Int:=(zj5 (za8 d)).sum
theorem zbs1{v:V}{d:PyData}(h:ShV H v d)(em:mixD d=true):∃ (m:Addr) (ts:List (Addr×Addr)),v=.ref m/\zc0 H m ts (msD d)/\1<=(msD d).length/\(0<=zbn4 d/\zbn4 d<=40)/\(1<=zn9 d/\zn9 d<=8)/\∀ x∈msD d,(∀ n∈x.1,0<=n)/\x.1.length=zn9 d/\x.1.sum=zbn4 d/\1<=x.2:=by
 obtain⟨a,xs,ds,rfl,rfl,e,l,h0,hp⟩:=mix_of h em
 rw[zt0,zcm4,zcm4,zcm4] at em
 obtain⟨⟨⟨_,_⟩,sz⟩,pl⟩:=em
 unfold zs6 at sz
 rw[zcm4,decide_eq_true_eq,decide_eq_true_eq] at sz
 have pl:=zcn1.mp pl
 have key:∀ {xs:List V}{ds:List PyData},ShL H xs ds->(∀ d∈ds,zt8 d=true)->∃ ts:List (Addr×Addr),xs=(ts.map fun t=>V.ref t.1)/\ts.length=ds.length/\∀ (i:Nat) t x,ts[i]?=some t->(ds.map fun x=>(zag3 (zn8 x),wtD x))[i]?=some x->H t.1=some (.tup [.ref t.2,.int x.2])/\H t.2=some (.lst (x.1.map V.int)):=fun {xs ds} l hp=>by
  induction ds generalizing xs with
  | nil=>cases l;exact⟨[],rfl,rfl,fun i t x h=>by simp at h⟩
  | cons d ds ih=>
   cases l with
   | cons h1 l=>
    obtain⟨ts,rfl,tl,k1⟩:=ih l fun d hd=>hp d (.tail _ hd)
    obtain⟨t,p,w,ns,rfl,ht,hp',rfl,nn,hw⟩:=zaj0 h1 (hp _ (.head _))
    refine⟨(t,p) :: ts,rfl,by rw[zcn6,zcn6,tl],fun n t' x g1 g2=>?_⟩
    match n with
    | 0=>
     cases g1
     rw[zcn5,List.getElem?_cons_zero,zp1] at g2
     cases g2
     exact⟨ht,hp'⟩
    | n+1=>exact k1 n t' x g1 g2
 obtain⟨ts,rfl,tl,k1⟩:=key l hp
 refine⟨a,ts,rfl,⟨e,by unfold msD;rw[zck9];exact tl,k1⟩,by unfold msD;rw[zck9];show 1<=ds.length;omega,sz.1,⟨by have:=sz.2.1;show 1<=(zj5 ds).length;omega,by have:=sz.2.2;show (zj5 ds).length<=8;omega⟩,fun x hx=>?_⟩
 unfold msD at hx
 obtain⟨d,hd,rfl⟩:=zcm0.mp hx
 obtain⟨ns,w,rfl,nn,hw⟩:=zau5 (hp d hd)
 have p:=pl _ hd
 unfold zz4 at p
 rw[zcm4,zcm4,decide_eq_true_eq,decide_eq_true_eq] at p
 rw[zp1] at p ⊢
 exact⟨nn,by have:=p.1.2;show ns.length=(zj5 ds).length;omega,p.2,hw⟩
structure StAt(H:Hp)(p:Addr)(rs:List (Addr×List Addr))(xss:List (List (Int×Int×Int))):Prop where
 out:H p=some (.lst (rs.map fun r=>V.ref r.1))
 len:rs.length=xss.length
 row:∀ (i:Nat) r xs,rs[i]?=some r->xss[i]?=some xs->RwAt (rm p H) r.1 r.2 xs
 nd:(rs.map (·.1)).Nodup
theorem StAt.same{H H':Hp}{p:Addr}{rs:List (Addr×List Addr)}{xss:List (List (Int×Int×Int))}(R:StAt H p rs xss)(s:Same H H'):StAt H' p rs xss:=⟨s _ _ R.out,R.len,fun i r xs e1 e2=>(R.row i r xs e1 e2).same (Same.rm s),R.nd⟩
def zi6(ms:List (List Int×Int))(f:Nat)(xss:List (List (Int×Int×Int))):Prop:=xss.length=f/\∀ (i:Nat) xs,xss[i]?=some xs->zl9 ms i xs/\xs.length<=ms.length
@[irreducible] def zh9(zcg2:Addr):Sp:=fun vs H Q E=>∃ (v:V) (d:PyData),vs=[v]/\ShV H v d/\sml d=true/\(mixD d=true->((za8 d).length<=1000/\∀ i,i<zn9 d->(sumG (flw (msD d) i)).length<64)/\∀ r rs xss H',Same H H'->StAt (nw H H') r rs xss->zi6 (msD d) (zn9 d) xss->Q (.ref r) H')/\(mixD d=false->∀ H',Same H H'->E (.ref zcg2) none H')
theorem zab0{zcg2:Addr}{v:V}{d:PyData}(h:ShV H v d)(hs:sml d=true)(q:mixD d=true->((za8 d).length<=1000/\∀ i,i<zn9 d->(sumG (flw (msD d) i)).length<64)/\∀ r rs xss H',Same H H'->StAt (nw H H') r rs xss->zi6 (msD d) (zn9 d) xss->Q (.ref r) H')(qe:mixD d=false->∀ H',Same H H'->E (.ref zcg2) none H'):zh9 zcg2 [v] H Q E:=by unfold zh9;exact⟨v,d,rfl,h,hs,q,qe⟩
theorem zc5{α:Type}{as:List α}{a b:α}(h:(as++[a])[i]?=some b):(i<as.length/\as[i]?=some b)∨(i=as.length/\b=a):=by
 by_cases hi:i<as.length
 ·rw[zcn2 hi] at h
  exact .inl ⟨hi,h⟩
 ·rw[zcm9 (by rfl')] at h
  have:i - as.length=0:=by
   have:=(zcl1.mp h).1
   simp at this;omega
  rw[this] at h
  cases h
  exact .inr ⟨by rfl',rfl⟩
theorem zbj4{H1 I I1:Hp}{acc r:Addr}{rs:List (Addr×List Addr)}{bs:List Addr}(nd:(rs.map (·.1)).Nodup)(hl:rs.length=xss.length)(rp:∀ (i:Nat) r xs,rs[i]?=some r->xss[i]?=some xs->RwAt (rm acc (nw H1 I)) r.1 r.2 xs)(hr:I r=none):((rs++[(r,bs)]).map (·.1)).Nodup:=by
 rw[zcn4,List.nodup_append]
 refine⟨nd,by simp,fun a ha b hb=>?_⟩
 obtain⟨r',hr',rfl⟩:=zcm0.mp ha
 obtain⟨i,ei⟩:=zco7 hr'
 obtain⟨xs,ex⟩:∃ xs,xss[i]?=some xs:=⟨_,zcl0 (by have:=(zcl1.mp ei).1;omega)⟩
 have o:=ze3 _ _ _ _ (zs7 _ _ _ _ (rp i r' xs ei ex).out)
 rw[show b=r by simpa using hb]
 exact za7 o hr
theorem zaq6{f:Addr}(F:Fun K "stream_of" "stream_of" zu7 f fd)(N:Nm mg)(zcj4:Def P w K mg base (CXR P w) 6 "look_mix" ["mix"] (zk4 zcg2))(zck2:Def P w K mg base CX0 2 "row_of" ["mix","field"] zo5):FnOk P w K mg base (CXR P w) 7 f fd ["mix"] (zh9 zcg2):=by
 refine F.okR zas7 (fun vs H Q E h=>by unfold zh9 at h;obtain⟨_,_,rfl,_⟩:=h;rfl) (fun cdv A outer s H vs Q E hr hX h=>?_)
 unfold zh9 at h
 obtain⟨v,d,rfl,h,hs,q,qe⟩:=h
 refine⟨_,(za2 (zj6 (pD zcj4 hr (passR hX) (za0 (pq 0) za1)))
   (za4 (zb1 (zd4 (N:=["field","mix"]) (ks:=[none,some 0]) (zx1 N.range_ (za0 (pB (zk0 (K:=K) rfl) N.len_ ze9 (za0 (zb5 (K:=K) rfl (zb5 (K:=K) rfl (pq 0) za3) za3) za1)) za1)) (fun _ _ _ _ _=>(za6 (i:=0) nb_13 rfl (by eq_refl))) (fun _ _ _ _ _=>zb7) (fun _ _ _ _ _=>(pD zck2 hr zb6 (za0 (pq 1) (za0 (pq 0) za1)))) (.skip (.take rfl rfl (by eq_refl) .nil)))))),?_⟩
 refine zap7 h hs (fun em H1 s1=>?_) (fun em H1 s1=>?_)
 ·obtain⟨⟨q1,qk⟩,q⟩:=q em
  obtain⟨m,ts,rfl,M,m1,hh,hf,ok⟩:=zbs1 (h.same s1) em
  have ml:(msD d).length<=1000:=by unfold msD;rw[zck9];exact q1
  obtain⟨x0,ex0⟩:∃ x,(msD d)[0]?=some x:=⟨_,zcl0 (by rfl')⟩
  obtain⟨t0,et0,at0,ht0,hp0⟩:=M.ix ex0
  have l0:=(ok x0 (zcl4 ex0)).2.1
  refine zb8 (v:=.ref t0.1) M.out at0 ?_
  refine zd2 (v:=.ref t0.2) ht0 rfl ?_
  refine zc9 hp0 ?_
  rw[zck9,l0]
  refine zl6 (by rfl') (by rfl') (by rfl') (by rfl') ?_
  refine zac6 (n:=zn9 d) Wk.range (by rw[zcx6];omega) (fun acc j ys σ I=>∃ (t:Option V) (rs:List (Addr×List Addr)) (xss:List (List (Int×Int×Int))),σ=[t,some (.ref m)]/\ys=(rs.map fun r=>V.ref r.1)/\rs.length=j/\xss.length=j/\(∀ (i:Nat) r xs,rs[i]?=some r->xss[i]?=some xs->RwAt (rm acc (nw H1 I)) r.1 r.2 xs)/\(∀ (i:Nat) xs,xss[i]?=some xs->zl9 (msD d) i xs/\xs.length<=(msD d).length)/\(rs.map (·.1)).Nodup) ?_ ?_ ?_ ?_
  ·intro acc I f1 s2 h1
   exact⟨none,[],[],rfl,rfl,rfl,rfl,fun i r xs e=>by simp at e,fun i xs e=>by simp at e,zcu7⟩
  ·rintro acc j ys σ I I' s' ⟨t,rs,xss,r1,r2,r3,r4,r5,r6,r7⟩
   exact⟨t,rs,xss,r1,r2,r3,r4,fun i r xs e1 e2=>(r5 i r xs e1 e2).same (Same.rm (zbb9 s')),r6,r7⟩
  ·rintro acc j v ys σ I R S hj facc s2 hacc hx ⟨t,rs,xss,rfl,rfl,rl,xl,rp,xp,nd⟩ kR _
   obtain rfl:v=.int j:=by rw[hx,zcw7]
   refine br_T ?_
   refine zbf9 (M.same s2) ml (qk j hj) (fun x hx=>by have:=(ok x hx).2.1;omega) (fun r bs xs I1 s3 R1 ri xl1=>?_)
   ac_nf
   refine kR _ _ _ s3 (fun I2 c2=>⟨_,rs++[(r,bs)],xss++[xs],rfl,by rw[zcn4];rfl,by rw[zcl8,rl];rfl,by rw[zcl8,xl];rfl,fun i r' xs' e1 e2=>?_,fun i xs' e=>?_,zbj4 (I1:=I1) nd (by rfl') rp (zg4 R1.out).1⟩)
   ·have up:Same (rm acc (nw H1 I)) (rm acc (nw H1 I2)):=fun b o z=>by
     obtain⟨z1,z2⟩:=zj4 z
     obtain⟨z3,z4⟩:=zg4 z2
     exact zp5 z1 (zh1 z3 (c2 _ _ z1 (s3 _ _ z4)))
    have new:Same (nw I I1) (rm acc (nw H1 I2)):=fun b o z=>by
     obtain⟨z3,z4⟩:=zg4 z
     have nb:b≠acc:=fun w=>by rw[w,hacc] at z3;cases z3
     exact zp5 nb (zh1 (s2.free z3) (c2 _ _ nb z4))
    rcases zc5 e1 with ⟨a1,a2⟩|⟨a1,rfl⟩
    ·rcases zc5 e2 with ⟨b1,b2⟩|⟨b1,_⟩
     ·exact (rp i r' xs' a2 b2).same up
     ·omega
    ·rcases zc5 e2 with ⟨b1,_⟩|⟨b1,rfl⟩
     ·omega
     ·exact R1.same new
   ·rcases zc5 e with ⟨b1,b2⟩|⟨b1,rfl⟩
    ·exact xp i xs' b2
    ·rw[b1,xl]
     exact⟨ri,xl1⟩
  ·rintro acc ys σ I facc s2 hacc ⟨t,rs,xss,rfl,rfl,rl,xl,rp,xp,nd⟩
   ac_nf
   have left:Same (nw H1 I) (nw H I):=zbg3 s1
   exact q acc rs xss I (s1.trans s2) ⟨left _ _ (zh1 facc hacc),by rfl',fun i r xs e1 e2=>(rp i r xs e1 e2).same (Same.rm left),nd⟩ ⟨xl,xp⟩
 ·exact qe em _ s1
def Off(b:Addr)(ts:List (Addr×Addr)):Prop:=∀ t∈ts,t.1≠b/\t.2≠b
theorem zc0.chg{m b:Addr}(M:zc0 H m ts ms)(c:Chg b H H')(n:m≠b)(o:Off b ts):zc0 H' m ts ms:=
 ⟨c _ _ n M.out,M.len,fun i t x h1 h2=>⟨c _ _ (o t (zcl4 h1)).1 (M.part i t x h1 h2).1,c _ _ (o t (zcl4 h1)).2 (M.part i t x h1 h2).2⟩⟩
theorem zc0.off{m b:Addr}(M:zc0 H m ts ms)(f:H b=none):m≠b/\Off b ts:=by
 refine⟨za7 M.out f,fun t ht=>?_⟩
 obtain⟨i,hi⟩:=zco7 ht
 obtain⟨t',x,h1,h2,h3,h4⟩:=M.get (i:=i) (by have:=(zcl1.mp hi).1;have:=M.len;omega)
 rw[hi] at h1
 cases h1
 exact⟨za7 h3 f,za7 h4 f⟩
theorem zc0.push{m p q:Addr}{x:List Int×Int}(M:zc0 H m ts ms)(c:Chg m H H')(o:Off m ts)(h':H' m=some (.lst ((ts.map fun t=>V.ref t.1)++[.ref p])))(hp:H' p=some (.tup [.ref q,.int x.2]))(hq:H' q=some (.lst (x.1.map V.int))):zc0 H' m (ts++[(p,q)]) (ms++[x]):=by
 refine⟨by rw[h',zcn4];rfl,by rw[zcl8,zcl8,M.len];rfl,fun i t y h1 h2=>?_⟩
 by_cases hi:i<ts.length
 ·rw[zcn2 hi] at h1
  rw[zcn2 (by have:=M.len;omega)] at h2
  have:=o t (zcl4 h1)
  exact⟨c _ _ this.1 (M.part i t y h1 h2).1,c _ _ this.2 (M.part i t y h1 h2).2⟩
 ·rw[zcm9 (by rfl')] at h1
  rw[zcm9 (by have:=M.len;omega)] at h2
  have e0:i - ts.length=0:=by
   have:=(zcl1.mp h1).1
   simp at this;omega
  rw[e0] at h1
  rw[show i - ms.length=0 by have:=M.len;omega] at h2
  cases h1
  cases h2
  exact⟨hp,hq⟩
theorem Off.push{b p q:Addr}(o:Off b ts)(n1:p≠b)(n2:q≠b):Off b (ts++[(p,q)]):=fun t ht=>by
 rcases zco0.mp ht with h|h
 ·exact o t h
 ·have:t=(p,q):=by simpa using h
  subst this
  exact⟨n1,n2⟩
abbrev OkX(h f:Int)(x:List Int×Int):Prop:=(∀ n∈x.1,0<=n)/\(x.1.length:Int)=f/\x.1.sum=h/\1<=x.2
theorem zak0{α:Type}{p:α->Prop}{xs:List α}{y:α}(h:∀ x∈xs,p x)(hy:p y):∀ x∈xs++[y],p x:=fun x hx=>by
 rcases zco0.mp hx with h' | h'
 ·exact h x h'
 ·have:x=y:=by simpa using h'
  subst this
  exact hy
inductive Mrg{α β:Type}:List (α×Int)->List (β×Int)->List (α×β×Int)->Prop where
 | nil:Mrg [] [] []
 | lt {p:α}{w v:Int}{ps:List (α×Int)}{r:β}{rs:List (β×Int)}{out:List (α×β×Int)}:w<v->Mrg ps ((r,v - w) :: rs) out->Mrg ((p,w) :: ps) ((r,v) :: rs) ((p,r,w) :: out)
 | eq {p:α}{w:Int}{ps:List (α×Int)}{r:β}{rs:List (β×Int)}{out:List (α×β×Int)}:Mrg ps rs out->Mrg ((p,w) :: ps) ((r,w) :: rs) ((p,r,w) :: out)
 | gt {p:α}{w v:Int}{ps:List (α×Int)}{r:β}{rs:List (β×Int)}{out:List (α×β×Int)}:v<w->Mrg ((p,w - v) :: ps) rs out->Mrg ((p,w) :: ps) ((r,v) :: rs) ((p,r,v) :: out)
def tot{α:Type}(l:List (α×Int)):Int:=(l.map (·.2)).sum
theorem zj0{α:Type}(x:α×Int)(l:List (α×Int)):tot (x :: l)=x.2+tot l:=by unfold tot;rw[zcn5,zcp6]
theorem zba9{α:Type}:∀ {l:List (α×Int)},(∀ x∈l,1<=x.2)->0<=tot l/\(tot l=0->l=[])
 | [],_=>⟨by unfold tot;simp,fun _=>rfl⟩
 | x :: l,h=>by
  have h1:=h x (.head _)
  have h2:=(zba9 (l:=l) fun y hy=>h y (.tail _ hy)).1
  rw[zj0]
  exact⟨by rfl',fun e=>by rfl'⟩
theorem zar6{l m:List Int}(h:l.Perm m):l.sum=m.sum:=by
 induction h with
 | nil=>rfl
 | cons x _ ih=>simp only[zcp6];rw[ih]
 | swap x y l=>simp only[zcp6];omega
 | trans _ _ h1 h2=>exact h1.trans h2
theorem zay0{α:Type}{l m:List (α×Int)}(h:l.Perm m):tot l=tot m:=by unfold tot;exact zar6 (h.map _)
section
variable {α β:Type}{ps:List (α×Int)}{rs:List (β×Int)}{out:List (α×β×Int)}
theorem Mrg.pos(h:Mrg ps rs out):(∀ x∈ps,1<=x.2)->(∀ x∈rs,1<=x.2)->∀ x∈out,1<=x.2.2:=by
 induction h with
 | nil=>intro _ _ x hx;cases hx
 | lt hl _ ih=>
  intro h1 h2 x hx
  have a:=h1 _ (.head _)
  rcases zcm1.mp hx with rfl|hx
  ·exact a
  ·refine ih (fun y hy=>h1 y (.tail _ hy)) (fun y hy=>?_) x hx
   rcases zcm1.mp hy with rfl|hy
   ·show 1<=_ - _;omega
   ·exact h2 y (.tail _ hy)
 | eq _ ih=>
  intro h1 h2 x hx
  rcases zcm1.mp hx with rfl|hx
  ·exact h1 _ (.head _)
  ·exact ih (fun y hy=>h1 y (.tail _ hy)) (fun y hy=>h2 y (.tail _ hy)) x hx
 | gt hl _ ih=>
  intro h1 h2 x hx
  rcases zcm1.mp hx with rfl|hx
  ·exact h2 _ (.head _)
  ·refine ih (fun y hy=>?_) (fun y hy=>h2 y (.tail _ hy)) x hx
   rcases zcm1.mp hy with rfl|hy
   ·show 1<=_ - _;omega
   ·exact h1 y (.tail _ hy)
theorem Mrg.len(h:Mrg ps rs out):ps≠[]->out.length+1<=ps.length+rs.length:=by
 induction h with
 | nil=>intro h;exact absurd rfl h
 | @lt p w v ps r rs out hl hm ih=>
  intro _
  cases ps with
  | nil=>cases hm
  | cons y ps=>
   have:=ih (by simp)
   simp only[zcn6] at this ⊢
   omega
 | @eq p w ps r rs out hm ih=>
  intro _
  cases ps with
  | nil=>cases hm;simp
  | cons y ps=>
   have:=ih (by simp)
   simp only[zcn6] at this ⊢
   omega
 | gt hl _ ih=>
  intro _
  have:=ih (by simp)
  simp only[zcn6] at this ⊢
  omega
theorem Mrg.sumL(h:Mrg ps rs out)(f:α->Int):(out.map fun x=>x.2.2*f x.1).sum=(ps.map fun x=>x.2*f x.1).sum:=by
 induction h with
 | nil=>rfl
 | lt hl _ ih=>simp only[zcn5,zcp6];rw[ih]
 | eq _ ih=>simp only[zcn5,zcp6];rw[ih]
 | gt hl _ ih=>simp only[zcn5,zcp6] at ih ⊢;rw[ih,Int.sub_mul];omega
theorem Mrg.sumR(h:Mrg ps rs out)(f:β->Int):(out.map fun x=>x.2.2*f x.2.1).sum=(rs.map fun x=>x.2*f x.1).sum:=by
 induction h with
 | nil=>rfl
 | lt hl _ ih=>simp only[zcn5,zcp6] at ih ⊢;rw[ih,Int.sub_mul];omega
 | eq _ ih=>simp only[zcn5,zcp6];rw[ih]
 | gt hl _ ih=>simp only[zcn5,zcp6];rw[ih]
theorem Mrg.memL(h:Mrg ps rs out):∀ x∈out,x.1∈ps.map (·.1)/\x.2.1∈rs.map (·.1):=by
 induction h with
 | nil=>intro x hx;cases hx
 | lt hl _ ih=>
  intro x hx
  rcases zcm1.mp hx with rfl|hx
  ·exact⟨.head _,.head _⟩
  ·exact⟨.tail _ (ih x hx).1,(ih x hx).2⟩
 | eq _ ih=>
  intro x hx
  rcases zcm1.mp hx with rfl|hx
  ·exact⟨.head _,.head _⟩
  ·exact⟨.tail _ (ih x hx).1,.tail _ (ih x hx).2⟩
 | gt hl _ ih=>
  intro x hx
  rcases zcm1.mp hx with rfl|hx
  ·exact⟨.head _,.head _⟩
  ·exact⟨(ih x hx).1,.tail _ (ih x hx).2⟩
end
def cutR{β:Type}(xs:List (β×Int))(k:Nat)(u:Int):List (β×Int):=match xs.drop k with
 | []=>[]
 | (r,v) :: t=>(r,v - u) :: t
theorem zad7{β:Type}{xs:List (β×Int)}{k:Nat}{u:Int}{x:β×Int}(h:xs[k]?=some x):cutR xs k u=(x.1,x.2 - u) :: xs.drop (k+1):=by
 unfold cutR
 rw[zcq9 (zcl1.mp h).1,(zcl1.mp h).2]
theorem zo9{β:Type}{xs:List (β×Int)}{k:Nat}:cutR xs k 0=xs.drop k:=by
 unfold cutR
 split
 ·rename_i e;rw[e]
 ·rename_i e;rw[e,Int.sub_zero]
def Nd(ts:List (Addr×Addr)):Prop:=(ts.map (·.1)).Nodup/\(ts.map (·.2)).Nodup
theorem Nd.nil:Nd []:=⟨zcu7,zcu7⟩
theorem zah0{α β:Type}{g:α->β}{l:List α}{x:α}(h:(l.map g).Nodup)(n:∀ y∈l,g y≠g x):((l++[x]).map g).Nodup:=by
 rw[zcn4,List.nodup_append]
 refine⟨h,by simp,fun a ha b hb=>?_⟩
 obtain⟨y,hy,rfl⟩:=zcm0.mp ha
 rw[show b=g x by simpa using hb]
 exact n y hy
theorem Nd.push{p q:Addr}(h:Nd ts)(n:∀ t∈ts,t.1≠p/\t.2≠q):Nd (ts++[(p,q)]):=⟨zah0 h.1 fun t ht=>(n t ht).1,zah0 h.2 fun t ht=>(n t ht).2⟩
def rwF(xs:List (Int×Int×Int)):List ((Int×Int)×Int):=xs.map fun x=>((x.1,x.2.1),x.2.2)
def outM(out:List (List Int×(Int×Int)×Int)):List (List Int×Int):=out.map fun z=>(z.1++[z.2.1.2],z.2.2)
@[irreducible] def zm6:Sp:=fun vs H Q _=>∃ (a r:Addr) (ts:List (Addr×Addr)) (ms:List (List Int×Int)) (bs:List Addr) (xs:List (Int×Int×Int)),vs=[.ref a,.ref r]/\zc0 H a ts ms/\RwAt H r bs xs/\(∀ x∈ms,1<=x.2)/\(∀ x∈xs,1<=x.2.2) /\
 tot ms=tot (rwF xs)/\ms.length<=1000/\xs.length<=1000/\(∀ x∈ms,x.1.length<=1000)/\∀ p ts' out H',Same H H'->zc0 (nw H H') p ts' (outM out)->Nd ts'->Mrg ms (rwF xs) out->Q (.ref p) H'
theorem zbb6{a r:Addr}{bs:List Addr}(M:zc0 H a ts ms)(R:RwAt H r bs xs)(h1:∀ x∈ms,1<=x.2)(h2:∀ x∈xs,1<=x.2.2)(ht:tot ms=tot (rwF xs))(hm:ms.length<=1000)(hx:xs.length<=1000)(hp:∀ x∈ms,x.1.length<=1000)(q:∀ p ts' out H',Same H H'->zc0 (nw H H') p ts' (outM out)->Nd ts'->Mrg ms (rwF xs) out->Q (.ref p) H'):zm6 [.ref a,.ref r] H Q E:=by unfold zm6;exact⟨a,r,ts,ms,bs,xs,rfl,M,R,h1,h2,ht,hm,hx,hp,q⟩
theorem zan9{k:Nat}{x:Int×Int×Int}(h:xs[k]?=some x):(rwF xs)[k]?=some ((x.1,x.2.1),x.2.2):=by unfold rwF;rw[zcl2,h];rfl
theorem zr0{α:Type}{l:List α}{x:α}(h:l[i]?=some x):l.drop i=x :: l.drop (i+1):=by
 rw[zcq9 (zcl1.mp h).1,(zcl1.mp h).2]
structure SO(ms:List (List Int×Int))(xs:List (Int×Int×Int))(out:List (List Int×(Int×Int)×Int))(k:Nat)(u:Int)(pend:List (List Int×Int)):Prop where
 ku:k<=xs.length
 u0:0<=u
 ul:∀ x,xs[k]?=some x->u<x.2.2
 ue:k=xs.length->u=0
 tt:tot pend=tot (cutR (rwF xs) k u)
 go:∀ fin,Mrg pend (cutR (rwF xs) k u) fin->Mrg ms (rwF xs) (out++fin)
theorem SO.at{ms:List (List Int×Int)}{xs:List (Int×Int×Int)}{out:List (List Int×(Int×Int)×Int)}{k:Nat}{u:Int}{pend:List (List Int×Int)}(S:SO ms xs out k u pend)(h:0<tot pend):∃ x,xs[k]?=some x:=by
 have ku:=S.ku
 by_cases z:k<xs.length
 ·exact⟨_,zcl0 z⟩
 ·have e:k=xs.length:=by rfl'
  have t:=S.tt
  have e2:cutR (rwF xs) k u=[]:=by
   unfold cutR
   rw[zcr1 (by unfold rwF;rw[zck9];omega)]
  rw[e2] at t
  have:tot ([]:List ((Int×Int)×Int))=0:=rfl
  omega
section
variable {ms:List (List Int×Int)}{xs:List (Int×Int×Int)}{out:List (List Int×(Int×Int)×Int)}{k:Nat}{u w:Int}{pl:List Int}{rest:List (List Int×Int)}{x:Int×Int×Int}
theorem SO.lt(S:SO ms xs out k u ((pl,w) :: rest))(hx:xs[k]?=some x)(h0:0<w)(h:w<x.2.2 - u):SO ms xs (out++[(pl,(x.1,x.2.1),w)]) k (u+w) rest:=by
 have u0:=S.u0
 have e1:=zad7 (u:=u) (zan9 hx)
 have e2:=zad7 (u:=u+w) (zan9 hx)
 have t:=S.tt
 rw[e1,zj0,zj0] at t
 dsimp only at t
 refine⟨S.ku,by rfl',fun y hy=>by rw[hx] at hy;cases hy;omega,fun z=>by have:=(zcl1.mp hx).1;omega,?_,fun fin hf=>?_⟩
 ·rw[e2,zj0];dsimp only;omega
 ·rw[e2] at hf
  have hf:Mrg rest (((x.1,x.2.1),x.2.2 - (u+w)) :: (rwF xs).drop (k+1)) fin:=hf
  have:=S.go ((pl,(x.1,x.2.1),w) :: fin) (by rw[e1];exact .lt h (by rw[show x.2.2 - u - w=x.2.2 - (u+w) by rfl'];exact hf))
  rw[zcp9]
  exact this
theorem SO.eq(S:SO ms xs out k u ((pl,w) :: rest))(hx:xs[k]?=some x)(hpos:∀ x∈xs,1<=x.2.2)(h:w=x.2.2 - u):SO ms xs (out++[(pl,(x.1,x.2.1),w)]) (k+1) 0 rest:=by
 have e1:=zad7 (u:=u) (zan9 hx)
 have t:=S.tt
 rw[e1,zj0,zj0] at t
 dsimp only at t
 refine⟨(zcl1.mp hx).1,by rfl',fun y hy=>hpos y (zcl4 hy),fun _=>rfl,?_,fun fin hf=>?_⟩
 ·rw[zo9];omega
 ·rw[zo9] at hf
  have:=S.go ((pl,(x.1,x.2.1),w) :: fin) (by rw[e1,← h];exact .eq hf)
  rw[zcp9]
  exact this
theorem SO.gt(S:SO ms xs out k u ((pl,w) :: rest))(hx:xs[k]?=some x)(hpos:∀ x∈xs,1<=x.2.2)(h:x.2.2 - u<w):SO ms xs (out++[(pl,(x.1,x.2.1),x.2.2 - u)]) (k+1) 0 ((pl,w - (x.2.2 - u)) :: rest):=by
 have e1:=zad7 (u:=u) (zan9 hx)
 have t:=S.tt
 rw[e1,zj0,zj0] at t
 dsimp only at t
 refine⟨(zcl1.mp hx).1,by rfl',fun y hy=>hpos y (zcl4 hy),fun _=>rfl,?_,fun fin hf=>?_⟩
 ·rw[zo9,zj0];dsimp only;omega
 ·rw[zo9] at hf
  have:=S.go ((pl,(x.1,x.2.1),x.2.2 - u) :: fin) (by rw[e1];exact .gt h hf)
  rw[zcp9]
  exact this
end
theorem zbn8(out:List (List Int×(Int×Int)×Int))(z:List Int×(Int×Int)×Int):outM (out++[z])=outM out++[(z.1++[z.2.1.2],z.2.2)]:=by unfold outM;rw[zcn4];rfl
theorem zbd2{f:Addr}(F:Fun K "sent_on" "sent_on" zad9 f fd)(N:Nm mg):FnOk P w K mg base CX0 1 f fd ["begun","row"] zm6:=by
 refine F.ok zd8 (fun vs H Q E h=>by unfold zm6 at h;obtain⟨_,_,_,_,_,_,rfl,_⟩:=h;rfl) fun _ _ _ s H vs Q E hr h=>?_
 unfold zm6 at h
 obtain⟨a,r,ts,ms,bs,xs,rfl,M,R,h1,h2,ht,hm,hx,hp,q⟩:=h
 have hu:=hu40 hr
 have ml:=M.len
 have rl:=R.len
 refine⟨_,(za2 (psS (i:=2) zd8.nd (zn1 za1))
   (za2 (psS (i:=3) zd8.nd za3)
   (za2 (psS (i:=4) zd8.nd za3)
   (za2 (zx4 PassesOwn.never rfl (zc2 (K:=K) rfl (pq 0)) (zi9 (K:=K) (n:=2) rfl rfl (zb0 (za6 (i:=5) zd8.nd rfl (by eq_refl)) (zb0 (za6 (i:=6) zd8.nd rfl (by eq_refl)) zj2))) (za2 (psS (i:=7) zd8.nd (pq 6))
   (za4 (zcb8 PassesOwn.never (ptC oGt (pq 7) za3) (za2 (psS (i:=8) zd8.nd (pB (cMinK (K:=K) rfl rfl) N.min_ bt_min (za0 (pq 7) (za0 (zc4 oSub (zb5 (K:=K) rfl (zb5 (K:=K) rfl (pq 1) (pq 3)) za3) (pq 4)) za1))))
   (za2 (zj6 (zi1 (pq 2) (za0 (zp0 (za0 (zc4 oAdd (pq 5) (zn1 (za0 (zb5 (K:=K) rfl (zb5 (K:=K) rfl (pq 1) (pq 3)) za3) za1))) (za0 (pq 8) za1))) za1)))
   (za2 (psAug (i:=7) zd8.nd ipSub (pq 8))
   (za2 (psAug (i:=4) zd8.nd ipAdd (pq 8))
   (za4 (psIf (ptC (zz7 (K:=K) rfl (by exact hu)) (pq 4) (zb5 (K:=K) rfl (zb5 (K:=K) rfl (pq 1) (pq 3)) za3)) (za2 (psAug (i:=3) zd8.nd ipAdd za3)
   (za4 (psS (i:=4) zd8.nd za3))) zc7))))))))))
   (za4 (zb1 (pq 2))))))),?_⟩
 refine zd5 (fun l H1 f1 s1 hl=>?_)
 refine za9 (s1 _ _ M.out) ?_
 refine zj1 (xs:=ts.map fun t=>V.ref t.1) (fun i σ I=>∃ (x5 x6 x7 x8:Option V) (ts':List (Addr×Addr)) (out:List (List Int×(Int×Int)×Int)) (k:Nat) (u:Int),σ=[some (.ref a),some (.ref r),some (.ref l),some (.int k),some (.int u),x5,x6,x7,x8]/\Same H I/\zc0 (nw H I) l ts' (outM out)/\(Off l ts'/\Nd ts')/\out.length<=i+k/\SO ms xs out k u (ms.drop i)) ?_ ?_ ?_ ?_
 ·refine⟨none,none,none,none,[],[],0,0,rfl,s1,⟨zh1 f1 hl,rfl,fun i t x e=>by simp at e⟩,⟨(fun t ht=>by cases ht),Nd.nil⟩,zcm3 _,⟨zcp2 _,zcr4 _,fun x hx=>h2 x (zcl4 hx),fun _=>rfl,by rw[zo9];exact ht,fun fin hf=>?_⟩⟩
  rw[zo9] at hf
  exact hf
 ·rintro i σ I hi ⟨x5,x6,x7,x8,ts',out,k,u,rfl,sI,_⟩
  exact SqL.of (sI _ _ M.out)
 ·rintro i v σ I hv ⟨x5,x6,x7,x8,ts',out,k,u,rfl,sI,M',O',ol,S⟩
  obtain⟨t,x,rfl,et,ex,e3,e4⟩:=M.elt hv
  have il:=(zcl1.mp ex).1
  have x1:=h1 x (zcl4 ex)
  have xl:=hp x (zcl4 ex)
  rw[zr0 ex] at S
  refine zf1 (sI _ _ e3) ?_
  refine zbv5 (fun σ I=>∃ (x8:Option V) (ts':List (Addr×Addr)) (out:List (List Int×(Int×Int)×Int)) (k:Nat) (u w:Int),σ=[some (.ref a),some (.ref r),some (.ref l),some (.int k),some (.int u),some (.ref t.2),some (.int x.2),some (.int w),x8]/\Same H I/\zc0 (nw H I) l ts' (outM out)/\(Off l ts'/\Nd ts')/\0<=w/\(0<w->out.length<=i+k/\SO ms xs out k u ((x.1,w) :: ms.drop (i+1)))/\(w=0->out.length<=i+1+k/\SO ms xs out k u (ms.drop (i+1)))) (fun σ _=>match σ with | [_,_,_,some (.int k),_,_,_,some (.int w),_]=>xs.length - k.toNat+(if 0<w then 1 else 0)|_=>0) ?_ ?_
  ·exact⟨_,ts',out,k,u,x.2,rfl,sI,M',O',by rfl',fun _=>⟨ol,S⟩,fun z=>by rfl'⟩
  ·clear S ol O' M' sI ts' out
   rintro σ I ⟨x8,ts',out,k,u,w,rfl,sI,M',O',w0,A1,A2⟩
   ac_nf
   refine zcb5 (fun hw=>?_) (fun hw=>?_)
   ·obtain⟨ol,S⟩:=A1 hw
    have t0:=(zba9 (l:=ms.drop (i+1)) fun y hy=>h1 y (zcs5 hy)).1
    obtain⟨y,ey⟩:=S.at (by rw[zj0];dsimp only;omega)
    have kl:=(zcl1.mp ey).1
    obtain⟨b,eb⟩:∃ b,bs[k]?=some b:=⟨_,zcl0 (by rfl')⟩
    have hy:=R.row k b y eb ey
    have uy:=S.ul y ey
    have u0:=S.u0
    have atb:atI (bs.map V.ref) (k:Int)=some (.ref b):=zh4 (by rw[zcl2,eb];rfl)
    refine zb8 (v:=.ref b) (sI _ _ R.out) atb ?_
    refine zd2 (v:=.int y.2.2) (sI _ _ hy) rfl ?_
    ac_nf
    obtain⟨tk,etk⟩:∃ tk:Int,(if y.2.2 - u<w then y.2.2 - u else w)=tk:=⟨_,rfl⟩
    rw[etk]
    have htk:(w<y.2.2 - u/\tk=w)∨(w=y.2.2 - u/\tk=w)∨(y.2.2 - u<w/\tk=y.2.2 - u):=by
     split at etk<;>omega
    have Ml:=zg4 M'.out
    refine zv7 Ml.2 ?_
    refine zb8 (v:=.ref b) (sI _ _ R.out) atb ?_
    refine zd2 (v:=.int y.2.1) (sI _ _ hy) rfl ?_
    refine zd5 (fun p1 I1 g1 r1 k1=>?_)
    refine zar7 (r1 _ _ (sI _ _ e4)) k1 (by rw[zck9,zcx6];simp only[zcn6,zcq5];omega) (fun p2 I2 g2 r2 k2=>?_)
    refine zd6 (fun p3 I3 g3 r3 k3=>?_)
    have s3:=r1.trans (r2.trans r3)
    have M3:=M'.same (zbb9 s3)
    have n2:p2≠l:=fun z=>by rw[z,r1 _ _ Ml.2] at g2;cases g2
    have n3:p3≠l:=fun z=>by rw[z,r2 _ _ (r1 _ _ Ml.2)] at g3;cases g3
    have nn:∀ t∈ts',t.1≠p3/\t.2≠p2:=fun t ht=>⟨((M'.same (ze3 _ _)).off ((r1.trans r2).free g3)).2 t ht |>.1,((M'.same (ze3 _ _)).off (r1.free g2)).2 t ht |>.2⟩
    refine zw9 (zg4 M3.out).2 (by have:=M3.len;unfold outM at this;rw[zck9] at this;rw[zck9,zcx6];omega) (fun I4 c4 k4=>?_)
    have cN:Chg l (nw H I3) (nw H I4):=fun b o n e=>zh1 (zg4 e).1 (c4 _ _ n (zg4 e).2)
    have h3:H p3=none:=sI.free ((r1.trans r2).free g3)
    have h2':H p2=none:=sI.free (r1.free g2)
    have M4:=M3.push cN O'.1 (zh1 f1 k4) (x:=(x.1++[y.2.1],tk)) (zh1 h3 (c4 _ _ n3 k3)) (zh1 h2' (c4 _ _ n2 (by rw[zcn4];exact r3 _ _ k2)))
    have sI4:Same H I4:=fun b o e=>c4 _ _ (fun z=>by rw[z,f1] at e;cases e) (s3 _ _ (sI _ _ e))
    have O4:Off l (ts'++[(p3,p2)])/\Nd (ts'++[(p3,p2)]):=⟨O'.1.push n3 n2,O'.2.push nn⟩
    rw[show outM out++[(x.1++[y.2.1],tk)]=outM (out++[(x.1,(y.1,y.2.1),tk)]) from (zbn8 out (x.1,(y.1,y.2.1),tk)).symm] at M4
    have ll:(out++[(x.1,(y.1,y.2.1),tk)]).length=out.length+1:=by rw[zcl8];rfl
    refine zb8 (v:=.ref b) (sI4 _ _ R.out) atb ?_
    refine zd2 (v:=.int y.2.2) (sI4 _ _ hy) rfl ?_
    rcases htk with ⟨z1,rfl⟩|⟨z1,rfl⟩|⟨z1,rfl⟩
    ·have SA:=S.lt ey hw z1
     refine zau9 (by rfl') ?_
     ac_nf
     refine⟨⟨_,_,_,k,_,_,rfl,sI4,M4,O4,by rfl',fun z=>by rfl',fun _=>⟨by rw[ll];omega,SA⟩⟩,?_⟩
     show xs.length - (k:Int).toNat+(if 0<tk - tk then 1 else 0)<xs.length - (k:Int).toNat+(if 0<tk then 1 else 0)
     rw[if_neg (by rfl'),if_pos hw];omega
    ·have SB:=S.eq ey h2 z1
     refine zat1 (by rfl') ?_
     ac_nf
     refine⟨⟨_,_,_,k+1,_,_,rfl,sI4,M4,O4,by rfl',fun z=>by rfl',fun _=>⟨by rw[ll];omega,SB⟩⟩,?_⟩
     show xs.length - ((k:Int)+1).toNat+(if 0<tk - tk then 1 else 0)<xs.length - (k:Int).toNat+(if 0<tk then 1 else 0)
     rw[if_neg (by rfl'),if_pos hw];omega
    ·have SC:=S.gt ey h2 z1
     refine zat1 (by rfl') ?_
     ac_nf
     refine⟨⟨_,_,_,k+1,_,_,rfl,sI4,M4,O4,by rfl',fun z=>⟨by rw[ll];omega,SC⟩,fun z=>by rfl'⟩,?_⟩
     show xs.length - ((k:Int)+1).toNat+(if 0<w - (y.2.2 - u) then 1 else 0)<xs.length - (k:Int).toNat+(if 0<w then 1 else 0)
     rw[if_pos (by rfl'),if_pos hw];omega
   ·obtain⟨ol,S⟩:=A2 (by rfl')
    ac_nf
    exact⟨_,_,_,_,ts',out,k,u,rfl,sI,M',O',by rfl',S⟩
 ·rintro σ I ⟨x5,x6,x7,x8,ts',out,k,u,rfl,sI,M',O',ol,S⟩
  ac_nf
  have e0:ms.drop (ts.map fun t=>V.ref t.1).length=[]:=zcr1 (by rw[zck9];omega)
  rw[e0] at S
  have ku:=S.ku
  have en:cutR (rwF xs) k u=[]:=by
   by_cases z:k<xs.length
   ·obtain⟨y,ey⟩:∃ y,xs[k]?=some y:=⟨_,zcl0 z⟩
    have t:=S.tt
    rw[zad7 (zan9 ey),zj0] at t
    have t0:=(zba9 (l:=(rwF xs).drop (k+1)) fun y hy=>by
     unfold rwF at hy
     obtain⟨z,hz,rfl⟩:=zcm0.mp (zcs5 hy)
     exact h2 z hz).1
    have:=S.ul y ey
    have:tot ([]:List (List Int×Int))=0:=rfl
    dsimp only at t
    omega
   ·unfold cutR
    rw[zcr1 (by unfold rwF;rw[zck9];omega)]
  have g:=S.go [] (by rw[en];exact .nil)
  rw[zcr6] at g
  exact q l ts' out I sI M' O'.2 g
theorem zal0{H:Hp}:∀ {xs:List V}{ds:List PyData}{ys:List V}{es:List PyData},ShL H xs ds->ShL H ys es->ShL H (xs++ys) (ds++es)
 | _,_,_,_,.nil,b=>b
 | _,_,_,_,.cons h a,b=>.cons h (zal0 a b)
theorem zs2{d:PyData}:∀ {ds:List PyData},d∈ds->d.depth<=PyData.depthAll ds
 | [],h=>by cases h
 | e :: ds,h=>by
  rw[show PyData.depthAll (e :: ds)=max e.depth (PyData.depthAll ds) from rfl]
  rcases zcm1.mp h with rfl|h
  ·exact Nat.le_max_left _ _
  ·exact zcp4 (zs2 h) (Nat.le_max_right _ _)
def Dst(ys:List V):Prop:=ys.Pairwise fun x y=>∀ a,x=.ref a->y≠.ref a
def CpL(J:Hp)(v:V)(d:PyData):Prop:=∀ ds,d=.list ds->∃ p ys,v=.ref p/\J p=some (.lst ys)/\ShL (rm p J) ys ds/\Dst ys
theorem zbb3{a:Addr}{d:PyData}(h:ShV H (.ref a) d):∃ o,H a=some o:=by
 cases h with
 | lst e _=>exact⟨_,e⟩
 | tup e _=>exact⟨_,e⟩
theorem zbg1{H:Hp}:∀ {ys:List V}{ds:List PyData},ShL H ys ds->∀ y∈ys,∃ d,ShV H y d
 | _,_,.nil,y,h=>by cases h
 | _,_,.cons h1 l,y,h=>by
  rcases zcm1.mp h with rfl|h
  ·exact⟨_,h1⟩
  ·exact zbg1 l y h
theorem Dst.push{ys:List V}{v:V}(D:Dst ys)(h:∀ y∈ys,∀ a,y=.ref a->v≠.ref a):Dst (ys++[v]):=zco4.mpr ⟨D,List.pairwise_singleton _ _,fun y hy x hx=>by rw[zcn9.mp hx];exact h y hy⟩
def zak2:Nat->Sp
 | 0=>fun _ _ _ _=>False
 | n+1=>fun vs H Q _=>∃ (v:V) (d:PyData),vs=[v]/\ShV H v d/\sml d=true/\d.depth<=n/\∀ v' H',Same H H'->ShV (nw H H') v' d->CpL (nw H H') v' d->Q v' H'
@[irreducible] def zi3:Sp:=zak2 9
theorem zab7{v:V}{d:PyData}(h:ShV H v d)(hs:sml d=true)(hd:d.depth<=8)(q:∀ v' H',Same H H'->ShV (nw H H') v' d->CpL (nw H H') v' d->Q v' H'):zi3 [v] H Q E:=by unfold zi3;exact⟨v,d,rfl,h,hs,hd,q⟩
theorem zaq3{f:Addr}(F:Fun K "_law_deep" "_law_deep" zu6 f fd)(N:Nm mg)(hgR:mg "_law_deep"=some (.ref f))(hkR:zcu4 K (.ref f)=true)(hbR:zan8 K fd ["_law_thing"] []):FnOk P w K mg base CX0 10 f fd ["_law_thing"] zi3:=by
 have key:∀ n,FnOk P w K mg base CX0 (n+1) f fd ["_law_thing"] (zak2 n):=by
  intro n
  induction n with
  | zero=>exact F.ok zab1 (fun vs H Q E h=>h.elim) (fun cdv A outer s H vs Q E hr h=>h.elim)
  | succ n ih=>
   have zcg5:Def P w K mg base CX0 (n+1) "_law_deep" ["_law_thing"] (zak2 n):=⟨f,fd,ih,hgR,hkR,hbR⟩
   refine F.ok zab1 (fun vs H Q E h=>by obtain⟨_,_,rfl,_⟩:=h;rfl) fun _ _ _ s H vs Q E hr h=>?_
   refine⟨_,(za2 (psIf (ptV (pB (zv2 (K:=K) rfl) N.isinstance_ zb3 (za0 (pq 0) (za0 (pTy N.list_ zq5) za1)))) (za4 (zb1 (zd4 (N:=["_law_part"]) (ks:=[none]) (zc2 (K:=K) rfl (pq 0)) (fun _ _ _ _ _=>(za6 (i:=0) nb_20 rfl (by eq_refl))) (fun _ _ _ _ _=>zb7) (fun _ _ _ _ _=>(pD zcg5 hr zb6 (za0 (pq 0) za1) (hk:=by rfl'))) (.skip .nil)))) zc7)
   (za2 (psIf (ptV (pB (zv2 (K:=K) rfl) N.isinstance_ zb3 (za0 (pq 0) (za0 (pTy N.tuple_ zx0) za1)))) (za4 (zb1 (pT (cTupK (K:=K) rfl) N.tuple_ zx0 (za0 (zd4 (N:=["_law_part"]) (ks:=[none]) (zc2 (K:=K) rfl (pq 0)) (fun _ _ _ _ _=>(za6 (i:=0) nb_20 rfl (by eq_refl))) (fun _ _ _ _ _=>zb7) (fun _ _ _ _ _=>(pD zcg5 hr zb6 (za0 (pq 0) za1) (hk:=by rfl'))) (.skip .nil)) za1)))) zc7)
   (za4 (zb1 (pq 0))))),?_⟩
   obtain⟨v,d,rfl,hv,hs,hd,q⟩:=h
   have inside:∀ {acc:Addr}{I I1 I2:Hp}{ys:List V},Same H I->I acc=some (.lst ys)->Same I I1->Chg acc I1 I2->Same (rm acc (nw H I)) (rm acc (nw H I2))/\Same (nw I I1) (rm acc (nw H I2)):=fun {acc I I1 I2 ys} s2 hacc s3 c2=>
    ⟨fun b o z=>by
     obtain⟨z1,z2⟩:=zj4 z
     obtain⟨z3,z4⟩:=zg4 z2
     exact zp5 z1 (zh1 z3 (c2 _ _ z1 (s3 _ _ z4))),
    fun b o z=>by
     obtain⟨z3,z4⟩:=zg4 z
     have nb:b≠acc:=fun w=>by rw[w,hacc] at z3;cases z3
     exact zp5 nb (zh1 (s2.free z3) (c2 _ _ nb z4))⟩
   refine zg9 hv (.inr (.inr (.inl rfl))) ?_
   cases hv
   case lst a xs ds e l=>
    have ll:=l.len
    obtain⟨dl,dm⟩:=zn6 hs
    have hd:PyData.depthAll ds+1<=n:=hd
    obtain⟨n',rfl⟩:∃ n',n=n'+1:=⟨n - 1,by rfl'⟩
    refine br_T ?_
    refine za9 e ?_
    refine zac6 (Wk.list (SqL.of e)) (by rw[zcx6];omega) (fun acc j ys σ I=>∃ t:Option V,σ=[t]/\ShL (rm acc (nw H I)) ys (ds.take j)/\Dst ys) ?_ ?_ ?_ ?_
    ·intro acc I f1 s2 h1
     exact⟨none,rfl,.nil,List.Pairwise.nil⟩
    ·rintro acc j ys σ I I' s' ⟨t,r1,r2,r3⟩
     exact⟨t,r1,r2.same (Same.rm (zbb9 s')),r3⟩
    ·rintro acc j x ys σ I R S hj facc s1 hacc hx ⟨t,rfl,L,D⟩ kR _
     obtain⟨d,ed,hd'⟩:=l.get j x hx
     refine br_T ?_
     ac_nf
     refine⟨x,d,rfl,hd'.same s1,dm d (zcl4 ed),by have:=zs2 (zcl4 ed);omega,fun v' I1 s2 S1 _=>?_⟩
     ac_nf
     refine kR _ _ _ s2 (fun I2 c2=>⟨_,rfl,?_,D.push fun y hy b eb ev=>?_⟩)
     case refine_2=>
      subst eb;subst ev
      obtain⟨_,hs⟩:=zbg1 L _ hy
      obtain⟨o1,g1⟩:=zbb3 hs
      obtain⟨o2,g2⟩:=zbb3 S1
      have:=(zg4 g2).1
      rw[(zg4 (zj4 g1).2).2] at this
      cases this
     obtain⟨u1,u2⟩:=inside s1 hacc s2 c2
     rw[zcx1,ed]
     exact zal0 (L.same u1) (.cons (S1.same u2) .nil)
    ·rintro acc ys σ I facc s1 hacc ⟨t,rfl,L,D⟩
     rw[ll,zcq6] at L
     ac_nf
     exact q _ _ s1 (.lst (zh1 facc hacc) (L.same (zs7 _ _))) fun ds2 e2=>by cases e2;exact⟨acc,ys,rfl,zh1 facc hacc,L,D⟩
   case tup a xs ds e l=>
    have ll:=l.len
    obtain⟨dl,dm⟩:=zam8 hs
    have hd:PyData.depthAll ds+1<=n:=hd
    obtain⟨n',rfl⟩:∃ n',n=n'+1:=⟨n - 1,by rfl'⟩
    refine br_F ?_
    refine zg9 (.tup e l) (.inr (.inr (.inr rfl))) ?_
    refine br_T ?_
    refine zbr5 e ?_
    refine zac6 (Wk.tup e) (by rw[zcx6];omega) (fun acc j ys σ I=>∃ t:Option V,σ=[t]/\ShL (rm acc (nw H I)) ys (ds.take j)) ?_ ?_ ?_ ?_
    ·intro acc I f1 s2 h1
     exact⟨none,rfl,.nil⟩
    ·rintro acc j ys σ I I' s' ⟨t,r1,r2⟩
     exact⟨t,r1,r2.same (Same.rm (zbb9 s'))⟩
    ·rintro acc j x ys σ I R S hj facc s1 hacc hx ⟨t,rfl,L⟩ kR _
     obtain⟨d,ed,hd'⟩:=l.get j x hx
     refine br_T ?_
     ac_nf
     refine⟨x,d,rfl,hd'.same s1,dm d (zcl4 ed),by have:=zs2 (zcl4 ed);omega,fun v' I1 s2 S1 _=>?_⟩
     ac_nf
     refine kR _ _ _ s2 (fun I2 c2=>⟨_,rfl,?_⟩)
     obtain⟨u1,u2⟩:=inside s1 hacc s2 c2
     rw[zcx1,ed]
     exact zal0 (L.same u1) (.cons (S1.same u2) .nil)
    ·rintro acc ys σ I facc s1 hacc ⟨t,rfl,L⟩
     rw[ll,zcq6] at L
     refine zcc2 (SqL.of hacc) (fun p2 I2 f2 s2 h2=>?_)
     ac_nf
     exact q _ _ (s1.trans s2) (.tup (zh1 (s1.free f2) h2) ((L.same (zs7 _ _)).same (zbb9 s2))) (fun _ e2=>by cases e2)
   all_goals
    refine br_F ?_
    ac_nf
    first
     | refine zbl4 ?_ (by rfl)
     | refine zaf8 ?_ (by rfl)
     | refine zac2 ?_ (by rfl)
     | refine zbj8 ?_ (by rfl)
    refine br_F ?_
    ac_nf
    exact q _ _ (Same.refl _) (by constructor) (fun _ e2=>by cases e2)
 unfold zi3
 exact key 9
def okD(n:Nat)(d:PyData):Prop:=sml d=true/\d.canLay0=true/\d.depth<=n
def Rd(H:Hp)(v:V)(n:Nat):Prop:=∃ d,ShV H v d/\okD n d/\(za8 d).length<60
theorem Rd.same{H H':Hp}{v:V}{n:Nat}(h:Rd H v n)(s:Same H H'):Rd H' v n:=by obtain⟨d,h1,h2⟩:=h;exact⟨d,h1.same s,h2⟩
theorem okD.up{n m:Nat}{d:PyData}(h:okD n d)(l:n<=m):okD m d:=⟨h.1,h.2.1,zcp4 h.2.2 l⟩
theorem Rd.int{H:Hp}(i:Int)(n:Nat):Rd H (.int i) n:=⟨.int i,.int i,⟨rfl,rfl,zcp2 _⟩,by show (0:Nat)<60;decide⟩
theorem Rd.bl{H:Hp}(b:Bool)(n:Nat):Rd H (.bl b) n:=⟨.bool b,.bl b,⟨rfl,rfl,zcp2 _⟩,by show (0:Nat)<60;decide⟩
theorem Rd.non{H:Hp}(n:Nat):Rd H .non n:=⟨.none,.non,⟨rfl,rfl,zcp2 _⟩,by show (0:Nat)<60;decide⟩
theorem zbv6(h:∀ d∈ds,d.canLay0=true):PyData.canLayAll0 ds=true:=by
 induction ds with
 | nil=>rfl
 | cons d ds ih=>
  show (d.canLay0&&PyData.canLayAll0 ds)=true
  rw[h d (.head _),ih fun x hx=>h x (.tail _ hx)];rfl
theorem zaa2:∀ {ds:List PyData},PyData.canLayAll0 ds=true->∀ d∈ds,d.canLay0=true
 | [],_,d,h=>by cases h
 | e :: ds,h,d,hd=>by
  have h:(e.canLay0&&PyData.canLayAll0 ds)=true:=h
  rw[zcm4] at h
  rcases zcm1.mp hd with rfl|hd
  ·exact h.1
  ·exact zaa2 h.2 d hd
theorem zbz7{n:Nat}(h:∀ d∈ds,d.depth<=n):PyData.depthAll ds<=n:=by
 induction ds with
 | nil=>exact zcp2 _
 | cons d ds ih=>
  rw[show PyData.depthAll (d :: ds)=max d.depth (PyData.depthAll ds) from rfl]
  exact Nat.max_le.mpr ⟨h d (.head _),ih fun x hx=>h x (.tail _ hx)⟩
theorem okD.list{n:Nat}{ds:List PyData}(l:ds.length<=1000)(h:∀ d∈ds,okD n d):okD (n+1) (.list ds):=
 ⟨by simp only[sml,zcm4,decide_eq_true_eq];exact⟨by rfl',zaf5 fun d hd=>(h d hd).1⟩,zbv6 fun d hd=>(h d hd).2.1,Nat.succ_le_succ (zbz7 fun d hd=>(h d hd).2.2)⟩
theorem okD.tuple{n:Nat}{ds:List PyData}(l:ds.length<=1000)(h:∀ d∈ds,okD n d):okD (n+1) (.tuple ds):=
 ⟨by simp only[sml,zcm4,decide_eq_true_eq];exact⟨by rfl',zaf5 fun d hd=>(h d hd).1⟩,zbv6 fun d hd=>(h d hd).2.1,Nat.succ_le_succ (zbz7 fun d hd=>(h d hd).2.2)⟩
theorem Rd.lst{H:Hp}{a:Addr}{xs:List V}{n:Nat}(e:H a=some (.lst xs))(l:xs.length<60)(h:∀ x∈xs,Rd H x n):Rd H (.ref a) (n+1):=by
 obtain⟨ds,h1,h2⟩:=ShL.ex (P:=fun d=>okD n d) fun x hx=>by obtain⟨d,h1,h2,_⟩:=h x hx;exact⟨d,h1,h2⟩
 exact⟨.list ds,.lst e h1,okD.list (by rw[← h1.len];omega) h2,by show ds.length<60;rw[← h1.len];exact l⟩
theorem Rd.tup{H:Hp}{a:Addr}{xs:List V}{n:Nat}(e:H a=some (.tup xs))(l:xs.length<60)(h:∀ x∈xs,Rd H x n):Rd H (.ref a) (n+1):=by
 obtain⟨ds,h1,h2⟩:=ShL.ex (P:=fun d=>okD n d) fun x hx=>by obtain⟨d,h1,h2,_⟩:=h x hx;exact⟨d,h1,h2⟩
 exact⟨.tuple ds,.tup e h1,okD.tuple (by rw[← h1.len];omega) h2,by show (0:Nat)<60;decide⟩
theorem zaj2:∀ {n:Nat}{d:PyData},d.depth<=n->d.canLay0=true->d.eqv d=true
 | _,.none,_,_=>rfl
 | _,.bool b,_,_=>by show (b==b)=true;exact beq_self_eq_true _
 | _,.int i,_,_=>by show (i==i)=true;exact beq_self_eq_true _
 | _,.str x,_,_=>by show (x==x)=true;exact beq_self_eq_true _
 | 0,.list ds,h,_=>by have h:PyData.depthAll ds+1<=0:=h;omega
 | 0,.tuple ds,h,_=>by have h:PyData.depthAll ds+1<=0:=h;omega
 | n+1,.list ds,h,c=>by
  have h:PyData.depthAll ds+1<=n+1:=h
  have c:PyData.canLayAll0 ds=true:=c
  show PyData.eqvAll ds ds=true
  exact all ds (fun d hd=>zaj2 (n:=n) (zcp4 (zs2 hd) (by rfl')) (zaa2 c d hd))
 | n+1,.tuple ds,h,c=>by
  have h:PyData.depthAll ds+1<=n+1:=h
  have c:PyData.canLayAll0 ds=true:=c
  show PyData.eqvAll ds ds=true
  exact all ds (fun d hd=>zaj2 (n:=n) (zcp4 (zs2 hd) (by rfl')) (zaa2 c d hd))
 | _,.dict _,_,c=>by cases (show false=true from c)
where all:∀ ds:List PyData,(∀ d∈ds,d.eqv d=true)->PyData.eqvAll ds ds=true
 | [],_=>rfl
 | d :: ds,h=>by
  show (d.eqv d&&PyData.eqvAll ds ds)=true
  rw[h d (.head _),all ds fun x hx=>h x (.tail _ hx)];rfl
theorem okD.eqv{n:Nat}{d:PyData}(h:okD n d):d.eqv d=true:=zaj2 h.2.2 h.2.1
theorem zr5{K:zcl5}{n:Nat}{x y:V}{d:PyData}(hx:ShV H x d)(hy:ShV H y d)(o:okD n d)(hn:n<=40)(q:Q (.bl false) H):zag1 K x y H Q:=by
 have gen:rEqX K x y H fun v H'=>match v with
   | .bl b=>Q (.bl (!b)) H'
   | _=>False:=zbg6 hx hy o.2.1 o.2.1 (zcp4 o.2.2 hn) (by rw[o.eqv];exact q)
 unfold zag1 zbf3
 cases hx<;>cases hy
 case int i=>show Q (.bl (!decide (i=i))) H;rw[decide_eq_true rfl];exact q
 case bl i=>show Q (.bl (!decide (i=i))) H;rw[decide_eq_true rfl];exact q
 case str i=>show Q (.bl (!decide (i=i))) H;rw[decide_eq_true rfl];exact q
 all_goals exact gen
theorem zq4:∀ {ns:List Int},(∀ x∈ns,0<=x)->(∀ x∈ns,x<=ns.sum)/\0<=ns.sum
 | [],_=>⟨fun x h=>by (cases h),zcr4 _⟩
 | n :: ns,h=>by
  have h0:=h n (.head _)
  obtain⟨i1,i2⟩:=zq4 (ns:=ns) fun y hy=>h y (.tail _ hy)
  rw[zcp6]
  refine⟨fun x hx=>?_,by rfl'⟩
  rcases zcm1.mp hx with rfl|hx
  ·omega
  ·have:=i1 x hx;omega
section
variable {κ μ:Type}[DecidableEq κ] [DecidableEq μ]
def atG(zs:List (κ×Int))(k:κ):Int:=((zs.filter fun z=>decide (z.1=k)).map (·.2)).sum
theorem zv9{kv:List (κ×Int)}{k:κ}:k ∉ kv.map (·.1)->valG kv k=none:=by
 induction kv with
 | nil=>intro _;rfl
 | cons z kv ih=>
  intro h
  rw[zcn5,zcm1,not_or] at h
  rw[zl8 (fun e=>h.1 e.symm),ih h.2]
theorem zbt6(kv:List (κ×Int))(k j:κ)(n:Int):valG (kv.map fun z=>if z.1=k then (z.1,n) else z) j=if j=k then (if j∈kv.map (·.1) then some n else none) else valG kv j:=by
 induction kv with
 | nil=>by_cases e:j=k<;>simp[e,valG]
 | cons z kv ih=>
  rw[zcn5]
  by_cases ez:z.1=j
  ·subst ez
   by_cases ek:z.1=k
   ·rw[if_pos ek,if_pos ek,zl7 (z:=(z.1,n)) rfl,if_pos (by simp)]
   ·rw[if_neg ek,if_neg ek,zl7 rfl,zl7 rfl]
  ·have:¬ (if z.1=k then (z.1,n) else z).1=j:=by split<;>exact ez
   rw[zl8 this,ih,zl8 ez]
   by_cases ek:j=k
   ·rw[if_pos ek,if_pos ek]
    have:(j∈(z :: kv).map (·.1))↔j∈kv.map (·.1):=by
     rw[zcn5,zcm1]
     exact⟨fun h=>h.resolve_left fun e=>ez e.symm,.inr⟩
    by_cases h:j∈kv.map (·.1)
    ·rw[if_pos h,if_pos (this.mpr h)]
    ·rw[if_neg h,if_neg fun z=>h (this.mp z)]
   ·rw[if_neg ek,if_neg ek]
theorem zai7(kv:List (κ×Int))(k:κ):(kv.any fun z=>decide (z.1=k))=true↔k∈kv.map (·.1):=by
 rw[List.any_eq_true,zcm0]
 exact⟨fun ⟨z,h1,h2⟩=>⟨z,h1,of_decide_eq_true h2⟩,fun ⟨z,h1,h2⟩=>⟨z,h1,decide_eq_true h2⟩⟩
theorem zbt5(kv:List (κ×Int))(z:κ×Int)(j:κ):valG (kv++[z]) j=match valG kv j with|some n=>some n|none=>if z.1=j then some z.2 else none:=by
 induction kv with
 | nil=>
  by_cases e:z.1=j
  ·show valG [z] j=if z.1=j then some z.2 else none;rw[zl7 e,if_pos e]
  ·show valG [z] j=if z.1=j then some z.2 else none;rw[zl8 e,if_neg e];rfl
 | cons y kv ih=>
  rw[List.cons_append]
  by_cases e:y.1=j
  ·rw[zl7 e,zl7 e]
  ·rw[zl8 e,zl8 e,ih]
theorem zbr2(kv:List (κ×Int))(k j:κ)(n:Int):valG (putG kv k n) j=if j=k then some n else valG kv j:=by
 unfold putG
 by_cases h:(kv.any fun z=>decide (z.1=k))=true
 ·rw[if_pos h,zbt6]
  by_cases e:j=k
  ·rw[if_pos e,if_pos e,if_pos (by rw[e];exact (zai7 kv k).mp h)]
  ·rw[if_neg e,if_neg e]
 ·rw[if_neg h,zbt5]
  have hk:k ∉ kv.map (·.1):=fun z=>h ((zai7 kv k).mpr z)
  by_cases e:j=k
  ·subst e
   rw[zv9 hk,if_pos rfl]
   first|done|exact if_pos rfl
  ·rw[if_neg e]
   cases valG kv j with
   | none=>exact if_neg fun z=>e z.symm
   | some m=>rfl
theorem zbs5(zs:List (κ×Int))(z:κ×Int)(k:κ):atG (zs++[z]) k=atG zs k+if z.1=k then z.2 else 0:=by
 unfold atG
 rw[List.filter_append,zcn4,zct7]
 by_cases e:z.1=k
 ·rw[if_pos e,zcv6,if_pos (decide_eq_true e)];simp
 ·rw[if_neg e,zcv6,if_neg (by rw[decide_eq_false e];exact zcm2)];simp
theorem zaj1(zs:List (κ×Int))(z:κ×Int)(k:κ):atG (z :: zs) k=(if z.1=k then z.2 else 0)+atG zs k:=by
 unfold atG
 by_cases e:z.1=k
 ·rw[if_pos e,zcv6,if_pos (decide_eq_true e)];simp
 ·rw[if_neg e,zcv6,if_neg (by rw[decide_eq_false e];exact zcm2)];simp
theorem zba1{α:Type}{P:List α->Prop}(h0:P [])(hs:∀ xs x,P xs->P (xs++[x]))(xs:List α):P xs:=by
 have:∀ n (xs:List α),xs.length=n->P xs:=fun n=>by
  induction n with
  | zero=>intro xs h;rw[List.length_eq_zero_iff.mp h];exact h0
  | succ n ih=>
   intro xs h
   have hn:xs≠[]:=fun z=>by rw[z] at h;simp at h
   rw[← List.dropLast_concat_getLast hn]
   exact hs _ _ (ih _ (by rw[List.length_dropLast];omega))
 exact this _ xs rfl
theorem zl4(zs:List (κ×Int))(k:κ):valG (sumG zs) k=if k∈zs.map (·.1) then some (atG zs k) else none:=by
 induction zs using zba1 with
 | h0=>rfl
 | hs zs z ih=>
  rw[zw2]
  unfold addG
  rw[zbr2,zbs5]
  have mm:k∈(zs++[z]).map (·.1)↔(k∈zs.map (·.1)∨k∈[z].map (·.1)):=by rw[zcn4,zco0]
  by_cases e:k=z.1
  ·subst e
   rw[if_pos rfl,if_pos (mm.mpr (.inr (by simp))),if_pos rfl,ih]
   by_cases h:z.1∈zs.map (·.1)
   ·rw[if_pos h];rfl
   ·rw[if_neg h]
    have:atG zs z.1=0:=by
     unfold atG
     rw[zcv7.mpr fun y hy hd=>h (zcm0.mpr ⟨y,hy,of_decide_eq_true hd⟩)];rfl
    rw[this];rfl
  ·have z0:(if z.1=k then z.2 else 0)=0:=if_neg fun q=>e q.symm
   rw[if_neg e,ih,z0,Int.add_zero]
   have:(k∈zs.map (·.1)∨k∈[z].map (·.1))↔k∈zs.map (·.1):=⟨fun h=>h.resolve_right fun q=>e (by simpa using q),.inl⟩
   by_cases h:k∈zs.map (·.1)
   ·rw[if_pos h,if_pos (mm.mpr (.inl h))]
   ·rw[if_neg h,if_neg fun q=>h (this.mp (mm.mp q))]
theorem zbr7(kv:List (κ×Int))(k:κ)(n:Int):(putG kv k n).map (·.1)=if k∈kv.map (·.1) then kv.map (·.1) else kv.map (·.1)++[k]:=by
 unfold putG
 by_cases h:(kv.any fun z=>decide (z.1=k))=true
 ·rw[if_pos h,if_pos ((zai7 kv k).mp h),zcm6]
  refine zcm8 fun z _=>?_
  show (if z.1=k then (z.1,n) else z).1=z.1
  split<;>rfl
 ·rw[if_neg h,if_neg fun z=>h ((zai7 kv k).mpr z),zcn4];rfl
theorem ze6(zs:List (κ×Int)):((sumG zs).map (·.1)).Nodup/\∀ k,k∈(sumG zs).map (·.1)↔k∈zs.map (·.1):=by
 induction zs using zba1 with
 | h0=>exact⟨zcu7,fun k=>Iff.rfl⟩
 | hs zs z ih=>
  rw[zw2]
  unfold addG
  rw[zbr7]
  by_cases h:z.1∈(sumG zs).map (·.1)
  ·rw[if_pos h]
   refine⟨ih.1,fun k=>?_⟩
   rw[ih.2,zcn4,zco0]
   exact⟨.inl,fun q=>q.elim id fun q=>by rw[show k=z.1 by simpa using q];exact (ih.2 _).mp h⟩
  ·rw[if_neg h]
   refine⟨?_,fun k=>?_⟩
   ·rw[List.nodup_append]
    refine⟨ih.1,by simp,fun a ha b hb=>?_⟩
    rw[show b=z.1 by simpa using hb]
    exact fun q=>h (q▸ha)
   ·rw[zco0,ih.2,zcn4,zco0];rfl
theorem zaz0{kv:List (κ×Int)}(nd:(kv.map (·.1)).Nodup){z:κ×Int}(h:z∈kv):valG kv z.1=some z.2:=by
 induction kv with
 | nil=>cases h
 | cons y kv ih=>
  rw[zcn5,zcr2] at nd
  rcases zcm1.mp h with rfl|h
  ·exact zl7 rfl
  ·rw[zl8 (fun e=>nd.1 (e▸zcm0.mpr ⟨z,h,rfl⟩))]
   exact ih nd.2 h
theorem zbz6{zs:List (κ×Int)}(h1:∀ z∈zs,1<=z.2):∀ {k:κ},(0<=atG zs k)/\(k∈zs.map (·.1)->1<=atG zs k):=by
 induction zs with
 | nil=>exact fun {k}=>⟨zcr4 _,fun h=>by cases h⟩
 | cons z zs ih=>
  intro k
  obtain⟨i1,i2⟩:=ih (fun y hy=>h1 y (.tail _ hy)) (k:=k)
  have z1:=h1 z (.head _)
  rw[zaj1]
  by_cases e:z.1=k
  ·rw[if_pos e]
   exact⟨by rfl',fun _=>by rfl'⟩
  ·rw[if_neg e]
   refine⟨by rfl',fun h=>?_⟩
   rw[zcn5,zcm1] at h
   have:=i2 (h.resolve_left fun q=>e q.symm)
   omega
theorem zbm5{p:κ->Bool}{a:κ}{c:Int}:∀ {ks:List κ},ks.Nodup->((ks.filter p).map fun k=>if a=k then c else 0).sum=if a∈ks/\p a=true then c else 0
 | [],_=>by simp
 | k :: ks,nd=>by
  rw[zcr2] at nd
  have ih:=zbm5 (p:=p) (a:=a) (c:=c) nd.2
  rw[zcv6]
  by_cases e:a=k
  ·subst e
   have:¬ (a∈ks/\p a=true):=fun h=>nd.1 h.1
   rw[if_neg this] at ih
   by_cases hp:p a=true
   ·rw[if_pos hp,zcn5,zcp6,ih,if_pos rfl,if_pos ⟨.head _,hp⟩];omega
   ·rw[if_neg hp,ih,if_neg fun h=>hp h.2]
  ·have:(a∈k :: ks/\p a=true)↔(a∈ks/\p a=true):=by rw[zcm1];exact⟨fun h=>⟨h.1.resolve_left e,h.2⟩,fun h=>⟨.inr h.1,h.2⟩⟩
   have st:∀ b,(if b=true then k :: ks.filter p else ks.filter p).map (fun k=>if a=k then c else 0)=if b=true then 0 :: (ks.filter p).map (fun k=>if a=k then c else 0) else (ks.filter p).map fun k=>if a=k then c else 0:=fun b=>by
    cases b
    ·rfl
    ·show (if a=k then c else 0) :: _=_
     rw[if_neg e];rfl
   rw[st]
   have s0:(if p k=true then (0:Int) :: (ks.filter p).map (fun k=>if a=k then c else 0) else (ks.filter p).map fun k=>if a=k then c else 0).sum=((ks.filter p).map fun k=>if a=k then c else 0).sum:=by
    split
    ·rw[zcp6,zcw7]
    ·rfl
   rw[s0,ih]
   by_cases h:a∈ks/\p a=true
   ·rw[if_pos h,if_pos (this.mpr h)]
   ·rw[if_neg h,if_neg fun q=>h (this.mp q)]
theorem zba8{α:Type}(f g:α->Int):∀ xs:List α,(xs.map fun x=>f x+g x).sum=(xs.map f).sum+(xs.map g).sum
 | []=>rfl
 | x :: xs=>by
  have:=zba8 f g xs
  simp only[zcn5,zcp6]
  omega
theorem zae9{p:κ->Bool}{ks:List κ}(nd:ks.Nodup):∀ {zs:List (κ×Int)},(∀ z∈zs,z.1∈ks)->((ks.filter p).map (atG zs)).sum=((zs.filter fun z=>p z.1).map (·.2)).sum
 | [],_=>by
  have:((ks.filter p).map (atG ([]:List (κ×Int)))).sum=0:=by
   induction (ks.filter p) with
   | nil=>rfl
   | cons k l ih=>rw[zcn5,zcp6,ih];rfl
  rw[this];rfl
 | z :: zs,h=>by
  have ih:=zae9 (p:=p) nd (zs:=zs) fun y hy=>h y (.tail _ hy)
  have e:(ks.filter p).map (atG (z :: zs))=(ks.filter p).map fun k=>(if z.1=k then z.2 else 0)+atG zs k:=zcm8 fun k _=>zaj1 zs z k
  rw[e,zba8,zbm5 nd,ih,zcv6]
  by_cases hp:p z.1=true
  ·rw[if_pos ⟨h z (.head _),hp⟩,if_pos hp];rfl
  ·rw[if_neg fun q=>hp q.2,if_neg hp,zcw7]
end
theorem zcb3{za zb:List (Int×Int)}(h:∀ k,valG (sumG za) k=valG (sumG zb) k):eqDI (sumG za) (sumG zb)=true:=by
 obtain⟨na,ma⟩:=ze6 za
 obtain⟨nb,mb⟩:=ze6 zb
 have keys:∀ k,k∈(sumG za).map (·.1)↔k∈(sumG zb).map (·.1):=fun k=>by
  rw[ma,mb]
  have:=h k
  rw[zl4,zl4] at this
  by_cases h1:k∈za.map (·.1)<;>by_cases h2:k∈zb.map (·.1)<;>simp[h1,h2] at this ⊢
 have len:=((List.perm_ext_iff_of_nodup na nb).mpr keys).length_eq
 rw[zck9,zck9] at len
 unfold eqDI
 rw[len,beq_self_eq_true,zcq1,zcn1]
 intro z hz
 have e:valI (sumG zb) z.1=valG (sumG zb) z.1:=rfl
 rw[e,← h,zaz0 na hz]
 exact beq_self_eq_true _
theorem zv0{x y:Int×Int}:ltP x y=true↔x.1<y.1∨(x.1=y.1/\x.2<y.2):=by
 unfold ltP
 by_cases e:x.1=y.1
 ·rw[if_pos (by simpa using e)]
  by_cases e2:x.2=y.2
  ·rw[if_pos (by simpa using e2)]
   exact⟨fun h=>by (cases h),fun h=>by rfl'⟩
  ·rw[if_neg (by simpa using e2),decide_eq_true_iff];omega
 ·rw[if_neg (by simpa using e),decide_eq_true_iff];omega
theorem zai0:∀ {ks ls:List (Int×Int)},OrdK ks->OrdK ls->(∀ k,k∈ks↔k∈ls)->ks=ls
 | [],[],_,_,_=>rfl
 | [],l :: ls,_,_,h=>absurd ((h l).mpr (.head _)) (by simp)
 | k :: ks,[],_,_,h=>absurd ((h k).mp (.head _)) (by simp)
 | k :: ks,l :: ls,o1,o2,h=>by
  obtain⟨n1,p1⟩:=o1
  obtain⟨n2,p2⟩:=o2
  rw[zcr2] at n1 n2
  rw[zco5] at p1 p2
  have e:k=l:=by
   rcases zcm1.mp ((h k).mp (.head _)) with e|e
   ·exact e
   ·rcases zcm1.mp ((h l).mpr (.head _)) with e' | e'
    ·exact e'.symm
    ·have a:=zv0.mp (p2.1 k e)
     have b:=zv0.mp (p1.1 l e')
     omega
  subst e
  rw[zai0 ⟨n1.2,p1.2⟩ ⟨n2.2,p2.2⟩ fun z=>⟨fun hz=>?_,fun hz=>?_⟩]
  ·rcases zcm1.mp ((h z).mp (.tail _ hz)) with e|e
   ·exact absurd (e▸hz) n1.1
   ·exact e
  ·rcases zcm1.mp ((h z).mpr (.tail _ hz)) with e|e
   ·exact absurd (e▸hz) n2.1
   ·exact e
theorem zl9.unique{ys:List (Int×Int×Int)}(h1:zl9 ms i xs)(h2:zl9 ms i ys):xs=ys:=by
 obtain⟨o1,k1,v1⟩:=h1
 obtain⟨o2,k2,v2⟩:=h2
 have e:=zai0 o1 o2 fun k=>(k1 k).trans (k2 k).symm
 apply zcp0
 intro j
 have ej:(xs.map keyT)[j]?=(ys.map keyT)[j]?:=by rw[e]
 rw[zcl2,zcl2] at ej
 cases ex:xs[j]? with
 | none=>
  rw[ex] at ej
  cases ey:ys[j]? with
  | none=>rfl
  | some y=>rw[ey] at ej;cases ej
 | some x=>
  rw[ex] at ej
  cases ey:ys[j]? with
  | none=>rw[ey] at ej;cases ej
  | some y=>
   rw[ey] at ej
   have ek:keyT x=keyT y:=Option.some.inj ej
   have a:=v1 x (zcl4 ex)
   have b:=v2 y (zcl4 ey)
   rw[ek,b] at a
   obtain⟨x1,x2,x3⟩:=x
   obtain⟨y1,y2,y3⟩:=y
   unfold keyT at ek
   cases ek
   have:y3=x3:=Option.some.inj a
   rw[this]
theorem zi6.unique{ms:List (List Int×Int)}{f:Nat}{xss yss:List (List (Int×Int×Int))}(h1:zi6 ms f xss)(h2:zi6 ms f yss):xss=yss:=by
 apply zcp0
 intro i
 by_cases hi:i<f
 ·have e1:xss[i]?=some (xss[i]'(by rw[h1.1];exact hi)):=zcl0 _
  have e2:yss[i]?=some (yss[i]'(by rw[h2.1];exact hi)):=zcl0 _
  rw[e1,e2,(h1.2 i _ e1).1.unique (h2.2 i _ e2).1]
 ·rw[zcn0 (by rw[h1.1];omega),zcn0 (by rw[h2.1];omega)]
def zr3(z:Int×Int×Int):PyData:=.tuple [.int z.1,.int z.2.1,.int z.2.2]
def zd0(xs:List (Int×Int×Int)):PyData:=.list (xs.map zr3)
def stmD(xss:List (List (Int×Int×Int))):PyData:=.list (xss.map zd0)
theorem zq1(xs:List (Int×Int×Int)):rowF (zd0 xs)=xs:=by
 unfold rowF zd0
 show (xs.map zr3).map triD=xs
 rw[zcm6]
 exact (zcm8 fun x _=>rfl).trans (zcx3 _)
theorem zn0{ns:List Int}(nn:∀ n∈ns,0<=n)(hi:i<ns.length):0<=ns.getD i 0/\ns.getD i 0<=(ns.drop i).sum/\(ns.drop i).sum - ns.getD i 0=(ns.drop (i+1)).sum:=by
 have e:ns.drop i=ns[i] :: ns.drop (i+1):=zcq9 hi
 have g:ns.getD i 0=ns[i]:=by rw[zcl3,zcl0 hi];rfl
 have z:=(zq4 (ns:=ns.drop (i+1)) fun n hn=>nn n (zcs5 hn)).2
 rw[g,e,zcp6]
 exact⟨nn _ (zcv3 hi),by rfl',by rfl'⟩
structure OkS(ms:List (List Int×Int))(h:Int)(f:Nat):Prop where
 ne:1<=ms.length
 f1:1<=f
 all:∀ x∈ms,(∀ n∈x.1,0<=n)/\x.1.length=f/\x.1.sum=h/\1<=x.2
theorem zau4(R:zl9 ms i xs){z:Int×Int×Int}(hz:z∈xs):∃ x∈ms,z.1=(x.1.drop i).sum/\z.2.1=x.1.getD i 0:=by
 have:keyT z∈(sumG (flw ms i)).map (·.1):=(R.2.1 _).mp (zcm0.mpr ⟨z,hz,rfl⟩)
 rw[(ze6 _).2,zcm0] at this
 obtain⟨y,hy,ey⟩:=this
 unfold flw at hy
 obtain⟨x,hx,rfl⟩:=zcm0.mp hy
 have ey:((x.1.drop i).sum,x.1.getD i 0)=(z.1,z.2.1):=ey
 exact⟨x,hx,(congrArg Prod.fst ey).symm,(congrArg Prod.snd ey).symm⟩
theorem zq6{h:Int}{f:Nat}(O:OkS ms h f)(hi:i<f)(R:zl9 ms i xs){z:Int×Int×Int}(hz:z∈xs):0<=z.2.1/\z.2.1<=z.1/\z.2.2=atG (flw ms i) (keyT z)/\1<=z.2.2:=by
 obtain⟨x,hx,e1,e2⟩:=zau4 R hz
 obtain⟨nn,xl,_,_⟩:=O.all x hx
 obtain⟨a,b,_⟩:=zn0 nn (i:=i) (by rfl')
 have v:=R.2.2 z hz
 rw[zl4] at v
 have km:keyT z∈(flw ms i).map (·.1):=(ze6 _).2 _ |>.mp ((R.2.1 _).mp (zcm0.mpr ⟨z,hz,rfl⟩))
 rw[if_pos km] at v
 have v:=Option.some.inj v
 have w:∀ y∈flw ms i,1<=y.2:=fun y hy=>by
  unfold flw at hy
  obtain⟨x,hx,rfl⟩:=zcm0.mp hy
  exact (O.all x hx).2.2.2
 have g:=(zbz6 w (k:=keyT z)).2 km
 exact⟨by rfl',by rfl',v.symm,by rfl'⟩
theorem zbv8{h:Int}{f:Nat}(O:OkS ms h f)(hi:i<f)(R:zl9 ms i xs):rowD (zd0 xs)=true:=by
 show ((xs.map zr3).all zs4&&incD (xs.map zr3))=true
 rw[zcm4]
 constructor
 ·rw[zcu9,zcn1]
  intro z hz
  obtain⟨a,b,_,c⟩:=zq6 O hi R hz
  show (decide ((0:Int)<=z.1)&&decide ((0:Int)<=z.2.1/\z.2.1<=z.1)&&decide ((1:Int)<=z.2.2))=true
  rw[decide_eq_true (show (0:Int)<=z.1 by rfl'),decide_eq_true (show (0:Int)<=z.2.1/\z.2.1<=z.1 from ⟨a,b⟩),decide_eq_true c];rfl
 ·unfold incD
  rw[zck9,zcn1]
  intro j hj
  have hj:=zcq7.mp hj
  have p:=zcr0.mp R.1.2 j (j+1) (by rw[zck9];omega) (by rw[zck9];omega) (by rfl')
  have g:∀ (j:Nat) (hj:j<xs.length),keyD ((xs.map zr3).getD j .none)=(xs.map keyT)[j]'(by rw[zck9];exact hj):=fun j hj=>by
   rw[zcl3,zcl2,zcl0 hj,zcx0];rfl
  rw[g j (by rfl'),g (j+1) (by rfl')]
  exact p
theorem zaq9(R:zl9 ms i xs)(hv:∀ z∈xs,z.2.2=atG (flw ms i) (keyT z))(g:Int×Int->Int)(k:Int):valG (sumG (xs.map fun z=>(g (keyT z),z.2.2))) k=valG (sumG ((flw ms i).map fun z=>(g z.1,z.2))) k:=by
 rw[zl4,zl4]
 have mem:k∈(xs.map fun z=>(g (keyT z),z.2.2)).map (·.1)↔k∈((flw ms i).map fun z=>(g z.1,z.2)).map (·.1):=by
  rw[zcm6,zcm6,zcm0,zcm0]
  constructor
  ·rintro⟨z,hz,rfl⟩
   have:=(ze6 _).2 _ |>.mp ((R.2.1 _).mp (zcm0.mpr ⟨z,hz,rfl⟩))
   obtain⟨y,hy,ey⟩:=zcm0.mp this
   exact⟨y,hy,congrArg g ey⟩
  ·rintro⟨y,hy,rfl⟩
   have:y.1∈xs.map keyT:=(R.2.1 _).mpr ((ze6 _).2 _ |>.mpr (zcm0.mpr ⟨y,hy,rfl⟩))
   obtain⟨z,hz,ez⟩:=zcm0.mp this
   exact⟨z,hz,congrArg g ez⟩
 have at1:atG (xs.map fun z=>(g (keyT z),z.2.2)) k=(((xs.map keyT).filter fun q=>decide (g q=k)).map (atG (flw ms i))).sum:=by
  unfold atG
  rw[zcw1,zcw1,zcm6,zcm6]
  refine congrArg List.sum (zcm8 fun z hz=>?_)
  exact hv z (List.mem_filter.mp hz).1
 have at2:atG ((flw ms i).map fun z=>(g z.1,z.2)) k=(((flw ms i).filter fun z=>decide (g z.1=k)).map (·.2)).sum:=by
  unfold atG
  rw[zcw1,zcm6]
  rfl
 rw[at1,at2,zae9 (p:=fun q=>decide (g q=k)) R.1.1 fun z hz=>(R.2.1 _).mpr ((ze6 _).2 _ |>.mpr (zcm0.mpr ⟨z,hz,rfl⟩))]
 by_cases h:k∈(xs.map fun z=>(g (keyT z),z.2.2)).map (·.1)
 ·rw[if_pos h,if_pos (mem.mp h)]
 ·rw[if_neg h,if_neg fun q=>h (mem.mpr q)]
theorem zbn1{h:Int}{f:Nat}{ys:List (Int×Int×Int)}(O:OkS ms h f)(hi:i+1<f)(R1:zl9 ms i xs)(R2:zl9 ms (i+1) ys):zx7 (zd0 xs) (zd0 ys)=true:=by
 unfold zx7
 rw[zq1,zq1]
 refine zcb3 fun k=>?_
 have a:=zaq9 R1 (fun z hz=>(zq6 O (by rfl') R1 hz).2.2.1) (fun q=>q.1 - q.2) k
 have b:=zaq9 R2 (fun z hz=>(zq6 O hi R2 hz).2.2.1) (fun q=>q.1) k
 have e:((flw ms i).map fun z=>(z.1.1 - z.1.2,z.2))=(flw ms (i+1)).map fun z=>(z.1.1,z.2):=by
  unfold flw
  rw[zcm6,zcm6]
  refine zcm8 fun x hx=>?_
  obtain⟨nn,xl,_,_⟩:=O.all x hx
  obtain⟨_,_,c⟩:=zn0 nn (i:=i) (by rfl')
  show ((x.1.drop i).sum - x.1.getD i 0,x.2)=((x.1.drop (i+1)).sum,x.2)
  rw[c]
 have a:valG (sumG (xs.map fun z=>(z.1 - z.2.1,z.2.2))) k=valG (sumG ((flw ms i).map fun z=>(z.1.1 - z.1.2,z.2))) k:=a
 have b:valG (sumG (ys.map fun z=>(z.1,z.2.2))) k=valG (sumG ((flw ms (i+1)).map fun z=>(z.1.1,z.2))) k:=b
 rw[a,e,b]
theorem stm_ok{h:Int}{f:Nat}(O:OkS ms h f)(S:zi6 ms f xss):zo0 h f (stmD xss)=true:=by
 have f1:=O.f1
 have gd:∀ (i:Nat) (hi:i<xss.length),(xss.map zd0).getD i .none=zd0 xss[i]:=fun i hi=>by
  rw[zcl3,zcl2,zcl0 hi];rfl
 have ri:∀ (i:Nat) (hi:i<xss.length),zl9 ms i xss[i]:=fun i hi=>(S.2 i _ (zcl0 hi)).1
 have sl:=S.1
 have l0:0<xss.length:=by rfl'
 have r0:=ri 0 l0
 obtain⟨x0,ex0⟩:∃ x,ms[0]?=some x:=⟨_,zcl0 (by have:=O.ne;omega)⟩
 have n0:0<(xss[0]).length:=by
  have:((x0.1.drop 0).sum,x0.1.getD 0 0)∈(xss[0]).map keyT:=(r0.2.1 _).mpr ((ze6 _).2 _ |>.mpr (by
   unfold flw
   rw[zcm6]
   exact zcm0.mpr ⟨x0,zcl4 ex0,rfl⟩))
  obtain⟨z,hz,_⟩:=zcm0.mp this
  exact List.length_pos_of_mem hz
 have items:za8 (stmD xss)=xss.map zd0:=rfl
 unfold zo0
 rw[items]
 have b:zg1 (stmD xss)=true:=by
  show (decide (0<(xss.map zd0).length)&&rowD ((xss.map zd0).getD 0 .none)&&decide (0<(za8 ((xss.map zd0).getD 0 .none)).length))=true
  rw[gd 0 l0,zck9,decide_eq_true l0,zbv8 O (by rfl') r0]
  show (true&&true&&decide (0<((xss[0]).map zr3).length))=true
  rw[zck9,decide_eq_true n0];rfl
 have c1:decide ((((xss.map zd0).length:Nat):Int)=(f:Int))=true:=decide_eq_true (by rw[zck9,sl])
 have c2:(xss.map zd0).all rowD=true:=by
  rw[zcu9,zcn1]
  intro xs hx
  obtain⟨i,ei⟩:=zco7 hx
  exact zbv8 O (by have:=(zcl1.mp ei).1;omega) (S.2 i xs ei).1
 have c3:zbl5 h ((xss.map zd0).getD 0 .none)=true:=by
  rw[gd 0 l0]
  unfold zbl5
  rw[zq1,zcn1]
  intro z hz
  obtain⟨x,hx,e1,_⟩:=zau4 r0 hz
  rw[e1,List.drop_zero]
  exact decide_eq_true (O.all x hx).2.2.1
 have c4:goneD ((xss.map zd0).getD ((xss.map zd0).length - 1) .none)=true:=by
  rw[zck9,gd (xss.length - 1) (by rfl')]
  unfold goneD
  rw[zq1,zcn1]
  intro z hz
  obtain⟨x,hx,e1,e2⟩:=zau4 (ri _ (by rfl')) hz
  obtain⟨nn,xl,_,_⟩:=O.all x hx
  obtain⟨_,_,c⟩:=zn0 nn (i:=xss.length - 1) (by rfl')
  rw[zcv4 (i:=xss.length - 1+1) (by rfl')] at c
  have:([]:List Int).sum=0:=rfl
  rw[e1,e2]
  exact decide_eq_true (by rfl')
 have c5:zaf2 (xss.map zd0)=true:=by
  unfold zaf2
  rw[zck9,zcn1]
  intro i hi
  have hi:=zcq7.mp hi
  rw[gd i (by rfl'),gd (i+1) (by rfl')]
  exact zbn1 O (by rfl') (ri i (by rfl')) (ri (i+1) (by rfl'))
 rw[b,c1,c2,c3,c4,c5];rfl
theorem RwAt.shL{p:Addr}{bs:List Addr}(R:RwAt H p bs xs):ShL H (bs.map V.ref) (xs.map zr3):=ShL.idx (by rw[zck9,zck9,R.len]) fun i x d h1 h2=>by
 rw[zcl2] at h1 h2
 obtain⟨b,eb,rfl⟩:=zcl6.mp h1
 obtain⟨z,ez,rfl⟩:=zcl6.mp h2
 exact .tup (R.row i b z eb ez) (.cons (.int _) (.cons (.int _) (.cons (.int _) .nil)))
theorem RwAt.sh{p:Addr}{bs:List Addr}(R:RwAt H p bs xs):ShV H (.ref p) (zd0 xs):=.lst R.out R.shL
theorem StAt.sh{H:Hp}{p:Addr}{rs:List (Addr×List Addr)}{xss:List (List (Int×Int×Int))}(R:StAt H p rs xss):ShV H (.ref p) (stmD xss):=.lst R.out (ShL.idx (by rw[zck9,zck9,R.len]) fun i x d h1 h2=>by
 rw[zcl2] at h1 h2
 obtain⟨b,eb,rfl⟩:=zcl6.mp h1
 obtain⟨z,ez,rfl⟩:=zcl6.mp h2
 exact ((R.row i b z eb ez).same (zs7 _ _)).sh)
def row7(c:Bool)(xs:List (Int×Int×Int)):PyData:=.list (xs.map zr3++if c=true then [.int 7] else [])
theorem row7_F(xs:List (Int×Int×Int)):row7 false xs=zd0 xs:=by unfold row7 zd0;rw[if_neg zcm2,zcr6]
theorem tri_ok(z:Int×Int×Int):okD 1 (zr3 z):=okD.tuple (n:=0) (by show 3<=1000;decide) fun d hd=>by
 simp only[zcm1,zcq3,or_false] at hd
 rcases hd with rfl|rfl|rfl<;>exact⟨rfl,rfl,zcp2 _⟩
theorem zcc6{c:Bool}(h:xs.length<64):okD 2 (row7 c xs):=okD.list (n:=1) (by rw[zcl8,zck9];split<;>simp<;>omega) fun d hd=>by
 rcases zco0.mp hd with hd|hd
 ·obtain⟨z,_,rfl⟩:=zcm0.mp hd;exact tri_ok z
 ·split at hd
  ·rw[zcn9.mp hd];exact⟨rfl,rfl,zcp2 _⟩
  ·cases hd
theorem zcf4{c:Bool}(hl:xss.length<64)(h:∀ xs∈xss,xs.length<64):okD 3 (.list (xss.map (row7 c))):=okD.list (n:=2) (by rw[zck9];omega) fun d hd=>by
 obtain⟨xs,hx,rfl⟩:=zcm0.mp hd
 exact zcc6 (h xs hx)
theorem zbv0(xss:List (List (Int×Int×Int))):stmD xss=.list (xss.map (row7 false)):=by
 unfold stmD
 rw[zcm8 fun xs _=>(row7_F xs).symm]
def zh3(x:List Int×Int):PyData:=.tuple [.list (x.1.map PyData.int),.int x.2]
def zp2(ms:List (List Int×Int)):PyData:=.list (ms.map zh3)
theorem zz9{p:Addr}{ns:List Int}(h:H p=some (.lst (ns.map V.int))):ShV H (.ref p) (.list (ns.map PyData.int)):=.lst h (ShL.idx (by rw[zck9,zck9]) fun i x d h1 h2=>by
 rw[zcl2] at h1 h2
 obtain⟨n,en,rfl⟩:=zcl6.mp h1
 rw[en] at h2
 cases h2
 exact .int n)
theorem zc0.sh{m:Addr}(M:zc0 H m ts ms):ShV H (.ref m) (zp2 ms):=.lst M.out (ShL.idx (by rw[zck9,zck9,M.len]) fun i x d h1 h2=>by
 obtain⟨t,y,rfl,e1,e2,e3,e4⟩:=M.elt h1
 rw[zcl2,e2] at h2
 cases h2
 exact .tup e3 (.cons (zz9 e4) (.cons (.int _) .nil)))
theorem zam7(ms:List (List Int×Int)):msD (zp2 ms)=ms:=by
 unfold msD zp2
 show (ms.map zh3).map _=ms
 rw[zcm6]
 exact (zcm8 fun x _=>by show (zag3 (zn8 (zh3 x)),x.2)=x;unfold zh3;rw[zp1]).trans (zcx3 _)
theorem zas9{x:List Int×Int}(e:ms[0]?=some x):zj5 (ms.map zh3)=x.1:=by
 unfold zj5
 rw[getD_some (d:=zh3 x) (by rw[zcl2,e];rfl)]
 exact zp1 x.1 x.2
theorem zar2{h:Int}{f:Nat}(O:OkS ms h f)(hh:0<=h/\h<=40)(hf:f<=8):mixD (zp2 ms)=true/\zn9 (zp2 ms)=f:=by
 obtain⟨x0,ex0⟩:∃ x,ms[0]?=some x:=⟨_,zcl0 (by have:=O.ne;omega)⟩
 obtain⟨_,l0,s0,_⟩:=O.all x0 (zcl4 ex0)
 have f1:=O.f1
 refine⟨?_,by unfold zn9 zp2;show (zj5 (ms.map zh3)).length=f;rw[zas9 ex0,l0]⟩
 unfold zp2
 rw[zt0,zas9 ex0,l0,s0]
 have a1:(ms.map zh3).all zt8=true:=by
  rw[zcu9,zcn1]
  intro x hx
  obtain⟨nn,_,_,w⟩:=O.all x hx
  show ((x.1.map PyData.int).all (zj3 0)&&decide ((1:Int)<=x.2))=true
  rw[zcu9,show x.1.all (zj3 0∘PyData.int)=true from zcn1.mpr fun y hy=>decide_eq_true (nn y hy),decide_eq_true w];rfl
 have a2:zs6 h f=true:=by
  unfold zs6
  rw[decide_eq_true hh,decide_eq_true (show (1:Int)<=(f:Int)/\(f:Int)<=8 by rfl')];rfl
 have a3:((ms.map zh3).all fun d=>zz4 h f (zn8 d))=true:=by
  rw[zcu9,zcn1]
  intro x hx
  obtain⟨nn,xl,xs,w⟩:=O.all x hx
  show (zz4 h f (zn8 (zh3 x)))=true
  unfold zz4
  have e1:zp6 (zn8 (zh3 x))=true:=by
   show (x.1.map PyData.int).all (zj3 0)=true
   rw[zcu9]
   exact zcn1.mpr fun y hy=>decide_eq_true (nn y hy)
  have e2:zag3 (zn8 (zh3 x))=x.1:=zp1 x.1 x.2
  rw[e1,e2,decide_eq_true (show (x.1.length:Int)=(f:Int) by rfl'),decide_eq_true xs];rfl
 rw[decide_eq_true (show (ms.map zh3).length≠0 by rw[zck9];have:=O.ne;omega),a1,a2,a3];rfl
theorem zby5:∀ {xs ys:List Int},xs.Nodup->(∀ x∈xs,x∈ys)->ys.length<=xs.length->∀ y∈ys,y∈xs
 | [],ys,_,_,hl,y,hy=>by
  have:ys=[]:=List.length_eq_zero_iff.mp (by simpa using hl)
  rw[this] at hy
  cases hy
 | x :: xs,ys,nd,hs,hl,y,hy=>by
  rw[zcr2] at nd
  have hx:=hs x (.head _)
  have ih:=zby5 (xs:=xs) (ys:=ys.erase x) nd.2 (fun z hz=>(List.mem_erase_of_ne (fun (e:z=x)=>nd.1 (e▸hz))).mpr (hs z (.tail _ hz))) (by rw[List.length_erase_of_mem hx];rw[zcn6] at hl;omega)
  by_cases e:y=x
  ·rw[e];exact .head _
  ·exact .tail _ (ih y ((List.mem_erase_of_ne e).mpr hy))
theorem zbr1{za zb:List (Int×Int)}(h:eqDI (sumG za) (sumG zb)=true):(sumG za).length=(sumG zb).length/\∀ k,valG (sumG za) k=valG (sumG zb) k:=by
 obtain⟨na,ma⟩:=ze6 za
 obtain⟨nb,mb⟩:=ze6 zb
 unfold eqDI at h
 rw[zcm4,zcn1] at h
 obtain⟨hl,h⟩:=h
 have hl:(sumG za).length=(sumG zb).length:=by simpa using hl
 refine⟨hl,?_⟩
 have h1:∀ z∈sumG za,valG (sumG zb) z.1=some z.2:=fun z hz=>by
  have:=h z hz
  have e:valI (sumG zb) z.1=valG (sumG zb) z.1:=rfl
  rw[e] at this
  simpa using this
 have sub:∀ k,k∈(sumG za).map (·.1)->k∈(sumG zb).map (·.1):=fun k hk=>by
  obtain⟨z,hz,rfl⟩:=zcm0.mp hk
  by_cases e:z.1∈(sumG zb).map (·.1)
  ·exact e
  ·have:=h1 z hz
   rw[zv9 e] at this
   cases this
 have sup:∀ k,k∈(sumG zb).map (·.1)->k∈(sumG za).map (·.1):=fun k hk=>by
  exact zby5 na (fun k hk=>sub k hk) (by rw[zck9,zck9];omega) k hk
 intro k
 by_cases e:k∈(sumG za).map (·.1)
 ·obtain⟨z,hz,rfl⟩:=zcm0.mp e
  rw[zaz0 na hz,h1 z hz]
 ·rw[zv9 e,zv9 fun z=>e (sup k z)]
def zf7(d:PyData):Int:=((rowF ((za8 d).getD 0 .none)).getD 0 (0,0,0)).1
def zg0(d:PyData):Bool:=zg1 d&&(zs6 (zf7 d) (za8 d).length&&zo0 (zf7 d) (za8 d).length d)
theorem zao6{v:V}{d:PyData}(h:ShV H v d)(e:zg1 d=true):∃ (a r t:Addr) (xs:List V) (ds:List PyData) (ts:List Addr) (j w:Int),v=.ref a/\d=.list ds/\H a=some (.lst xs)/\xs.length=ds.length/\1<=ds.length/\xs[0]?=some (.ref r)/\H r=some (.lst (ts.map V.ref))/\ts[0]?=some t/\H t=some (.tup [.int (zf7 d),.int j,.int w]):=by
 cases h
 case lst a xs ds e1 l=>
  have e:(decide (0<ds.length)&&rowD (ds.getD 0 .none)&&decide (0<(za8 (ds.getD 0 .none)).length))=true:=e
  rw[zcm4,zcm4,decide_eq_true_eq,decide_eq_true_eq] at e
  obtain⟨⟨h0,h1⟩,h2⟩:=e
  have ll:=l.len
  obtain⟨x0,ex0⟩:∃ x,xs[0]?=some x:=⟨_,zcl0 (by rfl')⟩
  obtain⟨d0,ed0,hd0⟩:=l.get 0 x0 ex0
  rw[getD_some ed0] at h1 h2
  obtain⟨r,ts,es,rfl,rfl,hr,hl,hp,_⟩:=zx8 hd0 h1
  have h2:0<es.length:=h2
  obtain⟨t,et⟩:∃ t,ts[0]?=some t:=⟨_,zcl0 (by rfl')⟩
  obtain⟨z,ez⟩:∃ z,(rowF (.list es))[0]?=some z:=⟨_,zcl0 (by rw[ze8];omega)⟩
  have eh:zf7 (.list ds)=z.1:=by
   show ((rowF (ds.getD 0 .none)).getD 0 (0,0,0)).1=z.1
   rw[getD_some ed0,zcl3,ez];rfl
  refine⟨a,r,t,xs,ds,ts,z.2.1,z.2.2,rfl,rfl,e1,ll,h0,ex0,hr,et,?_⟩
  rw[eh]
  exact hp 0 t z et ez
 all_goals simp[zg1] at e
@[irreducible] def zg3:Sp:=fun vs H Q _=>∃ (v:V) (d:PyData),vs=[v]/\ShV H v d/\zg1 d=true/\Q (.int (zf7 d)) H
theorem zq8{v:V}{d:PyData}(h:ShV H v d)(e:zg1 d=true)(q:Q (.int (zf7 d)) H):zg3 [v] H Q E:=by unfold zg3;exact⟨v,d,rfl,h,e,q⟩
theorem zat5{f:Addr}(F:Fun K "hosts_in" "hosts_in" zaa4 f fd)(N:Nm mg):FnOk P w K mg base CX0 1 f fd ["stream"] zg3:=by
 refine F.ok zav9 (fun vs H Q E h=>by unfold zg3 at h;obtain⟨_,_,rfl,_⟩:=h;rfl) fun _ _ _ s H vs Q E hr h=>?_
 unfold zg3 at h
 obtain⟨v,d,rfl,h,e,q⟩:=h
 refine⟨_,(za4 (zb1 (zb5 (K:=K) rfl (zb5 (K:=K) rfl (zb5 (K:=K) rfl (pq 0) za3) za3) za3))),?_⟩
 obtain⟨a,r,t,xs,ds,ts,j,w,rfl,_,ha,_,_,hx,hr',ht,htt⟩:=zao6 h e
 refine zb8 (v:=.ref r) ha (zh4 (j:=0) hx) ?_
 refine zb8 (v:=.ref t) hr' (zh4 (j:=0) (by rw[zcl2,ht];rfl)) ?_
 refine zd2 (v:=.int (zf7 d)) htt rfl ?_
 ac_nf
 exact q
@[irreducible] def zd7:Sp:=fun vs H Q _=>∃ (v:V) (d:PyData),vs=[v]/\ShV H v d/\sml d=true/\∀ H',Same H H'->Q (.bl (zg0 d)) H'
theorem any_rd{v:V}{d:PyData}(h:ShV H v d)(hs:sml d=true)(q:∀ H',Same H H'->Q (.bl (zg0 d)) H'):zd7 [v] H Q E:=by unfold zd7;exact⟨v,d,rfl,h,hs,q⟩
theorem zab6{f:Addr}(F:Fun K "is_any_stream" "is_any_stream" zn4 f fd)(N:Nm mg)(zci8:Def P w K mg base CX0 6 "begins" ["stream"] zm7)(zch0:Def P w K mg base CX0 1 "hosts_in" ["stream"] zg3)(zci2:Def P w K mg base CX0 4 "is_size" ["hosts","fields"] zk5)(zcj0:Def P w K mg base CX0 7 "is_stream" ["hosts","fields","stream"] zi2):FnOk P w K mg base CX0 8 f fd ["stream"] zd7:=by
 refine F.ok zab4 (fun vs H Q E h=>by unfold zd7 at h;obtain⟨_,_,rfl,_⟩:=h;rfl) fun _ _ _ s H vs Q E hr h=>?_
 unfold zd7 at h
 obtain⟨v,d,rfl,h,hs,q⟩:=h
 have hu:=hu40 hr
 refine⟨_,(za2 (psIf (ptW (pwOr (zi7 (ptV (pD zci8 hr zb6 (za0 (pq 0) za1)))) (zp4 (zi7 (ptV (pD zci2 hr zb6 (za0 (pD zch0 hr zb6 (za0 (pq 0) za1)) (za0 (pB (zk0 (K:=K) rfl) N.len_ ze9 (za0 (pq 0) za1)) za1)))))))) (za4 (zb1 zq9)) zc7)
   (za4 (zb1 (pD zcj0 hr zb6 (za0 (pD zch0 hr zb6 (za0 (pq 0) za1)) (za0 (pB (zk0 (K:=K) rfl) N.len_ ze9 (za0 (pq 0) za1)) (za0 (pq 0) za1))))))),?_⟩
 unfold zg0 at q
 refine zah9 h hs (fun H1 s1=>?_)
 have q:=fun H' s'=>q H' (s1.trans s')
 have h1:=h.same s1
 cases eb:zg1 d
 ·have q:=q _ (Same.refl _)
  rw[eb] at q
  refine zc6 (br_F ?_)
  refine br_T ?_
  ac_nf
  exact q
 rw[eb,zcq1] at q
 obtain⟨a,r,t,xs,ds,ts,j,w,rfl,rfl,ha,hl,_⟩:=zao6 h1 eb
 have q:∀ H',Same H1 H'->Q (.bl (zs6 (zf7 (.list ds)) ds.length&&zo0 (zf7 (.list ds)) ds.length (.list ds))) H':=q
 refine zc6 (br_T ?_)
 refine zq8 h1 eb ?_
 refine zc9 ha ?_
 rw[hl]
 refine zba2 ?_
 cases ez:zs6 (zf7 (.list ds)) ds.length
 ·have q:=q _ (Same.refl _)
  rw[ez] at q
  refine zc6 (br_F ?_)
  ac_nf
  exact q
 rw[ez,zcq1] at q
 refine zc6 (br_T ?_)
 refine zq8 h1 eb ?_
 refine zc9 ha ?_
 rw[hl]
 refine zbd5 h1 hs (fun H2 s2=>?_)
 ac_nf
 exact q _ s2
theorem zbx9{h:Int}{f:Nat}(O:OkS ms h f)(S:zi6 ms f xss)(hz:zs6 h f=true):zg0 (stmD xss)=true/\zf7 (stmD xss)=h:=by
 have st:=stm_ok O S
 have st':=st
 unfold zo0 at st'
 rw[zcm4,zcm4,zcm4,zcm4] at st'
 obtain⟨b,_,_,fu,_⟩:=st'
 have il:((za8 (stmD xss)).length:Int)=f:=by
  show (((xss.map zd0).length:Nat):Int)=f
  rw[zck9,S.1]
 have eh:zf7 (stmD xss)=h:=by
  have b:(decide (0<(za8 (stmD xss)).length)&&rowD ((za8 (stmD xss)).getD 0 .none)&&decide (0<(za8 ((za8 (stmD xss)).getD 0 .none)).length))=true:=b
  rw[zcm4,decide_eq_true_eq] at b
  unfold zbl5 at fu
  have fu:=zcn1.mp fu
  unfold zf7
  have ll:0<(rowF ((za8 (stmD xss)).getD 0 .none)).length:=by unfold rowF;rw[zck9];exact b.2
  generalize rowF ((za8 (stmD xss)).getD 0 .none)=ys at fu ll ⊢
  have:=fu (ys.getD 0 (0,0,0)) (by rw[zcl3,zcl0 ll];exact zcv3 _)
  exact of_decide_eq_true this
 refine⟨?_,eh⟩
 unfold zg0
 rw[eh,il,b,hz,st];rfl
@[irreducible] def ze1(zcg1:Addr):Sp:=fun vs H Q E=>∃ (v:V) (d:PyData),vs=[v]/\ShV H v d/\sml d=true/\(zg0 d=true->∀ H',Same H H'->Q .non H')/\(zg0 d=false->∀ H',Same H H'->E (.ref zcg1) none H')
theorem zu2{zcg1:Addr}{v:V}{d:PyData}(h:ShV H v d)(hs:sml d=true)(q:zg0 d=true->∀ H',Same H H'->Q .non H')(qe:zg0 d=false->∀ H',Same H H'->E (.ref zcg1) none H'):ze1 zcg1 [v] H Q E:=by unfold ze1;exact⟨v,d,rfl,h,hs,q,qe⟩
theorem zag6{f:Addr}(F:Fun K "look_stream" "look_stream" zq0 f fd)(N:Nm mg)(zch8:Def P w K mg base CX0 8 "is_any_stream" ["stream"] zd7)(Z:Cz K mg base zcg3 zcg2 zcg1):FnOk P w K mg base (CXR P w) 9 f fd ["stream"] (ze1 zcg1):=by
 refine F.okR zag0 (fun vs H Q E h=>by unfold ze1 at h;obtain⟨_,_,rfl,_⟩:=h;rfl) (fun cdv A outer s H vs Q E hr hX h=>?_)
 unfold ze1 at h
 obtain⟨v,d,rfl,h,hs,q,qe⟩:=h
 have hu:=hu40 hr
 refine⟨_,(za4 (psIf (zi7 (ptV (pD zch8 hr zb6 (za0 (pq 0) za1)))) (za4 (zbh9 Z.o_NoStream PySem.F.excBase_ValueError rfl hX (za0 zbw1 za1))) zc7)),?_⟩
 refine any_rd h hs (fun H1 s1=>?_)
 cases e:zg0 d
 ·ac_nf
  refine zc6 (br_F ?_)
  ac_nf
  exact⟨by decide,qe e _ s1⟩
 ·ac_nf
  refine zc6 (br_T ?_)
  ac_nf
  exact q e _ s1
theorem zbl9{k:Nat}(hk:k=xs.length):((List.range k).map fun i=>V.int (xs.getD i (0,0,0)).2.2)=(xs.map fun z=>z.2.2).map V.int:=by
 subst hk
 apply zcp0
 intro i
 rw[zcl2,zcl2,zcl2]
 by_cases h:i<xs.length
 ·rw[zcp1 h,zcl0 h]
  simp[h]
 ·rw[zcn0 (by simp;omega),zcn0 (by rfl')]
  rfl
def zu4(d:PyData):Int:=tot (rwF (rowF ((za8 d).getD 0 .none)))
@[irreducible] def zj8:Sp:=fun vs H Q _=>∃ (v:V) (d:PyData),vs=[v]/\ShV H v d/\zg1 d=true/\(rowF ((za8 d).getD 0 .none)).length<=1000/\∀ H',Same H H'->Q (.int (zu4 d)) H'
theorem zax2{v:V}{d:PyData}(h:ShV H v d)(e:zg1 d=true)(hl:(rowF ((za8 d).getD 0 .none)).length<=1000)(q:∀ H',Same H H'->Q (.int (zu4 d)) H'):zj8 [v] H Q E:=by unfold zj8;exact⟨v,d,rfl,h,e,hl,q⟩
theorem zau8{f:Addr}(F:Fun K "whole_in" "whole_in" zy9 f fd)(N:Nm mg):FnOk P w K mg base CX0 1 f fd ["stream"] zj8:=by
 refine F.ok zat9 (fun vs H Q E h=>by unfold zj8 at h;obtain⟨_,_,rfl,_⟩:=h;rfl) fun _ _ _ s H vs Q E hr h=>?_
 unfold zj8 at h
 obtain⟨v,d,rfl,h,e,hl,q⟩:=h
 have hu:=hu40 hr
 cases h
 case lst a xs ds ea l=>
  have e:(decide (0<ds.length)&&rowD (ds.getD 0 .none)&&decide (0<(za8 (ds.getD 0 .none)).length))=true:=e
  rw[zcm4,zcm4,decide_eq_true_eq,decide_eq_true_eq] at e
  obtain⟨⟨h0,h1⟩,h2⟩:=e
  have ll:=l.len
  obtain⟨x0,ex0⟩:∃ x,xs[0]?=some x:=⟨_,zcl0 (by rfl')⟩
  obtain⟨d0,ed0,hd0⟩:=l.get 0 x0 ex0
  have hl:(rowF (ds.getD 0 .none)).length<=1000:=hl
  have q:∀ H',Same H H'->Q (.int (tot (rwF (rowF (ds.getD 0 .none))))) H':=q
  rw[getD_some ed0] at h1 h2 hl q
  obtain⟨r,ts,es,rfl,rfl,hr',hlr,hp,_⟩:=zx8 hd0 h1
  generalize eys:rowF (.list es)=ys at hp hl q
  have rl:ts.length=ys.length:=by rw[← eys,ze8];exact hlr
  refine⟨_,(za4 (zb1 (pB (zan5 (K:=K) rfl rfl) N.sum_ zw5 (za0 (zd4 (N:=["left","sent","flow"]) (ks:=[none,none,none]) (zc2 (K:=K) rfl (zb5 (K:=K) rfl (pq 0) za3)) (fun _ _ _ _ _=>(zi9 (K:=K) (n:=3) rfl rfl (zb0 (za6 (i:=0) nb_10 rfl (by eq_refl)) (zb0 (za6 (i:=1) nb_10 rfl (by eq_refl)) (zb0 (za6 (i:=2) nb_10 rfl (by eq_refl)) zj2))))) (fun _ _ _ _ _=>zb7) (fun _ _ _ _ _=>(pq 2)) (.skip (.skip (.skip .nil)))) za1)))),?_⟩
  refine zb8 (v:=.ref r) ea (zh4 (j:=0) ex0) ?_
  refine za9 hr' ?_
  refine zk9 (Wk.list (SqL.of hr')) (by rw[zck9,zcx6];omega) (fun i=>.int (ys.getD i (0,0,0)).2.2) (fun _=>true) (fun j σ=>∃ t u w:Option V,σ=[t,u,w]) ⟨none,none,none,rfl⟩ ?_ ?_
  ·rintro i x σ I R' S' hi s1 hx ⟨_,_,_,rfl⟩ kk _
   rw[zcl2] at hx
   obtain⟨t,et,rfl⟩:=zcl6.mp hx
   obtain⟨z,ez⟩:∃ z,ys[i]?=some z:=⟨_,zcl0 (by have:=(zcl1.mp et).1;omega)⟩
   rw[show ys.getD i (0,0,0)=z by rw[zcl3,ez];rfl] at kk
   refine zf1 (s1 _ _ (hp i t z et ez)) ?_
   refine br_T ?_
   ac_nf
   exact kk rfl _ _ (Same.refl _) ⟨_,_,_,rfl⟩
  intro acc H1 f1 s1 h1
  rw[ze7,zbl9 (by rw[zck9];exact rl)] at h1
  refine zaa7 h1 ?_
  ac_nf
  have:=q _ s1
  unfold tot rwF at this
  rw[zcm6] at this
  exact this
 all_goals simp[zg1] at e
theorem zbw8{d:PyData}(e:zg0 d=true)(hs:sml d=true):∃ ds,d=.list ds/\zg1 d=true/\(0<=zf7 d/\zf7 d<=40)/\ds.length<=8/\∀ x∈ds,rowD x=true/\(za8 x).length<=1000:=by
 unfold zg0 zs6 zo0 at e
 simp only[zcm4,decide_eq_true_eq] at e
 obtain⟨eb,⟨hz,hf⟩,_,_,ea,_⟩:=e
 cases d with
 | list ds=>
  have ea:ds.all rowD=true:=ea
  have ea:=zcn1.mp ea
  have hf:1<=(ds.length:Int)/\(ds.length:Int)<=8:=hf
  refine⟨ds,rfl,eb,hz,by rfl',fun x hx=>⟨ea x hx,?_⟩⟩
  have m:=(zn6 hs).2 x hx
  have r:=ea x hx
  cases x with
  | list es=>exact (zn6 m).1
  | _=>simp[rowD] at r
 | _=>simp[zg1] at eb
inductive Ap(h W:Int):List (List (Int×Int×Int))->List (List Int×Int)->Prop where
 | nil:Ap h W [] [([],W)]
 | step {rs:List (List (Int×Int×Int))}{ms ms2:List (List Int×Int)}{xs:List (Int×Int×Int)}{out:List (List Int×(Int×Int)×Int)}:Ap h W rs ms->ms2.Perm ms->ms2.Pairwise (fun x y=>h - x.1.sum<=h - y.1.sum)->Mrg ms2 (rwF xs) out->Ap h W (rs++[xs]) (outM out)
theorem zcc7{rs:List ((Int×Int)×Int)}{out:List (List Int×(Int×Int)×Int)}(h:Mrg ms rs out):tot (outM out)=tot ms:=by
 have:=h.sumL fun _=>1
 simp only[Int.mul_one] at this
 unfold tot outM
 rw[zcm6]
 exact this
theorem zbu2{za zb:List (Int×Int)}(h:∀ k,valG (sumG za) k=valG (sumG zb) k):(za.map (·.2)).sum=(zb.map (·.2)).sum:=by
 have k1:=ze6 za
 have mem:∀ k,k∈za.map (·.1)↔k∈zb.map (·.1):=fun k=>by
  have:=h k
  rw[zl4,zl4] at this
  by_cases z1:k∈za.map (·.1)
  ·rw[if_pos z1] at this
   by_cases z2:k∈zb.map (·.1)
   ·exact⟨fun _=>z2,fun _=>z1⟩
   ·rw[if_neg z2] at this;cases this
  ·rw[if_neg z1] at this
   by_cases z2:k∈zb.map (·.1)
   ·rw[if_pos z2] at this;cases this
   ·exact⟨fun z=>absurd z z1,fun z=>absurd z z2⟩
 have a:=zae9 (p:=fun _=>true) k1.1 (zs:=za) fun z hz=>(k1.2 _).mpr (zcm0.mpr ⟨z,hz,rfl⟩)
 have b:=zae9 (p:=fun _=>true) k1.1 (zs:=zb) fun z hz=>(k1.2 _).mpr ((mem _).mpr (zcm0.mpr ⟨z,hz,rfl⟩))
 have ft:∀ {α:Type}(l:List α),l.filter (fun _=>true)=l:=fun l=>List.filter_eq_self.mpr fun _ _=>rfl
 rw[ft,ft] at a b
 rw[← a,← b]
 congr 1
 refine zcm8 fun k hk=>?_
 have z1:=(k1.2 k).mp hk
 have:=h k
 rw[zl4,zl4,if_pos z1,if_pos ((mem k).mp z1)] at this
 exact Option.some.inj this
theorem zbh3{d e:PyData}(h:zx7 d e=true):tot (rwF (rowF d))=tot (rwF (rowF e)):=by
 have:=zbu2 (zbr1 h).2
 rw[zcm6,zcm6] at this
 unfold tot rwF
 rw[zcm6,zcm6]
 exact this
theorem zcd7(e:zg0 (.list ds)=true):(∀ i,i<ds.length->tot (rwF (rowF (ds.getD i .none)))=zu4 (.list ds))/\1<=zu4 (.list ds)/\∀ x∈ds,rowD x=true/\∀ z∈rowF x,1<=z.2.2:=by
 unfold zg0 zo0 at e
 simp only[zcm4,decide_eq_true_eq] at e
 obtain⟨eb,_,_,_,ea,_,_,em⟩:=e
 have ea:ds.all rowD=true:=ea
 have ea:=zcn1.mp ea
 have em:(List.range (ds.length - 1)).all (fun i=>zx7 (ds.getD i .none) (ds.getD (i+1) .none))=true:=em
 have em:=zcn1.mp em
 have pos:∀ x∈ds,∀ z∈rowF x,1<=z.2.2:=fun x hx z hz=>by
  have r:=ea x hx
  cases x with
  | list es=>
   have r:(es.all zs4&&incD es)=true:=r
   rw[zcm4] at r
   have r1:=zcn1.mp r.1
   unfold rowF at hz
   obtain⟨y,hy,rfl⟩:=zcm0.mp hz
   have fy:=r1 y hy
   cases y with
   | tuple us=>
    have l3:us.length=3:=Classical.byContradiction fun z=>by rw[zak9 z] at fy;cases fy
    match us,l3 with
    | [a,b,c],_=>
     have fy:(zj3 0 a&&zag2 0 (intD a) b&&zj3 1 c)=true:=fy
     rw[zcm4] at fy
     obtain⟨w,rfl,hw⟩:=zl0 fy.2
     exact hw
   | _=>simp[zs4] at fy
  | _=>simp[rowD] at r
 have eb:(decide (0<ds.length)&&rowD (ds.getD 0 .none)&&decide (0<(za8 (ds.getD 0 .none)).length))=true:=eb
 simp only[zcm4,decide_eq_true_eq] at eb
 refine⟨fun i hi=>?_,?_,fun x hx=>⟨ea x hx,pos x hx⟩⟩
 ·induction i with
  | zero=>rfl
  | succ i ih=>rw[← ih (by rfl')];exact (zbh3 (em i (zcq7.mpr (by rfl')))).symm
 ·show 1<=tot (rwF (rowF (ds.getD 0 .none)))
  have m0:ds.getD 0 .none∈ds:=by rw[zcl3,zcl0 eb.1.1];exact zcv3 _
  have t:=zba9 (l:=rwF (rowF (ds.getD 0 .none))) fun y hy=>by
   unfold rwF at hy
   obtain⟨z,hz,rfl⟩:=zcm0.mp hy
   exact pos _ m0 z hz
  have:rwF (rowF (ds.getD 0 .none))≠[]:=fun z=>by
   have l:(za8 (ds.getD 0 .none)).length=0:=by
    have l:=congrArg zct9 z
    unfold rwF rowF at l
    rw[zck9,zck9] at l
    exact l
   have:=eb.2
   omega
  have:tot (rwF (rowF (ds.getD 0 .none)))≠0:=fun z=>this (t.2 z)
  omega
def keyZ(h:Int)(ms:List (List Int×Int)):List Int:=ms.map fun x=>h - x.1.sum
def zas6(ms:List (List Int×Int))(π:List Nat):List (List Int×Int):=π.map fun i=>ms.getD i ([],0)
inductive ApS(h W:Int):List (List (Int×Int×Int))->List (List Int×Int)->Prop where
 | nil:ApS h W [] [([],W)]
 | step {rs:List (List (Int×Int×Int))}{ms:List (List Int×Int)}{π:List Nat}{xs:List (Int×Int×Int)}{out:List (List Int×(Int×Int)×Int)}:ApS h W rs ms->π.Perm (List.range ms.length)->π.Pairwise (kLx (keyZ h ms))->Mrg (zas6 ms π) (rwF xs) out->ApS h W (rs++[xs]) (outM out)
theorem zbd4{α:Type}(d:α)(ms:List α):(List.range ms.length).map (fun i=>ms.getD i d)=ms:=by
 apply zcp0
 intro i
 rw[zcl2]
 by_cases h:i<ms.length
 ·rw[zcp1 h,zcl0 h]
  show some (ms.getD i d)=_
  rw[zcl3,zcl0 h]
  rfl
 ·rw[zcn0 (by rw[zcn3];omega),zcn0 (by rfl')]
  rfl
theorem zan6{π:List Nat}(hp:π.Perm (List.range ms.length)):(zas6 ms π).Perm ms:=by
 have:=hp.map fun i=>ms.getD i ([],0)
 rw[zbd4] at this
 exact this
theorem zbi8{h:Int}(hi:i<ms.length):(keyZ h ms).getD i 0=h - (ms.getD i ([],0)).1.sum:=by
 unfold keyZ
 rw[zcl3,zcl3,zcl2,zcl0 hi]
 rfl
theorem zbv4{h:Int}{π:List Nat}(hp:π.Perm (List.range ms.length))(ho:π.Pairwise (kLx (keyZ h ms))):(zas6 ms π).Pairwise (fun x y=>h - x.1.sum<=h - y.1.sum):=by
 unfold zas6
 rw[zct2]
 refine ho.imp_of_mem fun {i j} hi hj hl=>?_
 have hi:=zcq7.mp (hp.mem_iff.mp hi)
 have hj:=zcq7.mp (hp.mem_iff.mp hj)
 unfold kLx at hl
 rw[zbi8 hi,zbi8 hj] at hl
 omega
theorem ApS.ap{h:Int}(A:ApS h W rs ms):Ap h W rs ms:=by
 induction A with
 | nil=>exact .nil
 | step _ hp ho hm ih=>exact .step ih (zan6 hp) (zbv4 hp ho) hm
theorem zaf0{α:Type}{r:α->α->Prop}(as:∀ a b,r a b->r b a->False):∀ {l m:List α},l.Perm m->l.Pairwise r->m.Pairwise r->l=m
 | [],m,h,_,_=>(List.nil_perm.mp h).symm
 | a :: l,[],h,_,_=>absurd h.length_eq (by simp)
 | a :: l,b :: m,h,p,q=>by
  have e:a=b:=by
   rcases zcm1.mp (h.mem_iff.mp (zcq2 (a:=a))) with e|e
   ·exact e
   ·rcases zcm1.mp (h.mem_iff.mpr (zcq2 (a:=b))) with e' | e'
    ·exact e'.symm
    ·exact (as a b ((zco5.mp p).1 b e') ((zco5.mp q).1 a e)).elim
  subst e
  rw[zaf0 as h.cons_inv (zco5.mp p).2 (zco5.mp q).2]
theorem Mrg.unique{α β:Type}{ps:List (α×Int)}{rs:List (β×Int)}{o1 o2:List (α×β×Int)}(m1:Mrg ps rs o1)(m2:Mrg ps rs o2):o1=o2:=by
 induction m1 generalizing o2 with
 | nil=>cases m2;rfl
 | lt hl _ ih=>
  cases m2 with
  | lt _ h=>rw[ih h]
  | eq h=>omega
  | gt h2 _=>omega
 | eq _ ih=>
  cases m2 with
  | lt h2 _=>omega
  | eq h=>rw[ih h]
  | gt h2 _=>omega
 | gt hl _ ih=>
  cases m2 with
  | lt h2 _=>omega
  | eq h=>omega
  | gt _ h=>rw[ih h]
theorem ApS.inv{h:Int}{rs':List (List (Int×Int×Int))}{m:List (List Int×Int)}(A:ApS h W rs' m):(rs'=[]/\m=[([],W)])∨∃ rs ms π xs out,rs'=rs++[xs]/\m=outM out/\ApS h W rs ms/\π.Perm (List.range ms.length)/\π.Pairwise (kLx (keyZ h ms))/\Mrg (zas6 ms π) (rwF xs) out:=by
 cases A with
 | nil=>exact .inl ⟨rfl,rfl⟩
 | step a b c d=>exact .inr ⟨_,_,_,_,_,rfl,rfl,a,b,c,d⟩
theorem ApS.unique{h W:Int}{rs:List (List (Int×Int×Int))}{m1 m2:List (List Int×Int)}(A:ApS h W rs m1)(B:ApS h W rs m2):m1=m2:=by
 induction A generalizing m2 with
 | nil=>
  rcases B.inv with ⟨_,rfl⟩|⟨rs,ms,π,xs,out,e,_⟩
  ·rfl
  ·exact absurd (congrArg zct9 e) (by simp)
 | @step rs ms π xs out a hp ho hm ih=>
  rcases B.inv with ⟨e,_⟩|⟨rs2,ms2,π2,xs2,out2,e,rfl,a2,hp2,ho2,hm2⟩
  ·exact absurd (congrArg zct9 e) (by simp)
  ·obtain⟨rfl,e2⟩:=List.append_inj' e rfl
   cases e2
   obtain rfl:=ih a2
   obtain rfl:=zaf0 (r:=kLx (keyZ h ms)) (fun i j h1 h2=>by unfold kLx at h1 h2;omega) (hp.trans hp2.symm) ho ho2
   rw[hm.unique hm2]
theorem zc0.turned{a p:Addr}{tab:Array Value}{π:List Nat}(M:zc0 H a ts ms)(hT:H T=some (.tbl tab))(c:Chg T H H')(hp:π.Perm (List.range ms.length))(ho:H' p=some (.lst (π.map fun i=>V.ref ((ts.map (·.1)).getD i 0)))) :
  zc0 H' p (π.map fun i=>ts.getD i (0,0)) (zas6 ms π):=by
 have ml:=M.len
 have nt:∀ {b:Addr}{o:HO},H b=some o->(∀ t,o≠.tbl t)->H' b=some o:=fun e n=>c _ _ (fun z=>by rw[z,hT] at e;cases e;exact n _ rfl) e
 refine⟨?_,by unfold zas6;rw[zck9,zck9],fun i t x g1 g2=>?_⟩
 ·rw[ho,zcm6]
  congr 2
  refine zcm8 fun i hi=>?_
  have hi:=zcq7.mp (hp.mem_iff.mp hi)
  show V.ref ((ts.map (·.1)).getD i 0)=V.ref (ts.getD i (0,0)).1
  rw[zcl3,zcl3,zcl2,zcl0 (by rfl')]
  rfl
 ·unfold zas6 at g2
  rw[zcl2] at g1 g2
  obtain⟨j,ej,rfl⟩:=zcl6.mp g1
  rw[ej] at g2
  cases g2
  have hj:=zcq7.mp (hp.mem_iff.mp (zcl4 ej))
  have f:=M.part j (ts.getD j (0,0)) (ms.getD j ([],0)) (by rw[zcl3,zcl0 (by rfl')];rfl) (by rw[zcl3,zcl0 hj];rfl)
  exact⟨nt f.1 (fun t z=>by cases z),nt f.2 (fun t z=>by cases z)⟩
theorem Ap.ok1{h:Int}(A:Ap h W rs ms)(hW:1<=W):(∀ xs∈rs,∀ x∈xs,1<=x.2.2)->(∀ x∈ms,1<=x.2/\x.1.length=rs.length)/\tot ms=W/\ms≠[]/\ms.length+rs.length<=1+(rs.map zct9).sum:=by
 induction A with
 | nil=>
  intro _
  refine⟨fun x hx=>?_,?_,by simp,by simp⟩
  ·have:x=([],W):=by simpa using hx
   subst this
   exact⟨hW,rfl⟩
  ·unfold tot;simp
 | @step rs ms ms2 xs out A hp hs hm ih=>
  intro hr
  obtain⟨i1,i2,i3,i4⟩:=ih fun ys hy=>hr ys (zcr8 _ hy)
  have r1:=hr xs (zco1 _ (.head _))
  have n2:ms2≠[]:=fun z=>by rw[z] at hp;exact i3 (List.nil_perm.mp hp)
  have pos:=hm.pos (fun x hx=>(i1 x (hp.mem_iff.mp hx)).1) (fun x hx=>by
   unfold rwF at hx
   obtain⟨y,hy,rfl⟩:=zcm0.mp hx
   exact r1 y hy)
  have tt:tot (outM out)=W:=by rw[zcc7 hm,zay0 hp,i2]
  refine⟨fun x hx=>?_,tt,fun z=>?_,?_⟩
  ·unfold outM at hx
   obtain⟨z,hz,rfl⟩:=zcm0.mp hx
   refine⟨pos z hz,?_⟩
   obtain⟨y,hy,ey⟩:=zcm0.mp (hm.memL z hz).1
   rw[zcl8,zcl8,← ey,(i1 y (hp.mem_iff.mp hy)).2]
   rfl
  ·rw[z] at tt
   have:tot ([]:List (List Int×Int))=0:=rfl
   omega
  ·have l1:=hm.len n2
   have l2:=hp.length_eq
   have l3:(rwF xs).length=xs.length:=by unfold rwF;rw[zck9]
   have l4:(outM out).length=out.length:=by unfold outM;rw[zck9]
   rw[zcl8,l4,zcn4,zct7]
   simp only[zcn5,zcu5,zcp6,List.sum_nil,zcn6,zcq5]
   omega
def lamQ:Str:=("taken_apart":Str)++".<locals>."++"<lambda>"
@[irreducible] def ze4(zcg1 a_tab:Addr):Sp:=fun vs H Q E=>∃ (v:V) (d:PyData),vs=[v]/\ShV H v d/\sml d=true/\zl3 a_tab 82 42 lamQ H /\
 (zg0 d=true->(∀ x∈za8 d,(za8 x).length<=63)/\∀ p ts ms H',Chg a_tab H H'->zl3 a_tab 82 42 lamQ H'->zc0 (nw H H') p ts ms->Nd ts->ApS (zf7 d) (zu4 d) ((za8 d).map rowF) ms->Q (.ref p) H')/\(zg0 d=false->∀ H',Same H H'->E (.ref zcg1) none H')
theorem zk6{zcg1 a_tab:Addr}{v:V}{d:PyData}(h:ShV H v d)(hs:sml d=true)(hT:zl3 a_tab 82 42 lamQ H)(q:zg0 d=true->(∀ x∈za8 d,(za8 x).length<=63)/\∀ p ts ms H',Chg a_tab H H'->zl3 a_tab 82 42 lamQ H'->zc0 (nw H H') p ts ms->Nd ts->ApS (zf7 d) (zu4 d) ((za8 d).map rowF) ms->Q (.ref p) H')(qe:zg0 d=false->∀ H',Same H H'->E (.ref zcg1) none H'):ze4 zcg1 a_tab [v] H Q E:=by unfold ze4;exact⟨v,d,rfl,h,hs,hT,q,qe⟩
theorem zy0(h:∀ xs∈rs,xs.length<=63):(rs.map zct9).sum<=63*rs.length:=by
 induction rs with
 | nil=>simp
 | cons x rs ih=>
  have:=ih fun y hy=>h y (.tail _ hy)
  have:=h x (.head _)
  rw[zcn5,zcp6,zcn6]
  omega
theorem zag5{f:Addr}(F:Fun K "taken_apart" "taken_apart" zq2 f fd)(N:Nm mg)(hcd:fd.code=.ref a_cod)(hCH:PySem.W.CodeHd base a_cod a_tab)(hBM:Bm mg base)(zch0:Def P w K mg base CX0 1 "hosts_in" ["stream"] zg3)(zch4:Def P w K mg base (CXR P w) 9 "look_stream" ["stream"] (ze1 zcg1))(zck0:Def P w K mg base CX0 1 "sent_on" ["begun","row"] zm6)(zcj5:Def P w K mg base CX0 1 "whole_in" ["stream"] zj8):FnOk P w K mg base (CXR P w) 10 f fd ["stream"] (ze4 zcg1 a_tab):=by
 refine F.okRC hcd zh7 (fun vs H Q E h=>by unfold ze4 at h;obtain⟨_,_,rfl,_⟩:=h;rfl) (fun A outer s H vs Q E hr hX h=>?_)
 unfold ze4 at h
 obtain⟨v,d,rfl,h,hs,hT,q,qe⟩:=h
 have hu:=hu40 hr
 refine⟨_,(za2 (zj6 (pD zch4 hr (passR hX) (za0 (pq 0) za1)))
   (za2 (psS (i:=1) zh7.nd (pD zch0 hr zb6 (za0 (pq 0) za1)))
   (za2 (psS (i:=2) zh7.nd (zn1 (za0 (zp0 (za0 (zn1 za1) (za0 (pD zcj5 hr zb6 (za0 (pq 0) za1)) za1))) za1)))
   (za2 (PS.nox' (zx4 PassesOwn.never rfl (zc2 (K:=K) rfl (pq 0)) (za6 (i:=3) zh7.nd rfl (by eq_refl)) (za4 (psS (i:=2) zh7.nd (pD zck0 hr zb6 (za0 (peSoJ (K:=K) (T:=a_tab) (c:=a_cod) (i:=1) (ln:=82) (co:=42) (qual:=lamQ) rfl (hr.mono (by decide)) N.sorted_ N.sum_ hCH hBM (za0 (pq 2) za1) rfl rfl rfl rfl rfl rfl rfl rfl (fun _ _ _ _=>rfl)) (za0 (pq 3) za1)))))))
   (za4 (zb1 (pq 2))))))),?_⟩
 refine zu2 h hs (fun e H1 s1=>?_) (fun e H1 s1=>qe e _ s1)
 obtain⟨hw,q⟩:=q e
 have h1:=h.same s1
 obtain⟨ds,rfl,eb,hz,dl,ok⟩:=zbw8 e hs
 obtain⟨tt,W1,rows⟩:=zcd7 e
 have d0:0<ds.length:=by
  have eb:(decide (0<ds.length)&&rowD (ds.getD 0 .none)&&decide (0<(za8 (ds.getD 0 .none)).length))=true:=eb
  simp only[zcm4,decide_eq_true_eq] at eb
  exact eb.1.1
 have hw:∀ x∈ds,(za8 x).length<=63:=hw
 have g0:ds.getD 0 .none∈ds:=by rw[zcl3,zcl0 d0];exact zcv3 _
 refine zq8 h1 eb ?_
 refine zd5 (fun p2 H2 f2 s2 k2=>?_)
 refine zax2 (h1.same s2) eb (by show (rowF (ds.getD 0 .none)).length<=1000;unfold rowF;rw[zck9];have:=hw _ g0;omega) (fun H3 s3=>?_)
 refine zd6 (fun p4 H4 f4 s4 k4=>?_)
 refine zd5 (fun p5 H5 f5 s5 k5=>?_)
 have s05:=s1.trans (s2.trans (s3.trans (s4.trans s5)))
 have s15:=s2.trans (s3.trans (s4.trans s5))
 cases h1
 case lst a xs ea l=>
  have h1:=h.same s1
  have ll:=l.len
  have hk:∀ x∈ds,(∀ z∈rowF x,1<=z.2.2)/\(rowF x).length<=63:=fun x hx=>⟨(rows x hx).2,by unfold rowF;rw[zck9];exact hw x hx⟩
  refine za9 (s15 _ _ ea) ?_
  refine zj1 (xs:=xs) (fun i σ I=>∃ (x3:Option V) (bg:Addr) (ts:List (Addr×Addr)) (ms:List (List Int×Int)),σ=[some (.ref a),some (.int (zf7 (.list ds))),some (.ref bg),x3]/\Chg a_tab H1 I/\zl3 a_tab 82 42 lamQ I/\zc0 (nw H I) bg ts ms/\Nd ts/\ApS (zf7 (.list ds)) (zu4 (.list ds)) ((ds.take i).map rowF) ms) ?_ ?_ ?_ ?_
  ·refine⟨_,p5,[(p4,p2)],[([],zu4 (.list ds))],rfl,s15.toChg,hT.same s05,⟨zh1 ((s1.trans (s2.trans (s3.trans s4))).free f5) k5,rfl,fun i t x g1 g2=>?_⟩,⟨by simp,by simp⟩,?_⟩
   ·match i with
    | 0=>cases g1;cases g2;exact⟨zh1 ((s1.trans (s2.trans s3)).free f4) (s5 _ _ k4),zh1 (s1.free f2) (s5 _ _ (s4 _ _ (s3 _ _ k2)))⟩
    | i+1=>simp at g1
   ·rw[List.take_zero];exact .nil
  ·rintro i σ I hi ⟨x3,bg,ts,ms,rfl,cI,TI,M,nd,Aq⟩
   obtain⟨tab,et,_⟩:=hT.same s1
   exact SqL.of (cI _ _ (fun z=>by rw[z,et] at ea;cases ea) ea)
  ·rintro i x σ I hx ⟨x3,bg,ts,ms,rfl,cI,TI,MN,nd,Aq⟩
   have M:=MN.same (ze3 _ _)
   obtain⟨dr,ed,hd⟩:=l.get i x hx
   have il:i<ds.length:=(zcl1.mp ed).1
   have mem:=zcl4 ed
   obtain⟨m1,m2,m3,m4⟩:=Aq.ap.ok1 W1 (fun ys hy=>by
    obtain⟨y,hy',rfl⟩:=zcm0.mp hy
    exact (hk y (zcr9 hy')).1)
   have tl:((ds.take i).map rowF).length=i:=by rw[zck9,zcn7];omega
   have m4:ms.length<=1+63*i:=by
    have:(((ds.take i).map rowF).map zct9).sum<=63*i:=by
     have:=zy0 (rs:=(ds.take i).map rowF) fun ys hy=>by
      obtain⟨y,hy',rfl⟩:=zcm0.mp hy
      exact (hk y (zcr9 hy')).2
     rw[tl] at this
     exact this
    omega
   rw[tl] at m1
   have ml:=M.len
   obtain⟨r,bs,es,rfl,rfl,hr',hlr,hp,_⟩:=zx8 hd (rows _ mem).1
   obtain⟨tab1,et1,_⟩:=hT.same s1
   have RR:RwAt H1 r bs (rowF (.list es)):=⟨hr',by rw[ze8];exact hlr,hp⟩
   have RI:RwAt I r bs (rowF (.list es)):=by
    have nt:∀ {b:Addr}{o:HO},H1 b=some o->(∀ t,o≠.tbl t)->I b=some o:=fun e n=>cI _ _ (fun z=>by rw[z,et1] at e;cases e;exact n _ rfl) e
    refine⟨nt RR.out (fun t=>by intro z;cases z),RR.len,fun i b x e1 e2=>nt (RR.row i b x e1 e2) (fun t=>by intro z;cases z)⟩
   refine soJ_rd (bs:=ts.map (·.1)) (kz:=keyZ (zf7 (.list ds)) ms) (by rw[M.out,zcm6];rfl) (by rw[zck9];omega) nd.1 (by unfold keyZ;rw[zck9,zck9];omega) (fun j b k g1 g2=>?_) TI (fun p6 H6 ps f6 c6 T6 pp po k6=>?_)
   ·unfold keyZ at g2
    rw[zcl2] at g1 g2
    obtain⟨t,et,rfl⟩:=zcl6.mp g1
    obtain⟨y,ey,rfl⟩:=zcl6.mp g2
    have f:=M.part j t y et ey
    exact⟨t.2,_,y.1,f.1,f.2,rfl⟩
   obtain⟨tabI,etI,_⟩:=TI
   have pp:ps.Perm (List.range ms.length):=by unfold keyZ at pp;rw[zck9] at pp;exact pp
   have M2:=M.turned etI c6 pp k6
   have pm:=zan6 pp
   have R6:RwAt H6 r bs (rowF (.list es)):=by
    have nt:∀ {b:Addr}{o:HO},I b=some o->(∀ t,o≠.tbl t)->H6 b=some o:=fun e n=>c6 _ _ (fun z=>by rw[z,etI] at e;cases e;exact n _ rfl) e
    exact⟨nt RI.out (fun t=>by intro z;cases z),RI.len,fun i b x e1 e2=>nt (RI.row i b x e1 e2) (fun t=>by intro z;cases z)⟩
   refine zbb6 M2 R6 (fun y hy=>(m1 y (pm.mem_iff.mp hy)).1) (rows _ mem).2 (by rw[zay0 pm,m2,← tt i il,getD_some ed]) (by rw[pm.length_eq];omega) (by have:=(hk _ mem).2;omega) (fun y hy=>by rw[(m1 y (pm.mem_iff.mp hy)).2];omega) (fun p7 ts7 out H7 s7 M7 nd7 g7=>?_)
   ac_nf
   obtain⟨tb6,et6,_⟩:=id T6
   have cH:Chg a_tab H H6:=fun b o n e=>c6 _ _ n (cI _ _ n (s1 _ _ e))
   refine⟨_,p7,ts7,outM out,rfl,(cI.trans c6).same s7,T6.same s7,M7.same (zbd3 et6 cH),nd7,?_⟩
   rw[zcv1,ed]
   simp only[Option.toList_some,zcn4,zcn5,zcu5]
   exact .step Aq pp po g7
  ·rintro σ I ⟨x3,bg,ts,ms,rfl,cI,TI,M,nd,Aq⟩
   ac_nf
   rw[show xs.length=ds.length from ll,zcq6] at Aq
   exact q bg ts ms I (fun b o n e=>cI b o n (s1 _ _ e)) TI M nd Aq
structure LsAt(H:Hp)(r:Addr)(ps:List Addr)(es:List (List Int)):Prop where
 out:H r=some (.lst (ps.map V.ref))
 len:ps.length=es.length
 row:∀ (i:Nat) p e,ps[i]?=some p->es[i]?=some e->H p=some (.lst (e.map V.int))
theorem LsAt.same{r:Addr}{ps:List Addr}(L:LsAt H r ps es)(s:Same H H'):LsAt H' r ps es:=⟨s _ _ L.out,L.len,fun i p e h1 h2=>s _ _ (L.row i p e h1 h2)⟩
def shr(h:Nat)(xs:List (Int×Int×Int)):List Int:=(List.range (h+1)).map fun (c:Nat)=>(valG (sumG (xs.map fun z=>(z.2.1,z.2.2))) (c:Int)).getD 0
@[irreducible] def zg8:Sp:=fun vs H Q _=>∃ (h:Nat) (v:V) (d:PyData),vs=[.int h,v]/\ShV H v d/\rowD d=true/\(za8 d).length<=1000/\h<=40/\∀ r H',H r=none->Same H H'->H' r=some (.lst ((shr h (rowF d)).map V.int))->Q (.ref r) H'
theorem zak1{h:Nat}{v:V}{d:PyData}(hv:ShV H v d)(rd:rowD d=true)(ld:(za8 d).length<=1000)(hh:h<=40)(q:∀ r H',H r=none->Same H H'->H' r=some (.lst ((shr h (rowF d)).map V.int))->Q (.ref r) H'):zg8 [.int h,v] H Q E:=by unfold zg8;exact⟨h,v,d,rfl,hv,rd,ld,hh,q⟩
theorem zal3{f:Addr}(F:Fun K "row_shares" "row_shares" zr4 f fd)(N:Nm mg)(zch7:Def P w K mg base CX0 1 "summed" ["pairs"] zh6):FnOk P w K mg base CX0 2 f fd ["hosts","row"] zg8:=by
 refine F.ok zx2 (fun vs H Q E h=>by unfold zg8 at h;obtain⟨_,_,_,rfl,_⟩:=h;rfl) fun _ _ _ s H vs Q E hr h=>?_
 unfold zg8 at h
 obtain⟨h,v,d,rfl,hv,rd,ld,hh,q⟩:=h
 have hu:=hu40 hr
 obtain⟨a,ts,ds,rfl,rfl,ha,hl,hp,_⟩:=zx8 hv rd
 have ld:ds.length<=1000:=ld
 refine⟨_,(za2 (psS (i:=2) zx2.nd (pD zch7 hr zb6 (za0 (zd4 (N:=["left","sent","flow"]) (ks:=[none,none,none]) (zc2 (K:=K) rfl (pq 1)) (fun _ _ _ _ _=>(zi9 (K:=K) (n:=3) rfl rfl (zb0 (za6 (i:=0) nb_14 rfl (by eq_refl)) (zb0 (za6 (i:=1) nb_14 rfl (by eq_refl)) (zb0 (za6 (i:=2) nb_14 rfl (by eq_refl)) zj2))))) (fun _ _ _ _ _=>zb7) (fun _ _ _ _ _=>(zp0 (za0 (pq 1) (za0 (pq 2) za1)))) (.skip (.skip (.skip .nil)))) za1)))
   (za4 (zb1 (zd4 (N:=["count","flows"]) (ks:=[none,some 2]) (zx1 N.range_ (za0 (zc4 oAdd (pq 0) za3) za1)) (fun _ _ _ _ _=>(za6 (i:=0) nb_15 rfl (by eq_refl))) (fun _ _ _ _ _=>zb7) (fun _ _ _ _ _=>(zak3 (by exact hu) (pq 1) (pq 0) za3)) (.skip (.take rfl rfl (by eq_refl) .nil)))))),?_⟩
 refine za9 ha ?_
 refine zw7 (Wk.list (SqL.of ha)) (by rw[zck9,zcx6];omega) (fun i=>.tup [.int ((rowF (.list ds)).getD i (0,0,0)).2.1,.int ((rowF (.list ds)).getD i (0,0,0)).2.2]) (fun j σ=>∃ t u w:Option V,σ=[t,u,w]) ⟨none,none,none,rfl⟩ ?_ ?_
 ·rintro i x σ I R S hi s1 hx ⟨_,_,_,rfl⟩ k
  rw[zck9] at hi
  rw[zcl2] at hx
  obtain⟨t,et,rfl⟩:=zcl6.mp hx
  obtain⟨z,ez⟩:∃ z,(rowF (.list ds))[i]?=some z:=⟨_,zcl0 (by rw[ze8];omega)⟩
  rw[show (rowF (.list ds)).getD i (0,0,0)=z by rw[zcl3,ez];rfl] at k
  refine zf1 (s1 _ _ (hp i t z et ez)) ?_
  refine br_T ?_
  refine zd6 (fun p I1 f1 r1 k1=>?_)
  ac_nf
  exact k _ _ _ f1 r1 k1 ⟨_,_,_,rfl⟩
 rintro l1 ps1 H1 F1
 rw[zck9] at F1
 refine zy7 (zs:=(rowF (.list ds)).map fun z=>(z.2.1,z.2.2)) F1.out (by rw[F1.len,zck9,ze8];exact hl) (by rw[zck9,ze8];omega) (fun i t z g1 g2=>?_) (fun r2 H2 f2 s2 h2=>?_)
 ·rw[zcl2] at g2
  obtain⟨y,ey,rfl⟩:=zcl6.mp g2
  have:=(F1.row i t g1).2
  rw[show (rowF (.list ds)).getD i (0,0,0)=y by rw[zcl3,ey];rfl] at this
  exact this
 refine zl6 (by rfl') (by rfl') (by rfl') (by rfl') ?_
 rw[show ((h:Int)+1 - 0).toNat=h+1 by rfl']
 refine zk9 (n:=h+1) Wk.range (by rw[zcx6];omega) (fun i=>.int ((valG (sumG ((rowF (.list ds)).map fun z=>(z.2.1,z.2.2))) (i:Int)).getD 0)) (fun _=>true) (fun j σ=>∃ t:Option V,σ=[t,some (.ref r2)]) ⟨none,rfl⟩ ?_ ?_
 ·rintro i x σ I R S hi s3 hx ⟨_,rfl⟩ k _
  obtain rfl:x=.int i:=by rw[hx,zcw7]
  have ev:(valV (dF Sum.inl (sumG ((rowF (.list ds)).map fun z=>(z.2.1,z.2.2)))) (Sum.inl (i:Int):Key)).getD (V.int 0)=.int ((valG (sumG ((rowF (.list ds)).map fun z=>(z.2.1,z.2.2))) (i:Int)).getD 0):=by
   rw[zu5 zal8]
   cases valG (sumG ((rowF (.list ds)).map fun z=>(z.2.1,z.2.2))) (i:Int)<;>rfl
  refine br_T ?_
  refine zbj6 (s3 _ _ h2) ?_
  refine zbf6 (s3 _ _ h2) ?_
  rw[ev]
  ac_nf
  exact k rfl _ _ (Same.refl _) ⟨_,rfl⟩
 intro acc H3 f3 s3 h3
 rw[ze7] at h3
 have s02:=F1.same.trans s2
 ac_nf
 exact q acc H3 (s02.free f3) (s02.trans s3) (by rw[h3];unfold shr;rw[zcm6];rfl)
@[irreducible] def zg2(zcg1:Addr):Sp:=fun vs H Q E=>∃ (v:V) (d:PyData),vs=[v]/\ShV H v d/\sml d=true/\(zg0 d=true->∀ (r:Addr) (ps:List Addr) (H':Hp),Same H H'->LsAt (nw H H') r ps ((za8 d).map fun x=>shr (zf7 d).toNat (rowF x))->ps.Nodup->r ∉ ps->Q (.ref r) H')/\(zg0 d=false->∀ H',Same H H'->E (.ref zcg1) none H')
theorem zn7{zcg1:Addr}{v:V}{d:PyData}(h:ShV H v d)(hs:sml d=true)(q:zg0 d=true->∀ (r:Addr) (ps:List Addr) (H':Hp),Same H H'->LsAt (nw H H') r ps ((za8 d).map fun x=>shr (zf7 d).toNat (rowF x))->ps.Nodup->r ∉ ps->Q (.ref r) H')(qe:zg0 d=false->∀ H',Same H H'->E (.ref zcg1) none H'):zg2 zcg1 [v] H Q E:=by unfold zg2;exact⟨v,d,rfl,h,hs,q,qe⟩
theorem zan3{f:Addr}(F:Fun K "shares_of" "shares_of" zv4 f fd)(N:Nm mg)(zch0:Def P w K mg base CX0 1 "hosts_in" ["stream"] zg3)(zch4:Def P w K mg base (CXR P w) 9 "look_stream" ["stream"] (ze1 zcg1))(zci5:Def P w K mg base CX0 2 "row_shares" ["hosts","row"] zg8):FnOk P w K mg base (CXR P w) 10 f fd ["stream"] (zg2 zcg1):=by
 refine F.okR zar9 (fun vs H Q E h=>by unfold zg2 at h;obtain⟨_,_,rfl,_⟩:=h;rfl) (fun cdv A outer s H vs Q E hr hX h=>?_)
 unfold zg2 at h
 obtain⟨v,d,rfl,h,hs,q,qe⟩:=h
 have hu:=hu40 hr
 refine⟨_,(za2 (zj6 (pD zch4 hr (passR hX) (za0 (pq 0) za1)))
   (za4 (zb1 (zd4 (N:=["row","stream"]) (ks:=[none,some 0]) (zc2 (K:=K) rfl (pq 0)) (fun _ _ _ _ _=>(za6 (i:=0) nb_16 rfl (by eq_refl))) (fun _ _ _ _ _=>zb7) (fun _ _ _ _ _=>(pD zci5 hr zb6 (za0 (pD zch0 hr zb6 (za0 (pq 1) za1)) (za0 (pq 0) za1)))) (.skip (.take rfl rfl (by eq_refl) .nil)))))),?_⟩
 refine zu2 h hs (fun e H1 s1=>?_) (fun e H1 s1=>qe e _ s1)
 have q:=q e
 obtain⟨ds,rfl,eb,hz,dl,ok⟩:=zbw8 e hs
 have h1:=h.same s1
 cases h1
 case lst a xs e1 l=>
  have h1:=h.same s1
  have ll:=l.len
  refine za9 e1 ?_
  refine zw7 (Wk.list (SqL.of e1)) (by rw[zcx6];omega) (fun i=>.lst ((shr (zf7 (.list ds)).toNat (rowF (ds.getD i .none))).map V.int)) (fun j σ=>∃ t:Option V,σ=[t,some (.ref a)]) ⟨none,rfl⟩ ?_ ?_
  ·rintro i x σ I R S hi s2 hx ⟨_,rfl⟩ k
   obtain⟨d,ed,hd⟩:=l.get i x hx
   rw[getD_some ed] at k
   refine br_T ?_
   refine zq8 (h1.same s2) eb ?_
   rw[show zf7 (.list ds)=(((zf7 (.list ds)).toNat:Nat):Int) by rfl']
   refine zak1 (hd.same s2) (ok d (zcl4 ed)).1 (ok d (zcl4 ed)).2 (by rfl') (fun r3 H3 f3 s3 h3=>?_)
   ac_nf
   exact k _ _ _ f3 s3 h3 ⟨_,rfl⟩
  rintro r ps H2 F2
  ac_nf
  refine q r ps H2 (s1.trans F2.same) ⟨zh1 (s1.free F2.facc) F2.out,by rw[F2.len,zck9];exact ll,fun i p e g1 g2=>?_⟩ F2.nd F2.nin
  rw[zcl2] at g2
  obtain⟨x,ex,rfl⟩:=zcl6.mp g2
  obtain⟨z1,z2⟩:=F2.row i p g1
  rw[getD_some (show ds[i]?=some x from ex)] at z2
  exact zh1 (s1.free z1) z2
def zr2(ms:List (List Int×Int)):Int:=(ms.map fun x=>x.2).sum
def wsum{α:Type}(l:List (α×Int))(f:α->Int):Int:=(l.map fun x=>x.2*f x.1).sum
theorem zf2{α:Type}(x:α×Int)(l:List (α×Int))(f:α->Int):wsum (x :: l) f=x.2*f x.1+wsum l f:=by unfold wsum;rw[zcn5,zcp6]
theorem zx9{α:Type}{l m:List (α×Int)}(h:l.Perm m)(f:α->Int):wsum l f=wsum m f:=by unfold wsum;exact zar6 (h.map _)
theorem zae1{α:Type}{f:α->Int}(hf:∀ a,0<=f a):∀ {l:List (α×Int)},(∀ x∈l,0<=x.2)->0<=wsum l f
 | [],_=>by unfold wsum;simp
 | x :: l,h=>by
  rw[zf2]
  have:=zae1 hf (l:=l) fun y hy=>h y (.tail _ hy)
  have:=Int.mul_nonneg (h x (.head _)) (hf x.1)
  omega
theorem zt6{α:Type}{l:List (α×Int)}{f g:α->Int}(h:∀ x∈l,f x.1=g x.1):wsum l f=wsum l g:=by
 unfold wsum
 congr 1
 exact zcm8 fun x hx=>by rw[h x hx]
def ind(b:Bool):Int:=if b=true then 1 else 0
theorem zca0(b:Bool):0<=ind b:=by cases b<;>decide
theorem zw1{α:Type}{f:α->Bool}:∀ {l:List (α×Int)},(∀ x∈l,1<=x.2)->∀ x∈l,f x.1=true->1<=wsum l (fun a=>ind (f a))
 | y :: l,h,x,hx,e=>by
  rw[zf2]
  have h0:0<=wsum l (fun a=>ind (f a)):=zae1 (fun a=>zca0 _) fun z hz=>by have:=h z (.tail _ hz);omega
  have h1:=h y (.head _)
  rcases zcm1.mp hx with rfl|hx
  ·rw[e]
   show 1<=x.2*1+_
   omega
  ·have:=zw1 (l:=l) (fun z hz=>h z (.tail _ hz)) x hx e
   have:=Int.mul_nonneg (show 0<=y.2 by rfl') (zca0 (f y.1))
   omega
theorem zw8{α:Type}{f:α->Bool}{l:List (α×Int)}(h:∀ x∈l,f x.1=false):wsum l (fun a=>ind (f a))=0:=by
 rw[zt6 (g:=fun _=>0) fun x hx=>by rw[h x hx];rfl]
 unfold wsum
 simp only[Int.mul_zero]
 induction l with
 | nil=>rfl
 | cons x l ih=>rw[zcn5,zcp6,ih fun y hy=>h y (.tail _ hy)];rfl
theorem Mrg.align{α β:Type}{ka:α->Int}{kb:β->Int}{ps:List (α×Int)}{rs:List (β×Int)}{out:List (α×β×Int)}(m:Mrg ps rs out):(∀ x∈ps,1<=x.2)->(∀ x∈rs,1<=x.2)->ps.Pairwise (fun x y=>ka x.1<=ka y.1)->rs.Pairwise (fun x y=>kb x.1<=kb y.1) ->
  (∀ k,wsum ps (fun a=>ind (decide (ka a=k)))=wsum rs (fun a=>ind (decide (kb a=k))))->∀ z∈out,ka z.1=kb z.2.1:=by
 have head:∀ {p:α}{w v:Int}{ps:List (α×Int)}{r:β}{rs:List (β×Int)},(∀ x∈(p,w) :: ps,1<=x.2)->(∀ x∈(r,v) :: rs,1<=x.2)->((p,w) :: ps).Pairwise (fun x y=>ka x.1<=ka y.1)->((r,v) :: rs).Pairwise (fun x y=>kb x.1<=kb y.1) ->
   (∀ k,wsum ((p,w) :: ps) (fun a=>ind (decide (ka a=k)))=wsum ((r,v) :: rs) (fun a=>ind (decide (kb a=k))))->ka p=kb r:=by
  intro p w v ps r rs h1 h2 s1 s2 e
  have s1:=(zco5.mp s1).1
  have s2:=(zco5.mp s2).1
  rcases Int.lt_trichotomy (ka p) (kb r) with z|z|z
  ·have a:=zw1 (f:=fun a=>decide (ka a=ka p)) h1 (p,w) (.head _) (decide_eq_true rfl)
   have b:=zw8 (f:=fun a=>decide (kb a=ka p)) (l:=(r,v) :: rs) fun x hx=>decide_eq_false (by
    rcases zcm1.mp hx with rfl|hx
    ·show ¬ kb r=ka p;omega
    ·have:=s2 x hx
     show ¬ kb x.1=ka p
     have:kb r<=kb x.1:=this
     omega)
   rw[e,b] at a
   omega
  ·exact z
  ·have a:=zw1 (f:=fun a=>decide (kb a=kb r)) h2 (r,v) (.head _) (decide_eq_true rfl)
   have b:=zw8 (f:=fun a=>decide (ka a=kb r)) (l:=(p,w) :: ps) fun x hx=>decide_eq_false (by
    rcases zcm1.mp hx with rfl|hx
    ·show ¬ ka p=kb r;omega
    ·have:=s1 x hx
     show ¬ ka x.1=kb r
     have:ka p<=ka x.1:=this
     omega)
   rw[← e,b] at a
   omega
 induction m with
 | nil=>intro _ _ _ _ _ z hz;cases hz
 | @lt p w v ps r rs out hl hm ih=>
  intro h1 h2 s1 s2 e z hz
  have hk:=head h1 h2 s1 s2 e
  rcases zcm1.mp hz with rfl|hz
  ·exact hk
  ·refine ih (fun x hx=>h1 x (.tail _ hx)) (fun x hx=>?_) (zco5.mp s1).2 ?_ (fun k=>?_) z hz
   ·rcases zcm1.mp hx with rfl|hx
    ·show 1<=v - w;omega
    ·exact h2 x (.tail _ hx)
   ·exact zco5.mpr ⟨(zco5.mp s2).1,(zco5.mp s2).2⟩
   ·have e:=e k
    rw[zf2,zf2] at e
    rw[zf2]
    dsimp only at e ⊢
    rw[hk] at e
    rw[Int.sub_mul]
    omega
 | @eq p w ps r rs out hm ih=>
  intro h1 h2 s1 s2 e z hz
  have hk:=head h1 h2 s1 s2 e
  rcases zcm1.mp hz with rfl|hz
  ·exact hk
  ·refine ih (fun x hx=>h1 x (.tail _ hx)) (fun x hx=>h2 x (.tail _ hx)) (zco5.mp s1).2 (zco5.mp s2).2 (fun k=>?_) z hz
   have e:=e k
   rw[zf2,zf2] at e
   dsimp only at e
   rw[hk] at e
   omega
 | @gt p w v ps r rs out hl hm ih=>
  intro h1 h2 s1 s2 e z hz
  have hk:=head h1 h2 s1 s2 e
  rcases zcm1.mp hz with rfl|hz
  ·exact hk
  ·refine ih (fun x hx=>?_) (fun x hx=>h2 x (.tail _ hx)) ?_ (zco5.mp s2).2 (fun k=>?_) z hz
   ·rcases zcm1.mp hx with rfl|hx
    ·show 1<=w - v;omega
    ·exact h1 x (.tail _ hx)
   ·exact zco5.mpr ⟨(zco5.mp s1).1,(zco5.mp s1).2⟩
   ·have e:=e k
    rw[zf2,zf2] at e
    rw[zf2]
    dsimp only at e ⊢
    rw[hk] at e ⊢
    rw[Int.sub_mul]
    omega
def lvR(h W:Int)(rs:List (List (Int×Int×Int)))(k:Int):Int:=match rs.getLast? with
 | none=>if h=k then W else 0
 | some xs=>wsum (rwF xs) (fun r=>ind (decide (r.1 - r.2=k)))
theorem zak6(h W:Int)(rs:List (List (Int×Int×Int)))(xs:List (Int×Int×Int))(k:Int):lvR h W (rs++[xs]) k=wsum (rwF xs) (fun r=>ind (decide (r.1 - r.2=k))):=by
 unfold lvR
 rw[List.getLast?_append]
 rfl
theorem zad1{out:List (List Int×(Int×Int)×Int)}(f:List Int->Int):wsum (outM out) f=(out.map fun z=>z.2.2*f (z.1++[z.2.1.2])).sum:=by
 unfold wsum outM
 rw[zcm6]
 rfl
theorem Ap.keys{h:Int}(A:Ap h W rs ms)(hW:1<=W) :
  (∀ (i:Nat) xs,rs[i]?=some xs->(rwF xs).Pairwise (fun x y=>x.1.1<=y.1.1)/\(∀ x∈xs,1<=x.2.2/\0<=x.2.1)/\∀ k,wsum (rwF xs) (fun r=>ind (decide (r.1=k)))=lvR h W (rs.take i) k) ->
  (∀ k,wsum ms (fun p=>ind (decide (h - p.sum=k)))=lvR h W rs k)/\(∀ x∈ms,1<=x.2/\∀ n∈x.1,0<=n):=by
 induction A with
 | nil=>
  intro _
  refine⟨fun k=>?_,fun x hx=>?_⟩
  ·unfold wsum lvR
   simp only[zcn5,zcu5,zcp6,List.sum_nil,List.getLast?_nil,Int.add_zero,Int.sub_zero]
   by_cases e:h=k
   ·rw[if_pos e];simp[ind,e]
   ·rw[if_neg e];simp[ind,e]
  ·have:x=([],W):=by simpa using hx
   subst this
   exact⟨hW,fun n hn=>by cases hn⟩
 | @step rs ms ms2 xs out A hp hs hm ih=>
  intro hc
  obtain⟨i1,i2⟩:=ih fun i ys hy=>by
   have il:=(zcl1.mp hy).1
   have:=hc i ys (by rw[zcn2 il];exact hy)
   rw[zcq8 (by rfl')] at this
   exact this
  obtain⟨c1,c2,c3⟩:=hc rs.length xs (by rw[zcm9 (zcm3 _),zcw6];rfl)
  rw[zcq8 (zcm3 _),zcq6] at c3
  have p1:∀ x∈ms2,1<=x.2:=fun x hx=>(i2 x (hp.mem_iff.mp hx)).1
  have p2:∀ x∈rwF xs,1<=x.2:=fun x hx=>by
   unfold rwF at hx
   obtain⟨y,hy,rfl⟩:=zcm0.mp hx
   exact (c2 y hy).1
  have al:=hm.align (ka:=fun p=>h - p.sum) (kb:=fun r=>r.1) p1 p2 hs c1 (fun k=>by rw[zx9 hp,i1,c3])
  refine⟨fun k=>?_,fun x hx=>?_⟩
  ·rw[zak6,zad1]
   have e1:(out.map fun z=>z.2.2*ind (decide (h - (z.1++[z.2.1.2]).sum=k)))=out.map fun z=>z.2.2*ind (decide (z.2.1.1 - z.2.1.2=k)):=zcm8 fun z hz=>by
    have:=al z hz
    rw[zct7,List.sum_singleton]
    rw[show h - (z.1.sum+z.2.1.2)=z.2.1.1 - z.2.1.2 by rfl']
   rw[e1]
   exact hm.sumR fun r=>ind (decide (r.1 - r.2=k))
  ·unfold outM at hx
   obtain⟨z,hz,rfl⟩:=zcm0.mp hx
   refine⟨hm.pos p1 p2 z hz,fun n hn=>?_⟩
   obtain⟨a1,a2⟩:=hm.memL z hz
   rcases zco0.mp hn with hn|hn
   ·obtain⟨y,hy,ey⟩:=zcm0.mp a1
    exact (i2 y (hp.mem_iff.mp hy)).2 n (by rw[ey];exact hn)
   ·rw[zcn9.mp hn]
    obtain⟨y,hy,ey⟩:=zcm0.mp a2
    unfold rwF at hy
    obtain⟨x',hx',rfl⟩:=zcm0.mp hy
    rw[← ey]
    exact (c2 x' hx').2
theorem Ap.shares{h:Int}(A:Ap h W rs ms):(∀ x∈ms,x.1.length=rs.length)/\∀ (k:Nat) xs,rs[k]?=some xs->∀ s,wsum ms (fun p=>ind (decide (p.getD k 0=s)))=wsum (rwF xs) (fun r=>ind (decide (r.2=s))):=by
 induction A with
 | nil=>
  refine⟨fun x hx=>?_,fun k xs e=>by simp at e⟩
  have:x=([],W):=by simpa using hx
  subst this
  rfl
 | @step rs ms ms2 xs out A hp hs hm ih=>
  obtain⟨i1,i2⟩:=ih
  have zl:∀ z∈out,z.1.length=rs.length:=fun z hz=>by
   obtain⟨y,hy,ey⟩:=zcm0.mp (hm.memL z hz).1
   rw[← ey]
   exact i1 y (hp.mem_iff.mp hy)
  refine⟨fun x hx=>?_,fun k ys e s=>?_⟩
  ·unfold outM at hx
   obtain⟨z,hz,rfl⟩:=zcm0.mp hx
   rw[zcl8,zcl8,zl z hz]
   rfl
  ·rw[zad1]
   by_cases hk:k<rs.length
   ·rw[zcn2 hk] at e
    have e1:(out.map fun z=>z.2.2*ind (decide ((z.1++[z.2.1.2]).getD k 0=s)))=out.map fun z=>z.2.2*ind (decide (z.1.getD k 0=s)):=zcm8 fun z hz=>by
     rw[zcl3,zcn2 (by rw[zl z hz];exact hk),← zcl3]
    rw[e1,hm.sumL fun p=>ind (decide (p.getD k 0=s)),← i2 k ys e s]
    exact zx9 hp fun p=>ind (decide (p.getD k 0=s))
   ·have e0:k=rs.length:=by
     have:=(zcl1.mp e).1
     rw[zcl8] at this
     have:k<rs.length+1:=this
     omega
    subst e0
    rw[zcm9 (zcm3 _),zcw6] at e
    cases e
    have e1:(out.map fun z=>z.2.2*ind (decide ((z.1++[z.2.1.2]).getD rs.length 0=s)))=out.map fun z=>z.2.2*ind (decide (z.2.1.2=s)):=zcm8 fun z hz=>by
     rw[zcl3,zcm9 (by rw[zl z hz];exact zcm3 _),zl z hz,zcw6]
     rfl
    rw[e1]
    exact hm.sumR fun r=>ind (decide (r.2=s))
theorem zbb5{κ:Type}[DecidableEq κ](R:zl9 ms i xs)(hv:∀ z∈xs,z.2.2=atG (flw ms i) (keyT z))(g:Int×Int->κ)(k:κ):atG (xs.map fun z=>(g (keyT z),z.2.2)) k=atG ((flw ms i).map fun z=>(g z.1,z.2)) k:=by
 have at1:atG (xs.map fun z=>(g (keyT z),z.2.2)) k=(((xs.map keyT).filter fun q=>decide (g q=k)).map (atG (flw ms i))).sum:=by
  unfold atG
  rw[zcw1,zcw1,zcm6,zcm6]
  refine congrArg List.sum (zcm8 fun z hz=>?_)
  exact hv z (List.mem_filter.mp hz).1
 have at2:atG ((flw ms i).map fun z=>(g z.1,z.2)) k=(((flw ms i).filter fun z=>decide (g z.1=k)).map (·.2)).sum:=by
  unfold atG
  rw[zcw1,zcm6]
  rfl
 rw[at1,at2,zae9 (p:=fun q=>decide (g q=k)) R.1.1 fun z hz=>(R.2.1 _).mpr ((ze6 _).2 _ |>.mpr (zcm0.mpr ⟨z,hz,rfl⟩))]
theorem zr9{α κ:Type}[DecidableEq κ](g:α->κ)(k:κ):∀ l:List (α×Int),wsum l (fun r=>ind (decide (g r=k)))=atG (l.map fun z=>(g z.1,z.2)) k
 | []=>by unfold wsum atG;simp
 | x :: l=>by
  rw[zf2,zcn5,zaj1,zr9 g k l]
  by_cases e:g x.1=k
  ·rw[if_pos (show (g x.1,x.2).1=k from e),decide_eq_true e];show x.2*1+_=x.2+_;omega
  ·rw[if_neg (show ¬ (g x.1,x.2).1=k from e),decide_eq_false e];show x.2*0+_=0+_;omega
theorem zba3{κ:Type}(g:Int×Int->κ)(xs:List (Int×Int×Int)):(rwF xs).map (fun z=>(g z.1,z.2))=xs.map fun z=>(g (keyT z),z.2.2):=by
 unfold rwF
 rw[zcm6]
 rfl
section
variable {ms:List (List Int×Int)}{h:Int}{f:Nat}{xss:List (List (Int×Int×Int))}
theorem zp3{κ:Type}[DecidableEq κ](O:OkS ms h f)(hi:i<f)(R:zl9 ms i xs)(g:Int×Int->κ)(k:κ):wsum (rwF xs) (fun r=>ind (decide (g r=k)))=wsum ms (fun p=>ind (decide (g ((p.drop i).sum,p.getD i 0)=k))):=by
 have e:=zbb5 R (fun z hz=>(zq6 O hi R hz).2.2.1) g k
 have e2:=zr9 (fun p:List Int=>g ((p.drop i).sum,p.getD i 0)) k ms
 rw[zr9,zba3,e,e2]
 unfold flw
 rw[zcm6]
 rfl
end
theorem zt4(ms:List (List Int×Int))(i:Nat)(q:Int×Int):atG (flw ms i) q=wsum ms (fun p=>ind (decide (((p.drop i).sum,p.getD i 0)=q))):=by
 rw[zr9 (fun p:List Int=>((p.drop i).sum,p.getD i 0)) q ms]
 rfl
def KC(h W:Int)(rs:List (List (Int×Int×Int))):Prop:=∀ (i:Nat) xs,rs[i]?=some xs->(rwF xs).Pairwise (fun x y=>x.1.1<=y.1.1)/\(∀ x∈xs,1<=x.2.2/\0<=x.2.1)/\∀ k,wsum (rwF xs) (fun r=>ind (decide (r.1=k)))=lvR h W (rs.take i) k
theorem KC.left{h:Int}(c:KC h W (rs++[xs])):KC h W rs:=fun i ys hy=>by
 have il:=(zcl1.mp hy).1
 have:=c i ys (by rw[zcn2 il];exact hy)
 rw[zcq8 (by rfl')] at this
 exact this
theorem Ap.al{h:Int}{out:List (List Int×(Int×Int)×Int)}(A:Ap h W rs ms)(hW:1<=W)(c:KC h W (rs++[xs]))(hp:ms2.Perm ms)(hs:ms2.Pairwise (fun x y=>h - x.1.sum<=h - y.1.sum))(hm:Mrg ms2 (rwF xs) out):∀ z∈out,h - z.1.sum=z.2.1.1:=by
 obtain⟨i1,i2⟩:=A.keys hW c.left
 obtain⟨c1,c2,c3⟩:=c rs.length xs (by rw[zcm9 (zcm3 _),zcw6];rfl)
 rw[zcq8 (zcm3 _),zcq6] at c3
 exact hm.align (ka:=fun p=>h - p.sum) (kb:=fun r=>r.1) (fun x hx=>(i2 x (hp.mem_iff.mp hx)).1) (fun x hx=>by
  unfold rwF at hx
  obtain⟨y,hy,rfl⟩:=zcm0.mp hx
  exact (c2 y hy).1) hs c1 (fun k=>by rw[zx9 hp,i1,c3])
theorem Ap.flows{h:Int}(A:Ap h W rs ms)(hW:1<=W):KC h W rs->∀ (k:Nat) xs,rs[k]?=some xs->∀ q:Int×Int,wsum ms (fun p=>ind (decide ((h - (p.take k).sum,p.getD k 0)=q)))=wsum (rwF xs) (fun r=>ind (decide (r=q))):=by
 induction A with
 | nil=>intro _ k xs e;simp at e
 | @step rs ms ms2 xs out A hp hs hm ih=>
  intro c k ys e q
  have al:=A.al hW c hp hs hm
  have zl:∀ z∈out,z.1.length=rs.length:=fun z hz=>by
   obtain⟨y,hy,ey⟩:=zcm0.mp (hm.memL z hz).1
   rw[← ey]
   exact A.shares.1 y (hp.mem_iff.mp hy)
  rw[zad1]
  by_cases hk:k<rs.length
  ·rw[zcn2 hk] at e
   have e1:(out.map fun z=>z.2.2*ind (decide ((h - ((z.1++[z.2.1.2]).take k).sum,(z.1++[z.2.1.2]).getD k 0)=q)))=out.map fun z=>z.2.2*ind (decide ((h - (z.1.take k).sum,z.1.getD k 0)=q)):=zcm8 fun z hz=>by
    rw[zcl3,zcn2 (by rw[zl z hz];exact hk),← zcl3,zcq8 (by rw[zl z hz];omega)]
   rw[e1,hm.sumL fun p=>ind (decide ((h - (p.take k).sum,p.getD k 0)=q)),← ih c.left k ys e q]
   exact zx9 hp fun p=>ind (decide ((h - (p.take k).sum,p.getD k 0)=q))
  ·have e0:k=rs.length:=by
    have:=(zcl1.mp e).1
    rw[zcl8] at this
    have:k<rs.length+1:=this
    omega
   subst e0
   rw[zcm9 (zcm3 _),zcw6] at e
   cases e
   have e1:(out.map fun z=>z.2.2*ind (decide ((h - ((z.1++[z.2.1.2]).take rs.length).sum,(z.1++[z.2.1.2]).getD rs.length 0)=q)))=out.map fun z=>z.2.2*ind (decide (z.2.1=q)):=zcm8 fun z hz=>by
    have g1:(z.1++[z.2.1.2]).getD rs.length 0=z.2.1.2:=by
     rw[zcl3,zcm9 (by rw[zl z hz];exact zcm3 _),zl z hz,zcw6]
     rfl
    have g2:(z.1++[z.2.1.2]).take rs.length=z.1:=by rw[← zl z hz,zcq8 (zcm3 _),zcq6]
    rw[g1,g2,al z hz]
   rw[e1]
   exact hm.sumR fun r=>ind (decide (r=q))
theorem Mrg.nodup{α β:Type}{ps:List (α×Int)}{rs:List (β×Int)}{out:List (α×β×Int)}(m:Mrg ps rs out):(ps.map (·.1)).Nodup->(rs.map (·.1)).Nodup->(out.map fun z=>(z.1,z.2.1)).Nodup:=by
 induction m with
 | nil=>intro _ _;exact zcu7
 | @lt p w v ps r rs out hl hm ih=>
  intro h1 h2
  rw[zcn5,zcr2] at h1 ⊢
  refine⟨fun hz=>?_,ih h1.2 h2⟩
  obtain⟨z,hz,ez⟩:=zcm0.mp hz
  exact h1.1 ((congrArg Prod.fst ez:z.1=p)▸(hm.memL z hz).1)
 | @eq p w ps r rs out hm ih=>
  intro h1 h2
  rw[zcn5,zcr2] at h1 h2 ⊢
  refine⟨fun hz=>?_,ih h1.2 h2.2⟩
  obtain⟨z,hz,ez⟩:=zcm0.mp hz
  exact h1.1 ((congrArg Prod.fst ez:z.1=p)▸(hm.memL z hz).1)
 | @gt p w v ps r rs out hl hm ih=>
  intro h1 h2
  rw[zcn5,zcr2] at h2 ⊢
  refine⟨fun hz=>?_,ih h1 h2.2⟩
  obtain⟨z,hz,ez⟩:=zcm0.mp hz
  have:=(hm.memL z hz).2
  rw[show z.2.1=r from congrArg Prod.snd ez] at this
  exact h2.1 this
theorem Ap.nodup{h W:Int}{rs:List (List (Int×Int×Int))}{ms:List (List Int×Int)}(A:Ap h W rs ms)(hW:1<=W):KC h W rs->(∀ xs∈rs,(xs.map keyT).Nodup)->(ms.map (·.1)).Nodup:=by
 induction A with
 | nil=>intro _ _;simp
 | @step rs ms ms2 xs out A hp hs hm ih=>
  intro c hn
  have al:=A.al hW c hp hs hm
  have n1:(ms2.map (·.1)).Nodup:=(hp.map _).nodup_iff.mpr (ih c.left fun ys hy=>hn ys (zcr8 _ hy))
  have n2:((rwF xs).map (·.1)).Nodup:=by
   have:=hn xs (zco1 _ (.head _))
   unfold rwF
   rw[zcm6]
   exact this
  have n3:=hm.nodup n1 n2
  unfold outM
  rw[zcm6]
  unfold List.Nodup at n3 ⊢
  rw[zct2] at n3 ⊢
  refine n3.imp_of_mem fun {x y} hx hy hne e=>hne ?_
  have e:x.1++[x.2.1.2]=y.1++[y.2.1.2]:=e
  obtain⟨e1,e2⟩:=List.append_inj' e rfl
  have a1:=al x hx
  have a2:=al y hy
  rw[e1] at a1
  have e2:x.2.1.2=y.2.1.2:=by simpa using e2
  have e3:x.2.1=y.2.1:=Prod.ext (by rfl') e2
  rw[e1,e3]
theorem zaz8{κ:Type}[DecidableEq κ]{zs:List (κ×Int)}{k:κ}(h:k ∉ zs.map (·.1)):atG zs k=0:=by
 unfold atG
 rw[zcv7.mpr fun y hy hd=>h (zcm0.mpr ⟨y,hy,of_decide_eq_true hd⟩)];rfl
theorem zbk6(w:∀ x∈ms,1<=x.2)(i:Nat)(q:Int×Int):q∈(sumG (flw ms i)).map (·.1)↔1<=atG (flw ms i) q:=by
 rw[(ze6 _).2]
 have w2:∀ y∈flw ms i,1<=y.2:=fun y hy=>by
  unfold flw at hy
  obtain⟨x,hx,rfl⟩:=zcm0.mp hy
  exact w x hx
 refine⟨(zbz6 w2).2,fun h=>Classical.byContradiction fun z=>?_⟩
 rw[zaz8 z] at h
 omega
def scaR(c:Int)(xs:List (Int×Int×Int)):List (Int×Int×Int):=xs.map fun z=>(z.1,z.2.1,c*z.2.2)
theorem zbu6(xs:List (Int×Int×Int)):scaR 1 xs=xs:=by
 unfold scaR
 exact (zcm8 fun z _=>by rw[Int.one_mul];rfl).trans (zcx3 _)
theorem zay1(c:Int)(xs:List (Int×Int×Int)):(scaR c xs).map keyT=xs.map keyT:=by
 unfold scaR
 rw[zcm6]
 rfl
theorem zl9.count(R:zl9 ms i xs):xs.length=(sumG (flw ms i)).length:=by
 have:=((List.perm_ext_iff_of_nodup R.1.1 (ze6 (flw ms i)).1).mpr R.2.1).length_eq
 rw[zck9,zck9] at this
 exact this
theorem zby6(ms:List (List Int×Int))(i:Nat):(sumG (flw ms i)).length<=ms.length:=by
 have:=zw3 (flw ms i)
 unfold flw at this ⊢
 rwa [zck9] at this
theorem zl9.sca{c:Int}(hc:1<=c)(w:∀ x∈ms,1<=x.2)(w2:∀ x∈ms2,1<=x.2)(R:zl9 ms i xs)(e:∀ q,atG (flw ms2 i) q=c*atG (flw ms i) q):zl9 ms2 i (scaR c xs):=by
 have k1:∀ q,q∈(sumG (flw ms i)).map (·.1)↔q∈(sumG (flw ms2 i)).map (·.1):=fun q=>by
  rw[zbk6 w,zbk6 w2,e]
  constructor
  ·intro h
   have:=Int.mul_le_mul hc h (by decide) (by rfl')
   omega
  ·intro h
   rcases Int.lt_or_le 0 (atG (flw ms i) q) with g|g
   ·omega
   ·have:=Int.mul_nonneg (show 0<=c by rfl') (show 0<=-atG (flw ms i) q by rfl')
    rw[Int.mul_neg] at this
    omega
 refine⟨by rw[zay1];exact R.1,fun q=>by rw[zay1,R.2.1,k1],fun z hz=>?_⟩
 unfold scaR at hz
 obtain⟨y,hy,rfl⟩:=zcm0.mp hz
 have v:=R.2.2 y hy
 have km:=(R.2.1 _).mp (zcm0.mpr ⟨y,hy,rfl⟩)
 rw[zl4,if_pos ((ze6 _).2 _ |>.mp km)] at v
 show valG (sumG (flw ms2 i)) (keyT y)=some (c*y.2.2)
 rw[zl4,if_pos ((ze6 _).2 _ |>.mp ((k1 _).mp km)),e,Option.some.inj v]
theorem zi6.sca{ms ms2:List (List Int×Int)}{f:Nat}{xss:List (List (Int×Int×Int))}{c:Int}(hc:1<=c)(w:∀ x∈ms,1<=x.2)(w2:∀ x∈ms2,1<=x.2)(S:zi6 ms f xss)(e:∀ i,i<f->∀ q,atG (flw ms2 i) q=c*atG (flw ms i) q):zi6 ms2 f (xss.map (scaR c)):=by
 refine⟨by rw[zck9,S.1],fun i xs hx=>?_⟩
 rw[zcl2] at hx
 obtain⟨ys,ey,rfl⟩:=zcl6.mp hx
 have il:=(zcl1.mp ey).1
 have R:=(S.2 i ys ey).1.sca hc w w2 (e i (by rw[← S.1];exact il))
 exact⟨R,by rw[R.count];exact zby6 _ _⟩
theorem zap9(xss:List (List (Int×Int×Int))):xss.map (scaR 1)=xss:=(zcm8 fun x _=>zbu6 x).trans (zcx3 _)
section
variable {ms:List (List Int×Int)}{h:Int}{f:Nat}{xss:List (List (Int×Int×Int))}
theorem kc_of(O:OkS ms h f)(S:zi6 ms f xss):KC h (zr2 ms) xss:=fun i xs e=>by
 have il:=(zcl1.mp e).1
 rw[S.1] at il
 have a2:=(S.2 i xs e).1
 refine⟨?_,fun z hz=>⟨(zq6 O il a2 hz).2.2.2,(zq6 O il a2 hz).1⟩,fun k=>?_⟩
 ·have:=a2.1.2
  unfold rwF
  rw[zct2] at this ⊢
  exact this.imp fun {x y} hxy=>by
   have:x.1<y.1∨(x.1=y.1/\x.2.1<y.2.1):=zv0.mp hxy
   show x.1<=y.1
   omega
 ·rw[zp3 O il a2 (fun r=>r.1) k]
  cases i with
  | zero=>
   rw[List.take_zero]
   show _=if h=k then zr2 ms else 0
   have e1:wsum ms (fun p=>ind (decide ((p.drop 0).sum=k)))=wsum ms (fun _=>ind (decide (h=k))):=zt6 fun x hx=>by
    rw[List.drop_zero,(O.all x hx).2.2.1]
   show wsum ms (fun p=>ind (decide ((p.drop 0).sum=k)))=_
   rw[e1]
   by_cases z:h=k
   ·rw[if_pos z,decide_eq_true z];unfold wsum zr2 ind;simp
   ·rw[if_neg z,decide_eq_false z];exact zw8 (f:=fun _:List Int=>false) fun _ _=>rfl
  | succ i=>
   obtain⟨ys,ey⟩:∃ ys,xss[i]?=some ys:=⟨_,zcl0 (by rw[S.1];omega)⟩
   have Ry:=(S.2 i ys ey).1
   rw[zcx1,ey]
   show _=lvR h (zr2 ms) (xss.take i++[ys]) k
   rw[zak6,zp3 O (by rfl') Ry (fun r=>r.1 - r.2) k]
   refine zt6 fun x hx=>?_
   have xl:=(O.all x hx).2.1
   have:=zn0 (O.all x hx).1 (i:=i) (by rfl')
   show ind (decide ((x.1.drop (i+1)).sum=k))=ind (decide ((x.1.drop i).sum - x.1.getD i 0=k))
   rw[this.2.2]
theorem zbg7(O:OkS ms h f):1<=zr2 ms:=by
 obtain⟨x,hx⟩:∃ x,x∈ms:=List.exists_mem_of_length_pos (by have:=O.ne;omega)
 have:wsum ms (fun _=>1)=zr2 ms:=by unfold wsum zr2;simp
 rw[← this]
 exact zw1 (f:=fun _:List Int=>true) (fun y hy=>(O.all y hy).2.2.2) x hx rfl
theorem zac7(O:OkS ms h f)(S:zi6 ms f xss):zu4 (stmD xss)=zr2 ms:=by
 have f1:=O.f1
 obtain⟨xs,e⟩:∃ ys,xss[0]?=some ys:=⟨_,zcl0 (by rw[S.1];omega)⟩
 have R:=(S.2 0 xs e).1
 have e0:(za8 (stmD xss)).getD 0 .none=zd0 xs:=by
  show (xss.map zd0).getD 0 .none=_
  rw[zcl3,zcl2,e];rfl
 unfold zu4
 rw[e0,zq1]
 have t1:wsum (rwF xs) (fun _=>1)=tot (rwF xs):=by unfold wsum tot;simp
 have t2:wsum ms (fun _=>1)=zr2 ms:=by unfold wsum zr2;simp
 rw[← t1,← t2]
 exact zp3 O (by rfl') R (fun _=>(0:Int)) 0
theorem zad5(xss:List (List (Int×Int×Int))):(za8 (stmD xss)).map rowF=xss:=by
 show (xss.map zd0).map rowF=xss
 rw[zcm6]
 exact (zcm8 fun x _=>zq1 x).trans (zcx3 _)
theorem zas0(O:OkS ms h f)(S:zi6 ms f xss)(A:Ap h (zr2 ms) xss ms2):OkS ms2 h f/\ms2.length+f<=1+(xss.map zct9).sum/\(ms2.map (·.1)).Nodup/\zi6 ms2 f xss:=by
 have W1:=zbg7 O
 have c:=kc_of O S
 have at_:∀ i xs,xss[i]?=some xs->i<f/\zl9 ms i xs:=fun i xs e=>by
  have il:=(zcl1.mp e).1
  rw[S.1] at il
  exact⟨il,(S.2 i xs e).1⟩
 obtain⟨o1,o2,o3,o4⟩:=A.ok1 W1 (fun xs hx=>by
  obtain⟨i,ei⟩:=zco7 hx
  obtain⟨a1,a2⟩:=at_ i xs ei
  exact fun z hz=>(zq6 O a1 a2 hz).2.2.2)
 rw[S.1] at o1 o4
 obtain⟨k1,k2⟩:=A.keys W1 c
 have f1:=O.f1
 have last:∀ k,k≠0->lvR h (zr2 ms) xss k=0:=fun k hk=>by
  obtain⟨ys,ey⟩:∃ ys,xss[f - 1]?=some ys:=⟨_,zcl0 (by rw[S.1];omega)⟩
  have Ry:=(at_ _ ys ey).2
  have e2:xss=xss.take (f - 1)++[ys]:=by
   have:xss.take (f - 1+1)=xss:=zco9 (by rw[S.1];omega)
   rw[zcx1,ey] at this
   exact this.symm
  rw[e2,zak6,zp3 O (by rfl') Ry (fun r=>r.1 - r.2) k]
  refine zw8 (f:=fun p:List Int=>decide (((p.drop (f - 1)).sum - p.getD (f - 1) 0)=k)) fun x hx=>decide_eq_false ?_
  have xl:=(O.all x hx).2.1
  have:=(zn0 (O.all x hx).1 (i:=f - 1) (by rfl')).2.2
  rw[zcr1 (i:=f - 1+1) (by rfl'),List.sum_nil] at this
  omega
 have sums:∀ x∈ms2,x.1.sum=h:=fun x hx=>Classical.byContradiction fun z=>by
  have a:=zw1 (f:=fun p:List Int=>decide (h - p.sum=h - x.1.sum)) (fun y hy=>(k2 y hy).1) x hx (decide_eq_true rfl)
  rw[k1,last _ (by rfl')] at a
  omega
 have O2:OkS ms2 h f:=⟨by
  cases ms2 with
  | nil=>exact absurd rfl o3
  | cons=>simp,f1,fun x hx=>⟨(k2 x hx).2,(o1 x hx).2,sums x hx,(k2 x hx).1⟩⟩
 refine⟨O2,o4,A.nodup W1 c fun xs hx=>?_,?_⟩
 ·obtain⟨i,ei⟩:=zco7 hx
  exact (at_ i xs ei).2.1.1
 ·have:=zi6.sca (c:=1) (by decide) (fun x hx=>(O.all x hx).2.2.2) (fun x hx=>(O2.all x hx).2.2.2) S fun i hi q=>?_
  ·rw[zap9] at this
   exact this
  ·obtain⟨xs,e⟩:∃ ys,xss[i]?=some ys:=⟨_,zcl0 (by rw[S.1];omega)⟩
   have e1:=A.flows W1 c i xs e q
   have e2:=zp3 O hi (at_ i xs e).2 (fun r=>r) q
   rw[Int.one_mul,zt4,zt4]
   have e3:wsum ms2 (fun p=>ind (decide (((p.drop i).sum,p.getD i 0)=q)))=wsum ms2 (fun p=>ind (decide ((h - (p.take i).sum,p.getD i 0)=q))):=zt6 fun x hx=>by
    have:=congrArg List.sum (zct6 i x.1)
    rw[zct7,sums x hx] at this
    rw[show h - (x.1.take i).sum=(x.1.drop i).sum by rfl']
   rw[e3,e1,e2]
end
def zd1(H:Hp)(a:Addr)(b:Int):Prop:=∃ x y z:Int,H a=some (.lst [.int x,.int y,.int z])/\(y=1∨(y=0/\0<=x/\x<2147483629))/\0<=z/\z<=b
theorem zd1.same{H H':Hp}{a:Addr}{b:Int}(h:zd1 H a b)(s:Same H H'):zd1 H' a b:=by
 obtain⟨x,y,z,e,r⟩:=h
 exact⟨x,y,z,s _ _ e,r⟩
local macro_rules | `(tactic| walk_at "la")=>`(tactic| first|assumption|(refine zd1.same (H:=?H) ?l ?s;(case s=>assumption);(case l=>walk_at "la"))|fail "la")
theorem zd1.up{a:Addr}{b c:Int}(h:zd1 H a b)(l:b<=c):zd1 H a c:=by
 obtain⟨x,y,z,e1,e2,e3,e4⟩:=h
 exact⟨x,y,z,e1,e2,e3,by rfl'⟩
theorem zd1.ne{H:Hp}{a p:Addr}{b:Int}(h:zd1 H a b)(f:H p=none):p≠a:=by
 obtain⟨x,y,z,e,_⟩:=h
 exact Ne.symm (za7 e f)
local macro_rules | `(tactic| walk_at "ne")=>`(tactic| first|assumption|(apply Ne.symm;assumption)|(refine zd1.ne (H:=?H) (b:=?b) ?l ?f;(case f=>assumption);(case l=>walk_at "la"))|fail "ne")
@[irreducible] def zj9:Sp:=fun vs H Q _=>∃ n k:Int,vs=[.int n,.int k]/\0<=n/\n<2147483629/\0<=k/\k<=10000000/\∀ r:Int,0<=r->r<2147483587->Q (.int r) H
theorem zax8{n k:Int}(h0:0<=n)(h1:n<2147483629)(h2:0<=k)(h3:k<=10000000)(q:∀ r:Int,0<=r->r<2147483587->Q (.int r) H):zj9 [.int n,.int k] H Q E:=by
 unfold zj9;exact⟨n,k,rfl,h0,h1,h2,h3,q⟩
theorem zav3{f:Addr}(F:Fun K "_law_mix" "_law_mix" zz8 f fd)(N:Nm mg):FnOk P w K mg base CX0 1 f fd ["_law_number","_law_k"] zj9:=by
 refine F.ok zaf1 (fun vs H Q E h=>by unfold zj9 at h;obtain⟨n,k,rfl,_⟩:=h;rfl) fun _ _ _ s H vs Q E hr h=>?_
 unfold zj9 at h
 obtain⟨n,k,rfl,h1,h2,h3,h4,q⟩:=h
 refine⟨_,(za2 (psS (i:=2) zaf1.nd (zc4 oMod (zc4 oMul (zc4 oAdd (zc4 oAdd (zc4 oMul (pq 0) (pq 0)) (zc4 oMul (pq 1) (pq 0))) (zc4 oMul (zc4 oMul za3 (pq 1)) (pq 1))) za3) za3))
   (za4 (zb1 (zc4 oMod (zc4 oMul (pq 2) (pq 2)) za3)))),?_⟩
 repeat walk_at "st"
 ac_nf
 exact q _ (by assumption) (by assumption)
@[irreducible] def zf0:Sp:=fun vs H Q _=>∃ (a:Addr) (z:Int),vs=[.ref a,.int 0]/\H a=some (.lst [.int z])/\Q (.int z) H
theorem zbe2{a:Addr}{z:Int}(h:H a=some (.lst [.int z]))(q:Q (.int z) H):zf0 [.ref a,.int 0] H Q E:=by unfold zf0;exact⟨a,z,rfl,h,q⟩
theorem zae2{f:Addr}(F:Fun K "_law_cell_at" "_law_cell_at" zo3 f fd)(N:Nm mg):FnOk P w K mg base CX0 1 f fd ["_law_script","_law_k"] zf0:=by
 refine F.ok zad4 (fun vs H Q E h=>by unfold zf0 at h;obtain⟨_,_,rfl,_⟩:=h;rfl) fun _ _ _ s H vs Q E hr h=>?_
 unfold zf0 at h
 obtain⟨a,z,rfl,h,q⟩:=h
 have hu:=hu40 hr
 refine⟨_,(za2 (psIf (ptC (oLtX (by exact hu)) (pq 1) (pB (zk0 (K:=K) rfl) N.len_ ze9 (za0 (pq 0) za1))) (za4 (zb1 (zb5 (K:=K) rfl (pq 0) (pq 1)))) zc7)
   (za4 (zb1 za3))),?_⟩
 refine zc9 h ?_
 refine zat1 (by show (0:Int)<((1:Nat):Int);decide) ?_
 refine zb8 (v:=.int z) h rfl ?_
 ac_nf
 exact q
@[irreducible] def zi4:Sp:=fun vs H Q _=>∃ (a:Addr) (z:Int),vs=[.ref a,.int 0]/\H a=some (.lst [.int z])/\∀ p H',H p=none->Same H H'->zd1 H' p 0->Q (.ref p) H'
theorem zcb6{a:Addr}{z:Int}(h:H a=some (.lst [.int z]))(q:∀ p H',H p=none->Same H H'->zd1 H' p 0->Q (.ref p) H'):zi4 [.ref a,.int 0] H Q E:=by unfold zi4;exact⟨a,z,rfl,h,q⟩
theorem zao9{f:Addr}(F:Fun K "_law_left" "_law_left" zv6 f fd)(N:Nm mg)(zci1:Def P w K mg base CX0 1 "_law_cell_at" ["_law_script","_law_k"] zf0):FnOk P w K mg base CX0 2 f fd ["_law_script","_law_k"] zi4:=by
 refine F.ok zaa8 (fun vs H Q E h=>by unfold zi4 at h;obtain⟨_,_,rfl,_⟩:=h;rfl) fun _ _ _ s H vs Q E hr h=>?_
 unfold zi4 at h
 obtain⟨a,z,rfl,h,q⟩:=h
 have hu:=hu40 hr
 refine⟨_,(za2 (psS (i:=2) zaa8.nd (pD zci1 hr zb6 (za0 (pq 0) (za0 (pq 1) za1))))
   (za2 (psIf (ptC (oLtX (by exact hu)) (pq 2) (zc4 oPow za3 za3)) (za4 (zb1 (zn1 (za0 (zc4 oMod (pq 2) za3) (za0 za3 (za0 za3 za1)))))) zc7)
   (za4 (zb1 (zn1 (za0 (zc4 oSub (pq 2) (zc4 oPow za3 za3)) (za0 za3 (za0 za3 za1)))))))),?_⟩
 refine zbe2 h ?_
 walk_at "st"
 refine zn3 (fun h=>?_) (fun h=>?_)
 ·repeat walk_at "st"
  ac_nf
  exact q _ _ (by assumption) (by assumption) ⟨_,_,_,by assumption,.inr ⟨rfl,by assumption,by assumption⟩,by rfl',by rfl'⟩
 ·repeat walk_at "st"
  ac_nf
  exact q _ _ (by assumption) (by assumption) ⟨_,_,_,by assumption,.inl rfl,by rfl',by rfl'⟩
@[irreducible] def zf3:Sp:=fun vs H Q _=>∃ (a:Addr) (m b:Int),vs=[.ref a,.int m]/\zd1 H a b/\b<=1000000/\0<m/\m<10 ^ 60/\∀ (d:Int) H',0<=d->d<m->Chg a H H'->zd1 H' a (b+1)->Q (.int d) H'
theorem zn5{a:Addr}{m b:Int}(hL:zd1 H a b)(hb:b<=1000000)(h0:0<m)(h1:m<10 ^ 60)(q:∀ (d:Int) H',0<=d->d<m->Chg a H H'->zd1 H' a (b+1)->Q (.int d) H'):zf3 [.ref a,.int m] H Q E:=by
 unfold zf3;exact⟨a,m,b,rfl,hL,hb,h0,h1,q⟩
theorem zan1{f:Addr}(F:Fun K "_law_draw" "_law_draw" zu9 f fd)(N:Nm mg)(zci9:Def P w K mg base CX0 1 "_law_mix" ["_law_number","_law_k"] zj9):FnOk P w K mg base CX0 2 f fd ["_law_left_here","_law_base"] zf3:=by
 refine F.ok zs1 (fun vs H Q E h=>by unfold zf3 at h;obtain⟨a,m,b,rfl,_⟩:=h;rfl) fun _ _ _ s H vs Q E hr h=>?_
 unfold zf3 at h
 obtain⟨a,m,b,rfl,⟨x,y,z,hl,hy,hz0,hz1⟩,hb,hm0,hm1,q⟩:=h
 have hu:=hu40 hr
 refine⟨_,(za2 (zaz3 (zc4 oAdd (zb5 (K:=K) rfl (pq 0) za3) za3) (zay7 (pq 0) za3 setM))
   (za2 (psIf (ptC (zz7 (K:=K) rfl (by exact hu)) (zb5 (K:=K) rfl (pq 0) za3) za3) (za2 (psS (i:=2) zs1.nd (pD zci9 hr zb6 (za0 (zb5 (K:=K) rfl (pq 0) za3) (za0 (zb5 (K:=K) rfl (pq 0) za3) za1))))
   (za2 (psIf (ptC oGt (pq 1) (zc4 oPow za3 za3)) (za4 (zb1 (zc4 oMod (zc4 oMul (pq 2) (zc4 oAdd (zc4 oPow (pD zci9 hr zb6 (za0 (zb5 (K:=K) rfl (pq 0) za3) (za0 (zc4 oAdd (zb5 (K:=K) rfl (pq 0) za3) za3) za1))) za3) za3)) (pq 1)))) zc7)
   (za4 (zb1 (zc4 oMod (zc4 oMod (zc4 oMul (pq 2) (zc4 oAdd (pq 2) za3)) za3) (pq 1)))))) zc7)
   (za2 (psS (i:=3) zs1.nd (zc4 oMod (zb5 (K:=K) rfl (pq 0) za3) (pq 1)))
   (za2 (zaz3 (zc4 oDiv (zb5 (K:=K) rfl (pq 0) za3) (pq 1)) (zay7 (pq 0) za3 setM))
   (za4 (zb1 (pq 3))))))),?_⟩
 walk_at "st"
 refine zba5 hl (by rfl) (fun H1 c1 h1=>?_)
 have h1:H1 a=some (.lst [.int x,.int y,.int (z+1)]):=h1
 refine zb8 (v:=.int y) h1 rfl ?_
 refine zn3 (fun h=>?_) (fun h=>?_)
 ·obtain⟨hx0,hx1⟩:0<=x/\x<2147483629:=by rfl'
  subst h
  refine zb8 (v:=.int x) h1 rfl ?_
  refine zb8 (v:=.int (z+1)) h1 rfl ?_
  refine zax8 hx0 hx1 (by rfl') (by rfl') (fun r r0 r1=>?_)
  walk_at "st"
  refine zn3 (fun g=>?_) (fun g=>?_)
  ·ac_nf
   refine zb8 (v:=.int x) h1 rfl ?_
   refine zb8 (v:=.int (z+1)) h1 rfl ?_
   refine zax8 hx0 hx1 (by rfl') (by rfl') (fun r2 r20 r21=>?_)
   refine zbz4 ⟨by decide,by decide,by rfl'⟩ ?_
   refine zv3 (by rfl') (by rfl') ?_
   refine zac8 (by rfl') (fun d d0 d1=>?_)
   ac_nf
   exact q _ _ d0 d1 c1 ⟨_,_,_,h1,.inr ⟨rfl,hx0,hx1⟩,by rfl',by rfl'⟩
  ·ac_nf
   refine zv3 (by rfl') (by rfl') ?_
   refine zac8 (by rfl') (fun d1 d10 d11=>?_)
   refine zac8 (by rfl') (fun d d0 d1=>?_)
   ac_nf
   exact q _ _ d0 d1 c1 ⟨_,_,_,h1,.inr ⟨rfl,hx0,hx1⟩,by rfl',by rfl'⟩
 ·have hy1:y=1:=by rfl'
  subst hy1
  refine zb8 (v:=.int x) h1 rfl ?_
  refine zac8 (by rfl') (fun d d0 d1=>?_)
  refine zb8 (v:=.int x) h1 rfl ?_
  walk_at "st"
  refine zba5 h1 (by rfl) (fun H2 c2 h2=>?_)
  ac_nf
  exact q _ _ d0 d1 (c1.trans c2) ⟨_,_,_,h2,.inl rfl,by rfl',by rfl'⟩
theorem zd1.chg{a p:Addr}{b:Int}(h:zd1 H a b)(c:Chg p H H')(n:a≠p):zd1 H' a b:=by
 obtain⟨x,y,z,e,r⟩:=h
 exact⟨x,y,z,c _ _ n e,r⟩
theorem zd1.some{H:Hp}{a:Addr}{b:Int}(h:zd1 H a b):∃ o,H a=some o:=by
 obtain⟨x,y,z,e,r⟩:=h
 exact⟨_,e⟩
theorem Chg.free'{a l:Addr}(x:Chg a H H')(h:H' l=none)(n:l≠a):H l=none:=by
 cases e:H l with
 | none=>rfl
 | some o=>
  have:=x l o n e
  rw[h] at this
  cases this
@[irreducible] def zi0:Sp:=fun vs H Q _=>∃ (a:Addr) (b:Int) (h f:Nat),vs=[.ref a,.int h,.int f]/\zd1 H a b/\b<=100000/\h<=40/\(1<=f/\f<=8)/\∀ l H' (ns:List Int),H l=none->Chg a H H'->zd1 H' a (b+10)->l≠a->H' l=some (.lst (ns.map V.int))->ns.length=f->ns.sum=h->(∀ x∈ns,0<=x)->Q (.ref l) H'
theorem zbo6{a:Addr}{b:Int}{h f:Nat}(hL:zd1 H a b)(hb:b<=100000)(h1:h<=40)(h2:1<=f)(h3:f<=8)(q:∀ l H' (ns:List Int),H l=none->Chg a H H'->zd1 H' a (b+10)->l≠a->H' l=some (.lst (ns.map V.int))->ns.length=f->ns.sum=h->(∀ x∈ns,0<=x)->Q (.ref l) H'):zi0 [.ref a,.int h,.int f] H Q E:=by
 unfold zi0;exact⟨a,b,h,f,rfl,hL,hb,h1,⟨h2,h3⟩,q⟩
theorem zcd0(ns:List Int)(k:Nat):(ns.drop k++ns.take k).sum=ns.sum:=by
 have:=congrArg List.sum (zct6 k ns)
 rw[zct7] at this ⊢
 omega
theorem zao8{f:Addr}(F:Fun K "_law_plan" "_law_plan" zu8 f fd)(N:Nm mg)(zcg4:Def P w K mg base CX0 2 "_law_draw" ["_law_left_here","_law_base"] zf3):FnOk P w K mg base CX0 3 f fd ["_law_left_here","_law_hosts","_law_many"] zi0:=by
 refine F.ok zi5 (fun vs H Q E h=>by unfold zi0 at h;obtain⟨_,_,_,_,rfl,_⟩:=h;rfl) fun _ _ _ s H vs Q E hr h=>?_
 unfold zi0 at h
 obtain⟨a,b,h,f,rfl,hL,hb,h1,⟨h2,h3⟩,q⟩:=h
 refine⟨_,(za2 (psS (i:=3) zi5.nd (zn1 za1))
   (za2 (psS (i:=4) zi5.nd (pq 1))
   (za2 (zx4 PassesOwn.never rfl (zx1 N.range_ (za0 (zc4 oSub (pq 2) za3) za1)) (za6 (i:=5) zi5.nd rfl (by eq_refl)) (za2 (zj6 (zi1 (pq 3) (za0 (pD zcg4 hr zb6 (za0 (pq 0) (za0 (zc4 oAdd (pq 4) za3) za1))) za1)))
   (za4 (psS (i:=4) zi5.nd (zc4 oSub (pq 4) (zb5 (K:=K) rfl (pq 3) (pe_un uNeg za3)))))))
   (za2 (zj6 (zi1 (pq 3) (za0 (pq 4) za1)))
   (za2 (psS (i:=6) zi5.nd (pD zcg4 hr zb6 (za0 (pq 0) (za0 (pq 2) za1))))
   (za4 (zb1 (zc4 oAdd (zk7 (slXK (K:=K) rfl) (pq 3) (zu3 (pq 6)) zo1) (zk7 (slXK (K:=K) rfl) (pq 3) zo1 (zu3 (pq 6))))))))))),?_⟩
 refine zd5 (fun l H1 f1 s1 h1'=>?_)
 have n1:l≠a:=hL.ne f1
 refine zl6 (by decide) (by decide) (by rfl') (by rfl') ?_
 refine zm1 (fun i σ H2=>∃ (x y:Option V) (ns:List Int) (r:Int),σ=[some (.ref a),some (.int h),some (.int f),some (.ref l),some (.int r),x,y]/\Chg a H H2/\zd1 H2 a (b+i)/\H2 l=some (.lst (ns.map V.int))/\ns.length=i/\ns.sum+r=h/\0<=r/\r<=40/\∀ x∈ns,0<=x) ?_ ?_ ?_
 ·exact⟨_,_,[],h,rfl,s1.toChg,(hL.same s1).up (by rfl'),h1',rfl,by simp,by rfl',by rfl',by simp⟩
 ·rintro i σ H2 hi ⟨x0,y0,ns,r,rfl,c2,L2,e2,l2,t2,r0,r1,nn⟩
  have hi:i<8:=by rfl'
  refine zv7 e2 ?_
  refine zn5 L2 (by rfl') (by rfl') (by rfl') (fun d3 H3 d30 d31 c3 L3=>?_)
  have e3:=c3 _ _ n1 e2
  refine zw9 e3 (by rw[zck9,zcx6];omega) (fun H4 c4 h4=>?_)
  have h4:H4 l=some (.lst ((ns++[d3]).map V.int)):=by rw[h4,zcn4];rfl
  refine zb8 (v:=.int d3) h4 (zbq2 (n:=i) (by rw[zck9,zcl8,l2];rfl) (by rw[zcl2,zcm9 (by rfl'),l2,zcw6];rfl)) ?_
  ac_nf
  have c23:Chg a H H3:=c2.trans c3
  refine⟨_,_,ns++[d3],r - d3,rfl,fun b o h1 e=>c4 _ _ (za7 e f1) (c23 _ _ h1 e),(L3.chg c4 (Ne.symm n1)).up (by rfl'),h4,by rw[zcl8,l2];rfl,by rw[zct7];simp;omega,by rfl',by rfl',fun x hx=>?_⟩
  rcases zco0.mp hx with hx|hx
  ·exact nn x hx
  ·have:x=d3:=by simpa using hx
   omega
 ·rintro σ H2 ⟨x0,y0,ns,r,rfl,c2,L2,e2,l2,t2,r0,r1,nn⟩
  refine zv7 e2 ?_
  refine zw9 e2 (by rw[zck9,zcx6];omega) (fun H3 c3 h3'=>?_)
  have h3':H3 l=some (.lst ((ns++[r]).map V.int)):=by rw[h3',zcn4];rfl
  have L3:=L2.chg c3 (Ne.symm n1)
  refine zn5 L3 (by rfl') (by rfl') (by rfl') (fun at_ H4 a0 a1 c4 L4=>?_)
  have h4:=c4 _ _ n1 h3'
  refine zaa6 (SqL.of h4) (fun p5 H5 f5 s5 h5=>?_)
  rw[zt2 (by rfl'),← List.map_drop] at h5
  refine zaa6 (SqL.of (s5 _ _ h4)) (fun p6 H6 f6 s6 h6=>?_)
  rw[zad8 (by rfl'),← List.map_take] at h6
  refine zar7 (s6 _ _ h5) h6 (by rw[zck9,zck9,zcp5,zcn7,zcx6,zcl8,l2,zcs3];omega) (fun p7 H7 f7 s7 h7=>?_)
  ac_nf
  have s56:=s5.trans s6
  have L6:=L4.same s56
  have c06:Chg a H H6:=fun b o h1 e=>s56 _ _ (c4 _ _ h1 (c3 _ _ (za7 e f1) (c2 _ _ h1 e)))
  refine q p7 H7 ((ns++[r]).drop at_.toNat++(ns++[r]).take at_.toNat) (Chg.free' c06 f7 (L6.ne f7)) (c06.same s7) ((L6.same s7).up (by rfl')) (L6.ne f7) (by rw[h7,zcn4]) (by rw[zcl8,zcp5,zcn7,zcl8,l2,zcs3];omega) (by rw[zcd0,zct7];simp;omega) (fun x hx=>?_)
  have hx:x∈ns++[r]:=by
   rcases zco0.mp hx with hx|hx
   ·exact zcs5 hx
   ·exact zcr9 hx
  rcases zco0.mp hx with hx|hx
  ·exact nn x hx
  ·have:x=r:=by simpa using hx
   omega
abbrev OkY(h f:Int)(x:List Int×Int):Prop:=OkX h f x/\x.2<=10 ^ 28
@[irreducible] def zj7:Sp:=fun vs H Q _=>∃ (a:Addr) (b:Int) (m pt:Nat),vs=[.ref a,.int m,.int 8,.int pt]/\(1<=pt/\pt<=40)/\zd1 H a b/\b<=10000/\m<=40/\∀ (h f:Nat) l ts ms H',H l=none->Chg a H H'->zd1 H' a (b+900)->l≠a->zc0 H' l ts ms->Off a ts->Off l ts->(h<=40/\1<=f/\f<=8)->(1<=ms.length/\ms.length<=40)->(∀ x∈ms,OkY h f x)->Q (.ref l) H'
theorem lot_rd{a:Addr}{b:Int}{m pt:Nat}(hL:zd1 H a b)(hb:b<=10000)(hm:m<=40)(hp1:1<=pt/\pt<=40)(q:∀ (h f:Nat) l ts ms H',H l=none->Chg a H H'->zd1 H' a (b+900)->l≠a->zc0 H' l ts ms->Off a ts->Off l ts->(h<=40/\1<=f/\f<=8)->(1<=ms.length/\ms.length<=40)->(∀ x∈ms,OkY h f x)->Q (.ref l) H'):zj7 [.ref a,.int m,.int 8,.int pt] H Q E:=by
 unfold zj7;exact⟨a,b,m,pt,rfl,hp1,hL,hb,hm,q⟩
theorem zaw9{f:Addr}(F:Fun K "_law_lot" "_law_lot" zy5 f fd)(N:Nm mg)(zcg4:Def P w K mg base CX0 2 "_law_draw" ["_law_left_here","_law_base"] zf3)(zcj1:Def P w K mg base CX0 3 "_law_plan" ["_law_left_here","_law_hosts","_law_many"] zi0):FnOk P w K mg base CX0 4 f fd ["_law_left_here","_law_most","_law_fields","_law_parts"] zj7:=by
 refine F.ok zk2 (fun vs H Q E h=>by unfold zj7 at h;obtain⟨_,_,_,_,rfl,_⟩:=h;rfl) fun _ _ _ s H vs Q E hr h=>?_
 unfold zj7 at h
 obtain⟨a,b,m,pt,rfl,hp1,hL,hb,hm,q⟩:=h
 have hu:=hu40 hr
 refine⟨_,(za2 (psS (i:=4) zk2.nd (pD zcg4 hr zb6 (za0 (pq 0) (za0 (zc4 oAdd (pq 1) za3) za1))))
   (za2 (psS (i:=5) zk2.nd (zc4 oAdd za3 (pD zcg4 hr zb6 (za0 (pq 0) (za0 (pq 2) za1)))))
   (za2 (psS (i:=6) zk2.nd (zn1 za1))
   (za2 (zx4 PassesOwn.never rfl (zx1 N.range_ (za0 (zc4 oAdd za3 (pD zcg4 hr zb6 (za0 (pq 0) (za0 (pq 3) za1)))) za1)) (za6 (i:=7) zk2.nd rfl (by eq_refl)) (za2 (psS (i:=8) zk2.nd (zc4 oAdd za3 (pD zcg4 hr zb6 (za0 (pq 0) (za0 (zb5 (K:=K) rfl (zn1 (za0 za3 (za0 za3 (za0 (zc4 oPow za3 za3) za1)))) (pD zcg4 hr zb6 (za0 (pq 0) (za0 za3 za1)))) za1)))))
   (za4 (psIf (ptW (pwAnd (ptC oGt (pq 7) za3) (zcd3 (ptC (zz7 (K:=K) rfl (by exact hu)) (pD zcg4 hr zb6 (za0 (pq 0) (za0 za3 za1))) za3)))) (za4 (zj6 (zi1 (pq 6) (za0 (zp0 (za0 (pT (zbw0 (K:=K) rfl) N.list_ zq5 (za0 (zb5 (K:=K) rfl (zb5 (K:=K) rfl (pq 6) (pD zcg4 hr zb6 (za0 (pq 0) (za0 (pq 7) za1)))) za3) za1)) (za0 (pq 8) za1))) za1)))) (za4 (zj6 (zi1 (pq 6) (za0 (zp0 (za0 (pD zcj1 hr zb6 (za0 (pq 0) (za0 (pq 4) (za0 (pq 5) za1)))) (za0 (pq 8) za1))) za1))))))))
   (za4 (zb1 (pq 6))))))),?_⟩
 refine zn5 hL (by rfl') (by rfl') (by rfl') (fun dh H1 dh0 dh1 c1 L1=>?_)
 obtain⟨h,rfl⟩:∃ h:Nat,dh=h:=⟨dh.toNat,by rfl'⟩
 refine zn5 L1 (by rfl') (by rfl') (by rfl') (fun df H2 df0 df1 c2 L2=>?_)
 obtain⟨f,ef⟩:∃ f:Nat,1+df=f:=⟨(1+df).toNat,by rfl'⟩
 have hf:h<=40/\1<=f/\f<=8:=by rfl'
 ac_nf
 rw[ef]
 refine zd5 (fun l H3 f3 s3 h3=>?_)
 have n1:l≠a:=L2.ne f3
 have c03:Chg a H H3:=(c1.trans c2).same s3
 have f0:H l=none:=Chg.free' (c1.trans c2) f3 n1
 refine zn5 (L2.same s3) (by rfl') (by rfl') (by rfl') (fun dn H4 dn0 dn1 c4 L4=>?_)
 refine zl6 (by decide) (by decide) (by rfl') (by rfl') ?_
 obtain⟨n,en⟩:∃ n:Nat,(1+dn - 0).toNat=n:=⟨_,rfl⟩
 rw[en]
 have hn1:1<=n/\n<=40:=by rfl'
 refine zm1 (fun i σ I=>∃ (x y:Option V) (ts:List (Addr×Addr)) (ms:List (List Int×Int)),σ=[some (.ref a),some (.int m),some (.int 8),some (.int pt),some (.int h),some (.int f),some (.ref l),x,y]/\Chg a H I/\zd1 I a (b+4+20*i)/\zc0 I l ts ms/\Off a ts/\Off l ts/\ms.length=i/\∀ x∈ms,OkY h f x) ?_ ?_ ?_
 ·refine⟨_,_,[],[],rfl,c03.trans c4,L4.up (by rfl'),⟨c4 _ _ n1 h3,rfl,fun i t x e=>by simp at e⟩,?_,?_,rfl,?_⟩
  ·intro t ht;cases ht
  ·intro t ht;cases ht
  ·intro x hx;cases hx
 ·rintro i σ I hi ⟨x0,y0,ts,ms,rfl,cI,LI,M,O1,O2,ml,ok⟩
  have hi:i<40:=by rfl'
  walk_at "st"
  refine zd5 (fun p5 H5 f5 s5 h5=>?_)
  refine zn5 (LI.same s5) (by rfl') (by rfl') (by rfl') (fun d6 H6 d60 d61 c6 L6=>?_)
  have h56:=c6 _ _ (LI.ne f5) h5
  refine zam4 h56 (by rfl') (by simp only[zcn6,zcq5];omega) ?_
  intro v hv
  obtain⟨wm,rfl,wm0,wm1⟩:∃ m:Int,v=.int m/\1<=m/\m<=10 ^ 28:=by
   simp only[zcm1,zcq3,or_false] at hv
   rcases hv with rfl|rfl|rfl<;>exact⟨_,rfl,by rfl',by rfl'⟩
  clear hv h56 h5
  refine zn5 L6 (by rfl') (by rfl') (by rfl') (fun d7 H7 d70 d71 c7 L7=>?_)
  have c57:Chg a I H7:=(s5.toChg.trans c6).trans c7
  have M7:=((M.same s5).chg c6 n1 O1).chg c7 n1 O1
  have c07:=cI.trans c57
  have wt:1<=1+d7/\1+d7<=10 ^ 28:=by rfl'
  ac_nf
  generalize 1+d7=wt_ at wt ⊢
  refine zn3 (fun z=>?_) (fun z=>?_)
  ·ac_nf
   refine zn5 L7 (by rfl') (by rfl') (by rfl') (fun d8 H8 d80 d81 c8 L8=>?_)
   have M8:=M7.chg c8 n1 O1
   refine zn3 (fun z8=>?_) (fun z8=>?_)
   ·ac_nf
    refine zv7 M8.out ?_
    refine zn5 L8 (by rfl') (by rfl') (by rfl') (fun d9 H9 d90 d91 c9 L9=>?_)
    have M9:=M8.chg c9 n1 O1
    obtain⟨k,rfl⟩:∃ k:Nat,d9=k:=⟨d9.toNat,by rfl'⟩
    obtain⟨x,ex⟩:∃ x,ms[k]?=some x:=⟨_,zcl0 (by rfl')⟩
    obtain⟨t,et,at0,ht,hp⟩:=M9.ix ex
    obtain⟨⟨x1,x2,x3,_⟩,_⟩:=ok x (zcl4 ex)
    refine zb8 (v:=.ref t.1) M9.out at0 ?_
    refine zd2 (v:=.ref t.2) ht rfl ?_
    refine zax9 (SqL.of hp) (fun pa Ha fa sa ha=>?_)
    refine zd6 (fun pb Hb fb sb hb=>?_)
    have nal:pa≠l:=Ne.symm (za7 M9.out fa)
    have nbl:pb≠l:=Ne.symm (za7 (sa _ _ M9.out) fb)
    have Mb:=(M9.same sa).same sb
    refine zw9 Mb.out (by rw[zck9,zcx6,Mb.len];omega) (fun Hc cc hc=>?_)
    ac_nf
    have Mc:=Mb.push cc O2 hc (x:=(x.1,wt_)) (cc _ _ nbl hb) (cc _ _ nal (sb _ _ ha))
    have c0b:Chg a H Hb:=(((c07.trans c8).trans c9).same sa).same sb
    exact⟨_,_,_,_,rfl,fun b o z e=>cc _ _ (za7 e f0) (c0b _ _ z e),(((L9.same sa).same sb).chg cc (Ne.symm n1)).up (by rfl'),Mc,O1.push ((L9.same sa).ne fb) (L9.ne fa),O2.push nbl nal,by rw[zcl8,ml];rfl,zak0 ok ⟨⟨x1,x2,x3,by rfl'⟩,by rfl'⟩⟩
   ·ac_nf
    refine zv7 M8.out ?_
    refine zbo6 L8 (by rfl') hf.1 hf.2.1 hf.2.2 (fun pa Ha ns fa ca La na ha k1 k2 k3=>?_)
    have Ma:=M8.chg ca n1 O1
    refine zd6 (fun pb Hb fb sb hb=>?_)
    have nal:pa≠l:=Ne.symm (za7 M8.out fa)
    have nbl:pb≠l:=Ne.symm (za7 Ma.out fb)
    have Mb:=Ma.same sb
    refine zw9 Mb.out (by rw[zck9,zcx6,Mb.len];omega) (fun Hc cc hc=>?_)
    ac_nf
    have Mc:=Mb.push cc O2 hc (x:=(ns,wt_)) (cc _ _ nbl hb) (cc _ _ nal (sb _ _ ha))
    have c0b:Chg a H Hb:=((c07.trans c8).trans ca).same sb
    exact⟨_,_,_,_,rfl,fun b o z e=>cc _ _ (za7 e f0) (c0b _ _ z e),((La.same sb).chg cc (Ne.symm n1)).up (by rfl'),Mc,O1.push (La.ne fb) na,O2.push nbl nal,by rw[zcl8,ml];rfl,zak0 ok ⟨⟨k3,by rw[k1],k2,by rfl'⟩,by rfl'⟩⟩
  ·ac_nf
   refine br_F ?_
   refine zv7 M7.out ?_
   refine zbo6 L7 (by rfl') hf.1 hf.2.1 hf.2.2 (fun pa Ha ns fa ca La na ha k1 k2 k3=>?_)
   have Ma:=M7.chg ca n1 O1
   refine zd6 (fun pb Hb fb sb hb=>?_)
   have nal:pa≠l:=Ne.symm (za7 M7.out fa)
   have nbl:pb≠l:=Ne.symm (za7 Ma.out fb)
   have Mb:=Ma.same sb
   refine zw9 Mb.out (by rw[zck9,zcx6,Mb.len];omega) (fun Hc cc hc=>?_)
   ac_nf
   have Mc:=Mb.push cc O2 hc (x:=(ns,wt_)) (cc _ _ nbl hb) (cc _ _ nal (sb _ _ ha))
   have c0b:Chg a H Hb:=(c07.trans ca).same sb
   exact⟨_,_,_,_,rfl,fun b o z e=>cc _ _ (za7 e f0) (c0b _ _ z e),((La.same sb).chg cc (Ne.symm n1)).up (by rfl'),Mc,O1.push (La.ne fb) na,O2.push nbl nal,by rw[zcl8,ml];rfl,zak0 ok ⟨⟨k3,by rw[k1],k2,by rfl'⟩,by rfl'⟩⟩
 ·rintro σ I ⟨x0,y0,ts,ms,rfl,cI,LI,M,O1,O2,ml,ok⟩
  ac_nf
  exact q h f l ts ms I f0 cI (LI.up (by rfl')) n1 M O1 O2 hf (by rfl') ok
theorem zbu7{j:Nat}{x:List Int×Int}(h:ms[j]?=some x)(i:Nat):sumG (flw (ms.take (j+1)) i)=addG (sumG (flw (ms.take j) i)) (((x.1.drop i).sum,x.1.getD i 0),x.2):=by
 unfold flw
 rw[zcx1,h,zcn4]
 exact zw2 _ _
theorem zbq3(ms:List (List Int×Int))(i:Nat):(sumG (flw ms i)).length<=ms.length:=by
 have:=zw3 (flw ms i)
 unfold flw at this ⊢
 rwa [zck9] at this
structure DsAt(H0 H:Hp)(l:Addr)(ds:List Addr)(g:Nat->List ((Int×Int)×Int)):Prop where
 fl:H0 l=none
 out:H l=some (.lst (ds.map V.ref))
 nd:ds.Nodup
 nin:l ∉ ds
 row:∀ (i:Nat) d,ds[i]?=some d->H0 d=none/\H d=some (.dT (dF pK (g i)))
theorem DsAt.put{l d:Addr}{ds:List Addr}{g:Nat->List ((Int×Int)×Int)}{k:Nat}{n:List ((Int×Int)×Int)}(D:DsAt H0 H l ds g)(e:ds[k]?=some d)(c:Chg d H H')(h:H' d=some (.dT (dF pK n))):DsAt H0 H' l ds fun i=>if i=k then n else g i:=by
 refine⟨D.fl,c _ _ (fun z=>D.nin (z▸zcl4 e)) D.out,D.nd,D.nin,fun i d' e'=>?_⟩
 by_cases hi:i=k
 ·subst hi
  rw[e] at e'
  cases e'
  exact⟨(D.row i d e).1,by rw[h,if_pos rfl]⟩
 ·rw[if_neg hi]
  have ne:d'≠d:=fun z=>by
   subst z
   exact hi ((zcw3 (zcl1.mp e').1 D.nd).mp (e'.trans e.symm))
  exact⟨(D.row i d' e').1,c _ _ ne (D.row i d' e').2⟩
theorem DsAt.ext{l:Addr}{ds:List Addr}{g g':Nat->List ((Int×Int)×Int)}(D:DsAt H0 H l ds g)(h:∀ i,i<ds.length->g i=g' i):DsAt H0 H l ds g':=
 ⟨D.fl,D.out,D.nd,D.nin,fun i d e=>⟨(D.row i d e).1,by rw[← h i (zcl1.mp e).1];exact (D.row i d e).2⟩⟩
@[irreducible] def zf6:Sp:=fun vs H Q _=>∃ (m:Addr) (ts:List (Addr×Addr)) (ms:List (List Int×Int)) (f:Nat),vs=[.ref m]/\zc0 H m ts ms/\(1<=ms.length/\ms.length<=1000)/\(∀ i,i<f->(sumG (flw ms i)).length<64)/\f<=100/\(∀ x∈ms,x.1.length=f)/\∀ r rs xss H',Same H H'->StAt (nw H H') r rs xss->zi6 ms f xss->Q (.ref r) H'
theorem zax7{m:Addr}{f:Nat}(M:zc0 H m ts ms)(h1:1<=ms.length)(h2:ms.length<=1000)(hk:∀ i,i<f->(sumG (flw ms i)).length<64)(h3:f<=100)(h4:∀ x∈ms,x.1.length=f)(q:∀ r rs xss H',Same H H'->StAt (nw H H') r rs xss->zi6 ms f xss->Q (.ref r) H'):zf6 [.ref m] H Q E:=by
 unfold zf6;exact⟨m,ts,ms,f,rfl,M,⟨h1,h2⟩,hk,h3,h4,q⟩
theorem zaj7{f:Addr}(F:Fun K "_law_flows" "_law_flows" zs0 f fd)(N:Nm mg):FnOk P w K mg base CX0 1 f fd ["_law_mix_here"] zf6:=by
 refine F.ok zg7 (fun vs H Q E h=>by unfold zf6 at h;obtain⟨_,_,_,_,rfl,_⟩:=h;rfl) fun _ _ _ s H vs Q E hr h=>?_
 unfold zf6 at h
 obtain⟨m,ts,ms,f,rfl,M,⟨m1,m2⟩,hkf,hf,fl,q⟩:=h
 have hu:=hu40 hr
 have ml:=M.len
 refine⟨_,(za2 (psC (i:=1) (N:=["_law_place"]) (ks:=[none]) zg7.nd (zc2 (K:=K) rfl (zb5 (K:=K) rfl (zb5 (K:=K) rfl (pq 0) za3) za3)) (fun _ _ _ _ _=>(za6 (i:=0) nb_17 rfl (by eq_refl))) (fun _ _ _ _ _=>zb7) (fun _ _ _ _ _=>zbn3) (.skip .nil))
   (za2 (zx4 PassesOwn.never rfl (zc2 (K:=K) rfl (pq 0)) (zi9 (K:=K) (n:=2) rfl rfl (zb0 (za6 (i:=2) zg7.nd rfl (by eq_refl)) (zb0 (za6 (i:=3) zg7.nd rfl (by eq_refl)) zj2))) (za4 (zx4 PassesOwn.never rfl (zx1 N.range_ (za0 (pB (zk0 (K:=K) rfl) N.len_ ze9 (za0 (pq 2) za1)) za1)) (za6 (i:=4) zg7.nd rfl (by eq_refl)) (za2 (psS (i:=5) zg7.nd (zp0 (za0 (pB (zan5 (K:=K) rfl rfl) N.sum_ zw5 (za0 (zk7 (slXK (K:=K) rfl) (pq 2) (zu3 (pq 4)) zo1) za1)) (za0 (zb5 (K:=K) rfl (pq 2) (pq 4)) za1))))
   (za4 (zby8 (by exact hu) (zb5 (K:=K) rfl (pq 1) (pq 4)) (pq 5) (zc4 oAdd (zak3 (by exact hu) (zb5 (K:=K) rfl (pq 1) (pq 4)) (pq 5) za3) (pq 3))))))))
   (za4 (zb1 (zce7 (x0:="_law_flow") (N:=["_law_flow"]) (ks:=[none]) (zc2 (K:=K) rfl (pq 1)) (fun _ _ _ _ _=>(za6 (i:=0) nb_18 rfl (by eq_refl))) (fun _ _ _ _ _=>zb7) (fun _ _ _ _ _=>(zd4 (N:=["_law_rest","_law_sent","_law_flow"]) (ks:=[none,none,some 0]) (zc2 (K:=K) rfl (pB (zby2 rfl) N.sorted_ zab8 (za0 (pq 0) za1))) (fun _ _ _ _ _=>(zi9 (K:=K) (n:=2) rfl rfl (zb0 (za6 (i:=0) nb_19 rfl (by eq_refl)) (zb0 (za6 (i:=1) nb_19 rfl (by eq_refl)) zj2)))) (fun _ _ _ _ _=>zb7) (fun _ _ _ _ _=>(zp0 (za0 (pq 0) (za0 (pq 1) (za0 (zbw2 (by exact hu) (pq 2) (zp0 (za0 (pq 0) (za0 (pq 1) za1)))) za1))))) (.skip (.skip (.take rfl rfl (by eq_refl) .nil))))) (.skip .nil)))))),?_⟩
 obtain⟨x0,ex0⟩:∃ x,ms[0]?=some x:=⟨_,zcl0 (by rfl')⟩
 obtain⟨t0,et0,at0,ht0,hp0⟩:=M.ix ex0
 have l0:=fl x0 (zcl4 ex0)
 refine zb8 (v:=.ref t0.1) M.out at0 ?_
 refine zd2 (v:=.ref t0.2) ht0 rfl ?_
 refine za9 hp0 ?_
 refine zw7 (n:=(x0.1.map V.int).length) (Wk.list (SqL.of hp0)) (by rw[zck9,zcx6];omega) (fun j=>.dT []) (fun j σ=>∃ t:Option V,σ=[t]) ⟨none,rfl⟩ ?_ ?_
 ·rintro j v σ H4 R' S' hj s4 hx ⟨t,rfl⟩ k
  refine br_T ?_
  refine zbx5 (fun p5 H5 f5 s5 h5=>?_)
  ac_nf
  exact k _ _ _ f5 s5 h5 ⟨_,rfl⟩
 intro l ds H1 F1
 rw[zck9,l0] at F1
 have dl:=F1.len
 have D1:DsAt H H1 l ds fun i=>sumG (flw (ms.take 0) i):=⟨F1.facc,F1.out,F1.nd,F1.nin,fun i d e=>F1.row i d e⟩
 have s1:=F1.same
 clear F1
 refine za9 (s1 _ _ M.out) ?_
 refine zj1 (xs:=ts.map fun t=>V.ref t.1) (fun j σ I=>∃ t u v w:Option V,σ=[some (.ref m),some (.ref l),t,u,v,w]/\Same H I/\DsAt H I l ds fun i=>sumG (flw (ms.take j) i)) ?_ ?_ ?_ ?_
 ·exact⟨_,_,_,_,rfl,s1,D1⟩
 ·rintro j σ I _ ⟨_,_,_,_,_,s2,_⟩
  exact SqL.of (s2 _ _ M.out)
 ·rintro j v σ I hj ⟨_,_,_,_,rfl,s2,D2⟩
  obtain⟨t,x,rfl,e1,e2,e3,e4⟩:=(M.same s2).elt hj
  have jl:=(zcl1.mp e2).1
  have e40:=(M.part j t x e1 e2).2
  have xl:=fl x (zcl4 e2)
  refine zf1 e3 ?_
  refine zc9 e4 ?_
  rw[zck9,xl]
  refine zl6 (by rfl') (by rfl') (by rfl') (by rfl') ?_
  refine zm1 (fun k σ I2=>∃ v w:Option V,σ=[some (.ref m),some (.ref l),some (.ref t.2),some (.int x.2),v,w]/\Same H I2/\DsAt H I2 l ds fun i=>if i<k then sumG (flw (ms.take (j+1)) i) else sumG (flw (ms.take j) i)) ?_ ?_ ?_
  ·exact⟨_,_,rfl,s2,D2.ext fun i _=>by rw[if_neg (by rfl')]⟩
  ·rintro k σ I2 hk ⟨_,_,rfl,s3,D3⟩
   have hk:k<f:=by rfl'
   obtain⟨d,ed⟩:∃ d,ds[k]?=some d:=⟨_,zcl0 (by rfl')⟩
   obtain⟨dn,dh⟩:=D3.row k d ed
   rw[if_neg (by rfl')] at dh
   have e43:=s3 _ _ e40
   have kx:x.1[k]?=some (x.1.getD k 0):=by rw[zcl3,zcl0 (by rfl')];rfl
   refine zaa6 (SqL.of e43) (fun p4 I4 f4 s4 h4=>?_)
   rw[zt2 (by rfl'),show ((0:Int)+(k:Int)).toNat=k by rfl',← List.map_drop] at h4
   refine zaa7 h4 ?_
   refine zb8 (v:=.int (x.1.getD k 0)) (s4 _ _ e43) (zbw7 (by rfl') (by rw[show ((0:Int)+(k:Int)).toNat=k by rfl'];exact kx)) ?_
   refine zd6 (fun p5 I5 f5 s5 h5=>?_)
   have s35:=s4.trans s5
   have h5:I5 p5=some (.tup ((pK ((x.1.drop k).sum,x.1.getD k 0)).map kV)):=h5
   have dk:atI (ds.map V.ref) ((0:Int)+(k:Int))=some (.ref d):=ref_at (by rfl') (by rw[show ((0:Int)+(k:Int)).toNat=k by rfl'];exact ed)
   have lo:=s35 _ _ D3.out
   have dh5:=s35 _ _ dh
   refine zb8 (v:=.ref d) lo dk ?_
   refine zbo5 dh5 ?_
   refine zbg0 dh5 (k:=pK ((x.1.drop k).sum,x.1.getD k 0)) h5 ?_
   have ev:(valV (dF pK (sumG (flw (ms.take j) k))) (pK ((x.1.drop k).sum,x.1.getD k 0))).getD (V.int 0)=.int ((valG (sumG (flw (ms.take j) k)) ((x.1.drop k).sum,x.1.getD k 0)).getD 0):=by
    rw[zu5 zz3]
    cases valG (sumG (flw (ms.take j) k)) ((x.1.drop k).sum,x.1.getD k 0)<;>rfl
   rw[ev]
   refine zb8 (v:=.ref d) lo dk ?_
   refine zbw5 dh5 (k:=pK ((x.1.drop k).sum,x.1.getD k 0)) h5 (by unfold dF;rw[zck9,zcx6];have:=zbq3 (ms.take j) k;rw[zcn7] at this;omega) (fun I6 c6 h6=>?_)
   rw[zau6 zz3] at h6
   ac_nf
   have D5:DsAt H I5 l ds fun i=>if i<k then sumG (flw (ms.take (j+1)) i) else sumG (flw (ms.take j) i):=⟨D3.fl,lo,D3.nd,D3.nin,fun i d e=>⟨(D3.row i d e).1,s35 _ _ (D3.row i d e).2⟩⟩
   refine⟨_,_,rfl,(s3.trans s35).chg dn c6,(D5.put ed c6 h6).ext fun i _=>?_⟩
   by_cases hi:i=k
   ·subst hi
    rw[if_pos rfl,if_pos (by rfl'),zbu7 e2]
    rfl
   ·rw[if_neg hi]
    by_cases h':i<k
    ·rw[if_pos h',if_pos (by rfl')]
    ·rw[if_neg h',if_neg (by rfl')]
  ·rintro σ I2 ⟨_,_,rfl,s3,D3⟩
   ac_nf
   exact⟨_,_,_,_,rfl,s3,D3.ext fun i hi=>by rw[if_pos (by rfl')]⟩
 ·rintro σ H2 ⟨_,_,_,_,rfl,s2,D2⟩
  rw[zck9,ml,zcq6] at D2
  refine za9 D2.out ?_
  refine zac6 (Wk.list (SqL.of D2.out)) (by rw[zck9,zcx6];omega) (fun acc j ys σ I=>∃ (t:Option V) (rs:List (Addr×List Addr)) (xss:List (List (Int×Int×Int))),σ=[t]/\ys=(rs.map fun r=>V.ref r.1)/\rs.length=j/\xss.length=j/\(∀ (i:Nat) r xs,rs[i]?=some r->xss[i]?=some xs->RwAt (rm acc (nw H2 I)) r.1 r.2 xs)/\(∀ (i:Nat) xs,xss[i]?=some xs->zl9 ms i xs/\xs.length<=ms.length)/\(rs.map (·.1)).Nodup) ?_ ?_ ?_ ?_
  ·intro acc I f1 s2 h1
   exact⟨none,[],[],rfl,rfl,rfl,rfl,fun i r xs e=>by simp at e,fun i xs e=>by simp at e,zcu7⟩
  ·rintro acc j ys σ I I' s' ⟨t,rs,xss,r1,r2,r3,r4,r5,r6,r7⟩
   exact⟨t,rs,xss,r1,r2,r3,r4,fun i r xs e1 e2=>(r5 i r xs e1 e2).same (Same.rm (zbb9 s')),r6,r7⟩
  ·rintro acc j v ys σ I R S hj facc s3 hacc hx ⟨t,rs,xss,rfl,rfl,rl,xl,rp,xp,nd⟩ kR _
   rw[zcl2] at hx
   obtain⟨d,ed,rfl⟩:=zcl6.mp hx
   have dh:=s3 _ _ (D2.row j d ed).2
   have dh':I d=some (.dT (((sumG (flw ms j)).map fun z=>(z.1,V.int z.2)).map fun z=>(pK z.1,z.2))):=by rw[dh,zcm6];rfl
   have sl:=zbq3 ms j
   refine br_T ?_
   refine zbv7 dh' (by rw[zck9];exact hkf j (by have:=(zcl1.mp ed).1;omega)) (fun p4 I4 bs ks f4 s4 pm od pr h4=>?_)
   have pm:ks.Perm ((sumG (flw ms j)).map (·.1)):=by rw[zcm6] at pm;exact pm
   have bl:bs.length=ks.length:=pr.length
   have kl:ks.length<=ms.length:=by have:=pm.length_eq;rw[zck9] at this;omega
   have eg:∀ x∈ks,valG (sumG (flw ms j)) x=some ((valG (sumG (flw ms j)) x).getD 0):=fun x hx=>by
    obtain⟨n,e⟩:=zaj8 (pm.mem_iff.mp hx)
    rw[e];rfl
   refine za9 h4 ?_
   refine zw7 (n:=(bs.map V.ref).length) (Wk.list (SqL.of h4)) (by rw[zck9,zcx6];omega) (fun j'=>.tup [.int (ks.getD j' (0,0)).1,.int (ks.getD j' (0,0)).2,.int ((valG (sumG (flw ms j)) (ks.getD j' (0,0))).getD 0)]) (fun j σ=>∃ t u:Option V,σ=[t,u,some (.ref d)]) ⟨none,none,rfl⟩ ?_ ?_
   ·rintro j' v σ H4 R' S' hj s5 hx ⟨t,u,rfl⟩ k
    rw[zcl2] at hx
    obtain⟨b,eb,rfl⟩:=zcl6.mp hx
    obtain⟨x,ex⟩:∃ x,ks[j']?=some x:=⟨ks[j']'(by have:=(zcl1.mp eb).1;omega),zcl0 _⟩
    have eb':=s5 _ _ (zae8 pr j' b x eb ex)
    rw[show ks.getD j' (0,0)=x by rw[zcl3,ex];rfl] at k
    have h4:=s5 _ _ (s4 _ _ dh)
    refine zf1 eb' ?_
    refine br_T ?_
    refine zd6 (fun p5 H5 f5 s5 h5=>?_)
    refine zbx0 (s5 _ _ h4) (k:=pK x) h5 (by rw[zu5 zz3,eg x (zcl4 ex)];rfl) ?_
    refine zd6 (fun pa Ha fa sa ha=>?_)
    ac_nf
    exact k _ _ _ (s5.free fa) (s5.trans sa) ha ⟨_,_,rfl⟩
   intro acc4 ps H4 F4
   rw[zck9] at F4
   have F4l:=F4.len
   have s34:=s4.trans F4.same
   ac_nf
   have R4:RwAt (nw I H4) acc4 ps (ks.map fun x=>(x.1,x.2,(valG (sumG (flw ms j)) x).getD 0)):=⟨zh1 (s4.free F4.facc) F4.out,by rw[zck9];omega,fun j b x e1 e2=>by
    rw[zcl2] at e2
    obtain⟨y,ey,rfl⟩:=zcl6.mp e2
    obtain⟨z1,z2⟩:=F4.row j b e1
    rw[show ks.getD j (0,0)=y by rw[zcl3,ey];rfl] at z2
    exact zh1 (s4.free z1) z2⟩
   have ri:zl9 ms j (ks.map fun x=>(x.1,x.2,(valG (sumG (flw ms j)) x).getD 0)):=by
    have em:(ks.map fun x=>(x.1,x.2,(valG (sumG (flw ms j)) x).getD 0)).map keyT=ks:=by
     rw[zcm6]
     exact (zcm8 fun x _=>rfl).trans (zcx3 _)
    refine⟨by rw[em];exact od,fun k=>by rw[em];exact pm.mem_iff,fun z hz=>?_⟩
    obtain⟨x,hx,rfl⟩:=zcm0.mp hz
    exact eg x hx
   have xl1:(ks.map fun x=>(x.1,x.2,(valG (sumG (flw ms j)) x).getD 0)).length<=ms.length:=by rw[zck9];exact kl
   generalize (ks.map fun x=>(x.1,x.2,(valG (sumG (flw ms j)) x).getD 0))=xs at R4 ri xl1
   refine kR _ _ _ s34 (fun I2 c2=>⟨_,rs++[(acc4,ps)],xss++[xs],rfl,by rw[zcn4];rfl,by rw[zcl8,rl];rfl,by rw[zcl8,xl];rfl,fun i r' xs' e1 e2=>?_,fun i xs' e=>?_,zbj4 (I1:=H4) nd (by rfl') rp (zg4 R4.out).1⟩)
   ·have up:Same (rm acc (nw H2 I)) (rm acc (nw H2 I2)):=fun b o z=>by
     obtain⟨z1,z2⟩:=zj4 z
     obtain⟨z3,z4⟩:=zg4 z2
     exact zp5 z1 (zh1 z3 (c2 _ _ z1 (s34 _ _ z4)))
    have new:Same (nw I H4) (rm acc (nw H2 I2)):=fun b o z=>by
     obtain⟨z3,z4⟩:=zg4 z
     have nb:b≠acc:=fun w=>by rw[w,hacc] at z3;cases z3
     exact zp5 nb (zh1 (s3.free z3) (c2 _ _ nb z4))
    rcases zc5 e1 with ⟨a1,a2⟩|⟨a1,rfl⟩
    ·rcases zc5 e2 with ⟨b1,b2⟩|⟨b1,_⟩
     ·exact (rp i r' xs' a2 b2).same up
     ·omega
    ·rcases zc5 e2 with ⟨b1,_⟩|⟨b1,rfl⟩
     ·omega
     ·exact R4.same new
   ·rcases zc5 e with ⟨b1,b2⟩|⟨b1,rfl⟩
    ·exact xp i xs' b2
    ·rw[b1,xl]
     exact⟨ri,xl1⟩
  ·rintro acc ys σ I facc s3 hacc ⟨t,rs,xss,rfl,rfl,rl,xl,rp,xp,nd⟩
   rw[zck9,dl] at rl xl
   ac_nf
   have left:Same (nw H2 I) (nw H I):=zbg3 s2
   exact q acc rs xss I (s2.trans s3) ⟨left _ _ (zh1 facc hacc),by rfl',fun i r xs e1 e2=>(rp i r xs e1 e2).same (Same.rm left),nd⟩ ⟨xl,xp⟩
def shK(ms:List (List Int×Int))(h k:Nat):List Int:=(List.range (h+1)).map fun (c:Nat)=>wsum ms (fun p=>ind (decide (p.getD k 0=(c:Int))))
theorem zbk7{α:Type}(l:List (α×Int))(x:α×Int)(f:α->Int):wsum (l++[x]) f=wsum l f+x.2*f x.1:=by unfold wsum;rw[zcn4,zct7];simp
theorem zbm4{n k:Nat}(F:Nat->Int)(w:Int)(hk:k<n):((List.range n).map F).set k (F k+w)=(List.range n).map fun c=>F c+w*ind (decide ((k:Int)=(c:Int))):=by
 apply zcp0
 intro i
 rw[zcv2,zck9,zcn3,zcl2,zcl2]
 by_cases hi:k=i
 ·subst hi
  rw[if_pos rfl,if_pos hk,zcp1 hk]
  show some (F k+w)=some (F k+w*ind (decide ((k:Int)=(k:Int))))
  rw[decide_eq_true rfl]
  show some (F k+w)=some (F k+w*1)
  rw[Int.mul_one]
 ·rw[if_neg hi]
  by_cases h:i<n
  ·rw[zcp1 h]
   show some (F i)=some (F i+w*ind (decide ((k:Int)=(i:Int))))
   rw[decide_eq_false (by rfl')]
   show some (F i)=some (F i+w*0)
   rw[Int.mul_zero,Int.add_zero]
  ·rw[zcn0 (by rw[zcn3];omega)];rfl
@[irreducible] def ze2:Sp:=fun vs H Q _=>∃ (m:Addr) (ts:List (Addr×Addr)) (ms:List (List Int×Int)) (h f:Nat),vs=[.ref m,.int h]/\zc0 H m ts ms/\(1<=ms.length/\ms.length<=1000)/\(∀ x∈ms,x.1.length=f/\∀ n∈x.1,0<=n/\n<=h)/\h<=40/\f<=8/\∀ g qs H',Same H H'->LsAt (nw H H') g qs ((List.range f).map fun k=>shK ms h k)->Q (.ref g) H'
theorem zt5{m:Addr}{h f:Nat}(M:zc0 H m ts ms)(h1:1<=ms.length)(h2:ms.length<=1000)(h3:∀ x∈ms,x.1.length=f/\∀ n∈x.1,0<=n/\n<=h)(h4:h<=40)(h5:f<=8)(q:∀ g qs H',Same H H'->LsAt (nw H H') g qs ((List.range f).map fun k=>shK ms h k)->Q (.ref g) H'):ze2 [.ref m,.int h] H Q E:=by unfold ze2;exact⟨m,ts,ms,h,f,rfl,M,⟨h1,h2⟩,h3,h4,h5,q⟩
theorem zag9{f:Addr}(F:Fun K "_law_shares" "_law_shares" zp9 f fd)(N:Nm mg):FnOk P w K mg base CX0 1 f fd ["_law_mix_here","_law_hosts"] ze2:=by
 refine F.ok zf8 (fun vs H Q E h=>by unfold ze2 at h;obtain⟨_,_,_,_,_,rfl,_⟩:=h;rfl) fun _ _ _ s H vs Q E hr h=>?_
 unfold ze2 at h
 obtain⟨m,ts,ms,h,f,rfl,M,⟨h1,h2⟩,h3,h4,h5,q⟩:=h
 have hu:=hu40 hr
 have ml:=M.len
 refine⟨_,(za2 (psS (i:=2) zf8.nd (zn1 za1))
   (za2 (zx4 PassesOwn.never rfl (zx1 N.range_ (za0 (pB (zk0 (K:=K) rfl) N.len_ ze9 (za0 (zb5 (K:=K) rfl (zb5 (K:=K) rfl (pq 0) za3) za3) za1)) za1)) (za6 (i:=3) zf8.nd rfl (by eq_refl)) (za2 (psS (i:=4) zf8.nd (zc4 oMul (zn1 (za0 za3 za1)) (zc4 oAdd (pq 1) za3)))
   (za2 (zx4 PassesOwn.never rfl (zc2 (K:=K) rfl (pq 0)) (zi9 (K:=K) (n:=2) rfl rfl (zb0 (za6 (i:=5) zf8.nd rfl (by eq_refl)) (zb0 (za6 (i:=6) zf8.nd rfl (by eq_refl)) zj2))) (za4 (zaz3 (zc4 oAdd (zb5 (K:=K) rfl (pq 4) (zb5 (K:=K) rfl (pq 5) (pq 3))) (pq 6)) (zay7 (pq 4) (zb5 (K:=K) rfl (pq 5) (pq 3)) setM))))
   (za4 (zj6 (zi1 (pq 2) (za0 (pq 4) za1)))))))
   (za4 (zb1 (pq 2))))),?_⟩
 refine zd5 (fun l H1 f1 s1 k1=>?_)
 obtain⟨x0,ex0⟩:∃ x,ms[0]?=some x:=⟨_,zcl0 (by rfl')⟩
 obtain⟨t0,et0,at0,ht0,hp0⟩:=(M.same s1).ix ex0
 refine zb8 (v:=.ref t0.1) (M.same s1).out at0 ?_
 refine zd2 (v:=.ref t0.2) ht0 rfl ?_
 refine zc9 hp0 ?_
 rw[zck9,(h3 x0 (zcl4 ex0)).1]
 refine zl6 (by decide) (by decide) (by rfl') (by rfl') ?_
 rw[show ((f:Int) - 0).toNat=f by rfl']
 refine zm1 (fun i σ I=>∃ (x y z w:Option V) (qs:List Addr),σ=[some (.ref m),some (.int h),some (.ref l),x,y,z,w]/\Same H I/\LsAt (nw H I) l qs ((List.range i).map fun k=>shK ms h k)/\∀ z∈qs,z≠l) ?_ ?_ ?_
 ·exact⟨_,_,_,_,[],rfl,s1,⟨zh1 f1 k1,rfl,fun i p e z=>by simp at z⟩,fun z hz=>by cases hz⟩
 ·rintro i σ I hi ⟨x,y,z,w,qs,rfl,sI,LI,ne⟩
  have ql:=LI.len
  rw[zck9,zcn3] at ql
  refine zd5 (fun p2 I2 f2 s2 k2=>?_)
  refine zbz3 k2 (by rfl') (by rfl') (by rw[zcx6];simp only[zcn6,zcq5];omega) (fun p3 I3 f3 s3 k3=>?_)
  have e0:(List.replicate ((h:Int)+1).toNat [V.int 0]).flatten=((List.range (h+1)).map fun (c:Nat)=>wsum (ms.take 0) (fun p=>ind (decide (p.getD i 0=(c:Int))))).map V.int:=by
   rw[show ((h:Int)+1).toNat=h+1 by rfl']
   apply zcp0
   intro j
   rw[zcm6,zcl2]
   have:(List.replicate (h+1) [V.int 0]).flatten=List.replicate (h+1) (V.int 0):=by
    have:∀ n,(List.replicate n [V.int 0]).flatten=List.replicate n (V.int 0):=fun n=>by
     induction n with
     | zero=>rfl
     | succ n ih=>rw[zcu0,zcw2,ih];rfl
    exact this _
   rw[this,List.getElem?_replicate]
   by_cases hj:j<h+1
   ·rw[if_pos hj,zcp1 hj];rfl
   ·rw[if_neg hj,zcn0 (by rw[zcn3];omega)];rfl
  rw[e0] at k3
  have s13:=s2.trans s3
  have M3:=(M.same sI).same s13
  have f3':H p3=none:=(sI.trans s2).free f3
  refine za9 M3.out ?_
  refine zj1 (xs:=ts.map fun t=>V.ref t.1) (fun j σ J=>∃ (z w:Option V),σ=[some (.ref m),some (.int h),some (.ref l),some (.int (0+(i:Int))),some (.ref p3),z,w]/\Chg p3 I3 J/\J p3=some (.lst (((List.range (h+1)).map fun (c:Nat)=>wsum (ms.take j) (fun p=>ind (decide (p.getD i 0=(c:Int))))).map V.int))) ?_ ?_ ?_ ?_
  ·exact⟨_,_,rfl,Chg.refl _ _,k3⟩
  ·rintro j σ J hj ⟨_,_,rfl,cJ,_⟩
   exact SqL.of (cJ _ _ (fun z=>by have:=(M.same (sI.trans s2)).out;rw[z,f3] at this;cases this) M3.out)
  ·rintro j v σ J hj ⟨z,w,rfl,cJ,kJ⟩
   have MJ:zc0 J m ts ms:=M3.chg cJ ((M.same (sI.trans s2)).off f3).1 ((M.same (sI.trans s2)).off f3).2
   obtain⟨t,x,rfl,et,ex,e3,e4⟩:=MJ.elt hj
   obtain⟨xl,xb⟩:=h3 x (zcl4 ex)
   obtain⟨n,en⟩:∃ n,x.1[i]?=some n:=⟨_,zcl0 (by rfl')⟩
   have ng:=xb n (zcl4 en)
   obtain⟨nn,rfl⟩:∃ nn:Nat,n=nn:=⟨n.toNat,by rfl'⟩
   have gd:x.1.getD i 0=(nn:Int):=by rw[zcl3,en];rfl
   have ati:atI (x.1.map V.int) (0+(i:Int))=some (.int nn):=by rw[zcw7];exact zh4 (by rw[zcl2,en];rfl)
   have val:(((List.range (h+1)).map fun (c:Nat)=>wsum (ms.take j) (fun p=>ind (decide (p.getD i 0=(c:Int))))).map V.int)[nn]?=some (.int (wsum (ms.take j) (fun p=>ind (decide (p.getD i 0=(nn:Int)))))):=by
    rw[zcl2,zcl2,zcp1 (by rfl')];rfl
   refine zf1 e3 ?_
   refine zb8 (v:=.int nn) e4 ati ?_
   refine zb8 (v:=.int (wsum (ms.take j) (fun p=>ind (decide (p.getD i 0=(nn:Int)))))) kJ (zh4 val) ?_
   refine zb8 (v:=.int nn) e4 ati ?_
   refine zba5 (j:=nn) kJ (by rw[zck9,zck9,zcn3];exact (zby4 (by rfl') (by rfl')).trans (by congr 1)) (fun J4 c4 h4'=>?_)
   ac_nf
   refine⟨_,_,rfl,cJ.trans c4,?_⟩
   rw[h4',zcv1,ex]
   have es:∀ (F:Nat->Int) (w:Int),(((List.range (h+1)).map F).map V.int).set nn (.int (F nn+w))=(((List.range (h+1)).map F).set nn (F nn+w)).map V.int:=fun F w=>by rw[List.map_set]
   rw[es (fun c=>wsum (ms.take j) (fun p=>ind (decide (p.getD i 0=(c:Int))))) x.2,zbm4 _ _ (by rfl')]
   simp only[Option.toList_some,zbk7,gd]
  ·rintro σ J ⟨z,w,rfl,cJ,kJ⟩
   rw[zck9,ml,zcq6] at kJ
   have LJ:LsAt (nw H J) l qs ((List.range i).map fun k=>shK ms h k):=by
    have up:Same (nw H I) (nw H J):=fun b o e=>zh1 (zg4 e).1 (cJ _ _ (fun z=>by have:=(s2 _ _ (zg4 e).2);rw[z,f3] at this;cases this) (s13 _ _ (zg4 e).2))
    exact LI.same up
   have nl:p3≠l:=fun z=>by have:=s2 _ _ (zg4 LI.out).2;rw[← z,f3] at this;cases this
   refine zv7 (zg4 LJ.out).2 ?_
   refine zw9 (zg4 LJ.out).2 (by rw[zck9,zcx6];omega) (fun J4 c4 k4=>?_)
   ac_nf
   refine⟨_,_,_,_,qs++[p3],rfl,fun b o e=>c4 _ _ (fun z=>by rw[z,f1] at e;cases e) (cJ _ _ (fun z=>by rw[z,f3'] at e;cases e) (s13 _ _ (sI _ _ e))),⟨zh1 f1 (by rw[k4,zcn4];rfl),by rw[zcl8,zck9,zcn3,ql];rfl,fun mm p e g1 g2=>?_⟩,fun z hz=>?_⟩
   ·rw[List.range_succ,zcn4] at g2
    rcases zc5 g1 with ⟨a1,a2⟩|⟨a1,rfl⟩
    ·rw[zcn2 (by rw[zck9,zcn3];omega)] at g2
     have:=LJ.row mm p e a2 g2
     exact zh1 (zg4 this).1 (c4 _ _ (ne p (zcl4 a2)) (zg4 this).2)
    ·rw[zcm9 (by rw[zck9,zcn3];omega),zck9,zcn3,show mm - i=0 by rfl'] at g2
     cases g2
     exact zh1 f3' (c4 _ _ nl kJ)
   ·rcases zco0.mp hz with hz|hz
    ·exact ne z hz
    ·rw[zcn9.mp hz];exact nl
 ·rintro σ I ⟨x,y,z,w,qs,rfl,sI,LI,ne⟩
  ac_nf
  exact q l qs I sI LI
def Cs(S:List Addr)(H H':Hp):Prop:=∀ b o,b ∉ S->H b=some o->H' b=some o
theorem Cs.refl(S:List Addr)(H:Hp):Cs S H H:=fun _ _ _ e=>e
theorem Cs.same{H'':Hp}(a:Cs S H H')(s:Same H' H''):Cs S H H'':=fun c o n e=>s _ _ (a _ _ n e)
theorem Cs.chg{H'':Hp}{p:Addr}(a:Cs S H H')(hp:p∈S)(c:Chg p H' H''):Cs S H H'':=fun b o n e=>c _ _ (fun z=>n (z▸hp)) (a _ _ n e)
theorem Cs.news(s:Same H0 H)(n:∀ b∈S,H0 b=none)(a:Cs S H H'):Same H0 H':=fun b o e=>a _ _ (fun z=>by rw[n b z] at e;cases e) (s _ _ e)
theorem Cs.newc(s:Chg T H0 H)(n:∀ b∈S,H0 b=none)(a:Cs S H H'):Chg T H0 H':=fun b o nb e=>a _ _ (fun z=>by rw[n b z] at e;cases e) (s _ _ nb e)
def app7(e:List Int):List Int:=e++[7]
@[irreducible] def zg5:Sp:=fun vs H Q _=>∃ (r:Addr) (ps:List Addr) (es:List (List Int)) (n:Nat),vs=[.ref r]/\LsAt H r ps es/\ps.Nodup/\r ∉ ps/\(1<=es.length/\es.length<=1000)/\n<=1000/\(∀ e∈es,e.length=n)/\∀ H',Cs ps H H'->LsAt H' r ps (es.map app7)->Q (.bl true) H'
theorem zan7{r:Addr}{ps:List Addr}(n:Nat)(L:LsAt H r ps es)(nd:ps.Nodup)(nr:r ∉ ps)(h1:1<=es.length)(h2:es.length<=1000)(h3:n<=1000)(h4:∀ e∈es,e.length=n)(q:∀ H',Cs ps H H'->LsAt H' r ps (es.map app7)->Q (.bl true) H'):zg5 [.ref r] H Q E:=by unfold zg5;exact⟨r,ps,es,n,rfl,L,nd,nr,⟨h1,h2⟩,h3,h4,q⟩
def upK(es:List (List Int))(k:Nat):List (List Int):=(es.take k).map app7++es.drop k
theorem zcf5(es:List (List Int))(k:Nat):(upK es k).length=es.length:=by
 unfold upK
 rw[zcl8,zck9,zcn7,zcp5]
 omega
theorem zaz1{k:Nat}{e:List Int}(h:es[i]?=some e):(upK es k)[i]?=some (if i<k then app7 e else e):=by
 have il:=(zcl1.mp h).1
 unfold upK
 by_cases hi:i<k
 ·rw[zcn2 (by rw[zck9,zcn7];omega),zcl2,zcw0,if_pos hi,h,if_pos hi]
  rfl
 ·rw[zcm9 (by rw[zck9,zcn7];omega),zck9,zcn7,zcs6,if_neg hi,zcs8 (by rfl'),show k+(i - k)=i by rfl',h]
theorem zav6{ns:List Int}(h:ns.length<=1000):okD 1 (.list (ns.map PyData.int)):=okD.list (n:=0) (by rw[zck9];exact h) fun d hd=>by
 obtain⟨i,_,rfl⟩:=zcm0.mp hd
 exact⟨rfl,rfl,zcp2 _⟩
theorem zam2{f:Addr}(F:Fun K "_law_apart" "_law_apart" zs3 f fd)(N:Nm mg):FnOk P w K mg base CX0 1 f fd ["_law_lists"] zg5:=by
 refine F.ok zq7 (fun vs H Q E h=>by unfold zg5 at h;obtain⟨_,_,_,_,rfl,_⟩:=h;rfl) fun _ _ _ s H vs Q E hr h=>?_
 unfold zg5 at h
 obtain⟨r,ps,es,n,rfl,L,nd,nr,⟨h1,h2⟩,h3,h4,q⟩:=h
 have hu:=hu40 hr
 have ll:=L.len
 refine⟨_,(za2 (psS (i:=1) zq7.nd (pB (zk0 (K:=K) rfl) N.len_ ze9 (za0 (zb5 (K:=K) rfl (pq 0) za3) za1)))
   (za2 (zx4 PassesOwn.never rfl (zx1 N.range_ (za0 (pB (zk0 (K:=K) rfl) N.len_ ze9 (za0 (pq 0) za1)) za1)) (za6 (i:=2) zq7.nd rfl (by eq_refl)) (za2 (zj6 (zi1 (zb5 (K:=K) rfl (pq 0) (pq 2)) (za0 za3 za1)))
   (za4 (psIf (ptC (zt7 (K:=K) rfl (by exact hu)) (zd4 (N:=["_law_some","_law_size"]) (ks:=[none,some 1]) (zc2 (K:=K) rfl (pq 0)) (fun _ _ _ _ _=>(za6 (i:=0) nb_23 rfl (by eq_refl))) (fun _ _ _ _ _=>zb7) (fun _ _ _ _ _=>(zc4 oSub (pB (zk0 (K:=K) rfl) N.len_ ze9 (za0 (pq 0) za1)) (pq 1))) (.skip (.take rfl rfl (by eq_refl) .nil))) (zd4 (N:=["_law_j","_law_k"]) (ks:=[none,some 2]) (zx1 N.range_ (za0 (pB (zk0 (K:=K) rfl) N.len_ ze9 (za0 (pq 0) za1)) za1)) (fun _ _ _ _ _=>(za6 (i:=0) nb_24 rfl (by eq_refl))) (fun _ _ _ _ _=>zb7) (fun _ _ _ _ _=>(pT cInt N.int_ zbn6 (za0 (peC oLe (pq 0) (pq 1)) za1))) (.skip (.take rfl rfl (by eq_refl) .nil)))) (za4 (zb1 zq9)) zc7))))
   (za4 (zb1 zq9)))),?_⟩
 obtain⟨p0,ep0⟩:∃ x,ps[0]?=some x:=⟨_,zcl0 (by rfl')⟩
 obtain⟨e0,ee0⟩:∃ x,es[0]?=some x:=⟨_,zcl0 (by rfl')⟩
 refine zb8 (v:=.ref p0) L.out (zh4 (j:=0) (by rw[zcl2,ep0];rfl)) ?_
 refine zc9 (L.row 0 p0 e0 ep0 ee0) ?_
 rw[zck9,h4 e0 (zcl4 ee0)]
 refine zc9 L.out ?_
 rw[zck9,ll]
 refine zl6 (by decide) (by decide) (by rfl') (by rfl') ?_
 rw[show ((es.length:Int) - 0).toNat=es.length by rfl']
 refine zm1 (fun k σ I=>∃ x:Option V,σ=[some (.ref r),some (.int n),x]/\Cs ps H I/\LsAt I r ps (upK es k)) ?_ ?_ ?_
 ·exact⟨_,rfl,Cs.refl _ _,L⟩
 ·rintro k σ I hk ⟨x,rfl,cI,LI⟩
  obtain⟨p,ep⟩:∃ x,ps[k]?=some x:=⟨_,zcl0 (by rfl')⟩
  obtain⟨e,ee⟩:∃ x,es[k]?=some x:=⟨_,zcl0 (by rfl')⟩
  have hp:=LI.row k p _ ep (zaz1 ee)
  rw[if_neg (by rfl')] at hp
  have el:=h4 e (zcl4 ee)
  have atk:atI (ps.map V.ref) (0+(k:Int))=some (.ref p):=by rw[zcw7];exact zh4 (by rw[zcl2,ep];rfl)
  refine zb8 (v:=.ref p) LI.out atk ?_
  refine zv7 hp ?_
  refine zw9 hp (by rw[zck9,zcx6];omega) (fun J c1 k1=>?_)
  have pm:p∈ps:=zcl4 ep
  have LJ:LsAt J r ps (upK es (k+1)):=by
   refine⟨c1 _ _ (fun z=>nr (z▸pm)) LI.out,by rw[zcf5];exact ll,fun i b w g1 g2=>?_⟩
   obtain⟨ei,eei⟩:∃ x,es[i]?=some x:=⟨_,zcl0 (by have:=(zcl1.mp g1).1;omega)⟩
   rw[zaz1 eei] at g2
   cases g2
   by_cases hi:i=k
   ·subst hi
    rw[ep] at g1
    cases g1
    rw[ee] at eei
    cases eei
    rw[if_pos (by rfl'),k1]
    unfold app7
    rw[zcn4]
    rfl
   ·have nb:b≠p:=fun z=>by
     subst z
     exact hi ((zcw3 (zcl1.mp g1).1 nd).mp (g1.trans ep.symm))
    have:=LI.row i b _ g1 (zaz1 eei)
    by_cases h5:i<k
    ·rw[if_pos h5] at this
     rw[if_pos (by rfl')]
     exact c1 _ _ nb this
    ·rw[if_neg h5] at this
     rw[if_neg (by rfl')]
     exact c1 _ _ nb this
  have cJ:=cI.chg pm c1
  refine za9 LJ.out ?_
  refine zk9 (Wk.list (SqL.of LJ.out)) (by rw[zck9,zcx6];omega) (fun i=>.int (if i<=k then 1 else 0)) (fun _=>true) (fun j σ=>∃ t:Option V,σ=[t,some (.int n)]) ⟨none,rfl⟩ ?_ ?_
  ·rintro i x σ J2 R S hi s2 hx ⟨_,rfl⟩ kk _
   rw[zcl2] at hx
   obtain⟨b,eb,rfl⟩:=zcl6.mp hx
   obtain⟨ei,eei⟩:∃ x,es[i]?=some x:=⟨_,zcl0 (by have:=(zcl1.mp eb).1;omega)⟩
   have hb:=s2 _ _ (LJ.row i b _ eb (zaz1 eei))
   have eil:=h4 ei (zcl4 eei)
   have ev:(((if i<k+1 then app7 ei else ei).map V.int).length:Int) - n=if i<=k then 1 else 0:=by
    rw[zck9]
    by_cases h5:i<=k
    ·rw[if_pos (by rfl'),if_pos h5]
     unfold app7
     rw[zcl8,eil,zcs3]
     omega
    ·rw[if_neg (by rfl'),if_neg h5,eil]
     omega
   refine br_T ?_
   refine zc9 hb ?_
   ac_nf
   rw[ev]
   exact kk rfl _ _ (Same.refl _) ⟨_,rfl⟩
  intro acc1 J2 f2 s2 k2
  rw[ze7,zck9,ll] at k2
  have LJ2:=LJ.same s2
  refine zc9 LJ2.out ?_
  rw[zck9,ll]
  refine zl6 (by decide) (by decide) (by rfl') (by rfl') ?_
  rw[show ((es.length:Int) - 0).toNat=es.length by rfl']
  refine zk9 (n:=es.length) Wk.range (by rw[zcx6];omega) (fun i=>.int (if i<=k then 1 else 0)) (fun _=>true) (fun j σ=>∃ t:Option V,σ=[t,some (.int (0+(k:Int)))]) ⟨none,rfl⟩ ?_ ?_
  ·rintro i v σ J3 R S hi s3 hx ⟨_,rfl⟩ kk _
   obtain rfl:v=.int i:=by rw[hx,zcw7]
   refine br_T ?_
   ac_nf
   have ev:(if decide ((i:Int)<=0+(k:Int))=true then (1:Int) else 0)=if i<=k then 1 else 0:=by
    by_cases h5:i<=k
    ·rw[if_pos h5,if_pos (by simpa using h5)]
    ·rw[if_neg h5,if_neg (by simpa using h5)]
   rw[ev]
   exact kk rfl _ _ (Same.refl _) ⟨_,rfl⟩
  intro acc2 J3 f3 s3 k3
  rw[ze7] at k3
  have eI:((List.range es.length).map fun i=>V.int (if i<=k then 1 else 0))=((List.range es.length).map fun i=>if i<=k then (1:Int) else 0).map V.int:=by rw[zcm6];rfl
  rw[eI] at k2 k3
  refine zr5 (zz9 (s3 _ _ k2)) (zz9 k3) (zav6 (by rw[zck9,zcn3];omega)) (by decide) ?_
  refine br_F ?_
  ac_nf
  exact⟨_,rfl,(cJ.same s2).same s3,LJ2.same s3⟩
 ·rintro σ I ⟨x,rfl,cI,LI⟩
  ac_nf
  have ea:upK es es.length=es.map app7:=by unfold upK;rw[zcq6,List.drop_length,zcr6]
  rw[ea] at LI
  exact q I cI LI
@[irreducible] def zg6:Sp:=fun vs H Q _=>∃ (v:V) (d:PyData),vs=[v]/\ShV H v d/\Q (.bl (isW d)) H
theorem zbe5{v:V}{d:PyData}(h:ShV H v d)(q:Q (.bl (isW d)) H):zg6 [v] H Q E:=by unfold zg6;exact⟨v,d,rfl,h,q⟩
theorem zam5{f:Addr}(F:Fun K "_law_whole" "_law_whole" zs9 f fd)(N:Nm mg):FnOk P w K mg base CX0 1 f fd ["_law_thing"] zg6:=by
 refine F.ok zai8 (fun vs H Q E h=>by unfold zg6 at h;obtain⟨_,_,rfl,_⟩:=h;rfl) fun _ _ _ s H vs Q E hr h=>?_
 unfold zg6 at h
 obtain⟨v,d,rfl,h,q⟩:=h
 refine⟨_,(za4 (zb1 (zo8 (pB (zv2 (K:=K) rfl) N.isinstance_ zb3 (za0 (pq 0) (za0 (pTy N.int_ zbn6) za1))) (zo7 (peNot (pB (zv2 (K:=K) rfl) N.isinstance_ zb3 (za0 (pq 0) (za0 (pTy N.bool_ zbm9) za1)))))))),?_⟩
 refine zg9 h (.inl rfl) ?_
 cases h
 case int i=>
  refine br_T ?_
  refine zac2 ?_
  ac_nf
  exact q
 case bl b=>
  refine br_T ?_
  refine zaf8 ?_
  ac_nf
  exact q
 all_goals (ac_nf;refine br_F ?_;ac_nf;exact q)
theorem zbq8(xss:List (List (Int×Int×Int))):(xss.map fun xs=>(xs.length:Int)).sum=((xss.map zct9).sum:Nat):=by
 induction xss with
 | nil=>rfl
 | cons x xss ih=>rw[zcn5,zcp6,zcn5,zcp6,ih];push_cast;rfl
theorem zaf9(hl:xss.length<=63)(h:∀ xs∈xss,xs.length<=63):okD 3 (stmD xss):=by
 rw[zbv0]
 exact zcf4 (by rfl') fun xs hx=>by have:=h xs hx;omega
theorem zak5{f:Nat}(S:zi6 ms f xss)(h:∀ xs∈xss,xs.length<=63):∀ i,i<f->(sumG (flw ms i)).length<64:=fun i hi=>by
 obtain⟨xs,e⟩:∃ ys,xss[i]?=some ys:=⟨_,zcl0 (by rw[S.1];exact hi)⟩
 have:=(S.2 i xs e).1.count
 have:=h xs (zcl4 e)
 omega
@[irreducible] def zc8:Sp:=fun vs H Q _=>∃ (v:V) (xss:List (List (Int×Int×Int))) (h f:Nat) (m:Addr) (ts:List (Addr×Addr)) (ms:List (List Int×Int)),vs=[v,.int h,.int f,.ref m]/\ShV H v (stmD xss)/\zc0 H m ts ms/\OkS ms h f/\(∀ xs∈xss,xs.length<=63)/\ms.length<=(xss.map zct9).sum/\(ms.map (·.1)).Nodup/\zi6 ms f xss/\f<=8/\∀ H',Same H H'->Q (.bl true) H'
theorem zap3{v:V}{h f:Nat}{m:Addr}(hv:ShV H v (stmD xss))(M:zc0 H m ts ms)(O:OkS ms h f)(hx:∀ xs∈xss,xs.length<=63)(hl:ms.length<=(xss.map zct9).sum)(nd:(ms.map (·.1)).Nodup)(S:zi6 ms f xss)(hf:f<=8)(q:∀ H',Same H H'->Q (.bl true) H'):zc8 [v,.int h,.int f,.ref m] H Q E:=by
 unfold zc8;exact⟨v,xss,h,f,m,ts,ms,rfl,hv,M,O,hx,hl,nd,S,hf,q⟩
theorem zab3{f:Addr}(F:Fun K "_law_is_right" "_law_is_right" zm9 f fd)(N:Nm mg)(zch6:Def P w K mg base CX0 1 "_law_flows" ["_law_mix_here"] zf6)(zci6:Def P w K mg base CX0 1 "_law_whole" ["_law_thing"] zg6):FnOk P w K mg base CX0 2 f fd ["_law_stream","_law_hosts","_law_many","_law_told"] zc8:=by
 refine F.ok zl2 (fun vs H Q E h=>by unfold zc8 at h;obtain⟨_,_,_,_,_,_,_,rfl,_⟩:=h;rfl) fun _ _ _ s H vs Q E hr h=>?_
 unfold zc8 at h
 obtain⟨v,xss,h,f,m,ts,ms,rfl,hv,M,O,hx,hl,nd,S,hf,q⟩:=h
 have hu:=hu40 hr
 have ml:=M.len
 have xl:=S.1
 have ne:=O.ne
 have ml2:ms.length<=504:=by have:=zy0 hx;omega
 refine⟨_,(za2 (psIf (ptW (pwOr (zi7 (ptV (pB (zv2 (K:=K) rfl) N.isinstance_ zb3 (za0 (pq 3) (za0 (pTy N.list_ zq5) za1))))) (pwOr (ptC (zz7 (K:=K) rfl (by exact hu)) (pB (zk0 (K:=K) rfl) N.len_ ze9 (za0 (pq 3) za1)) za3) (zp4 (ptC oGt (pB (zk0 (K:=K) rfl) N.len_ ze9 (za0 (pq 3) za1)) (pB (zan5 (K:=K) rfl rfl) N.sum_ zw5 (za0 (zd4 (N:=["_law_row"]) (ks:=[none]) (zc2 (K:=K) rfl (pq 0)) (fun _ _ _ _ _=>(za6 (i:=0) nb_21 rfl (by eq_refl))) (fun _ _ _ _ _=>zb7) (fun _ _ _ _ _=>(pB (zk0 (K:=K) rfl) N.len_ ze9 (za0 (pq 0) za1))) (.skip .nil)) za1))))))) (za4 (zb1 zq9)) zc7)
   (za2 (psS (i:=4) zl2.nd (zn1 za1))
   (za2 (zx4 PassesOwn.never rfl (zc2 (K:=K) rfl (pq 3)) (za6 (i:=5) zl2.nd rfl (by eq_refl)) (za2 (psIf (ptW (pwOr (zi7 (ptV (pB (zv2 (K:=K) rfl) N.isinstance_ zb3 (za0 (pq 5) (za0 (pTy N.tuple_ zx0) za1))))) (pwOr (ptC (zt7 (K:=K) rfl (by exact hu)) (pB (zk0 (K:=K) rfl) N.len_ ze9 (za0 (pq 5) za1)) za3) (pwOr (zi7 (ptV (pB (zv2 (K:=K) rfl) N.isinstance_ zb3 (za0 (zb5 (K:=K) rfl (pq 5) za3) (za0 (pTy N.list_ zq5) za1))))) (zp4 (ptC (zt7 (K:=K) rfl (by exact hu)) (pB (zk0 (K:=K) rfl) N.len_ ze9 (za0 (zb5 (K:=K) rfl (pq 5) za3) za1)) (pq 2))))))) (za4 (zb1 zq9)) zc7)
   (za2 (psIf (ptC oGt (pB (zk0 (K:=K) rfl) N.len_ ze9 (za0 (zd4 (N:=["_law_one"]) (ks:=[none]) (zc2 (K:=K) rfl (zc4 oAdd (zb5 (K:=K) rfl (pq 5) za3) (zn1 (za0 (zb5 (K:=K) rfl (pq 5) za3) za1)))) (fun _ _ _ _ _=>(za6 (i:=0) nb_22 rfl (by eq_refl))) (fun _ _ _ _ _=>(zca3 (ptW (pwOr (zi7 (ptV (pD zci6 hr zb6 (za0 (pq 0) za1)))) (zp4 (ptC (oLtX (by exact hu)) (pq 0) za3)))))) (fun _ _ _ _ _=>(pq 0)) (.skip .nil)) za1)) za3) (za4 (zb1 zq9)) zc7)
   (za2 (psIf (ptW (pwOr (ptC (oLtX (by exact hu)) (zb5 (K:=K) rfl (pq 5) za3) za3) (pwOr (ptC (zt7 (K:=K) rfl (by exact hu)) (pB (zan5 (K:=K) rfl rfl) N.sum_ zw5 (za0 (zb5 (K:=K) rfl (pq 5) za3) za1)) (pq 1)) (zp4 (ptC (oInLLK (K:=K) rfl (by exact hu)) (zb5 (K:=K) rfl (pq 5) za3) (pq 4)))))) (za4 (zb1 zq9)) zc7)
   (za4 (zj6 (zi1 (pq 4) (za0 (zb5 (K:=K) rfl (pq 5) za3) za1))))))))
   (za4 (zb1 (peC (zz7 (K:=K) rfl (by exact hu)) (pD zch6 hr zb6 (za0 (pq 3) za1)) (pq 0))))))),?_⟩
 refine zg9 M.sh (.inr (.inr (.inl rfl))) ?_
 refine zc6 (br_T ?_)
 refine zc9 M.out ?_
 rw[zck9,ml]
 refine zau9 (by rfl') ?_
 refine zc9 M.out ?_
 rw[zck9,ml]
 have hv0:=hv
 cases hv
 case lst a ys ea l=>
  have yl:=l.len
  rw[zck9] at yl
  refine za9 ea ?_
  refine zk9 (Wk.list (SqL.of ea)) (by rw[zcx6];omega) (fun i=>.int ((xss.getD i []).length:Nat)) (fun _=>true) (fun j σ=>∃ t:Option V,σ=[t]) ⟨none,rfl⟩ ?_ ?_
  ·rintro i x σ J R S' hi s2 hx2 ⟨_,rfl⟩ kk _
   obtain⟨d,ed,hd⟩:=l.get i x hx2
   rw[zcl2] at ed
   obtain⟨xs,ex,rfl⟩:=zcl6.mp ed
   rw[show xss.getD i []=xs by rw[zcl3,ex];rfl] at kk
   cases hd
   case lst b zs eb lb=>
    have zl:=lb.len
    rw[zck9] at zl
    refine br_T ?_
    refine zc9 (s2 _ _ eb) ?_
    rw[zl]
    ac_nf
    exact kk rfl _ _ (Same.refl _) ⟨_,rfl⟩
  intro acc H1 f1 s1 h1
  have e1:((List.range ys.length).map fun i=>V.int ((xss.getD i []).length:Nat))=(xss.map fun xs=>(xs.length:Int)).map V.int:=by
   rw[yl,zcm6]
   apply zcp0
   intro i
   rw[zcl2,zcl2]
   by_cases hi:i<xss.length
   ·rw[zcp1 hi,zcl0 hi]
    show some (V.int ((xss.getD i []).length:Nat))=_
    rw[zcl3,zcl0 hi]
    rfl
   ·rw[zcn0 (by rw[zcn3];omega),zcn0 (by rfl')]
    rfl
  rw[ze7,e1] at h1
  refine zaa7 h1 ?_
  rw[zbq8]
  refine zau9 (by rfl') ?_
  refine zd5 (fun p2 H2 f2 s2 k2=>?_)
  have s02:=s1.trans s2
  have f2':H p2=none:=s1.free f2
  refine za9 (s02 _ _ M.out) ?_
  refine zj1 (xs:=ts.map fun t=>V.ref t.1) (fun j σ I=>∃ x:Option V,σ=[some (.ref a),some (.int h),some (.int f),some (.ref m),some (.ref p2),x]/\Same H I/\I p2=some (.lst (((ts.take j).map (·.2)).map V.ref))) ?_ ?_ ?_ ?_
  ·exact⟨_,rfl,s02,k2⟩
  ·rintro j σ I hj ⟨_,rfl,sI,_⟩
   exact SqL.of (sI _ _ M.out)
  ·rintro j x σ I hj ⟨_,rfl,sI,kI⟩
   obtain⟨t,y,rfl,et,ey,e3,e4⟩:=(M.same sI).elt hj
   obtain⟨nn,yl1,ys1,yw⟩:=O.all y (zcl4 ey)
   have jl:=(zcl1.mp et).1
   refine zg9 (d:=zh3 y) (.tup e3 (.cons (zz9 e4) (.cons (.int _) .nil))) (.inr (.inr (.inr rfl))) ?_
   refine zc6 (br_T ?_)
   refine zaj9 e3 ?_
   refine zc6 (zat1 (by rfl) ?_)
   refine zd2 (v:=.ref t.2) e3 rfl ?_
   refine zg9 (zz9 e4) (.inr (.inr (.inl rfl))) ?_
   refine zc6 (br_T ?_)
   refine zd2 (v:=.ref t.2) e3 rfl ?_
   refine zc9 e4 ?_
   rw[zck9,yl1]
   refine zc6 (zat1 (by rfl') ?_)
   refine zd2 (v:=.ref t.2) e3 rfl ?_
   refine zd2 (v:=.int y.2) e3 rfl ?_
   refine zd5 (fun p3 I3 f3 s3 k3=>?_)
   refine zar7 (s3 _ _ e4) k3 (by rw[zck9,zcx6];simp only[zcn6,zcq5];omega) (fun p4 I4 f4 s4 k4=>?_)
   have al:∀ n∈y.1++[y.2],0<=n:=fun n hn=>by
    rcases zco0.mp hn with hn|hn
    ·exact nn n hn
    ·rw[zcn9.mp hn];omega
   have k4:I4 p4=some (.lst ((y.1++[y.2]).map V.int)):=by rw[k4,zcn4];rfl
   refine za9 k4 ?_
   refine zk9 (Wk.list (SqL.of k4)) (by rw[zck9,zcl8,zcx6];simp only[zcn6,zcq5];omega) (fun i=>.int 0) (fun _=>false) (fun j σ=>∃ t:Option V,σ=[t]) ⟨none,rfl⟩ ?_ ?_
   ·rintro i x σ J R S' hi s5 hx2 ⟨_,rfl⟩ _ kk
    rw[zcl2] at hx2
    obtain⟨n,en,rfl⟩:=zcl6.mp hx2
    have n0:=al n (zcl4 en)
    refine zbe5 (.int n) ?_
    refine zc6 (br_T ?_)
    refine zau9 (by rfl') ?_
    ac_nf
    exact kk rfl _ _ (Same.refl _) ⟨_,rfl⟩
   intro acc5 I5 f5 s5 k5
   have e5:((List.range ((y.1++[y.2]).map V.int).length).filter fun _=>false)=[]:=zcv7.mpr fun _ _=>by decide
   rw[e5,zcu5] at k5
   have s35:=(s3.trans s4).trans s5
   refine zc9 k5 ?_
   refine zau9 (by decide) ?_
   refine zd2 (v:=.int y.2) (s35 _ _ e3) rfl ?_
   refine zau9 (by rfl') ?_
   refine zd2 (v:=.ref t.2) (s35 _ _ e3) rfl ?_
   refine zaa7 (s35 _ _ e4) ?_
   rw[ys1]
   refine zc6 (zat1 (by rfl) ?_)
   refine zd2 (v:=.ref t.2) (s35 _ _ e3) rfl ?_
   refine zcd5 (c:=fun _=>false) 1 (s35 _ _ kI) (by decide) (fun r hr=>?_) ?_
   ·obtain⟨t',ht',rfl⟩:=zcm0.mp hr
    obtain⟨i,ei⟩:=zco7 ht'
    have ij:i<j:=by
     have:=(zcl1.mp ei).1
     rw[zcn7] at this
     omega
    rw[zcw0,if_pos ij] at ei
    obtain⟨z,ez⟩:∃ z,ms[i]?=some z:=⟨_,zcl0 (by have:=(zcl1.mp ei).1;omega)⟩
    have h2:=((M.same sI).part i t' z ei ez).2
    have nz:¬ z.1=y.1:=fun w=>by
     have:=(zcw3 (i:=i) (j:=j) (by rw[zck9];have:=(zcl1.mp ez).1;exact this) nd).mp (by rw[zcl2,zcl2,ez,ey];show some z.1=some y.1;rw[w])
     omega
    have:=EqR.intL (K:=K) (SqL.of (s35 _ _ h2)) (SqL.of (s35 _ _ e4))
    rw[decide_eq_false nz] at this
    exact this
   rw[show (((ts.take j).map (·.2)).any fun _=>false)=false by rw[List.any_eq_false];exact fun _ _=>by decide]
   refine br_F ?_
   refine zv7 (s35 _ _ kI) ?_
   refine zd2 (v:=.ref t.2) (s35 _ _ e3) rfl ?_
   refine zw9 (s35 _ _ kI) (by rw[zck9,zck9,zcn7,zcx6];omega) (fun I6 c6 k6=>?_)
   ac_nf
   refine⟨_,rfl,fun b o e=>c6 _ _ (fun z=>by rw[z,f2'] at e;cases e) (s35 _ _ (sI _ _ e)),?_⟩
   rw[k6,zcv1,et,zcn4,zcn4]
   rfl
  ·rintro σ I ⟨_,rfl,sI,_⟩
   refine zax7 (M.same sI) ne (by rfl') (zak5 S hx) (by rfl') (fun x hx=>(O.all x hx).2.1) (fun r rs yss H3 s3 SD SI=>?_)
   obtain rfl:=SI.unique S
   have ok:=zaf9 (xss:=yss) (by rfl') hx
   refine zbg6 (SD.same (ze3 _ _)).sh (hv0.same (sI.trans s3)) ok.2.1 ok.2.1 (zcp4 ok.2.2 (by decide)) ?_
   rw[ok.eqv]
   ac_nf
   exact q _ (sI.trans s3)
mutual
theorem zah6{T:Addr}{tab:Array Value}{H H':Hp}(hT:H T=some (.tbl tab))(c:Chg T H H'){v:V}{d:PyData}(h:ShV H v d):ShV H' v d:=match h with
 | .non=>.non
 | .bl b=>.bl b
 | .int i=>.int i
 | .str x=>.str x
 | .lst e l=>.lst (c _ _ (fun z=>by rw[z,hT] at e;cases e) e) (zau3 hT c l)
 | .tup e l=>.tup (c _ _ (fun z=>by rw[z,hT] at e;cases e) e) (zau3 hT c l)
theorem zau3{T:Addr}{tab:Array Value}{H H':Hp}(hT:H T=some (.tbl tab))(c:Chg T H H'){xs:List V}{ds:List PyData}(h:ShL H xs ds):ShL H' xs ds:=match h with
 | .nil=>.nil
 | .cons h l=>.cons (zah6 hT c h) (zau3 hT c l)
end
theorem zai4{ln co:Nat}{qual:Str}(x:zl3 T ln co qual H):∃ tab,H T=some (.tbl tab):=let ⟨tab,e,_⟩:=x;⟨tab,e⟩
theorem zaw0{b:Addr}{tab:Array Value}{o:HO}(hT:H T=some (.tbl tab))(c:Chg T H H')(e:H b=some o)(n:∀ t,o≠.tbl t):H' b=some o:=c _ _ (fun z=>by rw[z,hT] at e;cases e;exact n _ rfl) e
theorem zc0.tab{m:Addr}{tab:Array Value}(hT:H T=some (.tbl tab))(c:Chg T H H')(M:zc0 H m ts ms):zc0 H' m ts ms:=
 ⟨zaw0 hT c M.out (fun _ z=>nomatch z),M.len,fun i t x h1 h2=>⟨zaw0 hT c (M.part i t x h1 h2).1 (fun _ z=>nomatch z),zaw0 hT c (M.part i t x h1 h2).2 (fun _ z=>nomatch z)⟩⟩
theorem LsAt.tab{r:Addr}{tab:Array Value}{ps:List Addr}(hT:H T=some (.tbl tab))(c:Chg T H H')(L:LsAt H r ps es):LsAt H' r ps es:=
 ⟨zaw0 hT c L.out (fun _ z=>nomatch z),L.len,fun i p e h1 h2=>zaw0 hT c (L.row i p e h1 h2) (fun _ z=>nomatch z)⟩
theorem StAt.tab{p:Addr}{tab:Array Value}{rs:List (Addr×List Addr)}(hT:H T=some (.tbl tab))(c:Chg T H H')(R:StAt H p rs xss):StAt H' p rs xss:=
 ⟨zaw0 hT c R.out (fun _ z=>nomatch z),R.len,fun i r xs h1 h2=>by
  have W:=R.row i r xs h1 h2
  have up:∀ {b:Addr}{o:HO},rm p H b=some o->(∀ t,o≠.tbl t)->rm p H' b=some o:=fun e n=>zp5 (zj4 e).1 (zaw0 hT c (zj4 e).2 n)
  exact⟨up W.out (fun _ z=>nomatch z),W.len,fun j b x g1 g2=>up (W.row j b x g1 g2) (fun _ z=>nomatch z)⟩,R.nd⟩
theorem StAt.of_copy{J:Hp}{v:V}(h:CpL J v (stmD xss)):∃ (p:Addr) (rs:List (Addr×List Addr)),v=.ref p/\StAt J p rs xss:=by
 obtain⟨p,ys,rfl,e,l,D⟩:=h _ rfl
 have one:∀ (y:V) (xs:List (Int×Int×Int)),ShV (rm p J) y (zd0 xs)->∃ (r:Addr×List Addr),y=.ref r.1/\RwAt (rm p J) r.1 r.2 xs:=fun y xs hy=>by
  cases hy
  case lst a zs ea la=>
   have key:∀ (zs:List V) (xs:List (Int×Int×Int)),ShL (rm p J) zs (xs.map zr3)->∃ bs:List Addr,zs=bs.map V.ref/\bs.length=xs.length/\∀ (i:Nat) b x,bs[i]?=some b->xs[i]?=some x->(rm p J) b=some (.tup [.int x.1,.int x.2.1,.int x.2.2]):=fun zs xs=>by
    induction xs generalizing zs with
    | nil=>intro l;cases l;exact⟨[],rfl,rfl,fun i b x h=>by simp at h⟩
    | cons x xs ih=>
     intro l
     cases l with
     | cons h1 l=>
      obtain⟨bs,rfl,bl,k1⟩:=ih _ l
      cases h1
      case tup t us et lt=>
       cases lt with
       | cons a1 lt=>cases lt with
        | cons a2 lt=>cases lt with
         | cons a3 lt=>
          cases lt
          cases a1
          cases a2
          cases a3
          refine⟨t :: bs,rfl,by rw[zcn6,zcn6,bl],fun i b y g1 g2=>?_⟩
          match i with
          | 0=>cases g1;cases g2;exact et
          | i+1=>exact k1 i b y g1 g2
   obtain⟨bs,rfl,bl,k1⟩:=key zs xs la
   exact⟨(a,bs),rfl,ea,bl,k1⟩
 have all:∀ (ys:List V) (xss:List (List (Int×Int×Int))),ShL (rm p J) ys (xss.map zd0)->∃ rs:List (Addr×List Addr),ys=rs.map (fun r=>V.ref r.1)/\rs.length=xss.length/\∀ (i:Nat) r xs,rs[i]?=some r->xss[i]?=some xs->RwAt (rm p J) r.1 r.2 xs:=fun ys xss=>by
  induction xss generalizing ys with
  | nil=>intro l;cases l;exact⟨[],rfl,rfl,fun i r xs h=>by simp at h⟩
  | cons xs xss ih=>
   intro l
   cases l with
   | cons h1 l=>
    obtain⟨rs,rfl,rl,k1⟩:=ih _ l
    obtain⟨r,rfl,hr⟩:=one _ _ h1
    refine⟨r :: rs,rfl,by rw[zcn6,zcn6,rl],fun i r' xs' g1 g2=>?_⟩
    match i with
    | 0=>cases g1;cases g2;exact hr
    | i+1=>exact k1 i r' xs' g1 g2
 obtain⟨rs,rfl,rl,k1⟩:=all ys xss l
 refine⟨p,rs,rfl,e,rl,k1,?_⟩
 unfold Dst at D
 rw[zct2] at D
 unfold List.Nodup
 rw[zct2]
 exact D.imp fun {x y} hxy z=>hxy x.1 rfl (by rw[z])
theorem StAt.rows_ne{p:Addr}{rs:List (Addr×List Addr)}(R:StAt H p rs xss):p ∉ rs.map (·.1):=fun hp=>by
 obtain⟨r,hr,e⟩:=zcm0.mp hp
 obtain⟨i,ei⟩:=zco7 hr
 obtain⟨xs,ex⟩:∃ xs,xss[i]?=some xs:=⟨_,zcl0 (by have:=(zcl1.mp ei).1;have:=R.len;omega)⟩
 exact (zj4 (R.row i r xs ei ex).out).1 e
def d2(z:Int×Int×Int):Int×Int×Int:=(z.1,z.2.1,2*z.2.2)
def upR(xs:List (Int×Int×Int))(k:Nat):List (Int×Int×Int):=(xs.take k).map d2++xs.drop k
theorem zav2(xs:List (Int×Int×Int))(k:Nat):(upR xs k).length=xs.length:=by
 unfold upR
 rw[zcl8,zck9,zcn7,zcp5]
 omega
theorem zbp2{k:Nat}{x:Int×Int×Int}(h:xs[i]?=some x):(upR xs k)[i]?=some (if i<k then d2 x else x):=by
 have il:=(zcl1.mp h).1
 unfold upR
 by_cases hi:i<k
 ·rw[zcn2 (by rw[zck9,zcn7];omega),zcl2,zcw0,if_pos hi,h,if_pos hi]
  rfl
 ·rw[zcm9 (by rw[zck9,zcn7];omega),zck9,zcn7,zcs6,if_neg hi,zcs8 (by rfl'),show k+(i - k)=i by rfl',h]
theorem zcf0(xs:List (Int×Int×Int)):upR xs xs.length=scaR 2 xs:=by unfold upR scaR;rw[zcq6,List.drop_length,zcr6];rfl
def upS(xss:List (List (Int×Int×Int)))(k:Nat):List (List (Int×Int×Int)):=(xss.take k).map (scaR 2)++xss.drop k
theorem zbo1(xss:List (List (Int×Int×Int)))(k:Nat):(upS xss k).length=xss.length:=by
 unfold upS
 rw[zcl8,zck9,zcn7,zcp5]
 omega
theorem zbo9{k:Nat}(h:xss[i]?=some xs):(upS xss k)[i]?=some (if i<k then scaR 2 xs else xs):=by
 have il:=(zcl1.mp h).1
 unfold upS
 by_cases hi:i<k
 ·rw[zcn2 (by rw[zck9,zcn7];omega),zcl2,zcw0,if_pos hi,h,if_pos hi]
  rfl
 ·rw[zcm9 (by rw[zck9,zcn7];omega),zck9,zcn7,zcs6,if_neg hi,zcs8 (by rfl'),show k+(i - k)=i by rfl',h]
theorem zca2(xss:List (List (Int×Int×Int))):upS xss xss.length=xss.map (scaR 2):=by unfold upS;rw[zcq6,List.drop_length,zcr6]
def dblM(ms:List (List Int×Int)):List (List Int×Int):=ms.map fun x=>(x.1,2*x.2)
theorem zac0(f:List Int->Int)(ms:List (List Int×Int)):wsum (dblM ms) f=2*wsum ms f:=by
 induction ms with
 | nil=>rfl
 | cons x ms ih=>
  show wsum ((x.1,2*x.2) :: dblM ms) f=_
  rw[zf2,zf2,ih,Int.mul_add,Int.mul_assoc]
theorem zbn7{h:Int}{f:Nat}(O:OkS ms h f):OkS (dblM ms) h f:=⟨by unfold dblM;rw[zck9];exact O.ne,O.f1,fun x hx=>by
 unfold dblM at hx
 obtain⟨y,hy,rfl⟩:=zcm0.mp hx
 obtain⟨a,b,c,d⟩:=O.all y hy
 exact⟨a,b,c,by show 1<=2*y.2;omega⟩⟩
theorem zbu8{h:Int}{f:Nat}(O:OkS ms h f)(S:zi6 ms f xss):zi6 (dblM ms) f (xss.map (scaR 2)):=
 S.sca (by decide) (fun x hx=>(O.all x hx).2.2.2) (fun x hx=>((zbn7 O).all x hx).2.2.2) fun i _ q=>by rw[zt4,zt4,zac0]
theorem val_at{κ:Type}[DecidableEq κ](zs:List (κ×Int))(k:κ):(valG (sumG zs) k).getD 0=atG zs k:=by
 rw[zl4]
 by_cases h:k∈zs.map (·.1)
 ·rw[if_pos h];rfl
 ·rw[if_neg h,zaz8 h];rfl
theorem shr_is{hz:Int}{h f:Nat}(O:OkS ms hz f)(S:zi6 ms f xss)(e:xss[i]?=some xs):shr h xs=shK ms h i:=by
 have il:=(zcl1.mp e).1
 rw[S.1] at il
 unfold shr shK
 refine zcm8 fun c _=>?_
 rw[val_at]
 have a:=zp3 O il (S.2 i xs e).1 (fun r=>r.2) (c:Int)
 rw[zr9,zba3] at a
 exact a
theorem zaq8{hz:Int}{h f:Nat}(O:OkS ms hz f)(S:zi6 ms f xss):((za8 (stmD xss)).map fun x=>shr h (rowF x))=(List.range f).map fun k=>shK ms h k:=by
 show ((xss.map zd0).map fun x=>shr h (rowF x))=_
 rw[zcm6]
 apply zcp0
 intro i
 rw[zcl2,zcl2]
 by_cases hi:i<f
 ·obtain⟨xs,e⟩:∃ ys,xss[i]?=some ys:=⟨_,zcl0 (by rw[S.1];exact hi)⟩
  rw[e,zcp1 hi]
  show some (shr h (rowF (zd0 xs)))=some (shK ms h i)
  rw[zq1,shr_is O S e]
 ·rw[zcn0 (by rw[S.1];omega),zcn0 (by rw[zcn3];omega)]
  rfl
theorem zcc4(ms:List (List Int×Int))(h k:Nat):shK (dblM ms) h k=(shK ms h k).map (2*·):=by
 unfold shK
 rw[zcm6]
 exact zcm8 fun c _=>zac0 _ _
theorem zae7(ms:List (List Int×Int))(h k:Nat):(shK ms h k).length=h+1:=by unfold shK;rw[zck9,zcn3]
def shD(es:List (List Int)):PyData:=.list (es.map fun e=>.list (e.map PyData.int))
theorem LsAt.sh{r:Addr}{ps:List Addr}(L:LsAt H r ps es):ShV H (.ref r) (shD es):=.lst L.out (ShL.idx (by rw[zck9,zck9,L.len]) fun i x d h1 h2=>by
 rw[zcl2] at h1 h2
 obtain⟨p,ep,rfl⟩:=zcl6.mp h1
 obtain⟨e,ee,rfl⟩:=zcl6.mp h2
 exact zz9 (L.row i p e ep ee))
theorem zbl6(h:es.length<=1000)(h2:∀ e∈es,e.length<=1000):okD 2 (shD es):=okD.list (n:=1) (by rw[zck9];exact h) fun d hd=>by
 obtain⟨e,he,rfl⟩:=zcm0.mp hd
 exact zav6 (h2 e he)
theorem zbj7{h f:Nat}(h1:h<=40)(h2:1<=f)(h3:f<=8):zs6 (h:Int) (f:Int)=true:=by
 unfold zs6
 rw[zcm4,decide_eq_true_eq,decide_eq_true_eq]
 omega
@[irreducible] noncomputable def zb9(a_tab:Addr):Sp:=fun vs H Q _=>∃ (hd m:Addr) (rs:List (Addr×List Addr)) (xss:List (List (Int×Int×Int))) (h f:Nat) (ts:List (Addr×Addr)) (ms:List (List Int×Int)) (H0:Hp),vs=[.ref hd,.int h,.ref m]/\StAt H hd rs xss/\(zc0 H0 m ts ms/\Same H0 H/\∀ b∈rs.map (·.1),H0 b=none)/\OkS ms h f/\zi6 ms f xss/\(∀ xs∈xss,xs.length<=63)/\(h<=40/\f<=8/\ms.length<=1000)/\zl3 a_tab 82 42 lamQ H /\
 ∀ H',(∀ b o,b≠a_tab->b ∉ rs.map (·.1)->H b=some o->H' b=some o)->zl3 a_tab 82 42 lamQ H'->Q (.bl true) H'
theorem zat7{a_tab:Addr}{hd m:Addr}{rs:List (Addr×List Addr)}{h f:Nat}(R:StAt H hd rs xss)(M:zc0 H0 m ts ms)(s0:Same H0 H)(n0:∀ b∈rs.map (·.1),H0 b=none)(O:OkS ms h f)(S:zi6 ms f xss)(hx:∀ xs∈xss,xs.length<=63)(h4:h<=40)(h5:f<=8)(h6:ms.length<=1000)(hT:zl3 a_tab 82 42 lamQ H)(q:∀ H',(∀ b o,b≠a_tab->b ∉ rs.map (·.1)->H b=some o->H' b=some o)->zl3 a_tab 82 42 lamQ H'->Q (.bl true) H'):zb9 a_tab [.ref hd,.int h,.ref m] H Q E:=by
 unfold zb9;exact⟨hd,m,rs,xss,h,f,ts,ms,H0,rfl,R,⟨M,s0,n0⟩,O,S,hx,⟨h4,h5,h6⟩,hT,q⟩
theorem zs8{f:Addr}(F:Fun K "_law_asked_changed" "_law_asked_changed" zh2 f fd)(N:Nm mg)(zcg5:Def P w K mg base CX0 10 "_law_deep" ["_law_thing"] zi3)(zcg9:Def P w K mg base CX0 2 "_law_is_right" ["_law_stream","_law_hosts","_law_many","_law_told"] zc8)(zcg6:Def P w K mg base CX0 1 "_law_shares" ["_law_mix_here","_law_hosts"] ze2)(zch2:Def P w K mg base (CXR P w) 10 "shares_of" ["stream"] (zg2 zcg1))(zcg7:Def P w K mg base (CXR P w) 10 "taken_apart" ["stream"] (ze4 zcg1 a_tab)):FnOk P w K mg base CX0 11 f fd ["_law_handed","_law_hosts","_law_mix_here"] (zb9 a_tab):=by
 refine F.ok zd9 (fun vs H Q E h=>by unfold zb9 at h;obtain⟨_,_,_,_,_,_,_,_,_,rfl,_⟩:=h;rfl) fun _ _ _ s H vs Q E hr h=>?_
 unfold zb9 at h
 obtain⟨hd,m,rs,xss,h,f,ts,ms,H0,rfl,R,⟨M0,s0,n0⟩,O,S,hx,⟨h4,h5,h6⟩,hT,q⟩:=h
 have hu:=hu40 hr
 have rl:=R.len
 have xl:=S.1
 refine⟨_,(za2 (zx4 PassesOwn.never rfl (zc2 (K:=K) rfl (pq 0)) (za6 (i:=3) zd9.nd rfl (by eq_refl)) (za4 (zx4 PassesOwn.never rfl (zx1 N.range_ (za0 (pB (zk0 (K:=K) rfl) N.len_ ze9 (za0 (pq 3) za1)) za1)) (za6 (i:=4) zd9.nd rfl (by eq_refl)) (za4 (zaz3 (zp0 (za0 (zb5 (K:=K) rfl (zb5 (K:=K) rfl (pq 3) (pq 4)) za3) (za0 (zb5 (K:=K) rfl (zb5 (K:=K) rfl (pq 3) (pq 4)) za3) (za0 (zc4 oMul za3 (zb5 (K:=K) rfl (zb5 (K:=K) rfl (pq 3) (pq 4)) za3)) za1)))) (zay7 (pq 3) (pq 4) setM))))))
   (za2 (psS (i:=5) zd9.nd (pD zcg5 hr zb6 (za0 (pq 0) za1)))
   (za2 (psIf (ptC (zt7 (K:=K) rfl (by exact hu)) (pD zch2 hr zu1 (za0 (pq 0) za1)) (zd4 (N:=["_law_row"]) (ks:=[none]) (zc2 (K:=K) rfl (pD zcg6 hr zb6 (za0 (pq 2) (za0 (pq 1) za1)))) (fun _ _ _ _ _=>(za6 (i:=0) nb_25 rfl (by eq_refl))) (fun _ _ _ _ _=>zb7) (fun _ _ _ _ _=>(zd4 (N:=["_law_share"]) (ks:=[none]) (zc2 (K:=K) rfl (pq 0)) (fun _ _ _ _ _=>(za6 (i:=0) nb_26 rfl (by eq_refl))) (fun _ _ _ _ _=>zb7) (fun _ _ _ _ _=>(zc4 oMul za3 (pq 0))) (.skip .nil))) (.skip .nil))) (za4 (zb1 zq9)) zc7)
   (za4 (zb1 (zo8 (pD zcg9 hr zb6 (za0 (pq 5) (za0 (pq 1) (za0 (pB (zk0 (K:=K) rfl) N.len_ ze9 (za0 (pq 5) za1)) (za0 (pD zcg7 hr zu1 (za0 (pq 0) za1)) za1))))) (zo7 (peC (zz7 (K:=K) rfl (by exact hu)) (pq 0) (pq 5))))))))),?_⟩
 refine za9 R.out ?_
 refine zj1 (xs:=rs.map fun r=>V.ref r.1) (fun i σ I=>∃ (x y z:Option V) (rs':List (Addr×List Addr)),σ=[some (.ref hd),some (.int h),some (.ref m),x,y,z]/\rs'.map (·.1)=rs.map (·.1)/\StAt I hd rs' (upS xss i)/\Cs (rs.map (·.1)) H I) ?_ ?_ ?_ ?_
 ·exact⟨_,_,_,rs,rfl,rfl,R,Cs.refl _ _⟩
 ·rintro i σ I hi ⟨_,_,_,rs',rfl,_,_,cI⟩
  exact SqL.of (cI _ _ R.rows_ne R.out)
 ·rintro i v σ I hv ⟨x0,y0,z0,rs',rfl,er,RI,cI⟩
  rw[zcl2] at hv
  obtain⟨r0,er0,rfl⟩:=zcl6.mp hv
  have il:=(zcl1.mp er0).1
  obtain⟨xs,ex⟩:∃ xs,xss[i]?=some xs:=⟨_,zcl0 (by rfl')⟩
  have rl':rs'.length=rs.length:=by have:=congrArg zct9 er;rw[zck9,zck9] at this;exact this
  obtain⟨r,err⟩:∃ r,rs'[i]?=some r:=⟨_,zcl0 (by rfl')⟩
  have e1:r.1=r0.1:=by
   have:(rs'.map (·.1))[i]?=(rs.map (·.1))[i]?:=by rw[er]
   rw[zcl2,zcl2,err,er0] at this
   exact Option.some.inj this
  rw[← e1]
  have rm0:r.1∈rs.map (·.1):=by rw[e1];exact zcm0.mpr ⟨r0,zcl4 er0,rfl⟩
  have W:=RI.row i r xs err (by rw[zbo9 ex,if_neg (by rfl')])
  have nr:r.1≠hd:=(zj4 W.out).1
  have Wl:=W.len
  have xb:=hx xs (zcl4 ex)
  refine zc9 (zj4 W.out).2 ?_
  rw[zck9,Wl]
  refine zl6 (by decide) (by decide) (by rfl') (by rfl') ?_
  rw[show ((xs.length:Int) - 0).toNat=xs.length by rfl']
  refine zm1 (fun k σ J=>∃ (y z:Option V) (bs:List Addr),σ=[some (.ref hd),some (.int h),some (.ref m),some (.ref r.1),y,z]/\Cs [r.1] I J/\RwAt (rm hd J) r.1 bs (upR xs k)) ?_ ?_ ?_
  ·exact⟨_,_,r.2,rfl,Cs.refl _ _,W⟩
  ·rintro k σ J hk ⟨y1,z1,bs,rfl,cJ,WJ⟩
   obtain⟨x,exx⟩:∃ x,xs[k]?=some x:=⟨_,zcl0 hk⟩
   have bl:=WJ.len
   rw[zav2] at bl
   obtain⟨b,eb⟩:∃ b,bs[k]?=some b:=⟨_,zcl0 (by rfl')⟩
   have hb:=(zj4 (WJ.row k b _ eb (zbp2 exx))).2
   rw[if_neg (by rfl')] at hb
   have hr1:=(zj4 WJ.out).2
   have atk:atI (bs.map V.ref) (0+(k:Int))=some (.ref b):=by rw[zcw7];exact zh4 (by rw[zcl2,eb];rfl)
   refine zb8 (v:=.ref b) hr1 atk ?_
   refine zd2 (v:=.int x.1) hb rfl ?_
   refine zb8 (v:=.ref b) hr1 atk ?_
   refine zd2 (v:=.int x.2.1) hb rfl ?_
   refine zb8 (v:=.ref b) hr1 atk ?_
   refine zd2 (v:=.int x.2.2) hb rfl ?_
   refine zv3 (by decide) (by decide) ?_
   refine zd6 (fun p2 J2 f2 s2 k2=>?_)
   have n2:p2≠r.1:=Ne.symm (za7 hr1 f2)
   have hdI:J hd=some (.lst (rs'.map fun r=>V.ref r.1)):=cJ _ _ (fun z=>nr (zcn9.mp z).symm) RI.out
   have n3:p2≠hd:=Ne.symm (za7 hdI f2)
   refine zba5 (j:=k) (s2 _ _ hr1) (by rw[zck9,bl];exact (zby4 (by rfl') (by rfl')).trans (by congr 1;omega)) (fun J3 c3 k3=>?_)
   ac_nf
   refine⟨_,_,bs.set k p2,rfl,(cJ.same s2).chg (.head _) c3,⟨zp5 nr (by rw[k3,List.map_set]),by rw[List.length_set,zav2,bl],fun j b' x' g1 g2=>?_⟩⟩
   rw[zcv2] at g1
   obtain⟨xj,exj⟩:∃ x,xs[j]?=some x:=⟨_,zcl0 (by have:=(zcl1.mp g2).1;rw[zav2] at this;exact this)⟩
   rw[zbp2 exj] at g2
   cases g2
   by_cases hj:k=j
   ·subst hj
    rw[if_pos rfl,if_pos (by rfl')] at g1
    cases g1
    rw[exx] at exj
    cases exj
    rw[if_pos (by rfl')]
    exact zp5 n3 (c3 _ _ n2 k2)
   ·rw[if_neg hj] at g1
    have h8:=WJ.row j b' _ g1 (zbp2 exj)
    have h9:=zj4 h8
    have nb:b'≠r.1:=fun z=>by
     have:=h9.2
     rw[z,hr1] at this
     cases this
    have h10:=zp5 h9.1 (c3 _ _ nb (s2 _ _ h9.2))
    by_cases h11:j<k
    ·rw[if_pos h11] at h10
     rw[if_pos (by rfl')]
     exact h10
    ·rw[if_neg h11] at h10
     rw[if_neg (by rfl')]
     exact h10
  ·rintro σ J ⟨y1,z1,bs,rfl,cJ,WJ⟩
   rw[zcf0] at WJ
   ac_nf
   refine⟨_,_,_,rs'.set i (r.1,bs),rfl,?_,⟨?_,by rw[List.length_set,zbo1];omega,fun j r' xs' g1 g2=>?_,?_⟩,fun b o n e=>cJ _ _ (fun z=>n (by rw[zcn9.mp z];exact rm0)) (cI _ _ n e)⟩
   ·rw[List.map_set,← er]
    exact zcp0 fun j=>by
     rw[zcv2]
     by_cases hj:i=j
     ·subst hj
      rw[if_pos rfl,if_pos (by rw[zck9];omega),zcl2,err]
      rfl
     ·rw[if_neg hj]
   ·have:(rs'.set i (r.1,bs)).map (fun r=>V.ref r.1)=rs'.map fun r=>V.ref r.1:=by
     rw[List.map_set]
     exact zcp0 fun j=>by
      rw[zcv2]
      by_cases hj:i=j
      ·subst hj
       rw[if_pos rfl,if_pos (by rw[zck9];omega),zcl2,err]
       rfl
      ·rw[if_neg hj]
    rw[this]
    exact cJ _ _ (fun z=>nr (zcn9.mp z).symm) RI.out
   ·obtain⟨xj,exj⟩:∃ x,xss[j]?=some x:=⟨_,zcl0 (by have:=(zcl1.mp g2).1;rw[zbo1] at this;exact this)⟩
    rw[zbo9 exj] at g2
    cases g2
    rw[zcv2] at g1
    by_cases hj:i=j
    ·subst hj
     rw[if_pos rfl,if_pos (by rfl')] at g1
     cases g1
     rw[ex] at exj
     cases exj
     rw[if_pos (by rfl')]
     exact WJ
    ·rw[if_neg hj] at g1
     have W2:=RI.row j r' _ g1 (zbo9 exj)
     have nrr:r'.1≠r.1:=fun z=>by
      have:=(zcw3 (i:=i) (j:=j) (by rw[zck9];omega) RI.nd).mp (by rw[zcl2,zcl2,err,g1];show some r.1=some r'.1;rw[z])
      exact hj this
     have hr1I:I r.1=some (.lst (r.2.map V.ref)):=(zj4 W.out).2
     have up:∀ {b:Addr}{o:HO},rm hd I b=some o->b≠r.1->rm hd J b=some o:=fun e n=>zp5 (zj4 e).1 (cJ _ _ (fun z=>n (zcn9.mp z)) (zj4 e).2)
     have W3:RwAt (rm hd J) r'.1 r'.2 (if j<i then scaR 2 xj else xj):=⟨up W2.out nrr,W2.len,fun l b x g3 g4=>by
      have h8:=W2.row l b x g3 g4
      exact up h8 fun z=>by
       have:=(zj4 h8).2
       rw[z,hr1I] at this
       cases this⟩
     by_cases h11:j<i
     ·rw[if_pos h11] at W3
      rw[if_pos (by rfl')]
      exact W3
     ·rw[if_neg h11] at W3
      rw[if_neg (by rfl')]
      exact W3
   ·have:(rs'.set i (r.1,bs)).map (·.1)=rs'.map (·.1):=by
     rw[List.map_set]
     exact zcp0 fun j=>by
      rw[zcv2]
      by_cases hj:i=j
      ·subst hj
       rw[if_pos rfl,if_pos (by rw[zck9];omega),zcl2,err]
       rfl
      ·rw[if_neg hj]
    rw[this]
    exact RI.nd
 ·rintro σ I ⟨x0,y0,z0,rs',rfl,er,RI,cI⟩
  rw[zck9,rl,zca2] at RI
  have hr0:∀ b∈rs.map (·.1),∃ xs,H b=some (.lst xs):=fun b hb=>by
   obtain⟨r,hr1,rfl⟩:=zcm0.mp hb
   obtain⟨i,ei⟩:=zco7 hr1
   obtain⟨xs,ex⟩:∃ xs,xss[i]?=some xs:=⟨_,zcl0 (by have:=(zcl1.mp ei).1;omega)⟩
   exact⟨_,(zj4 (R.row i r xs ei ex).out).2⟩
  have TI:zl3 a_tab 82 42 lamQ I:=by
   obtain⟨tab,e,w⟩:=hT
   have ne:∀ {b:Addr}{o:HO},H b=some o->(∀ xs,o≠.lst xs)->I b=some o:=fun e n=>cI _ _ (fun z=>by
    obtain⟨xs,e2⟩:=hr0 _ z
    rw[e2] at e
    cases e
    exact n _ rfl) e
   refine⟨tab,ne e (fun _ z=>nomatch z),w.imp id ?_⟩
   rintro⟨c,oc,vs,t,a1,a2,a3⟩
   exact⟨c,oc,vs,t,a1,ne a2 (fun _ z=>nomatch z),a3⟩
  have O2:=zbn7 O
  have S2:=zbu8 O S
  have hx2:∀ xs∈xss.map (scaR 2),xs.length<=63:=fun xs hxs=>by
   obtain⟨y,hy,rfl⟩:=zcm0.mp hxs
   unfold scaR
   rw[zck9]
   exact hx y hy
  have ok2:=zaf9 (xss:=xss.map (scaR 2)) (by rw[zck9];omega) hx2
  obtain⟨an,ho⟩:=zbx9 O2 S2 (zbj7 h4 O.f1 h5)
  have f1:=O.f1
  refine zab7 RI.sh ok2.1 (zcp4 ok2.2.2 (by decide)) (fun cv I1 s1 V1 C1=>?_)
  clear C1
  have R1:=RI.same s1
  refine zn7 R1.sh ok2.1 (fun _=>?_) (fun z=>by rw[an] at z;cases z)
  intro sr sps I2 s2 L2' _ _
  rw[ho,zcr3,zaq8 O2 S2] at L2'
  have L2:=L2'.same (ze3 _ _)
  clear L2'
  have MI:zc0 I m ts ms:=M0.same (cI.news s0 n0)
  have MI2:zc0 I2 m ts ms:=(MI.same s1).same s2
  refine zt5 MI2 O.ne h6 (fun x hx=>⟨(O.all x hx).2.1,fun n hn=>by
   obtain⟨nn,_,xs,_⟩:=O.all x hx
   have:=(zq4 nn).1 n hn
   exact⟨nn n hn,by rfl'⟩⟩) h4 h5 (fun g qs I3 s3 L3'=>?_)
  have L3:=L3'.same (ze3 _ _)
  clear L3'
  have L3l:=L3.len
  rw[zck9,zcn3] at L3l
  refine za9 L3.out ?_
  refine zw7 (Wk.list (SqL.of L3.out)) (by rw[zck9,zcx6];omega) (fun i=>.lst (((shK ms h i).map (2*·)).map V.int)) (fun j σ=>∃ t:Option V,σ=[t]) ⟨none,rfl⟩ ?_ ?_
  ·rintro i v σ J R' S' hi s4 hx4 ⟨_,rfl⟩ kk
   rw[zcl2] at hx4
   obtain⟨p,ep,rfl⟩:=zcl6.mp hx4
   have hi:i<f:=by rw[zck9] at hi;omega
   have hp:=s4 _ _ (L3.row i p (shK ms h i) ep (by rw[zcl2,zcp1 hi];rfl))
   have sl:=zae7 ms h i
   refine br_T ?_
   refine za9 hp ?_
   refine zk9 (Wk.list (SqL.of hp)) (by rw[zck9,zcx6];omega) (fun j=>.int (2*(shK ms h i).getD j 0)) (fun _=>true) (fun j σ=>∃ t:Option V,σ=[t]) ⟨none,rfl⟩ ?_ ?_
   ·rintro j v σ J2 R2 S2' hj s5 hx5 ⟨_,rfl⟩ k1 _
    rw[zcl2] at hx5
    obtain⟨n,en,rfl⟩:=zcl6.mp hx5
    rw[show (shK ms h i).getD j 0=n by rw[zcl3,en];rfl] at k1
    refine br_T ?_
    refine zv3 (by decide) (by decide) ?_
    ac_nf
    exact k1 rfl _ _ (Same.refl _) ⟨_,rfl⟩
   intro acc J3 f3 s3' k3
   have e3:((List.range ((shK ms h i).map V.int).length).map fun j=>V.int (2*(shK ms h i).getD j 0))=((shK ms h i).map (2*·)).map V.int:=by
    rw[zck9,zcm6]
    apply zcp0
    intro j
    rw[zcl2,zcl2]
    by_cases hj:j<(shK ms h i).length
    ·rw[zcp1 hj,zcl0 hj]
     show some (V.int (2*(shK ms h i).getD j 0))=_
     rw[zcl3,zcl0 hj]
     rfl
    ·rw[zcn0 (by rw[zcn3];omega),zcn0 (by rfl')]
     rfl
   rw[ze7,e3] at k3
   ac_nf
   exact kk _ _ _ f3 s3' k3 ⟨_,rfl⟩
  intro acc4 ps4 I4 F4
  rw[zck9] at F4
  have L4:LsAt I4 acc4 ps4 ((List.range f).map fun k=>shK (dblM ms) h k):=⟨F4.out,by rw[F4.len,zck9,zcn3];exact L3l,fun i p e g1 g2=>by
   rw[zcl2] at g2
   obtain⟨j,ej,rfl⟩:=zcl6.mp g2
   have hj:i<f:=by have:=(zcl1.mp ej).1;rw[zcn3] at this;exact this
   rw[zcp1 hj] at ej
   cases ej
   rw[zcc4]
   exact (F4.row i p g1).2⟩
  have oks:okD 2 (shD ((List.range f).map fun k=>shK (dblM ms) h k)):=zbl6 (by rw[zck9,zcn3];omega) fun e he=>by
   obtain⟨k,_,rfl⟩:=zcm0.mp he
   rw[zae7];omega
  have s24:=s3.trans F4.same
  refine zr5 (L2.same s24).sh L4.sh oks (by decide) ?_
  refine br_F ?_
  have s14:=s2.trans s24
  have V4:ShV I4 cv (stmD (xss.map (scaR 2))):=(V1.same (ze3 _ _)).same s14
  have R4:=R1.same s14
  have T4:=TI.same (s1.trans s14)
  have V5:=V4
  cases V4
  case lst ca cxs ea la=>
   have cl:=la.len
   rw[zck9,zck9] at cl
   refine zc9 ea ?_
   rw[cl,xl]
   refine zk6 R4.sh ok2.1 T4 (fun _=>⟨fun x hx7=>?_,fun p5 ts5 ms5 I5 c5 T5 M5 nd5 A5=>?_⟩) (fun z=>by rw[an] at z;cases z)
   ·obtain⟨y,hy,rfl⟩:=zcm0.mp hx7
    have:=hx2 y hy
    show (y.map zr3).length<=63
    rw[zck9]
    exact this
   rw[ho,zac7 O2 S2,zad5] at A5
   obtain⟨O5,l5,n5,S5⟩:=zas0 O2 S2 A5.ap
   obtain⟨tb4,et4⟩:=zai4 T4
   have V6:=zah6 et4 c5 V5
   have R6:=R4.tab et4 c5
   refine zap3 V6 (M5.same (ze3 _ _)) O5 hx2 (by rfl') n5 S5 h5 (fun I6 s6=>?_)
   refine br_T ?_
   refine zbg6 (R6.same s6).sh (V6.same s6) ok2.2.1 ok2.2.1 (zcp4 ok2.2.2 (by decide)) ?_
   rw[ok2.eqv]
   ac_nf
   exact q _ (fun b o n1 n2 e=>s6 _ _ (c5 _ _ n1 (s14 _ _ (s1 _ _ (cI _ _ n2 e))))) (T5.same s6)
def zba7(K:zcl5)(a_tab:Addr):Sp:=fun vs H Q _=>∃ (a:Addr) (ns:List Int),vs=[.ref a]/\SqL K H a (ns.map V.int)/\ns.length<=63/\H a_tab=some (.tbl #[])/\∀ H',Q (.bl true) H'
theorem zap4{ns:List Int}(h:ns.length<=63):[V.int 0].length+(cutV (ns.map V.int) none (some 40)).length<=sizeLine:=by
 rw[zad8 (by decide),zcn7,zck9,zcx6,zcs3];omega
theorem zas5{ns:List Int}{x:V}(h:([V.int 0]++cutV (ns.map V.int) none (some 40))[i]?=some x):∃ z,x=.int z:=by
 rw[zad8 (by decide)] at h
 rcases zco0.mp (zcl4 h) with h|h
 ·exact⟨0,by simpa using h⟩
 ·obtain⟨z,_,rfl⟩:=zcm0.mp (zcr9 h)
  exact⟨z,rfl⟩
theorem zbx1{ln co:Nat}{qual:Str}(x:zl3 T ln co qual H)(hS:∀ b∈S,∃ xs,H b=some (.lst xs))(c:Cs S H H'):zl3 T ln co qual H':=by
 obtain⟨tab,e,w⟩:=x
 have ne:∀ {b:Addr}{o:HO},H b=some o->(∀ xs,o≠.lst xs)->H' b=some o:=fun e n=>c _ _ (fun z=>by
  obtain⟨xs,e2⟩:=hS _ z
  rw[e2] at e
  cases e
  exact n _ rfl) e
 refine⟨tab,ne e (fun _ z=>nomatch z),w.imp id ?_⟩
 rintro⟨c,oc,vs,t,a1,a2,a3⟩
 exact⟨c,oc,vs,t,a1,ne a2 (fun _ z=>nomatch z),a3⟩
theorem zc0.cs{m:Addr}(M:zc0 H m ts ms)(n:∀ b∈S,m≠b/\Off b ts)(c:Cs S H H'):zc0 H' m ts ms:=
 ⟨c _ _ (fun z=>(n _ z).1 rfl) M.out,M.len,fun i t x h1 h2=>⟨c _ _ (fun z=>((n _ z).2 t (zcl4 h1)).1 rfl) (M.part i t x h1 h2).1,c _ _ (fun z=>((n _ z).2 t (zcl4 h1)).2 rfl) (M.part i t x h1 h2).2⟩⟩
theorem zat2{n:Nat}(hl:ms.length<=1000)(h:∀ x∈ms,x.1.length<=1000):okD 3 (zp2 ms):=okD.list (n:=2) (by rw[zck9];omega) fun d hd=>by
 obtain⟨x,hx,rfl⟩:=zcm0.mp hd
 refine okD.tuple (n:=1) (by show 2<=1000;decide) fun e he=>?_
 simp only[zcm1,zcq3,or_false] at he
 rcases he with rfl|rfl
 ·exact zav6 (h x hx)
 ·exact⟨rfl,rfl,zcp2 _⟩
def zaa0(ms:List (List Int×Int)):List (List Int×Int):=dblM (ms.drop 1)++(ms.take 1++ms.take 1)
theorem zbd8(f:List Int->Int)(ms:List (List Int×Int)):wsum (zaa0 ms) f=2*wsum ms f:=by
 have app:∀ a b:List (List Int×Int),wsum (a++b) f=wsum a f+wsum b f:=fun a b=>by unfold wsum;rw[zcn4,zct7]
 have e:wsum ms f=wsum (ms.take 1) f+wsum (ms.drop 1) f:=by rw[← app,zct6]
 unfold zaa0
 rw[app,app,zac0,e]
 omega
theorem zay5{h:Int}{f:Nat}(O:OkS ms h f):OkS (zaa0 ms) h f:=by
 have ne:=O.ne
 refine⟨?_,O.f1,fun x hx=>?_⟩
 ·unfold zaa0 dblM
  rw[zcl8,zcl8,zck9,zcn7]
  omega
 ·unfold zaa0 at hx
  rcases zco0.mp hx with hx|hx
  ·unfold dblM at hx
   obtain⟨y,hy,rfl⟩:=zcm0.mp hx
   obtain⟨a,b,c,d⟩:=O.all y (zcs5 hy)
   exact⟨a,b,c,by show 1<=2*y.2;omega⟩
  ·rcases zco0.mp hx with hx|hx
   ·exact O.all x (zcr9 hx)
   ·exact O.all x (zcr9 hx)
theorem zaq1(ms:List (List Int×Int)):(zaa0 ms).length<=ms.length+2:=by
 unfold zaa0 dblM
 rw[zcl8,zcl8,zck9,zcn7,zcp5]
 omega
theorem zbh8{h:Int}{f:Nat}(O:OkS ms h f)(S:zi6 ms f xss):zi6 (zaa0 ms) f (xss.map (scaR 2)):=
 S.sca (by decide) (fun x hx=>(O.all x hx).2.2.2) (fun x hx=>((zay5 O).all x hx).2.2.2) fun i _ q=>by rw[zt4,zt4,zbd8]
theorem shK_eq{h:Nat}{f:Nat}(O:OkS ms h f)(S:zi6 ms f xss)(O2:OkS ms2 h f)(S2:zi6 ms2 f xss):((List.range f).map fun k=>shK ms2 h k)=(List.range f).map fun k=>shK ms h k:=(zaq8 O2 S2).symm.trans (zaq8 O S)
theorem zax6{K:zcl5}{σ:St}{x y:V}(hi:σ[i]?=some (some y))(h:zag1 K x y H Q):qV i σ H fun y H2=>zag1 K x y H2 Q:=by
 unfold qV
 rw[hi]
 exact h
theorem zbw6{K:zcl5}{j:Nat}{σ:St}{x y:V}(hi:σ[i]?=some (some x))(hj:σ[j]?=some (some y))(h:zag1 K x y H Q):tOp (zag1 K) (qV i) (qV j) σ H Q:=by
 unfold tOp qV
 rw[hi]
 show (match σ[j]? with
  | some (some v)=>zag1 K x v H Q
  | _=>False)
 rw[hj]
 exact h
def up7(x:List Int×Int):List Int×Int:=(app7 x.1,x.2)
theorem zc0.grown{m l:Addr}(M:zc0 H m ts ms)(f1:∀ x∈ms,1<=x.1.length)(c:Cs (ts.map (·.2)) H H')(L:LsAt H' l (ts.map (·.2)) ((ms.map (·.1)).map app7)):zc0 H' m ts (ms.map up7):=by
 have ne:∀ {b:Addr}{o:HO},H b=some o->(∀ t∈ts,b≠t.2)->H' b=some o:=fun e n=>c _ _ (fun z=>by
  obtain⟨t,ht,e2⟩:=zcm0.mp z
  exact n t ht e2.symm) e
 have el:∀ t∈ts,∃ x∈ms,H t.1=some (.tup [.ref t.2,.int x.2])/\H t.2=some (.lst (x.1.map V.int)):=fun t ht=>by
  obtain⟨i,ei⟩:=zco7 ht
  obtain⟨x,ex⟩:∃ x,ms[i]?=some x:=⟨_,zcl0 (by have:=(zcl1.mp ei).1;have:=M.len;omega)⟩
  exact⟨x,zcl4 ex,M.part i t x ei ex⟩
 refine⟨ne M.out fun t ht z=>?_,by rw[zck9];exact M.len,fun i t x h1 h2=>?_⟩
 ·obtain⟨x,hx,_,e2⟩:=el t ht
  have e1:=M.out
  rw[z,e2] at e1
  have:=f1 x hx
  cases hz:x.1 with
  | nil=>rw[hz] at this;exact absurd this (by decide)
  | cons n ns=>
   rw[hz] at e1
   cases ts with
   | nil=>cases ht
   | cons t0 ts=>cases e1
 ·rw[zcl2] at h2
  obtain⟨y,ey,rfl⟩:=zcl6.mp h2
  refine⟨ne (M.part i t y h1 ey).1 fun t' ht' z=>?_,L.row i t.2 (app7 y.1) (by rw[zcl2,h1];rfl) (by rw[zcl2,zcl2,ey];rfl)⟩
  obtain⟨x,_,_,e2⟩:=el t' ht'
  have e1:=(M.part i t y h1 ey).1
  rw[z,e2] at e1
  cases e1
theorem ok_law{f:Addr}(F:Fun K "law" "law" zat8 f fd)(N:Nm mg)(zch9:Def P w K mg base CX0 1 "_law_apart" ["_law_lists"] zg5)(zch5:Def P w K mg base CX0 11 "_law_asked_changed" ["_law_handed","_law_hosts","_law_mix_here"] (zb9 a_tab))(zcg5:Def P w K mg base CX0 10 "_law_deep" ["_law_thing"] zi3)(zcg4:Def P w K mg base CX0 2 "_law_draw" ["_law_left_here","_law_base"] zf3)(zch6:Def P w K mg base CX0 1 "_law_flows" ["_law_mix_here"] zf6)(zcg9:Def P w K mg base CX0 2 "_law_is_right" ["_law_stream","_law_hosts","_law_many","_law_told"] zc8)(zcj2:Def P w K mg base CX0 2 "_law_left" ["_law_script","_law_k"] zi4)(zcj6:Def P w K mg base CX0 4 "_law_lot" ["_law_left_here","_law_most","_law_fields","_law_parts"] zj7)(zcg6:Def P w K mg base CX0 1 "_law_shares" ["_law_mix_here","_law_hosts"] ze2)(zch2:Def P w K mg base (CXR P w) 10 "shares_of" ["stream"] (zg2 zcg1))(zci4:Def P w K mg base (CXR P w) 7 "stream_of" ["mix"] (zh9 zcg2))(zcg7:Def P w K mg base (CXR P w) 10 "taken_apart" ["stream"] (ze4 zcg1 a_tab)):FnOk P w K mg base CX0 12 f fd ["_law_script"] (zba7 K a_tab):=by
 refine F.ok zn2 (fun vs H Q E h=>by obtain⟨n,k,rfl,_⟩:=h;rfl) fun _ _ _ s H vs Q E hr h=>?_
 obtain⟨a,ns0,rfl,hS,hlen,hTab,k⟩:=h
 have hu:=hu40 hr
 have T0:zl3 a_tab 82 42 lamQ H:=⟨_,hTab,.inl rfl⟩
 refine⟨_,(za2 (psS (i:=1) zn2.nd (zn1 (za0 (zn1 (za0 (zp0 (za0 za3 (za0 za3 (za0 za3 za1)))) za1)) (za0 (zn1 (za0 (zp0 (za0 za3 (za0 za3 (za0 za3 za1)))) za1)) za1))))
   (za2 (zx4 PassesOwn.never rfl (zc2 (K:=K) rfl (zc4 oAdd (zn1 (za0 za3 za1)) (zk7 (slXK (K:=K) rfl) (pq 0) zo1 (zu3 za3)))) (za6 (i:=2) zn2.nd rfl (by eq_refl)) (za2 (psS (i:=3) zn2.nd (pD zcj2 hr zb6 (za0 (zn1 (za0 (pq 2) za1)) (za0 za3 za1))))
   (za2 (psS (i:=4) zn2.nd (pD zcj6 hr zb6 (za0 (pq 3) (za0 (zb5 (K:=K) rfl (zn1 (za0 za3 (za0 za3 (za0 za3 za1)))) (pD zcg4 hr zb6 (za0 (pq 3) (za0 za3 za1)))) (za0 za3 (za0 (zb5 (K:=K) rfl (zn1 (za0 za3 (za0 za3 za1))) (pD zcg4 hr zb6 (za0 (pq 3) (za0 za3 za1)))) za1))))))
   (za2 (psS (i:=5) zn2.nd (pB (zan5 (K:=K) rfl rfl) N.sum_ zw5 (za0 (zb5 (K:=K) rfl (zb5 (K:=K) rfl (pq 4) za3) za3) za1)))
   (za2 (psS (i:=6) zn2.nd (pD zch6 hr zb6 (za0 (pq 4) za1)))
   (za2 (psS (i:=7) zn2.nd (pD zcg5 hr zb6 (za0 (pq 6) za1)))
   (za2 (psS (i:=8) zn2.nd (pD zcg7 hr zu1 (za0 (pq 7) za1)))
   (za2 (psIf (ptW (pwOr (zi7 (ptV (pD zcg9 hr zb6 (za0 (pq 6) (za0 (pq 5) (za0 (pB (zk0 (K:=K) rfl) N.len_ ze9 (za0 (pq 6) za1)) (za0 (pq 8) za1))))))) (pwOr (ptC (zt7 (K:=K) rfl (by exact hu)) (pD zci4 hr zu1 (za0 (pq 8) za1)) (pq 6)) (zp4 (ptC (zt7 (K:=K) rfl (by exact hu)) (pq 7) (pq 6)))))) (za4 (zb1 zq9)) zc7)
   (za2 (psS (i:=9) zn2.nd (zc4 oAdd (zd4 (N:=["_law_plan_here","_law_weight"]) (ks:=[none,none]) (zc2 (K:=K) rfl (zk7 (slXK (K:=K) rfl) (pq 4) (zu3 za3) zo1)) (fun _ _ _ _ _=>(zi9 (K:=K) (n:=2) rfl rfl (zb0 (za6 (i:=0) nb_27 rfl (by eq_refl)) (zb0 (za6 (i:=1) nb_27 rfl (by eq_refl)) zj2)))) (fun _ _ _ _ _=>zb7) (fun _ _ _ _ _=>(zp0 (za0 (pT (zbw0 (K:=K) rfl) N.list_ zq5 (za0 (pq 0) za1)) (za0 (zc4 oMul za3 (pq 1)) za1)))) (.skip (.skip .nil))) (zc4 oMul (zn1 (za0 (zp0 (za0 (zb5 (K:=K) rfl (zb5 (K:=K) rfl (pq 4) za3) za3) (za0 (zb5 (K:=K) rfl (zb5 (K:=K) rfl (pq 4) za3) za3) za1))) za1)) za3)))
   (za2 (psC (i:=10) (N:=["_law_row"]) (ks:=[none]) zn2.nd (zc2 (K:=K) rfl (pq 6)) (fun _ _ _ _ _=>(za6 (i:=0) nb_28 rfl (by eq_refl))) (fun _ _ _ _ _=>zb7) (fun _ _ _ _ _=>(zd4 (N:=["_law_rest","_law_sent","_law_flow"]) (ks:=[none,none,none]) (zc2 (K:=K) rfl (pq 0)) (fun _ _ _ _ _=>(zi9 (K:=K) (n:=3) rfl rfl (zb0 (za6 (i:=0) nb_29 rfl (by eq_refl)) (zb0 (za6 (i:=1) nb_29 rfl (by eq_refl)) (zb0 (za6 (i:=2) nb_29 rfl (by eq_refl)) zj2))))) (fun _ _ _ _ _=>zb7) (fun _ _ _ _ _=>(zp0 (za0 (pq 0) (za0 (pq 1) (za0 (zc4 oMul za3 (pq 2)) za1))))) (.skip (.skip (.skip .nil))))) (.skip .nil))
   (za2 (psIf (ptC (zt7 (K:=K) rfl (by exact hu)) (pD zci4 hr zu1 (za0 (pq 9) za1)) (pq 10)) (za4 (zb1 zq9)) zc7)
   (za2 (psS (i:=11) zn2.nd (pD zch2 hr zu1 (za0 (pq 7) za1)))
   (za2 (psIf (ptW (pwOr (ptC (zt7 (K:=K) rfl (by exact hu)) (pq 11) (pD zcg6 hr zb6 (za0 (pq 4) (za0 (pq 5) za1)))) (pwOr (ptC (zt7 (K:=K) rfl (by exact hu)) (pq 11) (pD zcg6 hr zb6 (za0 (pq 8) (za0 (pq 5) za1)))) (zp4 (ptC (zt7 (K:=K) rfl (by exact hu)) (pq 7) (pq 6)))))) (za4 (zb1 zq9)) zc7)
   (za2 (psS (i:=12) zn2.nd (pD zcg5 hr zb6 (za0 (pq 8) za1)))
   (za2 (psIf (ptW (pwOr (zi7 (ptV (pD zch9 hr zb6 (za0 (zd4 (N:=["_law_plan_here","_law_weight"]) (ks:=[none,none]) (zc2 (K:=K) rfl (pq 8)) (fun _ _ _ _ _=>(zi9 (K:=K) (n:=2) rfl rfl (zb0 (za6 (i:=0) nb_27 rfl (by eq_refl)) (zb0 (za6 (i:=1) nb_27 rfl (by eq_refl)) zj2)))) (fun _ _ _ _ _=>zb7) (fun _ _ _ _ _=>(pq 0)) (.skip (.skip .nil))) za1)))) (zp4 (zi7 (ptV (pD zch9 hr zb6 (za0 (pq 11) za1))))))) (za4 (zb1 zq9)) zc7)
   (za2 (psS (i:=13) zn2.nd (pD zcg5 hr zb6 (za0 (zn1 (za0 (pq 8) (za0 (pq 11) za1))) za1)))
   (za2 (zj6 (pD zcg7 hr zu1 (za0 (pq 1) za1)))
   (za2 (zj6 (pD zch2 hr zu1 (za0 (pq 1) za1)))
   (za2 (psIf (ptW (pwOr (ptC (zt7 (K:=K) rfl (by exact hu)) (pD zcg7 hr zu1 (za0 (pq 7) za1)) (pq 12)) (pwOr (ptC (zt7 (K:=K) rfl (by exact hu)) (zn1 (za0 (pq 8) (za0 (pq 11) za1))) (pq 13)) (zp4 (ptC (zt7 (K:=K) rfl (by exact hu)) (pD zch2 hr zu1 (za0 (pq 7) za1)) (pD zcg6 hr zb6 (za0 (pq 4) (za0 (pq 5) za1)))))))) (za4 (zb1 zq9)) zc7)
   (za2 (psS (i:=1) zn2.nd (pq 6))
   (za4 (psIf (zi7 (ptV (pD zch5 hr zb6 (za0 (pq 7) (za0 (pq 5) (za0 (pq 4) za1)))))) (za4 (zb1 zq9)) zc7))))))))))))))))))))))
   (za4 (zb1 zq9)))),?_⟩
 refine zd6 (fun q1 G1 g1 r1 w1=>?_)
 refine zd5 (fun q2 G2 g2 r2 w2=>?_)
 refine zd6 (fun q3 G3 g3 r3 w3=>?_)
 refine zd5 (fun q4 G4 g4 r4 w4=>?_)
 refine zd5 (fun q5 G5 g5 r5 w5=>?_)
 have V0:ShV G5 (.ref q5) (stmD [[(1,0,2)],[(1,1,2)]]):=.lst w5 (.cons (.lst (r5 _ _ (r4 _ _ (r3 _ _ w2))) (.cons (.tup (r5 _ _ (r4 _ _ (r3 _ _ (r2 _ _ w1)))) (.cons (.int _) (.cons (.int _) (.cons (.int _) .nil)))) .nil)) (.cons (.lst (r5 _ _ w4) (.cons (.tup (r5 _ _ (r4 _ _ w3)) (.cons (.int _) (.cons (.int _) (.cons (.int _) .nil)))) .nil)) .nil))
 have s05:=(((r1.trans r2).trans r3).trans r4).trans r5
 have A0:zg0 (stmD [[(1,0,2)],[(1,1,2)]])=true:=by decide +kernel
 have O0:okD 3 (stmD [[(1,0,2)],[(1,1,2)]]):=zaf9 (by decide) (by decide)
 have I0:∀ x∈za8 (stmD [[(1,0,2)],[(1,1,2)]]),(za8 x).length<=63:=by
  intro x hx
  have hx:x∈[zd0 [(1,0,2)],zd0 [(1,1,2)]]:=hx
  simp only[zcm1,zcq3,or_false] at hx
  rcases hx with rfl|rfl<;>(show (1:Nat)<=63;decide)
 generalize stmD [[(1,0,2)],[(1,1,2)]]=d0 at V0 A0 O0 I0
 have T5:=T0.same s05
 have hS5:=s05.seq hS
 clear w1 w2 w3 w4 w5 g1 g2 g3 g4 g5 r1 r2 r3 r4 r5
 refine zd5 (fun p1 H1 hf1 hs1 ha1=>?_)
 refine zaa6 (hs1.seq hS5) (fun p2 H2 hf2 hs2 ha2=>?_)
 refine zar7 (hs2 _ _ ha1) ha2 (zap4 hlen) (fun p3 H3 hf3 hs3 ha3=>?_)
 have T3:=T5.same ((hs1.trans hs2).trans hs3)
 have V3:=V0.same ((hs1.trans hs2).trans hs3)
 obtain⟨tab3,et3⟩:=zai4 T3
 refine za9 ha3 ?_
 refine zj1 (xs:=[V.int 0]++cutV (ns0.map V.int) none (some 40)) (fun i σ H4=>∃ (lv:V) (d:PyData) (x1 x2 x3 x4 x5 x6 x7 x8 x9 xa xb xc:Option V),σ=[some (.ref a),some lv,x1,x2,x3,x4,x5,x6,x7,x8,x9,xa,xb,xc]/\Chg a_tab H3 H4/\zl3 a_tab 82 42 lamQ H4/\ShV H4 lv d/\okD 3 d/\zg0 d=true/\∀ x∈za8 d,(za8 x).length<=63) ?_ ?_ ?_ ?_
 ·exact⟨_,d0,_,_,_,_,_,_,_,_,_,_,_,_,rfl,Chg.refl _ _,T3,V3,O0,A0,I0⟩
 ·rintro i σ H4 _ ⟨_,_,_,_,_,_,_,_,_,_,_,_,_,_,_,c4,_⟩
  exact SqL.of (c4 _ _ (fun z=>by rw[z,et3] at ha3;cases ha3) ha3)
 ·rintro i x σ H4 hi ⟨lv,d,x1,x2,x3,x4,x5,x6,x7,x8,x9,xa,xb,xc,rfl,cT4,T4,V4,O4,A4,I4⟩
  obtain⟨z,rfl⟩:=zas5 hi
  refine zd5 (fun c5 H5 f5 s5 h5=>?_)
  refine zcb6 h5 (fun pl H6 f6 s6 L6=>?_)
  have fpl:H4 pl=none:=s5.free f6
  have s46:Same H4 H6:=s5.trans s6
  refine zd5 (fun q7 H7 f7 s7 h7=>?_)
  refine zn5 (L6.same s7) (by rfl') (by rfl') (by rfl') (fun d8 H8 d80 d81 c8 L8=>?_)
  have h78:=c8 _ _ (L6.ne f7) h7
  refine zam4 h78 (by rfl') (by simp only[zcn6,zcq5];omega) ?_
  intro v hv
  obtain⟨t,rfl,ht⟩:∃ t:Nat,v=.int t/\t<=40:=by
   simp only[zcm1,zcq3,or_false] at hv
   rcases hv with rfl|rfl|rfl
   ·exact⟨4,rfl,by rfl'⟩
   ·exact⟨10,rfl,by rfl'⟩
   ·exact⟨40,rfl,by rfl'⟩
  clear hv h78 h7
  have s48:Same H4 H8:=(s46.trans s7).chg fpl c8
  refine zd5 (fun q7b H7b f7b s7b h7b=>?_)
  refine zn5 (L8.same s7b) (by rfl') (by rfl') (by rfl') (fun d8b H8b d80b d81b c8b L8b=>?_)
  have h78b:=c8b _ _ (L8.ne f7b) h7b
  refine zam4 h78b (by rfl') (by simp only[zcn6,zcq5];omega) ?_
  intro v hv
  obtain⟨pt,rfl,hpt⟩:∃ t:Nat,v=.int t/\1<=t/\t<=40:=by
   simp only[zcm1,zcq3,or_false] at hv
   rcases hv with rfl|rfl
   ·exact⟨8,rfl,by rfl'⟩
   ·exact⟨40,rfl,by rfl'⟩
  clear hv h78b h7b
  have s48b:Same H4 H8b:=(s48.trans s7b).chg fpl c8b
  refine lot_rd L8b (by rfl') ht hpt (fun h f m0 ts0 ms H9 f9 c9 L9 n9 M9 O9 _ hf9 ml9 ok9=>?_)
  have s49:=s48b.chg fpl c9
  obtain⟨h40,hf1,hf8⟩:=hf9
  have O:OkS ms h f:=⟨ml9.1,hf1,fun x hx=>by
   obtain⟨⟨o1,o2,o3,o4⟩,_⟩:=ok9 x hx
   exact⟨o1,by rfl',o3,o4⟩⟩
  clear c9 L9 L8b L8 L6 c8 c8b s48 s46 s5 s6 h5 O9 ok9 n9 f9
  obtain⟨x0,ex0⟩:∃ x,ms[0]?=some x:=⟨_,zcl0 (by rfl')⟩
  obtain⟨t0,et0,at0,ht0,hp0⟩:=M9.ix ex0
  obtain⟨_,x0l,x0s,_⟩:=O.all x0 (zcl4 ex0)
  refine zb8 (v:=.ref t0.1) M9.out at0 ?_
  refine zd2 (v:=.ref t0.2) ht0 rfl ?_
  refine zaa7 hp0 ?_
  rw[x0s]
  refine zax7 M9 ml9.1 (by rfl') (fun i _=>by have:=zby6 ms i;omega) (by rfl') (fun x hx=>(O.all x hx).2.1) (fun du rsD xss H10 s10 SD' SI=>?_)
  have SD:=SD'.same (ze3 _ _)
  clear SD'
  have xl:=SI.1
  have hx:∀ xs∈xss,xs.length<=63:=fun xs hx=>by
   obtain⟨i,ei⟩:=zco7 hx
   have:=(SI.2 i xs ei).2
   omega
  have ok:=zaf9 (xss:=xss) (by rfl') hx
  obtain⟨an,ho⟩:=zbx9 O SI (zbj7 h40 hf1 hf8)
  have hx9:∀ x∈za8 (stmD xss),(za8 x).length<=63:=fun x hx7=>by
   obtain⟨y,hy,rfl⟩:=zcm0.mp hx7
   have:=hx y hy
   show (y.map zr3).length<=63
   rw[zck9]
   exact this
  have s410:=s49.trans s10
  have M10:=M9.same s10
  have T10:=T4.same s410
  have V10:=V4.same s410
  obtain⟨tab10,et10⟩:=zai4 T10
  have cT10:Chg a_tab H3 H10:=cT4.same s410
  clear M9 s49 s48b s410 T4 V4 cT4
  refine zab7 SD.sh ok.1 (zcp4 ok.2.2 (by decide)) (fun hv H11 s11 V11 C11=>?_)
  clear V11
  obtain⟨hd,rsH,rfl,R11'⟩:=StAt.of_copy C11
  clear C11
  have R11:=R11'.same (ze3 _ _)
  have rn:∀ b∈rsH.map (·.1),H10 b=none:=fun b hb=>by
   obtain⟨r,hr1,rfl⟩:=zcm0.mp hb
   obtain⟨i,ei⟩:=zco7 hr1
   obtain⟨xs,ex⟩:∃ xs,xss[i]?=some xs:=⟨_,zcl0 (by have:=(zcl1.mp ei).1;have:=R11'.len;omega)⟩
   exact (zg4 (zj4 (R11'.row i r xs ei ex).out).2).1
  clear R11'
  have T11:=T10.same s11
  refine zk6 R11.sh ok.1 T11 (fun _=>⟨hx9,fun tl tsT ms2 J1 c1 T1 MT' nd A=>?_⟩) (fun z=>by rw[an] at z;cases z)
  rw[ho,zac7 O SI,zad5] at A
  obtain⟨O2,l2,n2,S2⟩:=zas0 O SI A.ap
  have l504:ms2.length<=504:=by have:=zy0 hx;omega
  have MT:=MT'.same (ze3 _ _)
  obtain⟨tab11,et11⟩:=zai4 T11
  have C1:Chg a_tab H10 J1:=fun b o n e=>c1 _ _ n (s11 _ _ e)
  have okM:=zat2 (n:=0) (ms:=ms2) (by rfl') fun x hx=>by have:=(O2.all x hx).2.1;omega
  have xlen2:∀ x∈ms2,x.1.length=f:=fun x hx=>(O2.all x hx).2.1
  refine zc9 (SD.tab et10 C1).out ?_
  rw[zck9,SD.len,xl]
  refine zap3 (SD.tab et10 C1).sh MT O2 hx (by rfl') n2 S2 hf8 (fun J2 s2=>?_)
  refine zc6 (br_T ?_)
  obtain⟨md2,fd2⟩:=zar2 O2 (by rfl') hf8
  refine zab0 (MT.same s2).sh okM.1 (fun _=>⟨⟨?_,?_⟩,fun tr rsR yss J3 s3 SR' SIR=>?_⟩) (fun z=>by rw[md2] at z;cases z)
  ·show (ms2.map zh3).length<=1000
   rw[zck9];omega
  ·rw[zam7,fd2];exact zak5 S2 hx
  rw[zam7,fd2] at SIR
  obtain rfl:=S2.unique SIR
  have s13:=s2.trans s3
  have C3:=C1.same s13
  refine zax6 (y:=.ref du) rfl (zr5 (SR'.same (ze3 _ _)).sh (SD.tab et10 C3).sh ok (by decide) ?_)
  refine br_F ?_
  have R1:=R11.tab et11 c1
  refine zbw6 (x:=.ref hd) (y:=.ref du) rfl rfl (zr5 (R1.same s13).sh (SD.tab et10 C3).sh ok (by decide) ?_)
  refine br_F ?_
  have M3:=M10.tab et10 C3
  obtain⟨t0',et0',at0',ht0',hp0'⟩:=M3.ix ex0
  have ml:=M3.len
  refine zaa6 (SqL.of M3.out) (fun p4 J4 f4 s4 k4=>?_)
  rw[zt2 (by rfl'),show ((1:Int)).toNat=1 by rfl,← List.map_drop] at k4
  refine za9 k4 ?_
  have M4:=M3.same s4
  refine zac6 (n:=((ts0.drop 1).map fun t=>V.ref t.1).length) (Wk.list (SqL.of k4)) (by rw[zck9,zcp5,zcx6];omega) (fun acc j ys σ I=>∃ (t u:Option V) (qs:List (Addr×Addr)),σ=[t,u]/\ys=(qs.map fun t=>V.ref t.1)/\qs.length=j/\∀ (k:Nat) q x,qs[k]?=some q->(ms.drop 1)[k]?=some x->rm acc I q.1=some (.tup [.ref q.2,.int (2*x.2)])/\rm acc I q.2=some (.lst (x.1.map V.int))) ?_ ?_ ?_ ?_
  ·intro acc I f1 s1 h1
   exact⟨none,none,[],rfl,rfl,rfl,fun k q x e=>by simp at e⟩
  ·rintro acc j ys σ I I' s' ⟨t,u,qs,r1,r2,r3,r5⟩
   exact⟨t,u,qs,r1,r2,r3,fun k q x e1 e2=>⟨Same.rm s' _ _ (r5 k q x e1 e2).1,Same.rm s' _ _ (r5 k q x e1 e2).2⟩⟩
  ·rintro acc j v ys σ I R S' hj facc s1 hacc hx3 ⟨t',u',qs,rfl,rfl,ql,qp⟩ kR _
   rw[zck9,zcp5] at hj
   rw[zcl2,zcs6] at hx3
   obtain⟨t,et,rfl⟩:=zcl6.mp hx3
   obtain⟨x,ex⟩:∃ x,ms[1+j]?=some x:=⟨_,zcl0 (by rfl')⟩
   obtain⟨e3,e4⟩:=M4.part (1+j) t x et ex
   have e3:=s1 _ _ e3
   have e4:=s1 _ _ e4
   refine zf1 e3 ?_
   refine br_T ?_
   refine zax9 (SqL.of e4) (fun pa Ia fa sa ha=>?_)
   refine zv3 (by decide) (by decide) ?_
   refine zd6 (fun pb Ib fb sb hb=>?_)
   ac_nf
   have na:pa≠acc:=Ne.symm (za7 hacc fa)
   have nb:pb≠acc:=Ne.symm (za7 (sa _ _ hacc) fb)
   refine kR _ _ _ (sa.trans sb) (fun I3 c3=>⟨_,_,qs++[(pb,pa)],rfl,by rw[zcn4];rfl,by rw[zcl8,ql];rfl,fun k q y g1 g2=>?_⟩)
   rcases zc5 g1 with ⟨a1,a2⟩|⟨a1,rfl⟩
   ·have w:=qp k q y a2 g2
    have up:Same (rm acc I) (rm acc I3):=(Same.rm (sa.trans sb)).trans (Chg.rm c3)
    exact⟨up _ _ w.1,up _ _ w.2⟩
   ·rw[zcs6,a1,ql,ex] at g2
    cases g2
    exact⟨Chg.rm c3 _ _ (zp5 nb hb),Chg.rm c3 _ _ (zp5 na (sb _ _ ha))⟩
  rintro acc ys σ J5 facc s5 hacc ⟨t',u',qs,rfl,rfl,ql,qp⟩
  rw[zck9,zcp5] at ql
  have M5:=M4.same s5
  have ht5:=s5 _ _ (s4 _ _ ht0')
  refine zb8 (v:=.ref t0'.1) M5.out at0' ?_
  refine zd2 (v:=.ref t0'.2) ht5 rfl ?_
  refine zb8 (v:=.ref t0'.1) M5.out at0' ?_
  refine zd2 (v:=.int x0.2) ht5 rfl ?_
  refine zd6 (fun p6 J6 f6 s6 k6=>?_)
  refine zd5 (fun p7 J7 f7 s7 k7=>?_)
  refine zbz3 k7 (by decide) (by decide) (by simp only[zcn6,zcq5];decide) (fun p8 J8 f8 s8 k8=>?_)
  have k8:J8 p8=some (.lst [.ref p6,.ref p6]):=k8
  have s58:=(s6.trans s7).trans s8
  refine zar7 (s58 _ _ hacc) k8 (by rw[zck9,zcx6];simp only[zcn6,zcq5];omega) (fun p9 J9 f9 s9 k9=>?_)
  have s59:=s58.trans s9
  have e1:ms.take 1=[x0]:=by
   cases ms with
   | nil=>cases ex0
   | cons y ms=>cases ex0;rfl
  have M9:zc0 J9 p9 (qs++[(p6,t0'.2),(p6,t0'.2)]) (zaa0 ms):=by
   have dl:(dblM (ms.drop 1)).length=ms.length - 1:=by unfold dblM;rw[zck9,zcp5]
   refine⟨by rw[k9,zcn4];rfl,by unfold zaa0;rw[zcl8,zcl8,dl,e1,ql];simp only[zcn6,zcq5,zcl8];omega,fun i t x g1 g2=>?_⟩
   unfold zaa0 at g2
   rw[e1] at g2
   by_cases hi:i<qs.length
   ·rw[zcn2 hi] at g1
    rw[zcn2 (by rfl')] at g2
    unfold dblM at g2
    rw[zcl2] at g2
    obtain⟨y,ey,rfl⟩:=zcl6.mp g2
    obtain⟨w1,w2⟩:=qp i t y g1 ey
    exact⟨s59 _ _ (zj4 w1).2,s59 _ _ (zj4 w2).2⟩
   ·rw[zcm9 (by rfl')] at g1
    rw[zcm9 (by rfl'),dl,show i - (ms.length - 1)=i - qs.length by rfl'] at g2
    have h6:J9 p6=some (.tup [.ref t0'.2,.int x0.2]):=s9 _ _ (s8 _ _ (s7 _ _ k6))
    have h0:J9 t0'.2=some (.lst (x0.1.map V.int)):=s59 _ _ (s5 _ _ (s4 _ _ hp0'))
    match i - qs.length,g1,g2 with
    | 0,g1,g2=>cases g1;cases g2;exact⟨h6,h0⟩
    | 1,g1,g2=>cases g1;cases g2;exact⟨h6,h0⟩
    | n+2,g1,g2=>simp at g1
  have s19:Same J1 J9:=((s13.trans s4).trans s5).trans s59
  clear M5 M4 M3 qp k9 k8 k7 k6 hacc k4 facc
  have C9:=C1.same s19
  have SD9:=SD.tab et10 C9
  have O3:=zay5 O
  have S3:=zbh8 O SI
  have hx2:∀ xs∈xss.map (scaR 2),xs.length<=63:=fun xs hxs=>by
   obtain⟨y,hy,rfl⟩:=zcm0.mp hxs
   unfold scaR
   rw[zck9]
   exact hx y hy
  have ok2:=zaf9 (xss:=xss.map (scaR 2)) (by rw[zck9];omega) hx2
  refine za9 SD9.out ?_
  refine zac6 (n:=(rsD.map fun r=>V.ref r.1).length) (Wk.list (SqL.of SD9.out)) (by rw[zck9,zcx6];have:=SD9.len;omega) (fun acc j ys σ I=>∃ t:Option V,σ=[t]/\ShL (rm acc I) ys (((xss.map (scaR 2)).map zd0).take j)) ?_ ?_ ?_ ?_
  ·intro acc I f1 s1 h1
   exact⟨none,rfl,.nil⟩
  ·rintro acc j ys σ I I' s' ⟨t,r1,r2⟩
   exact⟨t,r1,r2.same (Same.rm s')⟩
  ·rintro acc j v ys σ I R S' hj facc s1 hacc hx3 ⟨t',rfl,L⟩ kR _
   rw[zcl2] at hx3
   obtain⟨r,er,rfl⟩:=zcl6.mp hx3
   obtain⟨xs,ex⟩:∃ xs,xss[j]?=some xs:=⟨_,zcl0 (by have:=(zcl1.mp er).1;have:=SD9.len;omega)⟩
   have W:=((SD9.row j r xs er ex).same (zs7 _ _)).same s1
   have Wl:=W.len
   have xb:=hx xs (zcl4 ex)
   refine br_T ?_
   refine za9 W.out ?_
   refine zw7 (n:=(r.2.map V.ref).length) (Wk.list (SqL.of W.out)) (by rw[zck9,zcx6];omega) (fun i=>.tup [.int (xs.getD i (0,0,0)).1,.int (xs.getD i (0,0,0)).2.1,.int (2*(xs.getD i (0,0,0)).2.2)]) (fun j σ=>∃ t u w:Option V,σ=[t,u,w]) ⟨none,none,none,rfl⟩ ?_ ?_
   ·rintro i v σ I2 R2 S2' hi2 s2' hx5 ⟨_,_,_,rfl⟩ kk
    rw[zcl2] at hx5
    obtain⟨b,eb,rfl⟩:=zcl6.mp hx5
    obtain⟨y,ey⟩:∃ y,xs[i]?=some y:=⟨_,zcl0 (by have:=(zcl1.mp eb).1;omega)⟩
    rw[show xs.getD i (0,0,0)=y by rw[zcl3,ey];rfl] at kk
    refine zf1 (s2' _ _ (W.row i b y eb ey)) ?_
    refine br_T ?_
    refine zv3 (by decide) (by decide) ?_
    refine zd6 (fun p I5 f5 s5' k5=>?_)
    ac_nf
    exact kk _ _ _ f5 s5' k5 ⟨_,_,_,rfl⟩
   intro ac ps I6 F6
   rw[zck9] at F6
   have F6l:=F6.len
   have RW:RwAt I6 ac ps (scaR 2 xs):=⟨F6.out,by unfold scaR;rw[zck9];omega,fun i b x g1 g2=>by
    unfold scaR at g2
    rw[zcl2] at g2
    obtain⟨y,ey,rfl⟩:=zcl6.mp g2
    have:=(F6.row i b g1).2
    rw[show xs.getD i (0,0,0)=y by rw[zcl3,ey];rfl] at this
    exact this⟩
   have offA:∀ b,I b=none->b≠acc:=fun b fb z=>by rw[z,hacc] at fb;cases fb
   ac_nf
   refine kR _ _ _ F6.same (fun I7 c7=>⟨_,rfl,?_⟩)
   rw[zcv1,zcl2,zcl2,ex]
   refine zal0 (L.same ((Same.rm F6.same).trans (Chg.rm c7))) (.cons ?_ .nil)
   have RA:RwAt (rm acc I7) ac ps (scaR 2 xs):=⟨Chg.rm c7 _ _ (zp5 (offA _ F6.facc) RW.out),RW.len,fun i b x g1 g2=>Chg.rm c7 _ _ (zp5 (offA _ (F6.row i b g1).1) (RW.row i b x g1 g2))⟩
   exact RA.sh
  rintro db ys σ Ja fdb sa hdb ⟨t',rfl,Ld⟩
  have VD:ShV Ja (.ref db) (stmD (xss.map (scaR 2))):=by
   refine .lst hdb ?_
   have:=Ld.same (zs7 _ _)
   rw[zco9 (by rw[zck9,zck9,zck9];have:=SD9.len;omega)] at this
   exact this
  have s1a:=s19.trans sa
  have okP:=zat2 (n:=0) (ms:=zaa0 ms) (by have:=zaq1 ms;omega) fun x hx=>by have:=(O3.all x hx).2.1;omega
  obtain⟨md3,fd3⟩:=zar2 O3 (by rfl') hf8
  refine zab0 (M9.same sa).sh okP.1 (fun _=>⟨⟨?_,?_⟩,fun tr2 rsR2 zss Jb sb SR2' SIR2=>?_⟩) (fun z=>by rw[md3] at z;cases z)
  ·show ((zaa0 ms).map zh3).length<=1000
   rw[zck9];have:=zaq1 ms;omega
  ·rw[zam7,fd3];exact zak5 S3 hx2
  rw[zam7,fd3] at SIR2
  obtain rfl:=SIR2.unique S3
  refine zax6 (y:=.ref db) rfl (zr5 (SR2'.same (ze3 _ _)).sh (VD.same sb) ok2 (by decide) ?_)
  refine br_F ?_
  have s1b:=s1a.trans sb
  clear VD Ld hdb SR2' SR' M9
  have Cb:=C1.same s1b
  have Rb:=R1.same s1b
  refine zn7 Rb.sh ok.1 (fun _=>?_) (fun z=>by rw[an] at z;cases z)
  intro sr sps Jc sc LS' ndS nrS
  rw[ho,zcr3,zaq8 O SI] at LS'
  have LS:=LS'.same (ze3 _ _)
  have okS:okD 2 (shD ((List.range f).map fun k=>shK ms h k)):=zbl6 (by rw[zck9,zcn3];omega) fun e he=>by
   obtain⟨k,_,rfl⟩:=zcm0.mp he
   rw[zae7];omega
  have bd:∀ {ms:List (List Int×Int)},OkS ms h f->∀ x∈ms,x.1.length=f/\∀ n∈x.1,0<=n/\n<=h:=fun {ms} O x hx=>⟨(O.all x hx).2.1,fun n hn=>by
   obtain⟨nn,_,xs,_⟩:=O.all x hx
   have:=(zq4 nn).1 n hn
   exact⟨nn n hn,by rfl'⟩⟩
  have s1c:=s1b.trans sc
  refine zt5 ((M10.tab et10 (C1.same s1c))) O.ne (by rfl') (bd O) h40 hf8 (fun g2 qs2 Jd sd L2'=>?_)
  refine zr5 (LS.same sd).sh (L2'.same (ze3 _ _)).sh okS (by decide) ?_
  refine br_F ?_
  have s1d:=s1c.trans sd
  refine zt5 (MT.same s1d) O2.ne (by rfl') (bd O2) h40 hf8 (fun g3 qs3 Je se L3'=>?_)
  rw[shK_eq O SI O2 S2] at L3'
  have sce:=sd.trans se
  refine zr5 (LS.same sce).sh (L3'.same (ze3 _ _)).sh okS (by decide) ?_
  refine br_F ?_
  have s1e:=s1d.trans se
  refine zbw6 (x:=.ref hd) (y:=.ref du) rfl rfl (zr5 (R1.same s1e).sh (SD.tab et10 (C1.same s1e)).sh ok (by decide) ?_)
  refine br_F ?_
  clear L2' L3'
  refine zab7 (MT.same s1e).sh okM.1 (zcp4 okM.2.2 (by decide)) (fun kv Jf sf VK' CK=>?_)
  clear CK
  have s1f:=s1e.trans sf
  have MTf:=MT.same s1f
  refine za9 MTf.out ?_
  refine zk9 (Wk.list (SqL.of MTf.out)) (by rw[zck9,zcx6];have:=MT.len;omega) (fun i=>.ref (tsT.getD i (0,0)).2) (fun _=>true) (fun j σ=>∃ t u:Option V,σ=[t,u]) ⟨none,none,rfl⟩ ?_ ?_
  ·rintro i v σ I2 R2 S2' hi2 s2' hx5 ⟨_,_,rfl⟩ kk _
   obtain⟨t,y,rfl,et,ey,e3,e4⟩:=(MTf.same s2').elt hx5
   rw[show tsT.getD i (0,0)=t by rw[zcl3,et];rfl] at kk
   refine zf1 e3 ?_
   refine br_T ?_
   ac_nf
   exact kk rfl _ _ (Same.refl _) ⟨_,_,rfl⟩
  intro lp Jg flp sg klp
  have epl:((List.range (tsT.map fun t=>V.ref t.1).length).map fun i=>V.ref (tsT.getD i (0,0)).2)=(tsT.map (·.2)).map V.ref:=by
   rw[zck9,zcm6]
   apply zcp0
   intro i
   rw[zcl2,zcl2]
   by_cases hi2:i<tsT.length
   ·rw[zcp1 hi2,zcl0 hi2]
    show some (V.ref (tsT.getD i (0,0)).2)=_
    rw[zcl3,zcl0 hi2]
    rfl
   ·rw[zcn0 (by rw[zcn3];omega),zcn0 (by rfl')]
    rfl
  rw[ze7,epl] at klp
  have s1g:=s1f.trans sg
  have MTg:=MT.same s1g
  have mtl:=MT.len
  have inJ1:∀ b∈tsT.map (·.2),∃ xs,J1 b=some (.lst xs):=fun b hb=>by
   obtain⟨t,ht9,rfl⟩:=zcm0.mp hb
   obtain⟨i,ei⟩:=zco7 ht9
   obtain⟨y,ey⟩:∃ y,ms2[i]?=some y:=⟨_,zcl0 (by have:=(zcl1.mp ei).1;omega)⟩
   exact⟨_,(MT.part i t y ei ey).2⟩
  have newT:∀ b∈tsT.map (·.2),H11 b=none:=fun b hb=>by
   obtain⟨t,ht9,rfl⟩:=zcm0.mp hb
   obtain⟨i,ei⟩:=zco7 ht9
   obtain⟨y,ey⟩:∃ y,ms2[i]?=some y:=⟨_,zcl0 (by have:=(zcl1.mp ei).1;omega)⟩
   exact (zg4 (MT'.part i t y ei ey).2).1
  have nolp:lp ∉ tsT.map (·.2):=fun z=>by
   obtain⟨xs,e⟩:=inJ1 lp z
   rw[s1f _ _ e] at flp
   cases flp
  have LP:LsAt Jg lp (tsT.map (·.2)) (ms2.map (·.1)):=⟨klp,by rw[zck9,zck9];exact mtl,fun i p e g1 g2=>by
   rw[zcl2] at g1 g2
   obtain⟨t,et,rfl⟩:=zcl6.mp g1
   obtain⟨y,ey,rfl⟩:=zcl6.mp g2
   exact (MTg.part i t y et ey).2⟩
  refine zan7 f LP nd.2 nolp (by rw[zck9];exact O2.ne) (by rw[zck9];omega) (by rfl') (fun e he=>by
   obtain⟨y,hy,rfl⟩:=zcm0.mp he
   exact xlen2 y hy) (fun A1 cA LA=>?_)
  refine zc6 (br_T ?_)
  have MA1:=MTg.grown (fun x hx=>by rw[xlen2 x hx];exact hf1) cA LA
  have newS:∀ b∈sps,Jb b=none/\∃ xs,Jc b=some (.lst xs):=fun b hb=>by
   obtain⟨i,ei⟩:=zco7 hb
   obtain⟨e,ee⟩:∃ y,((List.range f).map fun k=>shK ms h k)[i]?=some y:=⟨_,zcl0 (by have:=(zcl1.mp ei).1;have:=LS.len;omega)⟩
   have:=zg4 (LS'.row i b e ei ee)
   exact⟨this.1,_,this.2⟩
  have apartTS:∀ {b:Addr}{o:HO},Jb b=none->Jc b=some o->b ∉ tsT.map (·.2):=fun {b o} e1 e2 z=>by
   obtain⟨xs,e⟩:=inJ1 b z
   rw[s1b _ _ e] at e1
   cases e1
  have scg:=(sce.trans sf).trans sg
  have LSA:LsAt A1 sr sps ((List.range f).map fun k=>shK ms h k):=⟨cA _ _ (apartTS (zg4 LS'.out).1 (zg4 LS'.out).2) (scg _ _ LS.out),LS.len,fun i p e g1 g2=>by
   have w:=zg4 (LS'.row i p e g1 g2)
   exact cA _ _ (apartTS w.1 w.2) (scg _ _ w.2)⟩
  refine zan7 (h+1) LSA ndS nrS (by rw[zck9,zcn3];omega) (by rw[zck9,zcn3];omega) (by rfl') (fun e he=>by
   obtain⟨k,_,rfl⟩:=zcm0.mp he
   exact zae7 _ _ _) (fun A2 cB LB=>?_)
  refine zc6 (br_T ?_)
  have MA2:zc0 A2 tl tsT (ms2.map up7):=MA1.cs (fun b hb=>(MT.same s1b).off (newS b hb).1) cB
  have TA2:zl3 a_tab 82 42 lamQ A2:=zbx1 (zbx1 (T1.same s1g) (fun b hb=>by obtain⟨xs,e⟩:=inJ1 b hb;exact⟨xs,s1g _ _ e⟩) cA) (fun b hb=>by
   obtain⟨n1,xs,e⟩:=newS b hb
   exact⟨xs,cA _ _ (apartTS n1 e) (scg _ _ e)⟩) cB
  have c11A:Chg a_tab H11 A2:=Cs.newc (Cs.newc (c1.same s1g) newT cA) (fun b hb=>by
   cases e:H11 b with
   | none=>rfl
   | some o=>
    have n1:=(newS b hb).1
    by_cases z:b=a_tab
    ·obtain⟨tb,et⟩:=zai4 (T1.same s1b)
     rw[z,et] at n1
     cases n1
    ·rw[s1b _ _ (c1 _ _ z e)] at n1
     cases n1) cB
  have VKA:ShV A2 kv (zp2 ms2):=VK'.same fun b o e=>by
   obtain⟨n1,e1⟩:=zg4 e
   have z1:b ∉ tsT.map (·.2):=fun z=>by
    obtain⟨xs,e⟩:=inJ1 b z
    rw[s1e _ _ e] at n1
    cases n1
   have z2:b ∉ sps:=fun z=>by
    obtain⟨_,xs,e⟩:=newS b z
    rw[sce _ _ e] at n1
    cases n1
   exact cB _ _ z2 (cA _ _ z1 (sg _ _ e1))
  clear cA cB LA LSA LP klp MA1 VK'
  have okU:=zat2 (n:=0) (ms:=ms2.map up7) (by rw[zck9];omega) fun x hx=>by
   obtain⟨y,hy,rfl⟩:=zcm0.mp hx
   show (y.1++[7]).length<=1000
   rw[zcl8,xlen2 y hy,zcs3]
   omega
  have okB:okD 2 (shD (((List.range f).map fun k=>shK ms h k).map app7)):=zbl6 (by rw[zck9,zck9,zcn3];omega) fun e he=>by
   obtain⟨w,hw,rfl⟩:=zcm0.mp he
   obtain⟨k,_,rfl⟩:=zcm0.mp hw
   show (shK ms h k++[7]).length<=1000
   rw[zcl8,zae7,zcs3]
   omega
  have okW:okD 4 (.list [zp2 (ms2.map up7),shD (((List.range f).map fun k=>shK ms h k).map app7)]):=okD.list (n:=3) (by show 2<=1000;decide) fun d hd=>by
   simp only[zcm1,zcq3,or_false] at hd
   rcases hd with rfl|rfl
   ·exact okU
   ·exact okB.up (by decide)
  refine zd5 (fun w1 B1 fb1 sB1 kw1=>?_)
  have VW:∀ {I:Hp}{w:Addr},Same A2 I->I w=some (.lst [.ref tl,.ref sr])->ShV I (.ref w) (.list [zp2 (ms2.map up7),shD (((List.range f).map fun k=>shK ms h k).map app7)]):=fun {I w} sI e=>.lst e (.cons (MA2.same sI).sh (.cons (LB.same sI).sh .nil))
  refine zab7 (VW sB1 kw1) okW.1 (zcp4 okW.2.2 (by decide)) (fun sv B2 sB2 VS CS=>?_)
  clear CS
  have VS2:=VS.same (ze3 _ _)
  have sA2:=sB1.trans sB2
  have cHB:Chg a_tab H11 B2:=c11A.same sA2
  have cXB:Chg a_tab H10 B2:=fun b o n e=>cHB _ _ n (s11 _ _ e)
  have TB2:=TA2.same sA2
  have hV2:ShV B2 lv d:=zah6 et10 cXB V10
  refine zk6 hV2 O4.1 TB2 (fun _=>⟨I4,fun p9 ts9 ms9 B3 c3 T3' _ _ _=>?_⟩) (fun z=>by rw[A4] at z;cases z)
  obtain⟨tB2,etB2⟩:=zai4 TB2
  have cXB3:Chg a_tab H10 B3:=cXB.trans c3
  refine zn7 (zah6 et10 cXB3 V10) O4.1 (fun _=>?_) (fun z=>by rw[A4] at z;cases z)
  intro sr4 sps4 B4 sB4 _ _ _
  have T4':=T3'.same sB4
  have c24:Chg a_tab B2 B4:=c3.same sB4
  have cHB4:Chg a_tab H11 B4:=cHB.trans c24
  have RB4:=R11.tab et11 cHB4
  refine zk6 RB4.sh ok.1 T4' (fun _=>⟨hx9,fun tl5 ts5 ms5 B5 c5 T5' M5' _ A5=>?_⟩) (fun z=>by rw[an] at z;cases z)
  rw[ho,zac7 O SI,zad5] at A5
  obtain rfl:=A5.unique A
  have c25:Chg a_tab B2 B5:=c24.trans c5
  have VK5:ShV B5 kv (zp2 ms5):=zah6 etB2 c25 (VKA.same sA2)
  refine zax6 (x:=.ref tl5) (y:=kv) rfl (zr5 (M5'.same (ze3 _ _)).sh VK5 okM (by decide) ?_)
  refine br_F ?_
  have TlA:zc0 B5 tl tsT (ms5.map up7):=(MA2.same sA2).tab etB2 c25
  have LB5:=(LB.same sA2).tab etB2 c25
  have VS5:=zah6 etB2 c25 VS2
  refine zd5 (fun w6 B6 fb6 sB6 kw6=>?_)
  have VW6:ShV B6 (.ref w6) (.list [zp2 (ms5.map up7),shD (((List.range f).map fun k=>shK ms h k).map app7)]):=.lst kw6 (.cons (TlA.same sB6).sh (.cons (LB5.same sB6).sh .nil))
  refine zax6 (y:=sv) rfl (zr5 VW6 (VS5.same sB6) okW (by decide) ?_)
  refine br_F ?_
  have cHB6:Chg a_tab H11 B6:=(cHB.trans c25).same sB6
  have RB6:=R11.tab et11 cHB6
  refine zn7 RB6.sh ok.1 (fun _=>?_) (fun z=>by rw[an] at z;cases z)
  intro sr7 sps7 B7 sB7 LS7 _ _
  rw[ho,zcr3,zaq8 O SI] at LS7
  have cHB7:Chg a_tab H11 B7:=cHB6.same sB7
  have cXB7:Chg a_tab H10 B7:=fun b o n e=>cHB7 _ _ n (s11 _ _ e)
  refine zt5 (M10.tab et10 cXB7) O.ne (by rfl') (bd O) h40 hf8 (fun g8 qs8 B8 sB8 L8=>?_)
  refine zr5 ((LS7.same (ze3 _ _)).same sB8).sh (L8.same (ze3 _ _)).sh okS (by decide) ?_
  refine br_F ?_
  have cHB8:Chg a_tab H11 B8:=cHB7.same sB8
  have cXB8:Chg a_tab H10 B8:=cXB7.same sB8
  have T8:=(T5'.same sB6).same (sB7.trans sB8)
  refine zat7 (H0:=rm a_tab H10) (R11.tab et11 cHB8) (M10.tab et10 fun b o n e=>zp5 n e) (fun b o e=>cXB8 _ _ (zj4 e).1 (zj4 e).2) (fun b hb=>by unfold rm;rw[rn b hb];split<;>rfl) O SI hx h40 hf8 (by rfl') T8 (fun D cD TD=>?_)
  refine zc6 (br_T ?_)
  have cXD:Chg a_tab H10 D:=fun b o n e=>cD _ _ n (fun z=>by rw[rn b z] at e;cases e) (cXB8 _ _ n e)
  ac_nf
  exact⟨_,stmD xss,_,_,_,_,_,_,_,_,_,_,_,_,rfl,cT10.trans cXD,TD,(SD.tab et10 cXD).sh,ok,an,hx9⟩
 ·rintro σ H4 ⟨_,_,_,_,_,_,_,_,_,_,_,_,_,_,rfl,_⟩
  exact k H4
end
abbrev FA(K:zcl5)(x:Str)(st:Stmt):Prop:=∃ (f:Addr) (od an:Option Addr) (sl:Array (Option Value)) (oc kV dc pm cd ct:Value),zcq4 K zcx8 x=some (some (.ref f))/\K.lookup f=some ⟨oc,od,.func (zcs2 x x (zo2 st) (zk1 st) (za5 st) .none kV dc pm an cd ct),sl⟩/\PySem.W.codeIn K cd x=true/\zcu4 K (.ref f)=true
theorem FA.of{K:zcl5}{x:Str}{st:Stmt}{f:Addr}{od an:Option Addr}{sl:Array (Option Value)}{oc kV dc pm cd ct:Value}(a:zcq4 K zcx8 x=some (some (.ref f)))(l:K.lookup f=some ⟨oc,od,.func (zcs2 x x (zo2 st) (zk1 st) (za5 st) .none kV dc pm an cd ct),sl⟩)(c:PySem.W.codeIn K cd x=true)(k:zcu4 K (.ref f)=true):FA K x st:=⟨_,_,_,_,_,_,_,_,_,_,a,l,c,k⟩
structure Ev(P:Program)(w:World)(K:zcl5)(mg:Str->Option Value)(base h:Heap):Prop where
 x:K.In h
 g:h.Ns zcx8 mg
theorem zca1:∀ {ps:List Str}{us:List Value},us.length=ps.length->∀ n∈ps,((ps.zip us).lookup n).isSome=true
 | p :: ps,u :: us,h,n,hn=>by
  rw[List.zip_cons_cons,zco3]
  by_cases e:n=p
  ·rw[e,beq_self_eq_true];rfl
  ·rw[beq_eq_false_iff_ne.mpr e]
   exact zca1 (by simpa using h) n (by rcases zcm1.mp hn with z|z;exact absurd z e;exact z)
theorem zbw4:∀ {ps:List Str}{us:List Value},ps.Nodup->us.length=ps.length->∀ S:List (Str×Value),(∀ n∈ps,S.lookup n=(ps.zip us).lookup n)->ps.filterMap (fun n=>(S.lookup n).map (n,·))=ps.zip us
 | [],us,_,h,S,_=>by simp
 | p :: ps,u :: us,d,h,S,hS=>by
  have e:S.lookup p=some u:=by rw[hS p zcq2,List.zip_cons_cons,zco3,beq_self_eq_true]
  rw[List.filterMap_cons,e]
  have ih:=zbw4 (ps:=ps) (us:=us) (zcr2.mp d).2 (by simpa using h) S fun n hn=>by
   have q:(n==p)=false:=beq_eq_false_iff_ne.mpr fun (z:n=p)=>(zcr2.mp d).1 (z▸hn)
   rw[hS n (zcp7 _ hn),List.zip_cons_cons,zco3,q]
  rw[ih];rfl
theorem bd_any{x:Str}{A:Arguments}{B:List Stmt}{S:Scope}{ps:List Str}{kV doc pm:Value}{an:Option Addr}{cdv ct:Value}{us:List Value}(hA:A={ posonlyargs:=[],args:=A.args,vararg:=none,kwonlyargs:=[],kw_defaults:=[],kwarg:=none,defaults:=[] })(hp:A.args.map (·.arg)=ps)(d:ps.Nodup)(h:us.length=ps.length) :
  bindArgs (zcs2 x x A B S .none kV doc pm an cdv ct) ⟨us,[]⟩=pure (ps.zip us):=by
 obtain⟨a1,a2,a3,a4,a5,a6,a7⟩:=A
 cases hA
 subst hp
 have m:∀ l:List Str,(∀ n∈l,n∈a2.map (·.arg))->l.filter (fun n=>(((a2.map (·.arg)).zip us).lookup n).isNone)=[]:=fun l hl=>zcv7.mpr fun n hn=>by
  have:=zca1 h n (hl n hn)
  rw[Option.isNone_iff_eq_none]
  intro z;rw[z] at this;cases this
 have hl:us.length=a2.length:=by simpa using h
 have f:=zbw4 d h ((a2.map (·.arg)).zip us) fun _ _=>rfl
 have e:(zcs2 x x { posonlyargs:=[],args:=a2,vararg:=none,kwonlyargs:=[],kw_defaults:=[],kwarg:=none,defaults:=[] } B S .none kV doc pm an cdv ct).params={ posonlyargs:=[],args:=a2,vararg:=none,kwonlyargs:=[],kw_defaults:=[],kwarg:=none,defaults:=[] }:=rfl
 have e2:(zcs2 x x { posonlyargs:=[],args:=a2,vararg:=none,kwonlyargs:=[],kw_defaults:=[],kwarg:=none,defaults:=[] } B S .none kV doc pm an cdv ct).defaults=.none:=rfl
 unfold bindArgs
 rw[e,e2]
 have e3:seqItems? (.none:Value)=pure none:=rfl
 rw[e3]
 simp only[zcu5,List.nil_append,zcr6,zck9,hl,pure_bind,Option.getD_none]
 simp only[List.forIn_nil,pure_bind]
 rw[if_neg (by simp)]
 simp only[List.drop_nil,zcq5,Nat.sub_zero,zco9 (zcx2 (zck9 _))]
 rw[m _ (fun _ h=>h),if_neg (by simp),zcv4 (zcx2 (zck9 _)),List.zip_nil_left]
 simp only[List.forIn_nil,pure_bind,List.isEmpty_nil,Bool.not_true,zcs0,if_false]
 exact congrArg pure f
local macro_rules | `(tactic| walk_at "bd")=>`(tactic| (intro _ _ _ _ _ _ us hl;exact bd_any rfl rfl (by decide) hl))
section
variable {P:Program}{w:World}{K:zcl5}{mg:Str->Option Value}{base h:Heap}{CX:CXT}{k:Nat}{x:Str}{ps:List Str}{sp:Sp}{st:Stmt}
theorem Ev.r(E:Ev P w K mg base h)(A:FA K x st)(ok:∀ {f:Addr}{fd:FuncData},Fun K x x st f fd->mg x=some (.ref f)->zcu4 K (.ref f)=true->zan8 K fd ps []->FnOk P w K mg base CX k f fd ps sp)(b:∀ (kV doc pm:Value) (an:Option Addr) (cdv ct:Value) (us:List Value),us.length=ps.length->bindArgs (zcs2 x x (zo2 st) (zk1 st) (za5 st) .none kV doc pm an cdv ct) ⟨us,[]⟩=pure (ps.zip us):=by walk_at "bd"):Def P w K mg base CX k x ps sp:=by
 obtain⟨f,od,an,sl,oc,kV,dc,pm,cd,ct,a,l,c,k⟩:=A
 have F:=zbg8 (st:=st) l c k
 have a:=zcv8 E.x E.g a
 exact⟨⟨_,_,ok F a k (F.binds b),a,k,F.binds b⟩⟩
theorem Ev.d(E:Ev P w K mg base h)(A:FA K x st)(ok:∀ {f:Addr}{fd:FuncData},Fun K x x st f fd->FnOk P w K mg base CX k f fd ps sp)(b:∀ (kV doc pm:Value) (an:Option Addr) (cdv ct:Value) (us:List Value),us.length=ps.length->bindArgs (zcs2 x x (zo2 st) (zk1 st) (za5 st) .none kV doc pm an cdv ct) ⟨us,[]⟩=pure (ps.zip us):=by walk_at "bd"):Def P w K mg base CX k x ps sp:=E.r A (fun F _ _ _=>ok F) b
theorem Ev.dc{c T:Addr}(E:Ev P w K mg base h)(A:FA K x st)(hT:zcw8 K x=some (c,T))(ok:∀ {f:Addr}{fd:FuncData},Fun K x x st f fd->fd.code=.ref c->FnOk P w K mg base CX k f fd ps sp)(b:∀ (kV doc pm:Value) (an:Option Addr) (cdv ct:Value) (us:List Value),us.length=ps.length->bindArgs (zcs2 x x (zo2 st) (zk1 st) (za5 st) .none kV doc pm an cdv ct) ⟨us,[]⟩=pure (ps.zip us):=by walk_at "bd"):Def P w K mg base CX k x ps sp:=by
 obtain⟨f,od,an,sl,oc,kV,dc,pm,cd,ct,a,l,c,k⟩:=A
 have F:=zbg8 (st:=st) l c k
 have e:cd=.ref _:=zbu1 hT a l
 have a:=zcv8 E.x E.g a
 exact⟨⟨_,_,ok F e,a,k,F.binds b⟩⟩
end
theorem all_mk{l:PySem.W.OpenLaw}{w:World}{K:zcl5}{h:Heap}{mg:Str->Option Value}{fa:Addr}(X:K.In h)(G:h.Ns zcx8 mg)(hfa:mg "law"=some (.ref fa)){zci3:Tok}{zci0:Tok}{zcg3:Addr}{zck4:ClassData}{zcg2:Addr}{zck8:ClassData}{zcg1:Addr}{zck7:ClassData}{a_cod a_tab:Addr}(e_MOST_HOSTS:zcq4 K zcx8 "MOST_HOSTS"=some (some (.int 40 zci3)))(e_MOST_FIELDS:zcq4 K zcx8 "MOST_FIELDS"=some (some (.int 8 zci0)))(A_0:FA K "is_whole" zz2)(A_1:FA K "is_from" zac9)(A_2:FA K "is_between" zr6)(A_3:FA K "sends_hosts" zp8)(A_4:FA K "is_plan" zad6)(A_5:FA K "is_size" zae5)(A_6:FA K "is_part" zae4)(A_7:FA K "is_mix" zak4)(A_8:FA K "look_mix" zy3)(A_9:FA K "is_flow" zae3)(A_10:FA K "is_row" zal2)(A_11:FA K "begins" zal4)(A_12:FA K "summed" zal7)(A_13:FA K "meets" zav8)(A_14:FA K "is_stream" zv5)(A_15:FA K "hosts_in" zaa4)(A_16:FA K "is_any_stream" zn4)(A_17:FA K "look_stream" zq0)(A_18:FA K "whole_in" zy9)(A_19:FA K "row_of" zal5)(A_20:FA K "stream_of" zu7)(A_21:FA K "sent_on" zad9)(A_22:FA K "taken_apart" zq2)(A_23:FA K "row_shares" zr4)(A_24:FA K "shares_of" zv4)(A_25:FA K "_law_mix" zz8)(A_26:FA K "_law_cell_at" zo3)(A_27:FA K "_law_left" zv6)(A_28:FA K "_law_draw" zu9)(A_29:FA K "_law_plan" zu8)(A_30:FA K "_law_lot" zy5)(A_31:FA K "_law_flows" zs0)(A_32:FA K "_law_deep" zu6)(A_33:FA K "_law_whole" zs9)(A_34:FA K "_law_is_right" zm9)(A_35:FA K "_law_shares" zp9)(A_36:FA K "_law_apart" zs3)(A_37:FA K "_law_asked_changed" zh2)(A_38:FA K "law" zat8)(z_all:zcq4 K zcx8 "all"=some none)(z_bool:zcq4 K zcx8 "bool"=some none)(z_int:zcq4 K zcx8 "int"=some none)(z_isinstance:zcq4 K zcx8 "isinstance"=some none)(z_len:zcq4 K zcx8 "len"=some none)(z_list:zcq4 K zcx8 "list"=some none)(z_min:zcq4 K zcx8 "min"=some none)(z_range:zcq4 K zcx8 "range"=some none)(z_set:zcq4 K zcx8 "set"=some none)(z_sorted:zcq4 K zcx8 "sorted"=some none)(z_sum:zcq4 K zcx8 "sum"=some none)(z_tuple:zcq4 K zcx8 "tuple"=some none)(z_zip:zcq4 K zcx8 "zip"=some none)(e_HostError:zcq4 K zcx8 "HostError"=some (some (.ref zcg3)))(kk_HostError:PySem.W.clsIn K zcg3=some zck4)(tt_HostError:PySem.W.typeIn K (.ref zcg3)=some (.type "type"))(nn_HostError:zcr5 K (.type "NoneType") (.ref zcg3)=some false)(e_NoMix:zcq4 K zcx8 "NoMix"=some (some (.ref zcg2)))(kk_NoMix:PySem.W.clsIn K zcg2=some zck8)(tt_NoMix:PySem.W.typeIn K (.ref zcg2)=some (.type "type"))(nn_NoMix:zcr5 K (.type "NoneType") (.ref zcg2)=some false)(e_NoStream:zcq4 K zcx8 "NoStream"=some (some (.ref zcg1)))(kk_NoStream:PySem.W.clsIn K zcg1=some zck7)(tt_NoStream:PySem.W.typeIn K (.ref zcg1)=some (.type "type"))(nn_NoStream:zcr5 K (.type "NoneType") (.ref zcg1)=some false)(bb_HostError:zcr5 K (.ref zcg3) (.type "BaseException")=some true)(x_NoMix:PySem.W.excIn K zcg2 bmV newV=true)(f1_NoMix:zcs7 K (.ref zcg2) "__getattribute__"=some (some (.builtin "BaseException.__getattribute__")))(f2_NoMix:zcs7 K (.ref zcg2) "__getattr__"=some none)(f3_NoMix:zcs7 K (.ref zcg2) "__class__"=some (some (.builtin "object.__class__")))(f4_NoMix:zcr5 K (.ref zcg2) (.type "BaseException")=some true)(f5_NoMix:PySem.W.mroIn K zcg2 (.type "object")=some true)(f6_NoMix:zcr5 K (.ref zcg2) (.type "ValueError")=some true)(s_NoMix_HostError:zcr5 K (.ref zcg2) (.ref zcg3)=some true)(s_NoMix_NoMix:zcr5 K (.ref zcg2) (.ref zcg2)=some true)(s_NoMix_NoStream:zcr5 K (.ref zcg2) (.ref zcg1)=some false)(x_NoStream:PySem.W.excIn K zcg1 bmV newV=true)(f1_NoStream:zcs7 K (.ref zcg1) "__getattribute__"=some (some (.builtin "BaseException.__getattribute__")))(f2_NoStream:zcs7 K (.ref zcg1) "__getattr__"=some none)(f3_NoStream:zcs7 K (.ref zcg1) "__class__"=some (some (.builtin "object.__class__")))(f4_NoStream:zcr5 K (.ref zcg1) (.type "BaseException")=some true)(f5_NoStream:PySem.W.mroIn K zcg1 (.type "object")=some true)(f6_NoStream:zcr5 K (.ref zcg1) (.type "ValueError")=some true)(s_NoStream_HostError:zcr5 K (.ref zcg1) (.ref zcg3)=some true)(s_NoStream_NoMix:zcr5 K (.ref zcg1) (.ref zcg2)=some false)(s_NoStream_NoStream:zcr5 K (.ref zcg1) (.ref zcg1)=some true)(hTAB:zcw8 K "taken_apart"=some (a_cod,a_tab)) :
  ∃ (c T:Addr) (fd:FuncData),zcw8 K "taken_apart"=some (c,T)/\(∀ (s:Shared) (v:Value),BindsTo s fd ⟨[v],[]⟩ [("_law_script",v)])/\∀ base:Heap,K.In base->base.Ns zcx8 mg->PySem.W.CodeHd base c T->Bm mg base->FnOk l.prog w K mg base CX0 12 fa fd ["_law_script"] (zba7 K T):=by
 obtain⟨_,_,an,_,_,kV,dc,pm,cd,ct,aL,lL,cL,kL⟩:=A_38
 have e:=hfa.symm.trans (zcv8 X G aL)
 cases e
 have N:Nm mg:=⟨zcq0 X G z_all,zcq0 X G z_bool,zcq0 X G z_int,zcq0 X G z_isinstance,zcq0 X G z_len,zcq0 X G z_list,zcq0 X G z_min,zcq0 X G z_range,zcq0 X G z_set,zcq0 X G z_sorted,zcq0 X G z_sum,zcq0 X G z_tuple,zcq0 X G z_zip⟩
 have zck5:=zcv8 X G e_MOST_HOSTS
 have zck3:=zcv8 X G e_MOST_FIELDS
 refine⟨a_cod,a_tab,zcs2 "law" "law" (zo2 zat8) (zk1 zat8) (za5 zat8) .none kV dc pm an cd ct,hTAB,fun s v=>.of_eq rfl,fun base XB GB hCH hBM=>?_⟩
 have E:Ev l.prog w K mg base h:=⟨X,G⟩
 have Z:Cz K mg base zcg3 zcg2 zcg1:=⟨zcv8 X G e_HostError,zcv8 X G e_NoMix,zcv8 X G e_NoStream,zaz5 XB GB e_NoMix x_NoMix,⟨f1_NoMix,f2_NoMix,f3_NoMix,f4_NoMix,f5_NoMix⟩,by rw[kk_NoMix];rfl,zbq1 bb_HostError kk_HostError tt_HostError s_NoMix_HostError,zt9 f6_NoMix,zz0 kk_HostError tt_HostError s_NoMix_HostError s_NoMix_NoMix,zz0 kk_NoMix tt_NoMix s_NoMix_NoMix s_NoMix_NoMix,zz0 kk_NoStream tt_NoStream s_NoMix_NoStream s_NoMix_NoMix,zaz5 XB GB e_NoStream x_NoStream,⟨f1_NoStream,f2_NoStream,f3_NoStream,f4_NoStream,f5_NoStream⟩,by rw[kk_NoStream];rfl,zbq1 bb_HostError kk_HostError tt_HostError s_NoStream_HostError,zt9 f6_NoStream,zz0 kk_HostError tt_HostError s_NoStream_HostError s_NoStream_NoStream,zz0 kk_NoMix tt_NoMix s_NoStream_NoMix s_NoStream_NoStream,zz0 kk_NoStream tt_NoStream s_NoStream_NoStream s_NoStream_NoStream,zai9 kk_HostError tt_HostError nn_HostError,zai9 kk_NoMix tt_NoMix nn_NoMix,zai9 kk_NoStream tt_NoStream nn_NoStream⟩
 have zcj3:=E.d A_0 fun F=>zau7 F N
 have zcg8:=E.d A_1 fun F=>zbb4 F N zcj3
 have zch1:=E.d A_2 fun F=>zal6 F N zcg8
 have zch3:=E.d A_3 fun F=>zag4 F N zcg8
 have zcj8:=E.d A_4 fun F=>zbd9 F N zch3
 have zci2:=E.d A_5 fun F=>zbf2 F N zck3 zck5 zch1
 have zcj7:=E.d A_6 fun F=>zbc4 F N zcg8 zch3
 have zck1:=E.d A_7 fun F=>zbk9 F N zcj7 zcj8 zci2
 have zcj4:=E.d A_8 fun F=>zaw8 F N zck1 Z
 have zcj9:=E.d A_9 fun F=>zbb8 F N zch1 zcg8
 have zci7:=E.d A_10 fun F=>zbi3 F N zcj9
 have zci8:=E.d A_11 fun F=>zbl3 F N zci7
 have zch7:=E.d A_12 fun F=>zbk4 F N
 have zck6:=E.d A_13 fun F=>zbs6 F N zch7
 have zcj0:=E.d A_14 fun F=>zat0 F N zci8 zci7 zck6
 have zch0:=E.d A_15 fun F=>zat5 F N
 have zch8:=E.d A_16 fun F=>zab6 F N zci8 zch0 zci2 zcj0
 have zch4:=E.d A_17 fun F=>zag6 F N zch8 Z
 have zcj5:=E.d A_18 fun F=>zau8 F N
 have zck2:=E.d A_19 fun F=>zbp1 F N zch7
 have zci4:=E.d A_20 fun F=>zaq6 F N zcj4 zck2
 have zck0:=E.d A_21 fun F=>zbd2 F N
 have zcg7:=E.dc A_22 hTAB fun F hc=>zag5 F N hc hCH hBM zch0 zch4 zck0 zcj5
 have zci5:=E.d A_23 fun F=>zal3 F N zch7
 have zch2:=E.d A_24 fun F=>zan3 F N zch0 zch4 zci5
 have zci9:=E.d A_25 fun F=>zav3 F N
 have zci1:=E.d A_26 fun F=>zae2 F N
 have zcj2:=E.d A_27 fun F=>zao9 F N zci1
 have zcg4:=E.d A_28 fun F=>zan1 F N zci9
 have zcj1:=E.d A_29 fun F=>zao8 F N zcg4
 have zcj6:=E.d A_30 fun F=>zaw9 F N zcg4 zcj1
 have zch6:=E.d A_31 fun F=>zaj7 F N
 have zcg5:=E.r A_32 fun F a b c=>zaq3 F N a b c
 have zci6:=E.d A_33 fun F=>zam5 F N
 have zcg9:=E.d A_34 fun F=>zab3 F N zch6 zci6
 have zcg6:=E.d A_35 fun F=>zag9 F N
 have zch9:=E.d A_36 fun F=>zam2 F N
 have zch5:=E.d A_37 fun F=>zs8 F N zcg5 zcg9 zcg6 zch2 zcg7
 exact ok_law (P:=l.prog) (w:=w) (base:=base) (zbg8 (st:=zat8) lL cL kL) N zch9 zch5 zcg5 zcg4 zch6 zcg9 zcj2 zcj6 zcg6 zch2 zci4 zcg7
theorem walk{l:PySem.W.OpenLaw}{q:Program}{loose:List Str}{XP:(Str->Option Value)->Heap->Prop}{YP:World->Heap->Prop}{d:DefRec}{K:Params->zcl5}(hn:l.most=some 63)(hdf:d.params.defaults=[])(hY:∀ (w:World) (h:Heap),YP w h->(K w.params).In h){d9:DefRec}(hnt:∀ w:World,PySem.W.noTabs (K w.params)=true)(hrec:(PyProof.Rows.recsOf q).find? (fun e=>e.name==Str.ofString "taken_apart")=some d9)(F:∀ (w:World) (mg:Str->Option Value) (fa:Addr) (h:Heap),(K w.params).In h->h.Ns zcx8 mg->mg d.name=some (.ref fa) ->
   ∃ (c T:Addr) (fd:FuncData),zcw8 (K w.params) (Str.ofString "taken_apart")=some (c,T)/\(∀ (s:Shared) (u:Value),BindsTo s fd ⟨[u],[]⟩ [("_law_script",u)])/\∀ base:Heap,(K w.params).In base->base.Ns zcx8 mg->PySem.W.CodeHd base c T->Bm mg base->FnOk l.prog w (K w.params) mg base CX0 12 fa fd ["_law_script"] (zba7 (K w.params) T)) :
  PySem.W.WalkO q loose XP YP l.row.toRowW d [] (fun f vs=>PySem.call f vs):=
 L2.walk_ofT (n:=63) (k:=12) (x:="_law_script") (CX:=fun _=>CX0) (sp:=fun w T=>zba7 (K w.params) T) hn (by decide) hdf ⟨rfl,by decide,by decide,rfl⟩ hY "taken_apart" hnt hrec F (fun _ _ _ a ns hl hT hS=>⟨a,ns,rfl,hS,hl,hT,fun _=>rfl⟩) fun _ _ _ _ _ z=>z
end G
structure PySem.W.Fast:Prop where
 (tw12439705253385764963 tw1062747544096678123 tw18213615106057855426 tw2350508741241799989 tw3678003526709146840 tw5057350096098706790 tw6282500393795710730 tw2384883000435980999 tw7739180945222557050 tw2759129656029788268 tw7462346542910704256 tw1762665915393860051 tw13450068051758117125 tw6888500314986079812 tw13808296336660340587 tw4464521004356635754 tw14614515380556319347 tw17426421544797302166 tw10690302721207022942 tw14812193694422955304 tw3897426719205162862 tw4464918665013587151 tw2516455893334149134 tw9871713780579348951 tw14355903173195260066 tw9761013970900125294 tw746594592057526611 tw11416329244044022954 tw456315089069923879 tw16552178481513979185 tw8384224274615073857 tw944331562721561800 tw10470906736812344308 tw11433688479108588999 tw16701996567830271083 tw11541893105787982428 tw2582024967410720850 tw3017412113440041134 tw10063554268214707298 tw6247870539211633709 tw11183342749035706817 tw8276270037617923720 tw12160345863939106164 tw2111134188534333259 tw17487894186837221789 tw12271055090149274992 tw6564537141530602353 tw11977087873362502029 tw15002401711692834829 tw17199982652762476084 tw16651930361590264396 tw4853230526308430402 tw8109085903108537971 tw6904922813347985750 tw13653212503137352448 tw7127875905936086177 tw9169087129361975158 tw4443236192494669039 tw2427273467712232829 tw5664046033154369491 tw11802690052138719240 tw4353386682689814095 tw12108993635460617246 tw15026361013497113428 tw1628648544479134992 tw6009698498963756989 tw12217118890371617745 tw5228100792805155150 tw14616761289030124368 tw10148060520167840266 tw9412601027420914566 tw15408635286801858926 tw9355920053735153149 tw2293203342830940524 tw16408837528679934659 tw14726654188226253738 tw2201931653967017000 tw6712177419490681948 tw16230140130835519299 tw3411466020871443083 tw9863553829022768658 tw11253548378037694398 tw11003475347214920321 tw18439679246661746816 tw11652760332864113992 tw16034108069958689730 tw10533673611139182693 tw6796745276468056864 tw15464193922210723316 tw9286045740423222862 tw5354335626565395378 tw13567171721668042400 tw8724311027407395839 tw3369904094734761220 tw6221445084786925550 tw11842950012681096533 tw14906064776835914079 tw11512572133025372358 tw6221172872404071356 tw10148901920800979547 tw13166819657959340661 tw12675283421869563513 tw11010693714855428131 tw313597911244640127 tw13124967860678272123 tw9041959306557703924 tw17062942857240497340 tw18095400990867593857 tw10416580534522501594 tw12678486227339080563 tw4896479235018531627 tw16146555715820209850 tw11417487100342647523 tw5536891492509804592 tw1225010699841844404 tw12659067220187500733 tw7550558605599434285 tw5684321182618860167 tw18023250175526972679:True)
open PySem PySem.W PyProof.Rows
set_option maxRecDepth 100000 in
theorem PySem.Challenge.cw_hostfields_k22_whole_streams_taken_apart_holds : PySem.Challenge.rw_hostfields_k22_whole_streams_taken_apart.Holds := by
 w_on;o_law;k_head;(case hw=>w_witness2)
 k_fill
 first|refine' G.walk (l:=PySem.Challenge.rw_hostfields_k22_whole_streams_taken_apart) rfl rfl (fun w h Y=>PySem.W.kIn_of Y) ?hnt ?hrec ?F|refine' G.walk (l:=PySem.Challenge.rw_hostfields_k22_whole_streams_taken_apart) rfl rfl (fun w h Y=>PySem.W.km_in_of Y) ?hnt ?hrec ?F
 (case hnt=>intro w;kernel_rfl)
 (case hrec=>rfl)
 case F=>
  intro w mg fa h KX GG hmg
  refine' G.all_mk (a_cod:=188) (a_tab:=184) KX GG hmg ?e_MOST_HOSTS ?e_MOST_FIELDS ?_ ?_ ?_ ?_ ?_ ?_ ?_ ?_ ?_ ?_ ?_ ?_ ?_ ?_ ?_ ?_ ?_ ?_ ?_ ?_ ?_ ?_ ?_ ?_ ?_ ?_ ?_ ?_ ?_ ?_ ?_ ?_ ?_ ?_ ?_ ?_ ?_ ?_ ?_ ?z_all ?z_bool ?z_int ?z_isinstance ?z_len ?z_list ?z_min ?z_range ?z_set ?z_sorted ?z_sum ?z_tuple ?z_zip ?e_HostError ?kk_HostError ?tt_HostError ?nn_HostError ?e_NoMix ?kk_NoMix ?tt_NoMix ?nn_NoMix ?e_NoStream ?kk_NoStream ?tt_NoStream ?nn_NoStream ?bb_HostError ?x_NoMix ?f1_NoMix ?f2_NoMix ?f3_NoMix ?f4_NoMix ?f5_NoMix ?f6_NoMix ?s_NoMix_HostError ?s_NoMix_NoMix ?s_NoMix_NoStream ?x_NoStream ?f1_NoStream ?f2_NoStream ?f3_NoStream ?f4_NoStream ?f5_NoStream ?f6_NoStream ?s_NoStream_HostError ?s_NoStream_NoMix ?s_NoStream_NoStream ?hTAB
  (case e_MOST_HOSTS=>k_is)
  (case e_MOST_FIELDS=>k_is)
  (case z_all=>k_is)
  (case z_bool=>k_is)
  (case z_int=>k_is)
  (case z_isinstance=>k_is)
  (case z_len=>k_is)
  (case z_list=>k_is)
  (case z_min=>k_is)
  (case z_range=>k_is)
  (case z_set=>k_is)
  (case z_sorted=>k_is)
  (case z_sum=>k_is)
  (case z_tuple=>k_is)
  (case z_zip=>k_is)
  (case e_HostError=>k_is)
  (case kk_HostError=>k_is)
  (case tt_HostError=>k_is)
  (case nn_HostError=>k_is)
  (case e_NoMix=>k_is)
  (case kk_NoMix=>k_is)
  (case tt_NoMix=>k_is)
  (case nn_NoMix=>k_is)
  (case e_NoStream=>k_is)
  (case kk_NoStream=>k_is)
  (case tt_NoStream=>k_is)
  (case nn_NoStream=>k_is)
  (case bb_HostError=>k_is)
  (case x_NoMix=>k_exc)
  (case f1_NoMix=>k_is)
  (case f2_NoMix=>k_is)
  (case f3_NoMix=>k_is)
  (case f4_NoMix=>k_is)
  (case f5_NoMix=>k_is)
  (case f6_NoMix=>k_is)
  (case s_NoMix_HostError=>k_is)
  (case s_NoMix_NoMix=>k_is)
  (case s_NoMix_NoStream=>k_is)
  (case x_NoStream=>k_exc)
  (case f1_NoStream=>k_is)
  (case f2_NoStream=>k_is)
  (case f3_NoStream=>k_is)
  (case f4_NoStream=>k_is)
  (case f5_NoStream=>k_is)
  (case f6_NoStream=>k_is)
  (case s_NoStream_HostError=>k_is)
  (case s_NoStream_NoMix=>k_is)
  (case s_NoStream_NoStream=>k_is)
  (case hTAB=>kernel_rfl)
  all_goals (apply G.FA.of;k_is;k_is;k_is;k_is)
