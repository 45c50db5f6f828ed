import PyProof.Rows.All
import Wide.All
import OpenK.AllK
import Wide.FinOn
import Lean
import PyProof.EqAt
import PyProof.EqKinds
import PyProof.TupleCall
import PyProof.NeKinds
import PyProof.CompFree
import PyProof.EnumMake
import KE.KTryMore
import PyProof.ExcArgsOwn
import PyProof.ZipIter
import PyProof.ListRange
import KE.KIsAll
import PyProof.InstStoreFacts
import PyProof.ExcInit
import PyProof.ReprRoads
import PyProof.CallStr
import KE.KEqDict
import PyProof.EqLayable
import KE.KRevIter
import PyProof.CollectIter
import PyProof.Rows.SetFrom
import PyProof.TupleKey
import PyProof.SetScanFacts
import KE.KSortKey
import PyProof.StrBlock2
import KE.KLam
import PyProof.StrLawsRepr
import PySem.Challenge.RW_hostfields_k24_streams_refused
open List renaming getElem?_eq_getElem->zcf3,length_map->zcf4,getElem?_eq_some_iff->zcf6,mem_of_getElem?->zcf8,getElem?_map->zcf9,getD_eq_getElem?_getD->zcg0,size_toArray->zcg1,length_append->zcg2,mem_cons->zcg6,all_eq_true->zcg8,length_cons->zch0,mem_map->zch2,map_map->zch6,mem_append->zch7,length_nil->zch9,map_cons->zci1,mem_range->zci3,mem_singleton->zci4,mem_append_right->zci5,map_append->zci6,lookup_cons->zci8,getElem?_of_mem->zci9,length_singleton->zcj0,not_mem_nil->zcj2,length_take->zcj3,getElem?_append_right->zcj6,map_congr_left->zcj8,mem_cons_of_mem->zcj9,getElem?_eq_none->zck2,getElem?_append_left->zck3,mem_cons_self->zck4,pairwise_iff_getElem->zck6,length_drop->zck7,filterMap_cons_some->zck9,nodup_cons->zcl1,take_of_length_le->zcl2,ext_getElem->zcl5,filterMap_cons_none->zcl6,length_range->zcl8,mem_of_mem_drop->zcm0,find?_cons->zcm1,sum_cons->zcm4,filter_cons->zcm5,drop_eq_getElem_cons->zcm6,mem_of_mem_take->zcm9,getElem?_set_self->zcn0,append_nil->zcn4,length_eq_zero_iff->zcn5,filterMap_cons->zcn6,replicate_succ->zcn7,getElem?_range->zcn8,getElem_mem->zcn9,drop_of_length_le->zco0,toArray->zco2,take_length->zco3,mem_filterMap->zco4,append_assoc->zco7,ext_getElem?->zco8,pairwise_map->zco9,mem_append_left->zcp0,all_map->zcp3
open PySem.W renaming Frag->zcf5,kitOne->zch8,nsIn->zcj4,mg_none_of->zcj7,subIn->zck1,kia_one->zcl0,clsIn->zcl3,mg_of->zcl9,fnOf->zcm8,findIn->zcn2,typeIn->zcn3,keepIn->zco5,tabIn->zcp5
open PySem.Heap renaming get?_push_of_some->zcf7,lt_size->zch1,get?_push_size->zch5,get?_update_other->zci7,get?_update_self->zcl7
open Bool renaming false_ne_true->zcg3,and_eq_true->zcg4,true_and->zck0,eq_iff_iff->zck5,false_eq_true->zcn1,and_true->zcp4
open Option renaming map_eq_some_iff->zcg5,isSome_iff_exists->zck8
open Array renaming length_toList->zcg7,getElem?_toList->zch4,getD_eq_getD_getElem?->zcj1,getElem?_eq_getElem->zcl4,getElem?_eq_some_iff->zcm2,filterMap->zcm7,mem_toList_iff->zcp2
open Nat renaming le_refl->zcg9,lt_of_lt_of_le->zch3,zero_le->zci0,ne_of_lt->zci2,le_trans->zcj5,lt_irrefl->zcm3,le_add_right->zco1,le_succ->zco6,ne_of_gt->zcp1
open PySem renaming wpAny_bind->zcp6,wpAny_pure->zcp7,sizeLine_eq->zcp8,wpAny_ite_false->zcp9,tupleKeyHash->zcq0,wpAny_holding->zcq1,mainGlobals->zcq2
set_option Elab.async false
set_option linter.all false
set_option maxRecDepth 100000
namespace L2
open PySem PySem.Spec PyProof.Rows
abbrev Key:=Sum Int Str
variable {h:Heap}{i:Nat}{E:Value->Shared->Prop}{u:Value}{s:Shared}{pins:List (Addr×Obj)}{tg:Expr}{us:List Value}
def zay5:Key->Value->Bool
 | .inl k,v=>Value.isInt k v
 | .inr x,v=>Value.isStrOf x v
def keyH(w:World):Key->Int
 | .inl k=>hashInt k
 | .inr x=>hashStr w x
theorem zf2:∀ {k:Key}{v:Value},zay5 k v=true->(∃ i t,k=Sum.inl i/\v=Value.int i t)∨(∃ x t,k=Sum.inr x/\v=Value.str x t)
 | .inl i,v,h=>by
  obtain⟨t,e⟩:=Value.isInt_shape (k:=i) (v:=v) h
  exact .inl ⟨i,t,rfl,e⟩
 | .inr x,v,h=>by
  obtain⟨t,e⟩:=Value.isStrOf_shape (x:=x) (v:=v) h
  exact .inr ⟨x,t,rfl,e⟩
theorem zbh8(i:Int)(t:Tok):zay5 (.inl i) (.int i t)=true:=by simp[zay5,Value.isInt]
theorem zbe3(x:Str)(t:Tok):zay5 (.inr x) (.str x t)=true:=by simp[zay5,Value.isStrOf]
theorem key_ll(a b:Int):decide ((Sum.inl a:Key)=Sum.inl b)=(a==b):=by
 by_cases e:a=b
 ·subst e;simp
 ·have h:¬ (Sum.inl a:Key)=Sum.inl b:=fun q=>e (Sum.inl.inj q)
  rw[decide_eq_false h]
  exact (beq_eq_false_iff_ne.mpr e).symm
theorem key_rr(a b:Str):decide ((Sum.inr a:Key)=Sum.inr b)=decide (a=b):=by
 by_cases e:a=b
 ·subst e;simp
 ·have h:¬ (Sum.inr a:Key)=Sum.inr b:=fun q=>e (Sum.inr.inj q)
  rw[decide_eq_false h,decide_eq_false e]
theorem key_lr(a:Int)(b:Str):decide ((Sum.inl a:Key)=Sum.inr b)=false:=decide_eq_false (fun q=>nomatch q)
theorem key_rl(a:Str)(b:Int):decide ((Sum.inr a:Key)=Sum.inl b)=false:=decide_eq_false (fun q=>nomatch q)
def zf9(prog:Program)(w:World):PySem.KeyKind prog w Key where
 is:=zay5
 hash:=keyH w
 inj:=fun v a b ha hb=>by
  rcases zf2 ha with ⟨i,t,rfl,rfl⟩|⟨x,t,rfl,rfl⟩
  ·rcases zf2 hb with ⟨j,u,rfl,e⟩|⟨y,u,rfl,e⟩
   ·injection e with e1 _;rw[e1]
   ·exact nomatch e
  ·rcases zf2 hb with ⟨j,u,rfl,e⟩|⟨y,u,rfl,e⟩
   ·exact nomatch e
   ·injection e with e1 _;rw[e1]
 byValue:=fun k v h=>by
  rcases zf2 h with ⟨i,t,rfl,rfl⟩|⟨x,t,rfl,rfl⟩<;>rfl
 pyHash:=fun hv h=>by
  rcases zf2 hv with ⟨i,t,rfl,rfl⟩|⟨x,t,rfl,rfl⟩
  ·exact wpAny_pyHash_int h
  ·exact wpAny_pyHash_str h
 eqBool:=fun hu hv h=>by
  rcases zf2 hu with ⟨i,t,rfl,rfl⟩|⟨x,t,rfl,rfl⟩
  ·rcases zf2 hv with ⟨j,u,rfl,rfl⟩|⟨y,u,rfl,rfl⟩
   ·rw[key_ll] at h;exact wpAny_eqBool_int h
   ·rw[key_lr] at h;exact SeqAt.EqAt.int_str i t y u _ _ _ _ h
  ·rcases zf2 hv with ⟨j,u,rfl,rfl⟩|⟨y,u,rfl,rfl⟩
   ·rw[key_rl] at h;exact SeqAt.EqAt.str_int x t j u _ _ _ _ h
   ·rw[key_rr] at h;exact wpAny_eqBool_str h
 «strs»:=fun k x t v h=>by
  rcases zf2 h with ⟨i,u,rfl,e⟩|⟨y,u,rfl,e⟩
  ·exact nomatch e
  ·injection e with e1 _
   subst e1
   cases v<;>rfl
theorem zar0(prog:Program)(w:World)(i:Int)(t:Tok):(zf9 prog w).is (.inl i) (.int i t)=true:=zbh8 i t
theorem zap0(prog:Program)(w:World)(x:Str)(t:Tok):(zf9 prog w).is (.inr x) (.str x t)=true:=zbe3 x t
inductive V where
 | non | bl (b:Bool) | int (i:Int) | str (x:Str) | byt (b:Array UInt8) | flt (b:UInt64) | ref (a:Addr) | ty (n:String)
 deriving DecidableEq
def RelV:V->Value->Prop
 | .non,u=>u=Value.none
 | .bl b,u=>u=Value.bool b
 | .int i,u=>∃ t,u=Value.int i t
 | .str x,u=>∃ t,u=Value.str x t
 | .byt b,u=>∃ t,u=Value.bytes b t
 | .flt b,u=>∃ t,u=Value.float b t
 | .ref a,u=>u=Value.ref a
 | .ty n,u=>u=Value.type n
abbrev Vals:List V->List Value->Prop:=Paired RelV
theorem Vals.length{xs:List V}{us:List Value}(r:Vals xs us):xs.length=us.length:=Paired.length r
theorem Vals.get:∀ {xs:List V}{us:List Value}{i:Nat}{x:V},Vals xs us->xs[i]?=some x->∃ u,us[i]?=some u/\RelV x u
 | _,_,_,_,.nil,e=>by simp at e
 | _,_,0,_,.cons r _,e=>by simp at e;subst e;exact⟨_,rfl,r⟩
 | _,_,i+1,x,.cons _ t,e=>by
  obtain⟨u,h1,h2⟩:=Vals.get (i:=i) (x:=x) t (by simpa using e)
  exact⟨u,by simpa using h1,h2⟩
theorem Vals.set{x:V}{u:Value}(r:RelV x u):∀ {xs:List V}{us:List Value}(i:Nat),Vals xs us->Vals (xs.set i x) (us.set i u)
 | _,_,_,.nil=>.nil
 | _,_,0,.cons _ t=>.cons r t
 | _,_,i+1,.cons q t=>.cons q (Vals.set r i t)
theorem Vals.append:∀ {xs ys:List V}{us ws:List Value},Vals xs us->Vals ys ws->Vals (xs++ys) (us++ws)
 | _,_,_,_,.nil,s=>s
 | _,_,_,_,.cons r t,s=>.cons r (Vals.append t s)
theorem Vals.take:∀ {xs:List V}{us:List Value}(n:Nat),Vals xs us->Vals (xs.take n) (us.take n)
 | _,_,0,_=>.nil
 | _,_,_+1,.nil=>.nil
 | _,_,n+1,.cons r t=>.cons r (Vals.take n t)
theorem Vals.drop:∀ {xs:List V}{us:List Value}(n:Nat),Vals xs us->Vals (xs.drop n) (us.drop n)
 | _,_,0,r=>r
 | _,_,_+1,.nil=>.nil
 | _,_,n+1,.cons _ t=>Vals.drop n t
def RelO:Option V->Option Value->Prop
 | some v,some u=>RelV v u
 | none,none=>True
 | _,_=>False
def KV{κ:Type}:List (κ×V)->List (κ×Value)->Prop:=Paired fun (p:κ×V) (q:κ×Value)=>p.1=q.1/\RelV p.2 q.2
def kV:Key->V
 | .inl i=>.int i
 | .inr x=>.str x
inductive HO where
 | lst (xs:List V)
 | tup (xs:List V)
 | dK (kvs:List (Key×V)) | dT (kvs:List (List Key×V))
 | set (S:Int->Bool) (n:Nat)
 | ins (C dx:Addr) (fs:List (Str×V))
 | own (x:Addr)
 | xd (fs:List (Str×V))
 | met (f x:Addr)
 | rng (lo hi:Int)
 | frz (o:Obj) (u:HO)
 | tbl (ps:Array Value)
 | ext (φ:Heap->Prop)
variable {o:HO}
abbrev Hp:=Addr->Option HO
variable {H:Hp}
def upd(H:Hp)(a:Addr)(o:HO):Hp:=fun b=>if b=a then some o else H b
theorem zb1{a:Addr}:upd H a o a=some o:=by unfold upd;rw[if_pos rfl]
theorem zb4{a b:Addr}(h:b≠a):upd H a o b=H b:=by unfold upd;rw[if_neg h]
theorem ne_of{a b:Addr}{u:HO}(h:H a=some o)(h':H b=some u)(d:o≠u):a≠b:=by
 intro e;subst e;rw[h] at h';exact d (Option.some.inj h')
theorem za5{a b:Addr}(h:H a=some o)(h':H b=none):a≠b:=by
 intro e;subst e;rw[h] at h';cases h'
section
variable (P:Program) (w:World)
def ze9(H:Hp)(h:Heap)(a:Addr):HO->Prop
 | .lst xs=>xs.length<=sizeLine/\∃ (its:List Value) (n:Nat),Vals xs its/\h.get? a=some { cls:=.type "list",data:=.seq its.toArray n }
 | .tup xs=>xs.length<=sizeLine/\∃ its:List Value,Vals xs its/\IsTup h a its.toArray
 | .dK kvs=>kvs.length<=sizeLine/\(a==sysModules)=false/\∃ vs,KV kvs vs/\h.DictOf (zf9 P w) a vs
 | .dT kvs=>kvs.length<=sizeLine/\(a==sysModules)=false/\∃ xs:List (List Key×Addr×Value),
   Paired (fun (p:List Key×V) (q:List Key×Addr×Value)=>p.1=q.1/\H q.2.1=some (.tup (p.1.map kV))/\RelV p.2 q.2.2) kvs xs /\
   ∃ o es ep,h.get? a=some o/\o.ExactDict/\o.data=.dict es ep/\es.toList=xs.map (entryOfKey (tupleKind (zf9 P w)))/\(xs.map (·.1)).Nodup
 | .set S n=>h.SetOf (intKind P w) a S n
 | .ins C dx fs=>H dx=some (.own a)/\fs.length<=1000/\dx≠a/\h.get? a=some (PySem.W.instObj C dx) /\
   ∃ mA,h.Ns1 dx mA/\(∀ f,RelO (fs.lookup f) (mA f))/\PySem.Within mA (fs.map (·.1))
 | .own _=>∃ o,h.get? a=some o
 | .xd fs=>∃ mA,h.Ns1 a mA/\∀ f,RelO (fs.lookup f) (mA f)
 | .rng lo hi=>∃ t u v,h.get? a=some { cls:=.type "range",data:=.fields #[.int lo t,.int hi u,.int 1 v] }
 | .frz o u=>h.get? a=some o/\ze9 H h a u
 | .tbl ps=>h.get? a=some { cls:=.none,data:=.fields ps }
 | .met f x=>h.get? a=some (PySem.W.methodObj (.ref f) (.ref x))
 | .ext φ=>φ h/\(∃ o,h.get? a=some o)/\∀ h1 h2:Heap,φ h1->(∀ o,h1.get? a=some o->h2.get? a=some o)->φ h2
def HOk(H:Hp)(h:Heap):Prop:=∀ a o,H a=some o->ze9 P w H h a o
end
section
variable {P:Program}{w:World}{H H':Hp}{h h':Heap}{a:Addr}{o:HO}
theorem ze9.lt(x:ze9 P w H h a o):a<h.objs.size:=by
 cases o with
 | lst xs=>obtain⟨_,_,_,_,e⟩:=x;exact zch1 e
 | tup xs=>obtain⟨_,_,_,p⟩:=x;exact p.lt
 | dK kvs=>obtain⟨_,_,_,_,o,_,_,e,_⟩:=x;exact zch1 e
 | dT kvs=>obtain⟨_,_,_,_,o,_,_,e,_⟩:=x;exact zch1 e
 | set S n=>obtain⟨o,_,_,_,e,_⟩:=x;exact zch1 e
 | ins C dx fs=>obtain⟨_,_,_,e,_⟩:=x;exact zch1 e
 | own y=>obtain⟨_,e⟩:=x;exact zch1 e
 | xd fs=>obtain⟨_,⟨_,_,_,e,_⟩,_⟩:=x;exact zch1 e
 | rng lo hi=>obtain⟨_,_,_,e⟩:=x;exact zch1 e
 | frz ob u=>obtain⟨e,_⟩:=x;exact zch1 e
 | tbl ps=>exact zch1 (show h.get? a=some _ from x)
 | met f y=>exact zch1 (show h.get? a=some _ from x)
 | ext φ=>obtain⟨_,⟨_,e⟩,_⟩:=x;exact zch1 e
theorem Paired.mapP{α β:Type}{F G:α->β->Prop}:∀ {l₁:List α}{l₂:List β},Paired F l₁ l₂->(∀ a b,F a b->G a b)->Paired G l₁ l₂
 | _,_,.nil,_=>.nil
 | _,_,.cons r t,f=>.cons (f _ _ r) (Paired.mapP t f)
theorem ze9.stay(x:ze9 P w H h a o)(k:∀ b u,(b=a∨H b=some (.own a))->h.get? b=some u->h'.get? b=some u)(ho:∀ b,H b=some (.own a)->H' b=some (.own a))(ht:∀ b xs,H b=some (.tup xs)->H' b=some (.tup xs)):ze9 P w H' h' a o:=by
 induction o with
 | lst xs=>obtain⟨z,its,n,r,e⟩:=x;exact⟨z,its,n,r,k _ _ (.inl rfl) e⟩
 | tup xs=>obtain⟨z,its,r,ob,e,c⟩:=x;exact⟨z,its,r,ob,k _ _ (.inl rfl) e,c⟩
 | dK kvs=>obtain⟨z,y,vs,r,ob,es,ep,e,c⟩:=x;exact⟨z,y,vs,r,ob,es,ep,k _ _ (.inl rfl) e,c⟩
 | dT kvs=>
  obtain⟨z,y,xs,r,ob,es,ep,e,c⟩:=x
  exact⟨z,y,xs,Paired.mapP r fun p q z=>⟨z.1,ht _ _ z.2.1,z.2.2⟩,ob,es,ep,k _ _ (.inl rfl) e,c⟩
 | set S n=>obtain⟨ob,es,ep,t,e,c⟩:=x;exact⟨ob,es,ep,t,k _ _ (.inl rfl) e,c⟩
 | ins C dx fs=>
  obtain⟨d,z,ne,e,mA,⟨od,es,ep,e2,c⟩,r⟩:=x
  exact⟨ho _ d,z,ne,k _ _ (.inl rfl) e,mA,⟨od,es,ep,k _ _ (.inr d) e2,c⟩,r⟩
 | own y=>obtain⟨ob,e⟩:=x;exact⟨ob,k _ _ (.inl rfl) e⟩
 | xd fs=>obtain⟨mA,⟨od,es,ep,e,c⟩,r⟩:=x;exact⟨mA,⟨od,es,ep,k _ _ (.inl rfl) e,c⟩,r⟩
 | rng lo hi=>obtain⟨t,u,v,e⟩:=x;exact⟨t,u,v,k _ _ (.inl rfl) e⟩
 | frz ob u ih=>obtain⟨e,q⟩:=x;exact⟨k _ _ (.inl rfl) e,ih q⟩
 | tbl ps=>
  have e:h.get? a=some { cls:=.none,data:=.fields ps }:=x
  show h'.get? a=some { cls:=.none,data:=.fields ps }
  exact k a _ (.inl rfl) e
 | met f y=>
  have e:h.get? a=some (PySem.W.methodObj (.ref f) (.ref y)):=x
  show h'.get? a=some (PySem.W.methodObj (.ref f) (.ref y))
  exact k a _ (.inl rfl) e
 | ext φ=>obtain⟨p,⟨o,e⟩,st⟩:=x;exact⟨st _ _ p fun o q=>k _ _ (.inl rfl) q,⟨o,k _ _ (.inl rfl) e⟩,st⟩
theorem HOk.lt(x:HOk P w H h)(e:H a=some o):a<h.objs.size:=(x a o e).lt
theorem HOk.fresh(x:HOk P w H h)(e:h.objs.size<=a):H a=none:=by
 cases q:H a with
 | none=>rfl
 | some u=>exact absurd (zch3 (x.lt q) e) (zcm3 _)
theorem HOk.kept(x:HOk P w H h)(k:∀ b u,h.get? b=some u->h'.get? b=some u):HOk P w H h':=fun a o e=>
 (x a o e).stay (fun b u _ q=>k b u q) (fun _ q=>q) fun _ _ q=>q
theorem HOk.laid(x:HOk P w H h)(k:∀ b u,h.get? b=some u->h'.get? b=some u)(hp:h.objs.size<=a)(new:ze9 P w (upd H a o) h' a o):HOk P w (upd H a o) h':=fun b u e=>by
 have hn:=x.fresh hp
 by_cases hb:b=a
 ·subst hb;rw[zb1] at e;cases e;exact new
 ·rw[zb4 hb] at e
  exact (x b u e).stay (fun c v _ q=>k c v q) (fun c q=>by rw[zb4 (za5 q hn)];exact q) fun c xs q=>by rw[zb4 (za5 q hn)];exact q
end
def Rd(H:Hp)(a:Addr)(u:HO):Prop:=H a=some u∨∃ o,H a=some (.frz o u)
theorem Rd.of{a:Addr}{u:HO}(h:H a=some u):Rd H a u:=.inl h
theorem Rd.ok{P:Program}{w:World}{a:Addr}{u:HO}(r:Rd H a u)(x:HOk P w H h):ze9 P w H h a u:=by
 rcases r with r|⟨o,r⟩
 ·exact x a u r
 ·obtain⟨_,q⟩:=x a _ r
  exact q
def Mut:Option HO->Prop
 | some (.lst _)=>True
 | some (.dK _)=>True
 | some (.dT _)=>True
 | some (.set _ _)=>True
 | some (.ins _ _ _)=>True
 | some (.ext _)=>True
 | _=>False
section
variable {P:Program}{w:World}{H:Hp}{h h':Heap}{x e:Addr}{o':HO}
theorem HOk.write(ok:HOk P w H h)(mu:Mut (H x))(he:e=x∨H e=some (.own x))(k:∀ b u,b≠e->h.get? b=some u->h'.get? b=some u)(heo:∃ u,h'.get? e=some u)(new:ze9 P w (upd H x o') h' x o'):HOk P w (upd H x o') h':=fun b u q=>by
 have nown:∀ c y,H c=some (.own y)->c≠x:=fun c y r z=>by subst z;rw[r] at mu;exact mu
 have ntup:∀ c xs,H c=some (.tup xs)->c≠x:=fun c xs r z=>by subst z;rw[r] at mu;exact mu
 by_cases hb:b=x
 ·subst hb;rw[zb1] at q;cases q;exact new
 ·rw[zb4 hb] at q
  by_cases hbe:b=e
  ·have q':H b=some (.own x):=by
    rcases he with z|z
    ·exact absurd (hbe.trans z) hb
    ·rw[hbe];exact z
   rw[q] at q';cases q'
   obtain⟨v,hv⟩:=heo
   exact⟨v,by rw[hbe];exact hv⟩
  ·refine (ok b u q).stay (fun c v hc r=>k c v ?_ r) (fun c r=>by rw[zb4 (nown c b r)];exact r) fun c xs r=>by rw[zb4 (ntup c xs r)];exact r
   rcases hc with rfl|hc
   ·exact hbe
   ·rintro rfl
    rcases he with z|z
    ·exact nown c b hc z
    ·rw[hc] at z;cases z;exact hb rfl
end
structure Un(fs ex:List Addr)(H H':Hp)(h h':Heap):Prop where
 keep:∀ b o,h.get? b=some o->H b=none->b ∉ fs->b ∉ ex->h'.get? b=some o
 slot:∀ b o,h.get? b=some o->H b=none->b∈fs->b ∉ ex->∃ sl,h'.get? b=some { o with slots:=sl }
 free:∀ b o,h.get? b=some o->H b=none->b ∉ ex->H' b=none
 there:∀ b o,h.get? b=some o->b ∉ ex->∃ o',h'.get? b=some o'
 tups:∀ b xs,H b=some (.tup xs)->H' b=some (.tup xs)
 frzs:∀ b o u,H b=some (.frz o u)->H' b=some (.frz o u)
 tbls:∀ b ps,H b=some (.tbl ps)->∃ more,H' b=some (.tbl (ps++more))
section
variable {fs fs' ex ex':List Addr}{H H1 H2:Hp}{h h1 h2 h':Heap}{a x e:Addr}{o:HO}
theorem Un.any(u:Un fs ex H H1 h h1){b:Addr}{ob:Obj}(q:h.get? b=some ob)(n:H b=none)(hx:b ∉ ex):∃ sl,h1.get? b=some { ob with slots:=sl }:=by
 by_cases hb:b∈fs
 ·exact u.slot b ob q n hb hx
 ·exact⟨ob.slots,u.keep b ob q n hb hx⟩
theorem Un.trans(a:Un fs ex H H1 h h1)(b:Un fs ex H1 H2 h1 h2):Un fs ex H H2 h h2 where
 keep:=fun c ob q n hc hx=>b.keep c ob (a.keep c ob q n hc hx) (a.free c ob q n hx) hc hx
 slot:=fun c ob q n hc hx=>by
  obtain⟨sl,e1⟩:=a.slot c ob q n hc hx
  obtain⟨sl',e2⟩:=b.slot c _ e1 (a.free c ob q n hx) hc hx
  exact⟨sl',e2⟩
 free:=fun c ob q n hx=>by
  obtain⟨o',e1⟩:=a.there c ob q hx
  exact b.free c o' e1 (a.free c ob q n hx) hx
 there:=fun c ob q hx=>by
  obtain⟨o',e1⟩:=a.there c ob q hx
  exact b.there c o' e1 hx
 tups:=fun c xs q=>b.tups c xs (a.tups c xs q)
 frzs:=fun c ob xs q=>b.frzs c ob xs (a.frzs c ob xs q)
 tbls:=fun c ps q=>by
  obtain⟨m1,e1⟩:=a.tbls c ps q
  obtain⟨m2,e2⟩:=b.tbls c _ e1
  exact⟨m1++m2,by rw[e2,Array.append_assoc]⟩
theorem Un.kept(k:∀ b u,h.get? b=some u->h'.get? b=some u):Un fs ex H H h h':=
 ⟨fun b ob q _ _ _=>k b ob q,fun b ob q _ _ _=>⟨ob.slots,k b ob q⟩,fun _ _ _ n _=>n,fun b ob q _=>⟨ob,k b ob q⟩,fun _ _ q=>q,fun _ _ _ q=>q,fun _ ps q=>⟨#[],by rw[q];simp⟩⟩
theorem Un.refl:Un fs ex H H h h:=Un.kept fun _ _ q=>q
theorem Un.laid(k:∀ b u,h.get? b=some u->h'.get? b=some u)(hp:h.objs.size<=a)(hn:H a=none):Un fs ex H (upd H a o) h h' where
 keep:=fun b u q _ _ _=>k b u q
 slot:=fun b u q _ _ _=>⟨u.slots,k b u q⟩
 free:=fun b u q n _=>by rw[zb4 (zci2 (zch3 (zch1 q) hp))];exact n
 there:=fun b u q _=>⟨u,k b u q⟩
 tups:=fun b xs q=>by rw[zb4 (za5 q hn)];exact q
 frzs:=fun b u xs q=>by rw[zb4 (za5 q hn)];exact q
 tbls:=fun b ps q=>⟨#[],by rw[zb4 (za5 q hn),q];simp⟩
theorem Un.write(mu:Mut (H x))(he:e=x∨H e=some (.own x))(k:∀ b u,b≠e->h.get? b=some u->h'.get? b=some u)(heo:∃ u,h'.get? e=some u):Un fs ex H (upd H x o) h h':=by
 have hx:∀ b,H b=none->b≠x:=fun b n z=>by subst z;rw[n] at mu;exact mu
 have hb:∀ b,H b=none->b≠e:=fun b n z=>by
  subst z
  rcases he with r|r
  ·exact hx b n r
  ·rw[n] at r;cases r
 have hm:∀ b u,H b=some u->¬ Mut (some u)->b≠x:=fun b u q nm z=>by subst z;rw[q] at mu;exact nm mu
 refine⟨fun b u q n _ _=>k b u (hb b n) q,fun b u q n _ _=>⟨u.slots,k b u (hb b n) q⟩,fun b u q n _=>by rw[zb4 (hx b n)];exact n,fun b u q _=>?_,
  fun b xs q=>by rw[zb4 (hm b _ q fun z=>z)];exact q,fun b u xs q=>by rw[zb4 (hm b _ q fun z=>z)];exact q,fun b ps q=>⟨#[],by rw[zb4 (hm b _ q fun z=>z),q];simp⟩⟩
 by_cases hbe:b=e
 ·subst hbe;exact heo
 ·exact⟨u,k b u hbe q⟩
end
def trk(h:Heap)(H:Hp):List Addr:=(List.range h.objs.size).filter fun a=>(H a).isSome
def hidT(h:Heap)(H:Hp):Heap:=PySem.W.hideAll h (trk h H)
theorem zbe1(h:Heap)(H:Hp):(hidT h H).objs.size=h.objs.size:=PySem.W.hideAll_size _ _
theorem zbo3{b:Addr}{o:Obj}(e:h.get? b=some o)(n:H b=none):(hidT h H).get? b=some o:=
 PySem.W.hideAll_get _ e fun hm=>by
  have q:(H b).isSome=true:=(List.mem_filter.mp hm).2
  rw[n] at q;simp at q
theorem zbv9{b:Addr}{o:Obj}(e:(hidT h H).get? b=some o):h.get? b=some o/\H b=none:=by
 have e':h.get? b=some o:=PySem.W.of_hideAll (trk h H) e
 refine⟨e',?_⟩
 cases q:H b with
 | none=>rfl
 | some x=>
  have hm:b∈trk h H:=List.mem_filter.mpr ⟨zci3.mpr (zch1 e'),by simp[q]⟩
  have z:(hidT h H).get? b=none:=PySem.W.hideAll_none (trk h H) hm
  rw[z] at e;cases e
def zby1(g h:Heap)(L:Addr):List (Addr×Obj):=(List.range h.objs.size).filterMap fun a=>if a=L∨(g.get? a).isSome=true then none else (h.get? a).map fun o=>(a,o)
def rest(g h:Heap)(L d:Addr):List (Addr×Obj):=(zby1 g h L).filter fun p=>decide (p.1≠d)
structure Mod(K:zcf5)(mg:Str->Option Value)(base:Heap):Prop where
 kin:K.In base
 glob:base.Ns zcq2 mg
 blt:∃ mb,base.Ns builtinsNs mb/\∀ x:Str,x≠"__name__"->mb x=bootBuiltins x
 nolimit:base.NoLimit
structure Cx where
 prog:Program
 w:World
 K:zcf5
 mg:Str->Option Value
 base:Heap
 A:Around
 N:List Str
 s₀:Shared
 H₀:Hp
 env:Env
 outer:List Env
 stack:List Env
 ex:List Addr
 fn:Str->Bool
 calm:Bool
 pn:List (Addr×Obj)
 xe:Value->Shared->Prop
def frs(l:List Env):List Addr:=l.filterMap (·.frame)
abbrev Cx.fs(X:Cx):List Addr:=frs X.outer
def Vis(sc:Scope)(x:Str):Prop:=sc.names.lookup x=some .local∨sc.names.lookup x=some .cell∨sc.names.lookup x=some .free
def Loc(sc:Scope)(x:Str):Prop:=sc.names.lookup x=some .local∨sc.names.lookup x=some .cell
def Look(env:Env)(h:Heap)(m:Str->Option Value)(x:Str)(u:Value):Prop:=
 (env.kindOf x=some .local/\m x=some u)∨((env.kindOf x=some .cell∨env.kindOf x=some .free)/\∃ c,env.cells.lookup x=some c/\h.IsCell c (some u))
structure Cx.Ok(X:Cx):Prop where
 mod:Mod X.K X.mg X.base
 kind:X.env.scope.kind=.function
 glob:X.env.globals=zcq2
 blt:X.env.builtins=builtinsNs
 above:X.s₀.heap.objs.size<=X.env.locals
 inj:∀ x y c,X.env.cells.lookup x=some c->X.env.cells.lookup y=some c->x=y
 has:∀ x,(X.env.kindOf x=some .cell∨X.env.kindOf x=some .free)->∃ c,X.env.cells.lookup x=some c
 cab:∀ x c,X.fn x=true->X.env.cells.lookup x=some c->X.s₀.heap.objs.size<=c
 hd:X.calm=true->X.A.handled=none
 frames:X.A.frames=some X.stack
 stk:X.stack=X.outer∨(X.stack=X.env :: X.outer/\X.env.frame=some X.env.locals)
 exf:∀ b∈X.ex,b≠X.env.locals/\∀ x c,X.env.cells.lookup x=some c->c≠b
 bs:∀ b o,X.base.get? b=some o->X.s₀.heap.get? b=some o/\X.H₀ b=none
 bsz:X.base.objs.size<=X.s₀.heap.objs.size
 noex:∀ b o,X.base.get? b=some o->b ∉ X.ex
 exfs:∀ b∈X.ex,b ∉ X.fs
 funs:X.s₀.heap.FunFrames X.base X.outer
 frf:∀ b∈X.fs,X.H₀ b=none
structure Inv(X:Cx)(pins:List (Addr×Obj))(σ:List (Option V))(H:Hp)(s:Shared):Prop where
 ok:X.Ok
 os:s.os=X.s₀.os
 bare:AllBare s.gens
 base:Un X.fs X.ex X.H₀ H X.s₀.heap s.heap
 loc:∃ m,s.heap.Ns X.env.locals m/\∀ (i:Nat) (x:Str) (v:V),X.N[i]?=some x->σ[i]?=some (some v)->Vis X.env.scope x->∃ u,RelV v u/\Look X.env s.heap m x u
 cell:∀ x c,X.env.cells.lookup x=some c->∃ v,s.heap.IsCell c v
 free:H X.env.locals=none
 freeC:∀ x c,X.env.cells.lookup x=some c->H c=none
 pin:∀ p∈X.pn++pins,s.heap.get? p.1=some p.2/\H p.1=none/\p.1≠X.env.locals/\p.1 ∉ X.fs/\∀ v,p.2.data≠.cell v
 hok:HOk X.prog X.w H s.heap
 len:σ.length=X.N.length
section
variable {X:Cx}{pins:List (Addr×Obj)}{σ:List (Option V)}{H H':Hp}{s:Shared}{h':Heap}
theorem Cx.Ok.nofr(ok:X.Ok){b:Addr}{o:Obj}(e:X.base.get? b=some o):b ∉ X.fs:=fun hb=>by
 have:=(ok.funs.mem hb).1
 rw[e] at this;cases this
theorem Inv.bs(I:Inv X pins σ H s):∀ b o,X.base.get? b=some o->s.heap.get? b=some o/\H b=none:=fun b o e=>
 ⟨I.base.keep b o (I.ok.bs b o e).1 (I.ok.bs b o e).2 (I.ok.nofr e) (I.ok.noex b o e),I.base.free b o (I.ok.bs b o e).1 (I.ok.bs b o e).2 (I.ok.noex b o e)⟩
theorem Inv.bk(I:Inv X pins σ H s):∀ b o,X.base.get? b=some o->s.heap.get? b=some o:=fun b o e=>(I.bs b o e).1
theorem Inv.mod(I:Inv X pins σ H s):Mod X.K X.mg X.base:=I.ok.mod
theorem Inv.kIn(I:Inv X pins σ H s):X.K.In s.heap:=I.ok.mod.kin.keeps I.bk
theorem Inv.lt(I:Inv X pins σ H s):X.env.locals<s.heap.objs.size:=let ⟨_,hn,_⟩:=I.loc;hn.lt
theorem Inv.sz(I:Inv X pins σ H s):X.s₀.heap.objs.size<=s.heap.objs.size:=zcj5 I.ok.above (Nat.le_of_lt I.lt)
theorem Inv.nofs(I:Inv X pins σ H s){a:Addr}(h:s.heap.objs.size<=a):a ∉ X.fs:=fun hb=>by
 obtain⟨_,o,ho,_⟩:=I.ok.funs.mem hb
 exact absurd (zch3 (zch1 ho) (zcj5 I.sz h)) (zcm3 _)
theorem Inv.cne(I:Inv X pins σ H s):∀ x c,X.env.cells.lookup x=some c->c≠X.env.locals:=fun x c e z=>by
 obtain⟨v,o,ho,hd⟩:=I.cell x c e
 obtain⟨m,⟨o',es,ep,ho',hd',_⟩,_⟩:=I.loc
 rw[z,ho'] at ho;cases ho;rw[hd'] at hd;cases hd
theorem Inv.funs(I:Inv X pins σ H s):s.heap.FunFrames X.base X.outer:=by
 have all:∀ (l:List Env),(∀ b∈frs l,b∈X.fs)->X.s₀.heap.FunFrames X.base l->s.heap.FunFrames X.base l:=by
  intro l
  induction l with
  | nil=>intro _ _;trivial
  | cons env r ih=>
   intro hs hl
   obtain⟨hk,⟨L,o,hf,hn,ho,hd⟩,hr⟩:=hl
   have hL:L∈X.fs:=hs L (by unfold frs;rw[zcn6,hf];exact zck4)
   obtain⟨sl,e⟩:=I.base.slot L o ho (I.ok.frf L hL) hL fun z=>I.ok.exfs L z hL
   exact⟨hk,⟨L,_,hf,hn,e,hd⟩,ih (fun b hb=>hs b (by unfold frs;rw[zcn6,hf];exact zcj9 _ hb)) hr⟩
 exact all X.outer (fun _ hb=>hb) I.ok.funs
theorem Inv.stack(I:Inv X pins σ H s):s.heap.FunFrames X.base X.stack:=by
 rcases I.ok.stk with e|⟨e,hf⟩
 ·rw[e];exact I.funs
 ·rw[e]
  obtain⟨m,hn,_⟩:=I.loc
  refine .cons (by rw[I.ok.kind];decide) hf hn ?_ I.funs
  exact Heap.get?_none_of_le (zcj5 I.ok.bsz I.ok.above)
theorem Inv.stkSub(I:Inv X pins σ H s):∀ b∈frs X.stack,b∈X.env.locals :: X.fs:=fun b hb=>by
 rcases I.ok.stk with e|⟨e,hf⟩
 ·rw[e] at hb;exact zcj9 _ hb
 ·rw[e] at hb
  unfold frs at hb
  rw[zcn6,hf] at hb
  exact hb
theorem Inv.stkFree(I:Inv X pins σ H s):∀ b∈frs X.stack,H b=none:=fun b hb=>by
 rcases zcg6.mp (I.stkSub b hb) with e|hb
 ·rw[e];exact I.free
 ·obtain⟨_,o,ho,_⟩:=I.ok.funs.mem hb
  exact I.base.free b o ho (I.ok.frf b hb) fun z=>I.ok.exfs b z hb
theorem Inv.step{g':Array GenState}{t':Nat}{d':Drawn}{ch:List Addr}(I:Inv X pins σ H s)(hch:∀ b∈ch,(b∈X.ex∨X.s₀.heap.objs.size<=b)/\b≠X.env.locals/\(∀ x c,X.env.cells.lookup x=some c->c≠b)/\∀ p∈X.pn++pins,p.1≠b)(keep:∀ b o,b≠X.env.locals->b ∉ X.fs->b ∉ ch->s.heap.get? b=some o->H b=none->h'.get? b=some o)(slot:∀ b o,b≠X.env.locals->b∈X.fs->b ∉ ch->s.heap.get? b=some o->H b=none->∃ sl,h'.get? b=some { o with slots:=sl })(free:∀ b o,b ∉ ch->s.heap.get? b=some o->H b=none->H' b=none)(there:∀ b o,b ∉ ch->s.heap.get? b=some o->∃ o',h'.get? b=some o')(tups:∀ b xs,H b=some (.tup xs)->H' b=some (.tup xs))(frzs:∀ b o u,H b=some (.frz o u)->H' b=some (.frz o u))(tbls:∀ b ps,H b=some (.tbl ps)->∃ more,H' b=some (.tbl (ps++more)))(ns:∀ m,s.heap.Ns X.env.locals m->h'.Ns X.env.locals m)(hok:HOk X.prog X.w H' h')(hg:AllBare g') :
  Inv X pins σ H' { s with heap:=h',gens:=g',drawn:=d',toks:=t' }:=by
 have neL:∀ b o,X.s₀.heap.get? b=some o->b≠X.env.locals:=fun b o e=>zci2 (zch3 (zch1 e) I.ok.above)
 have neC:∀ b o,X.s₀.heap.get? b=some o->b ∉ X.ex->b ∉ ch:=fun b o e hx hb=>by
  rcases (hch b hb).1 with z|z
  ·exact hx z
  ·exact absurd (zch3 (zch1 e) z) (zcm3 _)
 have cellK:∀ x c,X.env.cells.lookup x=some c->∀ v,s.heap.IsCell c v->h'.IsCell c v:=fun x c e v ⟨o,ho,hd⟩=>by
  have nch:c ∉ ch:=fun z=>(hch c z).2.2.1 x c e rfl
  by_cases hc:c∈X.fs
  ·obtain⟨sl,q⟩:=slot c o (I.cne x c e) hc nch ho (I.freeC x c e)
   exact⟨_,q,hd⟩
  ·exact⟨o,keep c o (I.cne x c e) hc nch ho (I.freeC x c e),hd⟩
 refine⟨I.ok,I.os,hg,⟨fun b o e n hb hx=>?_,fun b o e n hb hx=>?_,fun b o e n hx=>?_,fun b o e hx=>?_,fun b xs e=>tups b xs (I.base.tups b xs e),fun b o xs e=>frzs b o xs (I.base.frzs b o xs e),fun b ps e=>?_⟩,?_,fun x c e=>?_,?_,fun x c e=>?_,fun p hp=>?_,hok,I.len⟩
 ·exact keep b o (neL b o e) hb (neC b o e hx) (I.base.keep b o e n hb hx) (I.base.free b o e n hx)
 ·obtain⟨sl,e1⟩:=I.base.slot b o e n hb hx
  obtain⟨sl',e2⟩:=slot b _ (neL b o e) hb (neC b o e hx) e1 (I.base.free b o e n hx)
  exact⟨sl',e2⟩
 ·obtain⟨o',e1⟩:=I.base.there b o e hx
  exact free b o' (neC b o e hx) e1 (I.base.free b o e n hx)
 ·obtain⟨o',e1⟩:=I.base.there b o e hx
  exact there b o' (neC b o e hx) e1
 ·obtain⟨m1,e1⟩:=I.base.tbls b ps e
  obtain⟨m2,e2⟩:=tbls b _ e1
  exact⟨m1++m2,by rw[e2,Array.append_assoc]⟩
 ·obtain⟨m,hn,hl⟩:=I.loc
  refine⟨m,ns m hn,fun i x v e1 e2 e3=>?_⟩
  obtain⟨u,r,l⟩:=hl i x v e1 e2 e3
  refine⟨u,r,?_⟩
  rcases l with l|⟨k,c,e,z⟩
  ·exact .inl l
  ·exact .inr ⟨k,c,e,cellK x c e _ z⟩
 ·obtain⟨v,z⟩:=I.cell x c e
  exact⟨v,cellK x c e v z⟩
 ·obtain⟨m,⟨o,_,_,ho,_⟩,_⟩:=I.loc
  exact free _ o (fun z=>(hch _ z).2.1 rfl) ho I.free
 ·obtain⟨v,o,ho,hd⟩:=I.cell x c e
  exact free c o (fun z=>(hch c z).2.2.1 x c e rfl) ho (I.freeC x c e)
 ·obtain⟨e,n,ne,nf,d⟩:=I.pin p hp
  have nch:p.1 ∉ ch:=fun z=>(hch p.1 z).2.2.2 p hp rfl
  exact⟨keep p.1 p.2 ne nf nch e n,free p.1 p.2 nch e n,ne,nf,d⟩
theorem Inv.un{t':Nat}(I:Inv X pins σ H s)(u:Un X.fs [] H H' s.heap h')(hok:HOk X.prog X.w H' h'):Inv X pins σ H' { s with heap:=h',toks:=t' }:=by
 obtain⟨m,⟨o,es,ep,ho,r⟩,_⟩:=id I.loc
 obtain⟨sl,hL⟩:=u.any ho I.free (by simp)
 exact I.step (g':=s.gens) (d':=s.drawn) (ch:=[]) (fun _ z=>nomatch z) (fun b o _ hb _ e n=>u.keep b o e n hb (by simp)) (fun b o _ hb _ e n=>u.slot b o e n hb (by simp)) (fun b o _ e n=>u.free b o e n (by simp)) (fun b o _ e=>u.there b o e (by simp)) u.tups u.frzs u.tbls (fun m' hm=>by
  obtain⟨o',es',ep',ho',r'⟩:=hm
  rw[ho] at ho';cases ho'
  exact⟨_,es',ep',hL,r'⟩) hok I.bare
theorem Inv.call{g':Array GenState}{t':Nat}{d':Drawn}{ch:List Addr}(I:Inv X pins σ H s)(u:Un (frs X.stack) ch H H' s.heap h')(hok:HOk X.prog X.w H' h')(hg:AllBare g')(hch:∀ b∈ch,(b∈X.ex∨X.s₀.heap.objs.size<=b)/\b≠X.env.locals/\(∀ x c,X.env.cells.lookup x=some c->c≠b)/\∀ p∈X.pn++pins,p.1≠b) :
  Inv X pins σ H' { s with heap:=h',gens:=g',drawn:=d',toks:=t' }:=by
 obtain⟨m,⟨o,es,ep,ho,r⟩,_⟩:=id I.loc
 obtain⟨sl,hL⟩:=u.any ho I.free fun z=>(hch _ z).2.1 rfl
 exact I.step (ch:=ch) hch (fun b o hL hb hc e n=>u.keep b o e n (fun z=>(zcg6.mp (I.stkSub b z)).elim hL hb) hc) (fun b o _ _ hc e n=>u.any e n hc) (fun b o hc e n=>u.free b o e n hc) (fun b o hc e=>u.there b o e hc) u.tups u.frzs u.tbls (fun m' hm=>by
  obtain⟨o',es',ep',ho',r'⟩:=hm
  rw[ho] at ho';cases ho'
  exact⟨_,es',ep',hL,r'⟩) hok hg
theorem Inv.turned{t':Nat}{it:Addr}(I:Inv X pins σ H s)(k:∀ b o,b≠it->s.heap.get? b=some o->h'.get? b=some o)(hn:H it=none)(hL:it≠X.env.locals)(h1:it∈X.ex∨X.s₀.heap.objs.size<=it)(h2:∀ x c,X.env.cells.lookup x=some c->c≠it)(h3:∀ p∈X.pn++pins,p.1≠it):Inv X pins σ H { s with heap:=h',toks:=t' }:=by
 have nit:∀ b u,H b=some u->b≠it:=fun b u e z=>by rw[z,hn] at e;cases e
 refine I.step (g':=s.gens) (d':=s.drawn) (ch:=[it]) (fun b hb=>?_) (fun b o _ _ hc e _=>k b o (fun z=>hc (by simp[z])) e) (fun b o _ _ hc e _=>⟨o.slots,k b o (fun z=>hc (by simp[z])) e⟩) (fun _ _ _ _ n=>n)
  (fun b o hc e=>⟨o,k b o (fun z=>hc (by simp[z])) e⟩) (fun _ _ e=>e) (fun _ _ _ e=>e) (fun b ps e=>⟨#[],by rw[e];simp⟩) (fun m hm=>?_) (fun b u e=>?_) I.bare
 ·have e:b=it:=by simpa using hb
  subst e
  exact⟨h1,hL,h2,h3⟩
 ·obtain⟨o,es,ep,ho,r⟩:=hm
  exact⟨o,es,ep,k _ o (Ne.symm hL) ho,r⟩
 ·refine (I.hok b u e).stay (fun c v hc q=>k c v ?_ q) (fun _ q=>q) fun _ _ q=>q
  rcases hc with z|z
  ·rw[z];exact nit b u e
  ·exact nit c _ z
theorem Inv.tok(I:Inv X pins σ H s)(t:Nat):Inv X pins σ H { s with toks:=t }:=I.un (h':=s.heap) (t':=t) Un.refl I.hok
theorem Inv.kept{t':Nat}(I:Inv X pins σ H s)(k:∀ b u,s.heap.get? b=some u->h'.get? b=some u):Inv X pins σ H { s with heap:=h',toks:=t' }:=I.un (Un.kept k) (I.hok.kept k)
theorem Inv.laid{a:Addr}{o:HO}{t':Nat}(I:Inv X pins σ H s)(k:∀ b u,s.heap.get? b=some u->h'.get? b=some u)(hp:s.heap.objs.size<=a)(new:ze9 X.prog X.w (upd H a o) h' a o) :
  Inv X pins σ (upd H a o) { s with heap:=h',toks:=t' }:=I.un (Un.laid k hp (I.hok.fresh hp)) (I.hok.laid k hp new)
theorem Inv.write{x e:Addr}{o:HO}{t':Nat}(I:Inv X pins σ H s)(mu:Mut (H x))(he:e=x∨H e=some (.own x))(k:∀ b u,b≠e->s.heap.get? b=some u->h'.get? b=some u)(heo:∃ u,h'.get? e=some u)(new:ze9 X.prog X.w (upd H x o) h' x o):Inv X pins σ (upd H x o) { s with heap:=h',toks:=t' }:=I.un (Un.write mu he k heo) (I.hok.write mu he k heo new)
theorem Inv.pins_of{pins':List (Addr×Obj)}(I:Inv X pins σ H s)(h:∀ p∈pins',s.heap.get? p.1=some p.2/\H p.1=none/\p.1≠X.env.locals/\p.1 ∉ X.fs/\∀ v,p.2.data≠.cell v):Inv X pins' σ H s:=
 ⟨I.ok,I.os,I.bare,I.base,I.loc,I.cell,I.free,I.freeC,fun p hp=>(zch7.mp hp).elim (fun z=>I.pin p (zcp0 _ z)) (h p),I.hok,I.len⟩
theorem zag9{N:List Str}(hN:N.Nodup){j:Nat}{x:Str}(a:N[i]?=some x)(b:N[j]?=some x):i=j:=by
 obtain⟨h1,e1⟩:=zcf6.mp a
 obtain⟨h2,e2⟩:=zcf6.mp b
 exact (List.getElem_inj hN).mp (e1.trans e2.symm)
theorem zam4{M:Model}{A:Around}{x:Str}{v:V}{Q:Unit->Shared->Prop}(I:Inv X pins σ H s)(hN:X.N.Nodup)(hi:X.N[i]?=some x)(hx:Loc X.env.scope x)(r:RelV v u)(h:∀ s',Inv X pins (σ.set i (some v)) H s'->(∃ a,Heap.SameBut a s.heap s'.heap/\(a=X.env.locals∨X.env.cells.lookup x=some a))->Q () s')(hf:X.fn x=true∨X.env.scope.names.lookup x=some .local:=by first|exact .inl rfl|exact .inr rfl|assumption):wpAny M A (storeName X.env x u) Q E s:=by
 obtain⟨m,hn,hl⟩:=id I.loc
 have hcls:(X.env.scope.kind==.class || (X.env.scope.kind==.module&&X.env.locals != X.env.globals))=false:=by rw[I.ok.kind];rfl
 have hiσ:i<σ.length:=by rw[I.len];exact (zcf6.mp hi).1
 have cne:=I.cne
 have tracked:∀ {a:Addr}{h':Heap},(∃ o,s.heap.get? a=some o/\H a=none)->Heap.SameBut a s.heap h'->HOk X.prog X.w H h':=fun {a h'} ha hs b ob e=>by
  obtain⟨_,_,hfree⟩:=ha
  refine (I.hok b ob e).stay (fun c w' hc q=>(hs.2 c ?_).trans q) (fun _ q=>q) fun _ _ q=>q
  rintro rfl
  rcases hc with rfl|hc
  ·rw[hfree] at e;cases e
  ·rw[hfree] at hc;cases hc
 rcases hx with hk|hk
 ·refine wpAny_storeName_local hk hn (fun h' hn' hs=>?_) hcls
  obtain⟨oL,_,_,hoL,_⟩:=id hn
  refine h _ ⟨I.ok,I.os,I.bare,⟨fun b o e n hb hx=>?_,fun b o e n hb hx=>?_,I.base.free,fun b o e hx=>?_,I.base.tups,I.base.frzs,I.base.tbls⟩,⟨_,hn',fun j y v' e1 e2 e3=>?_⟩,fun y c e=>?_,I.free,I.freeC,fun p hp=>?_,tracked ⟨oL,hoL,I.free⟩ hs,by simpa using I.len⟩ ⟨_,hs,.inl rfl⟩
  ·exact (hs.2 b (zci2 (zch3 (zch1 e) I.ok.above))).trans (I.base.keep b o e n hb hx)
  ·obtain⟨sl,e1⟩:=I.base.slot b o e n hb hx
   exact⟨sl,(hs.2 b (zci2 (zch3 (zch1 e) I.ok.above))).trans e1⟩
  ·obtain⟨o',e1⟩:=I.base.there b o e hx
   exact⟨o',(hs.2 b (zci2 (zch3 (zch1 e) I.ok.above))).trans e1⟩
  ·by_cases hj:j=i
   ·subst hj
    rw[hi] at e1;cases e1
    rw[zcn0 hiσ] at e2
    cases e2
    exact⟨u,r,.inl ⟨hk,by simp⟩⟩
   ·rw[List.getElem?_set_ne (Ne.symm hj)] at e2
    obtain⟨u',r',q⟩:=hl j y v' e1 e2 e3
    refine⟨u',r',?_⟩
    rcases q with ⟨k,e⟩|⟨k,c,e,z⟩
    ·refine .inl ⟨k,?_⟩
     have:y≠x:=fun e=>hj (zag9 hN e1 (e▸hi))
     simp[this,e]
    ·exact .inr ⟨k,c,e,z.sameBut hs (cne y c e)⟩
  ·obtain⟨w',z⟩:=I.cell y c e
   exact⟨w',z.sameBut hs (cne y c e)⟩
  ·obtain⟨e,n,ne,nf,d⟩:=I.pin p hp
   exact⟨(hs.2 p.1 ne).trans e,n,ne,nf,d⟩
 ·have hfn:X.fn x=true:=by
   rcases hf with z|z
   ·exact z
   ·rw[z] at hk;cases hk
  obtain⟨c,hc⟩:=I.ok.has x (.inl hk)
  obtain⟨w',z⟩:=I.cell x c hc
  refine wpAny_storeName_cell I.ok.kind hk hc z (fun h' hc' hs=>?_)
  obtain⟨oc,hoc,hocd⟩:=id z
  refine h { s with heap:=h' } ⟨I.ok,I.os,I.bare,⟨fun b o e n hb hx=>?_,fun b o e n hb hx=>?_,I.base.free,fun b o e hx=>?_,I.base.tups,I.base.frzs,I.base.tbls⟩,⟨m,hn.sameBut hs (Ne.symm (cne x c hc)),fun j y v' e1 e2 e3=>?_⟩,fun y c' e=>?_,I.free,I.freeC,fun p hp=>?_,tracked ⟨oc,hoc,I.freeC x c hc⟩ hs,by simpa using I.len⟩ ⟨c,hs,.inr hc⟩
  ·exact (hs.2 b (zci2 (zch3 (zch1 e) (I.ok.cab x c hfn hc)))).trans (I.base.keep b o e n hb hx)
  ·obtain⟨sl,e1⟩:=I.base.slot b o e n hb hx
   exact⟨sl,(hs.2 b (zci2 (zch3 (zch1 e) (I.ok.cab x c hfn hc)))).trans e1⟩
  ·obtain⟨o',e1⟩:=I.base.there b o e hx
   exact⟨o',(hs.2 b (zci2 (zch3 (zch1 e) (I.ok.cab x c hfn hc)))).trans e1⟩
  ·by_cases hj:j=i
   ·subst hj
    rw[hi] at e1;cases e1
    rw[zcn0 hiσ] at e2
    cases e2
    exact⟨u,r,.inr ⟨.inl hk,c,hc,hc'⟩⟩
   ·rw[List.getElem?_set_ne (Ne.symm hj)] at e2
    obtain⟨u',r',q⟩:=hl j y v' e1 e2 e3
    refine⟨u',r',?_⟩
    rcases q with q|⟨k,c',e,z'⟩
    ·exact .inl q
    ·refine .inr ⟨k,c',e,z'.sameBut hs ?_⟩
     rintro rfl
     exact hj (zag9 hN e1 (I.ok.inj _ _ _ e hc▸hi))
  ·by_cases hcc:c'=c
   ·subst hcc;exact⟨_,hc'⟩
   ·obtain⟨w2,z2⟩:=I.cell y c' e
    exact⟨w2,z2.sameBut hs hcc⟩
  ·obtain⟨e,n,ne,nf,d⟩:=I.pin p hp
   refine⟨(hs.2 p.1 ?_).trans e,n,ne,nf,d⟩
   intro q
   rw[q,hoc] at e
   have q':oc=p.2:=Option.some.inj e
   exact d w' (by rw[← q'];exact hocd)
theorem zu0{M:Model}{A:Around}{x:Str}{v:V}{Q:Unit->Shared->Prop}(I:Inv X pins σ H s)(hN:X.N.Nodup)(hi:X.N[i]?=some x)(hx:Loc X.env.scope x)(r:RelV v u)(h:∀ s',Inv X pins (σ.set i (some v)) H s'->Q () s')(hf:X.fn x=true∨X.env.scope.names.lookup x=some .local:=by first|exact .inl rfl|exact .inr rfl|assumption):wpAny M A (storeName X.env x u) Q E s:=
 zam4 I hN hi hx r (fun s' I' _=>h s' I') hf
theorem Inv.call'{s':Shared}{ch:List Addr}(I:Inv X pins σ H s)(ho:s'.os=s.os)(u:Un (frs X.stack) ch H H' s.heap s'.heap)(hok:HOk X.prog X.w H' s'.heap)(hg:AllBare s'.gens)(hch:∀ b∈ch,(b∈X.ex∨X.s₀.heap.objs.size<=b)/\b≠X.env.locals/\(∀ x c,X.env.cells.lookup x=some c->c≠b)/\∀ p∈X.pn++pins,p.1≠b):Inv X pins σ H' s':=by
 obtain⟨h',g',d',t',o'⟩:=s'
 have e:o'=s.os:=ho
 subst e
 exact I.call (g':=g') (t':=t') (d':=d') u hok hg hch
end
abbrev XK:=Value->Option Addr->Hp->Prop
abbrev St:=List (Option V)
variable {σ:St}
abbrev VK:=V->Hp->Prop
abbrev TE:=St->Hp->VK->Prop
abbrev TT:=St->Hp->(Bool->Hp->Prop)->Prop
abbrev TA:=St->Hp->(List V->Hp->Prop)->Prop
structure Ends where
 nx:St->Hp->Prop
 rt:VK
 bk:St->Hp->Prop:=fun _ _=>False
 ct:St->Hp->Prop:=fun _ _=>False
abbrev TS:=Ends->St->Hp->Prop
def EP(X:Cx)(pins:List (Addr×Obj))(σ:St)(Q:VK)(u:Value)(s':Shared):Prop:=∃ v H',Inv X pins σ H' s'/\RelV v u/\Q v H'
def TP(X:Cx)(pins:List (Addr×Obj))(σ:St)(Q:Bool->Hp->Prop)(b:Bool)(s':Shared):Prop:=∃ H',Inv X pins σ H' s'/\Q b H'
def AP(X:Cx)(pins:List (Addr×Obj))(σ:St)(Q:List V->Hp->Prop)(us:List Value)(s':Shared):Prop:=∃ vs H',Inv X pins σ H' s'/\Vals vs us/\Q vs H'
def SP(X:Cx)(pins:List (Addr×Obj))(D:Ends)(f:Flow)(s':Shared):Prop:=
 match f with
 | .next=>∃ σ' H',Inv X pins σ' H' s'/\D.nx σ' H'
 | .brk=>∃ σ' H',Inv X pins σ' H' s'/\D.bk σ' H'
 | .cont=>∃ σ' H',Inv X pins σ' H' s'/\D.ct σ' H'
 | .ret u=>∃ v σ' H',Inv X pins σ' H' s'/\RelV v u/\D.rt v H'
def PE(X:Cx)(e:Expr)(t:TE):Prop:=
 ∀ (pins:List (Addr×Obj)) (s:Shared) (σ:St) (H:Hp) (Q:VK),Inv X pins σ H s->t σ H Q->wpAny (model X.prog X.w) X.A (eval e X.env) (EP X pins σ Q) X.xe s
def PT(X:Cx)(e:Expr)(t:TT):Prop:=
 ∀ (pins:List (Addr×Obj)) (s:Shared) (σ:St) (H:Hp) (Q:Bool->Hp->Prop),Inv X pins σ H s->t σ H Q->wpAny (model X.prog X.w) X.A (isTrue e X.env (eval e X.env)) (TP X pins σ Q) X.xe s
def PW(X:Cx)(e:Expr)(t:TT):Prop:=
 ∀ (whole:Sem Value) (pins:List (Addr×Obj)) (s:Shared) (σ:St) (H:Hp) (Q:Bool->Hp->Prop),Inv X pins σ H s->t σ H Q->wpAny (model X.prog X.w) X.A (isTrue e X.env whole) (TP X pins σ Q) X.xe s
theorem PW.pt{X:Cx}{e:Expr}{t:TT}(h:PW X e t):PT X e t:=h _
def PA(X:Cx)(es:List Expr)(t:TA):Prop:=
 ∀ (pos:Pos) (pins:List (Addr×Obj)) (s:Shared) (σ:St) (H:Hp) (Q:List V->Hp->Prop),Inv X pins σ H s->t σ H Q->wpAny (model X.prog X.w) X.A (spliced (backTo pos (starEach es X.env))) (AP X pins σ Q) X.xe s
def PS(X:Cx)(st:Stmt)(t:TS):Prop:=
 ∀ (pins:List (Addr×Obj)) (s:Shared) (σ:St) (H:Hp) (D:Ends),Inv X pins σ H s->t D σ H->wpAny (model X.prog X.w) X.A (exec st X.env) (SP X pins D) X.xe s
def PSs(X:Cx)(st:List Stmt)(t:TS):Prop:=
 ∀ (pins:List (Addr×Obj)) (s:Shared) (σ:St) (H:Hp) (D:Ends),Inv X pins σ H s->t D σ H->wpAny (model X.prog X.w) X.A (execs st X.env) (SP X pins D) X.xe s
theorem thn{α:Type}{t:Sem α}{Q Q':α->Shared->Prop}{M:Model}{A:Around}(h:wpAny M A t Q E s)(hQ:∀ a s,Q a s->Q' a s):wpAny M A t Q' E s:=wpAny_mono h hQ fun _ _ x=>x
section
variable {X:Cx}
theorem bin{a b:Expr}{ta tb:TE}(ha:PE X a ta)(hb:PE X b tb){R:V->V->Hp->Prop}(I:Inv X pins σ H s)(h:ta σ H fun x H1=>tb σ H1 fun y H2=>R x y H2){α:Type}{Q:α->Shared->Prop}{f:Value->Value->Sem α}(hf:∀ v u s2 x y H2,Inv X pins σ H2 s2->RelV x v->RelV y u->R x y H2->wpAny (model X.prog X.w) X.A (f v u) Q X.xe s2) :
  wpAny (model X.prog X.w) X.A (eval a X.env) (fun v s₁=>wpAny (model X.prog X.w) X.A (eval b X.env) (fun u s₂=>wpAny (model X.prog X.w) X.A (f v u) Q X.xe s₂) X.xe s₁) X.xe s:=by
 refine thn (ha pins s σ H _ I h) fun v s1 ⟨x,H1,I1,r1,q1⟩=>?_
 refine thn (hb pins s1 σ H1 _ I1 q1) fun u s2 ⟨y,H2,I2,r2,q2⟩=>?_
 exact hf v u s2 x y H2 I2 r1 r2 q2
def tVar(i:Nat):TE:=fun σ H Q=>∃ v,σ[i]?=some (some v)/\Q v H
def tC(v:V):TE:=fun _ H Q=>Q v H
theorem pe_var{x:Str}{pos:Pos}(hN:X.N[i]?=some x)(hv:Vis X.env.scope x)(hd:(x==("__debug__":Str))=false:=by decide)(hcd:(x==("__classdict__":Str))=false:=by decide):PE X (.Name x pos) (tVar i):=by
 intro pins s σ H Q I h
 obtain⟨v,e,h⟩:=h
 obtain⟨m,hn,hl⟩:=I.loc
 obtain⟨u,r,l⟩:=hl i x v hN e hv
 have fin:EP X pins σ Q u s:=⟨v,H,I,r,h⟩
 rcases l with ⟨hk,hm⟩|⟨hk,c,hc,hcell⟩
 ·exact wpAny_Name (wpAny_loadName_local I.ok.kind hk hn hm fin) hd
 ·rcases hk with hk|hk
  ·exact wpAny_Name (wpAny_loadName_cell I.ok.kind hk hc hcell fin) hd
  ·exact wpAny_Name (wpAny_loadName_free I.ok.kind hk hc hcell fin hcd) hd
theorem za2{i j pos}:PE X (.Constant (.int i) j pos) (tC (.int i)):=fun _ _ _ H _ I h=>wpAny_Constant_int ⟨.int i,H,I.tok _,⟨_,rfl⟩,h⟩
theorem zt4{b j pos}:PE X (.Constant (.bool b) j pos) (tC (.bl b)):=fun _ _ _ H _ I h=>Constant_bool ⟨.bl b,H,I,rfl,h⟩
theorem zbe2{j pos}:PE X (.Constant .none j pos) (tC .non):=fun _ _ _ H _ I h=>Constant_none ⟨.non,H,I,rfl,h⟩
theorem zx5{x j pos}:PE X (.Constant (.str x) j pos) (tC (.str x)):=fun _ _ _ H _ I h=>Calls.Constant_str ⟨.str x,H,I.tok _,⟨_,rfl⟩,h⟩
def Gl(X:Cx)(x:Str):Prop:=X.env.kindOf x=some .globalImplicit
theorem zac6{x:Str}{pos:Pos}{Q:Value->Shared->Prop}(I:Inv X pins σ H s)(hg:Gl X x)(hm:X.mg x=some u)(h:Q u s)(hd:(x==("__debug__":Str))=false:=by decide):wpAny (model X.prog X.w) X.A (eval (.Name x pos) X.env) Q E s:=
 Calls.Name_function_global I.ok.kind hg (Calls.loadGlobal_global (by rw[I.ok.glob];exact I.mod.glob.keeps I.bk) hm h) hd
theorem zx4{x:Str}{pos:Pos}{Q:Value->Shared->Prop}(I:Inv X pins σ H s)(hg:Gl X x)(hm:X.mg x=none)(hv:bootBuiltins x=some u)(h:Q u s)(hn:x≠"__name__":=by decide)(hd:(x==("__debug__":Str))=false:=by decide):wpAny (model X.prog X.w) X.A (eval (.Name x pos) X.env) Q E s:=by
 obtain⟨mb,h1,h2⟩:=I.mod.blt
 exact Calls.Name_function_global I.ok.kind hg (Calls.loadGlobal_builtin (by rw[I.ok.glob];exact I.mod.glob.keeps I.bk) hm (by rw[I.ok.blt];exact h1.keeps I.bk) ((h2 x hn).trans hv) h) hd
theorem zo2{x:Str}{v:V}{pos:Pos}(hg:Gl X x)(hm:X.mg x=some u)(r:RelV v u)(hd:(x==("__debug__":Str))=false:=by decide):PE X (.Name x pos) (tC v):=
 fun _ _ _ H _ I h=>zac6 I hg hm ⟨v,H,I,r,h⟩ hd
theorem zbw0{x:Str}{v:V}{pos:Pos}(hg:Gl X x)(hm:X.mg x=none)(hv:bootBuiltins x=some u)(r:RelV v u)(hn:x≠"__name__":=by decide)(hd:(x==("__debug__":Str))=false:=by decide):PE X (.Name x pos) (tC v):=
 fun _ _ _ H _ I h=>zx4 I hg hm hv ⟨v,H,I,r,h⟩ hn hd
variable {a b:Expr}{ta tb:TE}{pos:Pos}
variable {tA tB':TT}{rest:List Expr}
def tAnd(t u:TT):TT:=fun σ H Q=>t σ H fun c H1=>if c=true then u σ H1 Q else Q false H1
def tOr(t u:TT):TT:=fun σ H Q=>t σ H fun c H1=>if c=true then Q true H1 else u σ H1 Q
def tNot(t:TT):TT:=fun σ H Q=>t σ H fun c H1=>Q (!c) H1
theorem zaq0(ha:PT X a tA):PW X (.BoolOp .And [a] pos) tA:=by
 intro wh pins s σ H Q I h
 refine isTrue_and (thn (ha pins s σ H Q I h) fun c s1 e=>?_)
 cases c with
 | true=>exact isTrue_and_nil e
 | false=>exact e
theorem zo9(ha:PT X a tA):PW X (.BoolOp .Or [a] pos) tA:=by
 intro wh pins s σ H Q I h
 refine isTrue_or (thn (ha pins s σ H Q I h) fun c s1 e=>?_)
 cases c with
 | false=>exact isTrue_or_nil e
 | true=>exact e
theorem pw_and(ha:PT X a tA)(hb:PW X (.BoolOp .And (b :: rest) pos) tB'):PW X (.BoolOp .And (a :: b :: rest) pos) (tAnd tA tB'):=by
 intro wh pins s σ H Q I h
 refine isTrue_and (thn (ha pins s σ H _ I h) fun c s1 ⟨H1,I1,q1⟩=>?_)
 cases c with
 | true=>exact hb wh pins s1 σ H1 Q I1 q1
 | false=>exact⟨H1,I1,q1⟩
theorem pw_or(ha:PT X a tA)(hb:PW X (.BoolOp .Or (b :: rest) pos) tB'):PW X (.BoolOp .Or (a :: b :: rest) pos) (tOr tA tB'):=by
 intro wh pins s σ H Q I h
 refine isTrue_or (thn (ha pins s σ H _ I h) fun c s1 ⟨H1,I1,q1⟩=>?_)
 cases c with
 | true=>exact⟨H1,I1,q1⟩
 | false=>exact hb wh pins s1 σ H1 Q I1 q1
theorem zk0(ha:PT X a tA):PT X (.UnaryOp .Not a pos) (tNot tA):=by
 intro pins s σ H Q I h
 exact isTrue_not (ha pins s σ H (fun c H1=>Q (!c) H1) I h)
theorem zt2{op}{t:TE}(h:PE X a t):PE X (.BoolOp op [a] pos) t:=fun pins s σ H Q I hw=>BoolOp_one (h pins s σ H Q I hw)
def tIf(t:TT)(ta tb:TE):TE:=fun σ H Q=>t σ H fun c H1=>if c=true then ta σ H1 Q else tb σ H1 Q
theorem zbp6{c:Expr}(hc:PT X c tA)(ha:PE X a ta)(hb:PE X b tb):PE X (.IfExp c a b pos) (tIf tA ta tb):=by
 intro pins s σ H Q I h
 refine wpAny_IfExp (thn (hc pins s σ H _ I h) fun d s1 ⟨H1,I1,q1⟩=>?_)
 cases d with
 | true=>exact ha pins s1 σ H1 Q I1 q1
 | false=>exact hb pins s1 σ H1 Q I1 q1
end
def SqL(K:zcf5)(H:Hp)(a:Addr)(xs:List V):Prop:=
 Rd H a (.lst xs) ∨
  ∃ (o:Obj) (its:Array Value) (n:Nat),K.lookup a=some o/\o.cls=.type "list"/\o.dict=none/\o.data=.seq its n/\its.size<=sizeLine/\Vals xs its.toList
def SqT(K:zcf5)(H:Hp)(a:Addr)(xs:List V):Prop:=
 Rd H a (.tup xs) ∨
  ∃ (o:Obj) (its:Array Value) (n:Nat),K.lookup a=some o/\o.cls=.type "tuple"/\o.data=.seq its n/\its.size<=sizeLine/\Vals xs its.toList
def absV:Value->Option V
 | .none=>some .non
 | .bool b=>some (.bl b)
 | .int i _=>some (.int i)
 | .str x _=>some (.str x)
 | .bytes b _=>some (.byt b)
 | .float b _=>some (.flt b)
 | .ref a=>some (.ref a)
 | .type n=>some (.ty n)
 | _=>none
theorem RelV.abs{x:V}(r:RelV x u):absV u=some x:=by
 cases x with
 | non=>cases r;rfl
 | bl _=>cases r;rfl
 | int _=>obtain⟨t,rfl⟩:=r;rfl
 | str _=>obtain⟨t,rfl⟩:=r;rfl
 | byt _=>obtain⟨t,rfl⟩:=r;rfl
 | flt _=>obtain⟨t,rfl⟩:=r;rfl
 | ref _=>cases r;rfl
 | ty _=>cases r;rfl
theorem RelV.inj{x y:V}{u:Value}(r:RelV x u)(q:RelV y u):x=y:=Option.some.inj (r.abs.symm.trans q.abs)
theorem Vals.inj:∀ {xs ys:List V}{us:List Value},Vals xs us->Vals ys us->xs=ys
 | _,_,_,.nil,.nil=>rfl
 | _,_,_,.cons r t,.cons r' t'=>by rw[r.inj r',Vals.inj t t']
section
variable {X:Cx}{pins:List (Addr×Obj)}{σ:St}{H:Hp}{s:Shared}{a:Addr}{xs ys:List V}
theorem SqL.of{K:zcf5}(h:H a=some (.lst xs)):SqL K H a xs:=.inl (.inl h)
theorem SqT.of{K:zcf5}(h:H a=some (.tup xs)):SqT K H a xs:=.inl (.inl h)
theorem Inv.list(I:Inv X pins σ H s)(h:SqL X.K H a xs):∃ its:List Value,Vals xs its/\PlainL s.heap a its.toArray/\xs.length<=sizeLine:=by
 rcases h with h|⟨o,its,n,hk,hc,hd,hs,hz,r⟩
 ·obtain⟨z,its,n,r,e⟩:=h.ok I.hok
  exact⟨its,r,⟨_,n,e,rfl,rfl,rfl⟩,z⟩
 ·refine⟨its.toList,r,⟨o,n,I.kIn a o hk,hc,hd,by simpa using hs⟩,?_⟩
  have e:=r.length
  simp only[zcg7] at e
  omega
theorem Inv.tuple(I:Inv X pins σ H s)(h:SqT X.K H a xs):∃ its:List Value,Vals xs its/\IsTup s.heap a its.toArray/\xs.length<=sizeLine:=by
 rcases h with h|⟨o,its,n,hk,hc,hs,hz,r⟩
 ·obtain⟨z,its,r,p⟩:=h.ok I.hok
  exact⟨its,r,p,z⟩
 ·refine⟨its.toList,r,⟨o,I.kIn a o hk,hc,n,by simpa using hs⟩,?_⟩
  have e:=r.length
  simp only[zcg7] at e
  omega
theorem Inv.list_inj(I:Inv X pins σ H s)(h:SqL X.K H a xs)(h':SqL X.K H a ys):xs=ys:=by
 obtain⟨its,r,⟨o,n,e,_,_,d⟩,_⟩:=I.list h
 obtain⟨its',r',⟨o',n',e',_,_,d'⟩,_⟩:=I.list h'
 rw[e] at e';cases e'
 rw[d] at d'
 injection d' with d1 _
 have:its=its':=by simpa using congrArg Array.toList d1
 subst this
 exact r.inj r'
theorem Inv.tuple_inj(I:Inv X pins σ H s)(h:SqT X.K H a xs)(h':SqT X.K H a ys):xs=ys:=by
 obtain⟨its,r,⟨o,e,_,n,d⟩,_⟩:=I.tuple h
 obtain⟨its',r',⟨o',e',_,n',d'⟩,_⟩:=I.tuple h'
 rw[e] at e';cases e'
 rw[d] at d'
 injection d' with d1 _
 have:its=its':=by simpa using congrArg Array.toList d1
 subst this
 exact r.inj r'
end
abbrev Cx.wish(X:Cx)(E:Value->Shared->Prop):Cx:={ X with xe:=E }
abbrev Cx.nox(X:Cx):Cx:=X.wish fun _ _=>False
theorem Cx.Ok.wish{X:Cx}(ok:X.Ok)(E:Value->Shared->Prop):(X.wish E).Ok:=
 ⟨ok.mod,ok.kind,ok.glob,ok.blt,ok.above,ok.inj,ok.has,ok.cab,ok.hd,ok.frames,ok.stk,ok.exf,ok.bs,ok.bsz,ok.noex,ok.exfs,ok.funs,ok.frf⟩
theorem Cx.Ok.unwish{X:Cx}(ok:(X.wish E).Ok):X.Ok:=
 ⟨ok.mod,ok.kind,ok.glob,ok.blt,ok.above,ok.inj,ok.has,ok.cab,ok.hd,ok.frames,ok.stk,ok.exf,ok.bs,ok.bsz,ok.noex,ok.exfs,ok.funs,ok.frf⟩
section
variable {X:Cx}{pins:List (Addr×Obj)}{σ:St}{H:Hp}{s:Shared}{E:Value->Shared->Prop}
theorem Inv.wish(I:Inv X pins σ H s)(E:Value->Shared->Prop):Inv (X.wish E) pins σ H s:=⟨I.ok.wish E,I.os,I.bare,I.base,I.loc,I.cell,I.free,I.freeC,I.pin,I.hok,I.len⟩
theorem Inv.unwish(I:Inv (X.wish E) pins σ H s):Inv X pins σ H s:=⟨I.ok.unwish,I.os,I.bare,I.base,I.loc,I.cell,I.free,I.freeC,I.pin,I.hok,I.len⟩
theorem SP.unwish{D:Ends}{f:Flow}{s':Shared}(h:SP (X.wish E) pins D f s'):SP X pins D f s':=by
 cases f with
 | next=>obtain⟨σ',H',I,q⟩:=h;exact⟨σ',H',I.unwish,q⟩
 | brk=>obtain⟨σ',H',I,q⟩:=h;exact⟨σ',H',I.unwish,q⟩
 | cont=>obtain⟨σ',H',I,q⟩:=h;exact⟨σ',H',I.unwish,q⟩
 | ret u=>obtain⟨v,σ',H',I,r,q⟩:=h;exact⟨v,σ',H',I.unwish,r,q⟩
theorem PSs.nox{st:List Stmt}{t:TS}(h:PSs X.nox st t):PSs X st t:=fun pins s σ H D I hw=>
 wpAny_mono (h pins s σ H D (I.wish _) hw) (fun _ _ q=>q.unwish) fun _ _ z=>False.elim z
end
section
variable {X:Cx}{st:Stmt}{rest:List Stmt}{t u:TS}{e:Expr}{te:TE}{pos:Pos}
def tNext:TS:=fun D σ H=>D.nx σ H
def tSeq(t u:TS):TS:=fun D σ H=>t { D with nx:=u D } σ H
theorem zd7:PSs X [] tNext:=fun _ _ σ H _ I h=>wpAny_execs_nil ⟨σ,H,I,h⟩
theorem za4(h1:PS X st t)(h2:PSs X rest u):PSs X (st :: rest) (tSeq t u):=by
 intro pins s σ H D I h
 refine wpAny_execs_cons (thn (h1 pins s σ H { D with nx:=u D } I h) fun f s1 q=>?_)
 cases f with
 | next=>
  obtain⟨σ',H',I',q⟩:=q
  exact h2 pins s1 σ' H' D I' q
 | ret v=>exact q
 | brk=>exact q
 | cont=>exact q
theorem za6(h1:PS X st t):PSs X [st] t:=by
 intro pins s σ H D I h
 refine wpAny_execs_cons (thn (h1 pins s σ H D I h) fun f s1 q=>?_)
 cases f with
 | next=>exact wpAny_execs_nil q
 | ret v=>exact q
 | brk=>exact q
 | cont=>exact q
theorem Inv.quiet(I:Inv X pins σ H s):interactive X.env=false:=by simp[interactive,I.ok.kind]
def tDrop(te:TE):TS:=fun D σ H=>te σ H fun _ H1=>D.nx σ H1
theorem zs3(he:PE X e te)(hs:swapsWith e none pos.line X.env=pure false:=by rfl):PS X (.Expr e pos) (tDrop te):=by
 intro pins s σ H D I h
 exact wpAny_Expr_any (thn (he pins s σ H _ I h) fun v s1 ⟨x,H1,I1,r1,q1⟩=>⟨σ,H1,I1,q1⟩) I.quiet hs
def tRet(te:TE):TS:=fun D σ H=>te σ H D.rt
theorem zb6(he:PE X e te):PS X (.Return (some e) pos) (tRet te):=by
 intro pins s σ H D I h
 exact wpAny_Return_some (thn (he pins s σ H _ I h) fun v s1 ⟨x,H1,I1,r1,q1⟩=>⟨x,σ,H1,I1,r1,q1⟩)
def tIfS(c:TT)(t u:TS):TS:=fun D σ H=>c σ H fun b H1=>if b=true then t D σ H1 else u D σ H1
theorem ps_if{c:Expr}{a b:List Stmt}{tc:TT}(hc:PT X c tc)(ha:PSs X a t)(hb:PSs X b u):PS X (.If c a b pos) (tIfS tc t u):=by
 intro pins s σ H D I h
 refine wpAny_If (thn (hc pins s σ H _ I h) fun d s1 ⟨H1,I1,q1⟩=>?_)
 cases d with
 | true=>exact ha pins s1 σ H1 D I1 q1
 | false=>exact hb pins s1 σ H1 D I1 q1
end
abbrev TG:=V->St->Hp->(St->Hp->Prop)->Prop
abbrev TGs:=List V->St->Hp->(St->Hp->Prop)->Prop
def PG(X:Cx)(target:Expr)(t:TG):Prop:=
 ∀ (pins:List (Addr×Obj)) (s:Shared) (σ:St) (H:Hp) (v:V) (u:Value) (Q:St->Hp->Prop),Inv X pins σ H s->RelV v u->t v σ H Q ->
  wpAny (model X.prog X.w) X.A (assign target X.env u) (fun _ s'=>∃ σ' H',Inv X pins σ' H' s'/\Q σ' H') X.xe s
def PGs(X:Cx)(ts:List Expr)(t:TGs):Prop:=
 ∀ (pins:List (Addr×Obj)) (s:Shared) (σ:St) (H:Hp) (vs:List V) (us:List Value) (Q:St->Hp->Prop),Inv X pins σ H s->Vals vs us->t vs σ H Q ->
  wpAny (model X.prog X.w) X.A (assignInOrder ((assignEach ts X.env).map (·.2)) us) (fun _ s'=>∃ σ' H',Inv X pins σ' H' s'/\Q σ' H') X.xe s
abbrev TSet:=V->V->V->Hp->(Hp->Prop)->Prop
def PSet(X:Cx)(t:TSet):Prop:=
 ∀ (pins:List (Addr×Obj)) (s:Shared) (σ:St) (H:Hp) (o i v:V) (ov iv u:Value) (Q:Hp->Prop),Inv X pins σ H s->RelV o ov->RelV i iv->RelV v u->t o i v H Q ->
  wpAny (model X.prog X.w) X.A (setItem ov iv u) (fun _ s'=>∃ H',Inv X pins σ H' s'/\Q H') X.xe s
abbrev TIp:=V->V->Hp->VK->Prop
def PIp(X:Cx)(op:Operator)(t:TIp):Prop:=
 ∀ (pins:List (Addr×Obj)) (s:Shared) (σ:St) (H:Hp) (x y:V) (v u:Value) (Q:VK),Inv X pins σ H s->RelV x v->RelV y u->t x y H Q ->
  wpAny (model X.prog X.w) X.A (inplaceOp op v u) (EP X pins σ Q) X.xe s
section
variable {X:Cx}{pos:Pos}
def zay0(i:Nat):TG:=fun v σ H Q=>Q (σ.set i (some v)) H
theorem za9{x:Str}(hN:X.N.Nodup)(hi:X.N[i]?=some x)(hx:Loc X.env.scope x)(hf:X.fn x=true∨X.env.scope.names.lookup x=some .local:=by first|exact .inl rfl|exact .inr rfl|assumption):PG X (.Name x pos) (zay0 i):=by
 intro pins s σ H v u Q I r h
 exact wpAny_assign_Name (zu0 I hN hi hx r (fun s' I'=>⟨_,H,I',h⟩) hf)
def gNil:TGs:=fun vs σ H Q=>vs=[]/\Q σ H
def gCons(t:TG)(u:TGs):TGs:=fun vs σ H Q=>∃ v r,vs=v :: r/\t v σ H fun σ' H'=>u r σ' H' Q
theorem zbx4:PGs X [] gNil:=by
 intro pins s σ H vs us Q I r h
 obtain⟨e,h⟩:=h
 subst e
 cases r
 exact assignInOrder_nil ⟨σ,H,I,h⟩
theorem zbn1{e:Expr}{es:List Expr}{t:TG}{u:TGs}(h1:PG X e t)(h2:PGs X es u)(hs:(assignEach (e :: es) X.env).map (·.2)=assign e X.env :: (assignEach es X.env).map (·.2):=by rfl):PGs X (e :: es) (gCons t u):=by
 intro pins s σ H vs us Q I r h
 obtain⟨v,vr,e1,h⟩:=h
 subst e1
 cases r with
 | cons r rr=>
  rw[hs]
  refine assignInOrder_cons (thn (h1 pins s σ H _ _ _ I r h) fun _ s1 ⟨σ1,H1,I1,q1⟩=>?_)
  exact h2 pins s1 σ1 H1 _ _ Q I1 rr q1
def gTup(K:zcf5)(n:Nat)(t:TGs):TG:=fun v σ H Q=>∃ a xs,v=.ref a/\SqT K H a xs/\xs.length=n/\t xs σ H Q
theorem pg_tup{es:List Expr}{k:Nat}{t:TGs}{n:Nat}(hc:X.calm=true)(h:PGs X es t)(hn:(assignEach es X.env).length=n:=by rfl)(hst:(assignEach es X.env).findIdx? (·.1)=none:=by rfl):PG X (.Tuple es k pos) (gTup X.K n t):=by
 intro pins s σ H v u Q I r hw
 obtain⟨a,xs,e1,hq,hl,hw⟩:=hw
 subst e1
 cases r
 obtain⟨its,rv,ht,hz⟩:=I.tuple hq
 refine assign_Tuple_tuple (I.ok.hd hc) ht (by simp[hn,← hl,rv.length]) hst fun h' hx=>?_
 have I1:Inv X pins σ H { s with heap:=h' }:=I.kept (t':=s.toks) fun b o e=>hx b o (zci2 (zch1 e)) e
 exact h pins _ σ H xs _ Q I1 (by simpa using rv) hw
def gSub(to ti:TE)(t:TSet):TG:=fun v σ H Q=>to σ H fun o H1=>ti σ H1 fun i H2=>t o i v H2 fun H3=>Q σ H3
theorem zbq8{o i:Expr}{to ti:TE}{t:TSet}(ho:PE X o to)(hi:PE X i ti)(hs:PSet X t)(ha:∀ v,assign (.Subscript o i pos) X.env v=(do
   let ov ← holding [v] (eval o X.env)
   let iv ← holding [v,ov] (eval i X.env)
   standAt pos
   holding [v,ov,iv] (setItem ov iv v)
   release [v,ov,iv] []):=by intro _;rfl):PG X (.Subscript o i pos) (gSub to ti t):=by
 intro pins s σ H v u Q I r h
 rw[ha]
 refine zcp6 (zcq1 (thn (ho pins s σ H _ I h) fun ov s1 ⟨x,H1,I1,r1,q1⟩=>?_))
 refine zcp6 (zcq1 (thn (hi pins s1 σ H1 _ I1 q1) fun iv s2 ⟨y,H2,I2,r2,q2⟩=>?_))
 refine zcp6 (wpAny_standAt (zcp6 (zcq1 (thn (hs pins s2 σ H2 x y v ov iv u _ I2 r1 r2 r q2) fun _ s3 ⟨H3,I3,q3⟩=>?_))))
 exact wpAny_release ⟨σ,H3,I3,q3⟩
def tAsg(te:TE)(g:TG):TS:=fun D σ H=>te σ H fun x H1=>g x σ H1 D.nx
theorem zbb5{e:Expr}{te:TE}{g:TG}(he:PE X e te)(hg:PG X tg g)(hs:swapsWithSole [tg] e pos.line X.env=pure false:=by rfl)(hw:swappedStores [tg] e X.env=pure none:=by rfl)(h1:(assignEach [tg] X.env).map (·.2)=[assign tg X.env]:=by rfl):PS X (.Assign [tg] e pos) (tAsg te g):=by
 intro pins s σ H D I h
 refine wpAny_Assign_stores (thn (he pins s σ H _ I h) fun v s1 ⟨x,H1,I1,r1,q1⟩=>?_) hs hw
 rw[h1]
 exact thn (hg pins s1 σ H1 x v _ I1 r1 q1) fun _ s2 q=>q
theorem zbd3{x:Str}{e:Expr}{te:TE}{pos':Pos}(hN:X.N.Nodup)(hi:X.N[i]?=some x)(hx:Loc X.env.scope x)(he:PE X e te)(hs:swapsWith e (some (.Name x pos')) pos.line X.env=pure false:=by rfl)(hf:X.fn x=true∨X.env.scope.names.lookup x=some .local:=by first|exact .inl rfl|exact .inr rfl|assumption) :
  PS X (.Assign [.Name x pos'] e pos) (tAsg te (zay0 i)):=by
 intro pins s σ H D I h
 refine wpAny_Assign_Name (thn (he pins s σ H _ I h) fun v s1 ⟨y,H1,I1,r1,q1⟩=>?_) hs
 exact zu0 I1 hN hi hx r1 (fun s2 I2=>⟨_,H1,I2,q1⟩) hf
def tAug(i:Nat)(te:TE)(ti:TIp):TS:=fun D σ H=>∃ x,σ[i]?=some (some x)/\te σ H fun y H1=>ti x y H1 fun z H2=>D.nx (σ.set i (some z)) H2
theorem ps_aug{x:Str}{e:Expr}{te:TE}{op:Operator}{ti:TIp}{pos':Pos}(hN:X.N.Nodup)(hi:X.N[i]?=some x)(hx:Loc X.env.scope x)(he:PE X e te)(ho:PIp X op ti)(hf:X.fn x=true∨X.env.scope.names.lookup x=some .local:=by first|exact .inl rfl|exact .inr rfl|assumption) :
  PS X (.AugAssign (.Name x pos') op e pos) (tAug i te ti):=by
 intro pins s σ H D I h
 obtain⟨v,e1,h⟩:=h
 obtain⟨m,hn,hl⟩:=I.loc
 have vis:Vis X.env.scope x:=by rcases hx with k|k;exact .inl k;exact .inr (.inl k)
 obtain⟨u,r,l⟩:=hl i x v hi e1 vis
 refine wpAny_AugAssign_Name ?_
 have go:wpAny (model X.prog X.w) X.A (eval e X.env) (fun w s₂=>wpAny (model X.prog X.w) X.A (inplaceOp op u w) (fun r s₃=>wpAny (model X.prog X.w) X.A (storeName X.env x r) (fun _=>SP X pins D .next) X.xe s₃) X.xe s₂) X.xe s:=by
  refine thn (he pins s σ H _ I h) fun w s1 ⟨y,H1,I1,r1,q1⟩=>?_
  refine thn (ho pins s1 σ H1 v y u w _ I1 r r1 q1) fun z s2 ⟨zv,H2,I2,r2,q2⟩=>?_
  exact zu0 I2 hN hi hx r2 (fun s3 I3=>⟨_,H2,I3,q2⟩) hf
 rcases l with ⟨hk,hm⟩|⟨hk,c,hc,hcell⟩
 ·exact wpAny_loadName_local I.ok.kind hk hn hm go
 ·rcases hk with hk|hk
  ·exact wpAny_loadName_cell I.ok.kind hk hc hcell go
  ·rcases hx with k|k
   ·have:X.env.scope.names.lookup x=some .free:=hk
    rw[k] at this;cases this
   ·have:X.env.scope.names.lookup x=some .free:=hk
    rw[k] at this;cases this
end
section
variable {X:Cx}{pos:Pos}
def tWhile(c:TT)(tb:TS):TS:=fun D σ H=>∃ W:Nat->St->Hp->Prop,(∃ m,W m σ H)/\∀ m σ H,W m σ H ->
 c σ H fun b H1=>if b=true then ∃ N:St->Hp->Prop,(∀ σ' H',N σ' H'->∃ m',m'<m/\W m' σ' H')/\tb { D with nx:=N,ct:=N,bk:=D.nx } σ H1 else D.nx σ H1
theorem zbq2{c:Expr}{body:List Stmt}{tc:TT}{tb:TS}(hp:PassesOwn (model X.prog X.w) X.A X.env X.xe)(hc:PT X c tc)(hb:PSs X body tb):PS X (.While c body [] pos) (tWhile tc tb):=by
 intro pins s σ H D I h
 obtain⟨W,⟨m0,w0⟩,turn⟩:=h
 refine wpAny_While (codeAny_whileLoop (fun n s'=>∃ σ' H',Inv X pins σ' H' s'/\W n σ' H') ?_ m0 ⟨σ,H,I,w0⟩)
 rintro n s1 ⟨σ1,H1,I1,w1⟩
 refine wpAny_passesOwn hp (thn (hc pins s1 σ1 H1 _ I1 (turn n σ1 H1 w1)) fun b s2 ⟨H2,I2,q2⟩=>?_)
 cases b with
 | true=>
  obtain⟨N,hN,q2⟩:=q2
  rw[if_pos rfl]
  refine wpAny_passesOwn hp (thn (hb pins s2 σ1 H2 _ I2 q2) fun f s3 q3=>?_)
  cases f with
  | next=>
   obtain⟨σ3,H3,I3,n3⟩:=q3
   obtain⟨m',hm,w3⟩:=hN σ3 H3 n3
   exact⟨m',hm,σ3,H3,I3,w3⟩
  | cont=>
   obtain⟨σ3,H3,I3,n3⟩:=q3
   obtain⟨m',hm,w3⟩:=hN σ3 H3 n3
   exact⟨m',hm,σ3,H3,I3,w3⟩
  | brk=>exact q3
  | ret v=>exact q3
 | false=>
  rw[if_neg zcg3]
  exact wpAny_execs_nil ⟨σ1,H2,I2,q2⟩
end
structure It where
 go:Nat->Hp->Prop
 yld:Nat->Hp->V->Hp->Prop
 stop:Nat->Hp->Prop
def FpOk(X:Cx)(pins:List (Addr×Obj))(H:Hp)(b:Addr):Prop:=
 H b=none/\b≠X.env.locals/\b ∉ X.fs/\(b∈X.ex∨X.s₀.heap.objs.size<=b)/\(∀ x c,X.env.cells.lookup x=some c->c≠b)/\∀ p∈X.pn++pins,p.1≠b
theorem Inv.fpOk{X:Cx}{H':Hp}{b:Addr}(I:Inv X pins σ H s)(hb:s.heap.objs.size<=b)(hn:H' b=none):FpOk X pins H' b:=by
 refine⟨hn,zcp1 (zch3 I.lt hb),I.nofs hb,.inr (zcj5 I.sz hb),fun x c e z=>?_,fun p hp z=>?_⟩
 ·obtain⟨v,q⟩:=I.cell x c e
  exact absurd (zch3 q.lt (by rw[z];exact hb)) (zcm3 _)
 ·exact absurd (zch3 (zch1 (I.pin p hp).1) (by rw[z];exact hb)) (zcm3 _)
structure Turn(P:Program)(w:World)(K:zcf5)(tg:Expr)(J:It)(fp:List Addr)(it:Addr)(tn:Nat->Heap->Prop):Prop where
 mem:it∈fp
 obj:∀ i h,tn i h->∀ b∈fp,∃ o,h.get? b=some o/\∀ v,o.data≠.cell v
 keep:∀ i h h',tn i h->(∀ b∈fp,∀ o,h.get? b=some o->h'.get? b=some o)->tn i h'
 item:∀ (X:Cx),X.prog=P->X.w=w->X.K=K->X.calm=true->∀ (i:Nat) (pins:List (Addr×Obj)) (s:Shared) (σ:St) (H:Hp) (E:Value->Shared->Prop),Inv X pins σ H s->(∀ b∈fp,FpOk X pins H b)->tn i s.heap->J.go i H ->
  wpAny (model P w) X.A (pyNext (.ref it)) (fun r s1=>∃ u,r=some u /\
   wpAny (model P w) X.A (letOwnedTupleGo tg (.ref it) u) (fun _ s2=>∃ x H',Inv X pins σ H' s2/\RelV x u/\J.yld i H x H'/\tn (i+1) s2.heap/\∀ b∈fp,H' b=none) E s1) E s
 done:∀ (X:Cx),X.prog=P->X.w=w->X.K=K->X.calm=true->∀ (i:Nat) (pins:List (Addr×Obj)) (s:Shared) (σ:St) (H:Hp) (E:Value->Shared->Prop),Inv X pins σ H s->(∀ b∈fp,FpOk X pins H b)->tn i s.heap->J.stop i H ->
  wpAny (model P w) X.A (pyNext (.ref it)) (fun r s1=>r=none/\Inv X pins σ H s1) E s
 self:∀ (A:Around) (i:Nat) (s:Shared) (Q:Value->Shared->Prop) (E:Value->Shared->Prop),tn i s.heap->Q (.ref it) s->wpAny (model P w) A (pyIter (.ref it)) Q E s
abbrev TI:=St->Hp->(It->Hp->Prop)->Prop
def PIE(X:Cx)(pins:List (Addr×Obj))(σ:St)(tg:Expr)(R:It->Hp->Prop)(itv:Value)(s2:Shared):Prop:=
 ∃ (it:Addr) (fp:List Addr) (tn:Nat->Heap->Prop) (J:It) (H':Hp),itv=.ref it/\Inv X pins σ H' s2/\Turn X.prog X.w X.K tg J fp it tn/\tn 0 s2.heap/\(∀ b∈fp,FpOk X pins H' b)/\R J H'
def PI(X:Cx)(tg iter:Expr)(wi:TI):Prop:=
 ∀ (pins:List (Addr×Obj)) (s:Shared) (σ:St) (H:Hp) (R:It->Hp->Prop),Inv X pins σ H s->wi σ H R ->
  wpAny (model X.prog X.w) X.A (eval iter X.env) (fun v s1=>wpAny (model X.prog X.w) X.A (pyIter v) (PIE X pins σ tg R) X.xe s1) X.xe s
theorem go_of{M:Model}{A:Around}{it:Addr}{o:Obj}{n:String}{vs:Array Value}{Q:Unit->Shared->Prop}(ho:s.heap.get? it=some o)(hc:o.cls=.type n)(hd:o.data=.fields vs)(hn:["enumerate","zip","dict_itemiterator","dict_reverseitemiterator","odict_iterator","itertools.zip_longest","itertools.pairwise"].contains n=false)(hQ:Q () s):wpAny M A (letOwnedTupleGo tg (.ref it) u) Q E s:=by
 unfold letOwnedTupleGo
 cases tg<;>first
  | exact zcp7 hQ
  | (cases u<;>first
    | exact zcp7 hQ
    | (refine zcp6 (wpAny_load ho ?_);rw[hc,hd];show wpAny M A (if (["enumerate","zip","dict_itemiterator","dict_reverseitemiterator","odict_iterator","itertools.zip_longest","itertools.pairwise"].contains n&&vs[0]?==some (rawInt _))=true then _ else _) Q E s;rw[if_neg (by intro h;rw[hn,Bool.false_and] at h;cases h)];exact zcp7 hQ))
def Itl(K:zcf5)(a:Addr):It:=
 ⟨fun i H=>∃ xs x,SqL K H a xs/\xs[i]?=some x,fun i H x H'=>H'=H/\∀ xs,SqL K H a xs->xs[i]?=some x,fun i H=>∃ xs,SqL K H a xs/\xs.length<=i⟩
def Itt(K:zcf5)(a:Addr):It:=
 ⟨fun i H=>∃ xs x,SqT K H a xs/\xs[i]?=some x,fun i H x H'=>H'=H/\∀ xs,SqT K H a xs->xs[i]?=some x,fun i H=>∃ xs,SqT K H a xs/\xs.length<=i⟩
def Itr(lo:Int)(n:Nat):It:=⟨fun i _=>i<n,fun i H x H'=>H'=H/\x=.int (lo+i),fun i _=>n<=i⟩
theorem zbk9{P:Program}{w:World}{K:zcf5}(a it:Addr):Turn P w K tg (Itl K a) [it] it (fun i h=>h.IsListIter it a i) where
 mem:=by simp
 obj:=fun i h st b hb=>by
  have e:b=it:=by simpa using hb
  subst e
  obtain⟨o,e,c,d⟩:=st
  exact⟨o,e,fun v z=>by rw[d] at z;cases z⟩
 keep:=fun i h h' st k=>st.at fun o e=>k it (by simp) o e
 item:=by
  intro X hP hw hK hc i pins s σ H E I hf st hg
  subst hP hw hK
  obtain⟨xs,x,hq,hx⟩:=hg
  obtain⟨its,rv,p,hz⟩:=I.list hq
  obtain⟨u,hu,ru⟩:=rv.get hx
  obtain⟨f0,f1,f2,f3,f4,f5⟩:=hf it (by simp)
  refine wpAny_pyNext_list_item st p.isList (x:=u) (by simpa using hu) fun h' st' sb=>?_
  have I1:Inv X pins σ H { s with heap:=h' }:=I.turned (t':=s.toks) (fun b o hb e=>(sb.2 b hb).trans e) f0 f1 f3 f4 f5
  obtain⟨o,e,c,d⟩:=id st'
  exact⟨u,rfl,go_of (s:={ s with heap:=h' }) e c d (by decide) ⟨x,H,I1,ru,⟨rfl,fun ys hy=>by rw[I.list_inj hy hq];exact hx⟩,st',fun b hb=>(hf b hb).1⟩⟩
 done:=by
  intro X hP hw hK hc i pins s σ H E I hf st hg
  subst hP hw hK
  obtain⟨xs,hq,hx⟩:=hg
  obtain⟨its,rv,p,hz⟩:=I.list hq
  obtain⟨f0,f1,f2,f3,f4,f5⟩:=hf it (by simp)
  have hl:=rv.length
  exact wpAny_pyNext_list_end (I.ok.hd hc) st p.isList (by simp;omega) fun h' eb=>⟨rfl,I.turned (t':=s.toks) (fun b o hb e=>eb b o hb e) f0 f1 f3 f4 f5⟩
 self:=fun _ _ _ _ _ st h=>wpAny_pyIter_listiter st h
theorem zax2{P:Program}{w:World}{K:zcf5}(a it:Addr):Turn P w K tg (Itt K a) [it] it (fun i h=>h.IsTupleIter it a i) where
 mem:=by simp
 obj:=fun i h st b hb=>by
  have e:b=it:=by simpa using hb
  subst e
  obtain⟨o,e,c,d⟩:=st
  exact⟨o,e,fun v z=>by rw[d] at z;cases z⟩
 keep:=fun i h h' st k=>st.at fun o e=>k it (by simp) o e
 item:=by
  intro X hP hw hK hc i pins s σ H E I hf st hg
  subst hP hw hK
  obtain⟨xs,x,hq,hx⟩:=hg
  obtain⟨its,rv,p,hz⟩:=I.tuple hq
  obtain⟨u,hu,ru⟩:=rv.get hx
  obtain⟨f0,f1,f2,f3,f4,f5⟩:=hf it (by simp)
  refine wpAny_pyNext_tuple_item st (show s.heap.IsTuple a its.toArray from p) (x:=u) (by simpa using hu) fun h' st' sb=>?_
  have I1:Inv X pins σ H { s with heap:=h' }:=I.turned (t':=s.toks) (fun b o hb e=>(sb.2 b hb).trans e) f0 f1 f3 f4 f5
  obtain⟨o,e,c,d⟩:=id st'
  exact⟨u,rfl,go_of (s:={ s with heap:=h' }) e c d (by decide) ⟨x,H,I1,ru,⟨rfl,fun ys hy=>by rw[I.tuple_inj hy hq];exact hx⟩,st',fun b hb=>(hf b hb).1⟩⟩
 done:=by
  intro X hP hw hK hc i pins s σ H E I hf st hg
  subst hP hw hK
  obtain⟨xs,hq,hx⟩:=hg
  obtain⟨its,rv,p,hz⟩:=I.tuple hq
  obtain⟨f0,f1,f2,f3,f4,f5⟩:=hf it (by simp)
  have hl:=rv.length
  exact wpAny_pyNext_tuple_end (I.ok.hd hc) st (show s.heap.IsTuple a its.toArray from p) (by simp;omega) fun h' eb=>⟨rfl,I.turned (t':=s.toks) (fun b o hb e=>eb b o hb e) f0 f1 f3 f4 f5⟩
 self:=fun _ _ _ _ _ st h=>wpAny_pyIter_tupleiter st h
theorem zaz0{P:Program}{w:World}{K:zcf5}(it:Addr)(lo:Int)(n:Nat):Turn P w K tg (Itr lo n) [it] it (fun i h=>IsRangeIter h it (lo+(i:Nat)*1) ((n:Int) - (i:Nat)) 1) where
 mem:=by simp
 obj:=fun i h st b hb=>by
  have e:b=it:=by simpa using hb
  subst e
  exact⟨_,st,fun v z=>by
   have z':Data.fields _=Data.cell v:=z
   cases z'⟩
 keep:=fun i h h' st k=>k it (by simp) _ st
 item:=by
  intro X hP hw hK hc i pins s σ H E I hf st hg
  subst hP hw hK
  obtain⟨f0,f1,f2,f3,f4,f5⟩:=hf it (by simp)
  have W:=Walks.range (prog:=X.prog) (w:=X.w) (I.ok.hd hc) it lo 1 n
  refine W.item i s _ _ hg st fun v h' tk hv st' kk=>?_
  obtain⟨t,rfl⟩:=hv
  have I1:Inv X pins σ H { s with heap:=h',toks:=tk }:=I.turned (fun b o hb e=>kk b o (by simpa using hb) e) f0 f1 f3 f4 f5
  refine⟨_,rfl,go_of (s:={ s with heap:=h',toks:=tk }) (n:="range_iterator") st' rfl rfl (by decide) ⟨.int (lo+i),H,I1,⟨t,?_⟩,⟨rfl,rfl⟩,st',fun b hb=>(hf b hb).1⟩⟩
  rw[Int.mul_one]
 done:=by
  intro X hP hw hK hc i pins s σ H E I hf st hg
  subst hP hw hK
  obtain⟨f0,f1,f2,f3,f4,f5⟩:=hf it (by simp)
  exact wpAny_pyNext_range_end (I.ok.hd hc) st (by have:n<=i:=hg;omega) fun h' eb=>⟨rfl,I.turned (t':=s.toks) (fun b o hb e=>eb b o hb e) f0 f1 f3 f4 f5⟩
 self:=fun _ _ _ _ _ st h=>wpAny_pyIter_rangeiter st h
section
variable {X:Cx}{tg:Expr}
theorem zav2{R:It->Hp->Prop}{lo hi:Int}{t u v:Tok}{tk:Nat}(I:Inv X pins σ H s)(h1:-(2 ^ 62)<=lo)(h2:lo<2 ^ 62)(h3:-(2 ^ 62)<=hi)(h4:hi<2 ^ 62)(q:R (Itr lo (hi - lo).toNat) H):wpAny (model X.prog X.w) X.A (pyIter (.ref s.heap.objs.size)) (PIE X pins σ tg R) E { s with heap:=s.heap.push { cls:=.type "range",data:=.fields #[.int lo t,.int hi u,.int 1 v] },toks:=tk }:=by
 refine wpAny_pyIter_range (IsRange.new ..) (small_one h1 h2 h3 h4) ?_
 have I1:Inv X pins σ H { s with heap:=s.heap.push { cls:=.type "range",data:=.fields #[.int lo t,.int hi u,.int 1 v] },toks:=tk }:=I.kept fun b o e=>zcf7 _ e
 refine⟨(s.heap.push { cls:=.type "range",data:=.fields #[.int lo t,.int hi u,.int 1 v] }).objs.size,[(s.heap.push { cls:=.type "range",data:=.fields #[.int lo t,.int hi u,.int 1 v] }).objs.size],_,_,H,rfl,
  I1.kept (t':=tk) fun b o e=>zcf7 _ e,zaz0 _ lo (hi - lo).toNat,?_,fun b hb=>?_,q⟩
 ·have e1:lo+((0:Nat):Int)*1=lo:=by simp
  have e2:(((hi - lo).toNat:Nat):Int) - ((0:Nat):Int)=Builtin.Range.rangeSize lo hi 1:=by rw[rangeSize_one];split<;>omega
  show IsRangeIter _ _ (lo+((0:Nat):Int)*1) ((((hi - lo).toNat:Nat):Int) - ((0:Nat):Int)) 1
  rw[e1,e2]
  exact zch5 _ rfl
 ·have e:b=(s.heap.push { cls:=.type "range",data:=.fields #[.int lo t,.int hi u,.int 1 v] }).objs.size:=by simpa using hb
  subst e
  exact I1.fpOk (zcg9 _) (I1.hok.fresh (zcg9 _))
def tFor(wi:TI)(g:TG)(tb:TS):TS:=fun D σ H=>wi σ H fun J H1=>∃ W:Nat->Nat->St->Hp->Prop,(∃ m,W 0 m σ H1)/\∀ i m σ H,W i m σ H ->
 (J.stop i H/\D.nx σ H)∨(J.go i H/\∃ N:St->Hp->Prop,(∀ σ' H',N σ' H'->∃ m',m'<m/\W (i+1) m' σ' H')/\∀ x H',J.yld i H x H'->g x σ H' fun σ2 H2=>tb { D with nx:=N,ct:=N,bk:=D.nx } σ2 H2)
def zae9(fp:List Addr)(h:Heap):List (Addr×Obj):=fp.filterMap fun b=>(h.get? b).map fun o=>(b,o)
theorem zk8{fp:List Addr}{b:Addr}{o:Obj}(hb:b∈fp)(e:h.get? b=some o):(b,o)∈zae9 fp h:=zco4.mpr ⟨b,hb,by rw[e];rfl⟩
theorem zbf5{fp:List Addr}{p:Addr×Obj}(hp:p∈zae9 fp h):p.1∈fp/\h.get? p.1=some p.2:=by
 obtain⟨b,hb,e⟩:=zco4.mp hp
 cases q:h.get? b with
 | none=>rw[q] at e;cases e
 | some o=>
  rw[q] at e
  have e':(b,o)=p:=Option.some.inj e
  subst e'
  exact⟨hb,q⟩
theorem Inv.pinned{fp:List Addr}(I:Inv X pins σ H s)(hf:∀ b∈fp,FpOk X pins H b)(ho:∀ b∈fp,∃ o,s.heap.get? b=some o/\∀ v,o.data≠.cell v):Inv X (pins++zae9 fp s.heap) σ H s:=
 I.pins_of fun p hp=>(zch7.mp hp).elim (fun z=>I.pin p (zci5 _ z)) fun z=>by
  obtain⟨hb,e⟩:=zbf5 z
  obtain⟨f0,f1,f2,_⟩:=hf p.1 hb
  obtain⟨o,e',d⟩:=ho p.1 hb
  rw[e] at e';cases e'
  exact⟨e,f0,f1,f2,d⟩
theorem Inv.unpinned{pl:List (Addr×Obj)}(I:Inv X (pins++pl) σ H s):Inv X pins σ H s:=I.pins_of fun p hp=>I.pin p (zci5 _ (zcp0 _ hp))
theorem ps_for{iter:Expr}{body:List Stmt}{wi:TI}{g:TG}{tb:TS}{pos:Pos}(hp:PassesOwn (model X.prog X.w) X.A X.env X.xe)(hc:X.calm=true)(hi:PI X tg iter wi)(hg:PG X tg g)(hb:PSs X body tb)(hs:∀ x,foldedSetIterable iter X.env x=pure x:=by intro _;rfl):PS X (.For tg iter body [] pos) (tFor wi g tb):=by
 intro pins s σ H D I h
 refine wpAny_For (thn (hi pins s σ H _ I h) fun v s1 h1=>thn h1 fun itv s2 h2=>?_) hs
 obtain⟨it,fp,tn,J,H2,e,I2,T,st2,f2,W,⟨m0,w0⟩,turn⟩:=h2
 subst e
 have stat:∀ {H':Hp},(∀ b∈fp,H' b=none)->∀ b∈fp,FpOk X pins H' b:=fun hn b hb=>⟨hn b hb,(f2 b hb).2⟩
 refine codeAny_forLoop_any (fun n s'=>∃ i σ' H',Inv X pins σ' H' s'/\tn i s'.heap/\(∀ b∈fp,H' b=none)/\W i n σ' H') ?_ m0 ⟨0,σ,H2,I2,st2,fun b hb=>(f2 b hb).1,w0⟩
 rintro n s3 ⟨i,σ3,H3,I3,st3,fr3,w3⟩
 rcases turn i n σ3 H3 w3 with ⟨stop,qn⟩|⟨go,N,hN,step⟩
 ·refine wpAny_passesOwn hp (thn (T.done X rfl rfl rfl hc i pins s3 σ3 H3 X.xe I3 (stat fr3) st3 stop) fun r s4 ⟨hr,I4⟩=>?_)
  subst hr
  exact wpAny_execs_nil ⟨σ3,H3,I4,qn⟩
 ·refine wpAny_passesOwn hp (thn (T.item X rfl rfl rfl hc i pins s3 σ3 H3 X.xe I3 (stat fr3) st3 go) fun r s4 ⟨u,hr,h4⟩=>?_)
  subst hr
  refine wpAny_passesOwn hp (thn h4 fun _ s5 ⟨x,H5,I5,r5,y5,st5,fr5⟩=>?_)
  have I5':=I5.pinned (stat fr5) (T.obj _ _ st5)
  refine wpAny_passesOwn hp (thn (hg _ s5 σ3 H5 x u _ I5' r5 (step x H5 y5)) fun _ s6 ⟨σ6,H6,I6,q6⟩=>?_)
  refine wpAny_passesOwn hp (thn (hb _ s6 σ6 H6 _ I6 q6) fun f s7 q7=>?_)
  have again:∀ {σ7:St}{H7:Hp},Inv X (pins++zae9 fp s5.heap) σ7 H7 s7->N σ7 H7->∃ m,m<n/\∃ i σ' H',Inv X pins σ' H' s7/\tn i s7.heap/\(∀ b∈fp,H' b=none)/\W i m σ' H':=fun {σ7 H7} I7 n7=>by
   obtain⟨m',hm,w7⟩:=hN σ7 H7 n7
   refine⟨m',hm,i+1,σ7,H7,I7.unpinned,T.keep _ _ _ st5 fun b hb o e=>(I7.pin (b,o) (zci5 _ (zci5 _ (zk8 hb e)))).1,fun b hb=>?_,w7⟩
   obtain⟨o,e,d⟩:=T.obj _ _ st5 b hb
   exact (I7.pin (b,o) (zci5 _ (zci5 _ (zk8 hb e)))).2.1
  cases f with
  | next=>obtain⟨σ7,H7,I7,n7⟩:=q7;exact again I7 n7
  | cont=>obtain⟨σ7,H7,I7,n7⟩:=q7;exact again I7 n7
  | brk=>obtain⟨σ7,H7,I7,q7⟩:=q7;exact⟨σ7,H7,I7.unpinned,q7⟩
  | ret v=>obtain⟨x7,σ7,H7,I7,r7,q7⟩:=q7;exact⟨x7,σ7,H7,I7.unpinned,r7,q7⟩
end
theorem zbn8{K:zcf5}{a:Addr}{xs:List V}{g:TG}{tb:TS}{D:Ends}(Pv:Nat->St->Hp->Prop)(h0:Pv 0 σ H)(hl:∀ i σ H,i<=xs.length->Pv i σ H->SqL K H a xs)(hs:∀ i x σ H,xs[i]?=some x->Pv i σ H->g x σ H fun σ2 H2=>tb { D with nx:=Pv (i+1),ct:=Pv (i+1),bk:=D.nx } σ2 H2)(hd:∀ σ H,Pv xs.length σ H->D.nx σ H) :
  ∃ W:Nat->Nat->St->Hp->Prop,(∃ m,W 0 m σ H)/\∀ i m σ H,W i m σ H ->
   ((Itl K a).stop i H/\D.nx σ H)∨((Itl K a).go i H/\∃ N:St->Hp->Prop,(∀ σ' H',N σ' H'->∃ m',m'<m/\W (i+1) m' σ' H')/\∀ x H',(Itl K a).yld i H x H'->g x σ H' fun σ2 H2=>tb { D with nx:=N,ct:=N,bk:=D.nx } σ2 H2):=by
 refine⟨fun i m σ H=>m=xs.length - i/\i<=xs.length/\Pv i σ H,⟨xs.length,by simp,zci0 _,h0⟩,?_⟩
 rintro i m σ H ⟨rfl,hi,p⟩
 have q:=hl i σ H hi p
 by_cases hlt:i<xs.length
 ·refine .inr ⟨⟨xs,xs[i],q,by simp[hlt]⟩,Pv (i+1),fun σ' H' p'=>⟨xs.length - (i+1),by omega,rfl,hlt,p'⟩,fun x H' y=>?_⟩
  obtain⟨e,y⟩:=y
  subst e
  exact hs i x σ _ (y xs q) p
 ·have e:i=xs.length:=by omega
  subst e
  exact .inl ⟨⟨xs,q,zcg9 _⟩,hd σ H p⟩
theorem zbd6{lo:Int}{n:Nat}{g:TG}{tb:TS}{D:Ends}(Pv:Nat->St->Hp->Prop)(h0:Pv 0 σ H)(hs:∀ i σ H,i<n->Pv i σ H->g (.int (lo+i)) σ H fun σ2 H2=>tb { D with nx:=Pv (i+1),ct:=Pv (i+1),bk:=D.nx } σ2 H2)(hd:∀ σ H,Pv n σ H->D.nx σ H) :
  ∃ W:Nat->Nat->St->Hp->Prop,(∃ m,W 0 m σ H)/\∀ i m σ H,W i m σ H ->
   ((Itr lo n).stop i H/\D.nx σ H)∨((Itr lo n).go i H/\∃ N:St->Hp->Prop,(∀ σ' H',N σ' H'->∃ m',m'<m/\W (i+1) m' σ' H')/\∀ x H',(Itr lo n).yld i H x H'->g x σ H' fun σ2 H2=>tb { D with nx:=N,ct:=N,bk:=D.nx } σ2 H2):=by
 refine⟨fun i m σ H=>m=n - i/\i<=n/\Pv i σ H,⟨n,by simp,zci0 _,h0⟩,?_⟩
 rintro i m σ H ⟨rfl,hi,p⟩
 by_cases hlt:i<n
 ·refine .inr ⟨hlt,Pv (i+1),fun σ' H' p'=>⟨n - (i+1),by omega,rfl,hlt,p'⟩,fun x H' y=>?_⟩
  obtain⟨e,y⟩:=y
  subst e y
  exact hs i σ _ hlt p
 ·have e:i=n:=by omega
  subst e
  exact .inl ⟨zcg9 _,hd σ H p⟩
abbrev R2:=V->V->Hp->VK->Prop
def OpR(X:Cx)(f:Value->Value->Sem Value)(r:R2):Prop:=
 ∀ (pins:List (Addr×Obj)) (s:Shared) (σ:St) (H:Hp) (x y:V) (v u:Value) (Q:VK),Inv X pins σ H s->RelV x v->RelV y u->r x y H Q ->
  wpAny (model X.prog X.w) X.A (f v u) (EP X pins σ Q) X.xe s
def UnR(X:Cx)(f:Value->Sem Value)(r:V->Hp->VK->Prop):Prop:=
 ∀ (pins:List (Addr×Obj)) (s:Shared) (σ:St) (H:Hp) (x:V) (v:Value) (Q:VK),Inv X pins σ H s->RelV x v->r x H Q ->
  wpAny (model X.prog X.w) X.A (f v) (EP X pins σ Q) X.xe s
def zi8(X:Cx)(f:Value)(r:List V->Hp->VK->Prop):Prop:=
 ∀ (pins:List (Addr×Obj)) (s:Shared) (σ:St) (H:Hp) (xs:List V) (us:List Value) (Q:VK),Inv X pins σ H s->Vals xs us->r xs H Q ->
  wpAny (model X.prog X.w) X.A (call f us) (EP X pins σ Q) X.xe s
def TruR(X:Cx)(r:V->Hp->(Bool->Hp->Prop)->Prop):Prop:=
 ∀ (pins:List (Addr×Obj)) (s:Shared) (σ:St) (H:Hp) (x:V) (v:Value) (Q:Bool->Hp->Prop),Inv X pins σ H s->RelV x v->r x H Q ->
  wpAny (model X.prog X.w) X.A (truthy v) (TP X pins σ Q) X.xe s
def tOp(r:R2)(ta tb:TE):TE:=fun σ H Q=>ta σ H fun x H1=>tb σ H1 fun y H2=>r x y H2 Q
def tUn(r:V->Hp->VK->Prop)(ta:TE):TE:=fun σ H Q=>ta σ H fun x H1=>r x H1 Q
def rI(C:Int->Int->Prop)(g:Int->Int->V):R2:=fun x y H Q=>∃ i j,x=.int i/\y=.int j/\C i j/\Q (g i j) H
def rI0(g:Int->Int->V):R2:=fun x y H Q=>∃ i j,x=.int i/\y=.int j/\Q (g i j) H
def rU(g:Int->V):V->Hp->VK->Prop:=fun x H Q=>∃ i,x=.int i/\Q (g i) H
section
variable {X:Cx}{a b c:Expr}{ta tb tc:TE}{pos:Pos}
theorem binT(ha:PE X a ta)(hb:PE X b tb){R:V->V->Hp->Prop}(I:Inv X pins σ H s)(h:ta σ H fun x H1=>tb σ H1 fun y H2=>R x y H2){Q:Value->Shared->Prop}{f:Value->Value->Sem Value}(hf:∀ v u s2 x y H2,Inv X pins σ H2 s2->RelV x v->RelV y u->R x y H2->wpAny (model X.prog X.w) X.A (f v u) Q X.xe s2) :
  wpAny (model X.prog X.w) X.A (eval a X.env) (fun v s₁=>wpAny (model X.prog X.w) X.A (eval b X.env) (fun u s₂=>wpAny (model X.prog X.w) X.A (f v u) Q X.xe s₂) X.xe s₁) X.xe s:=by
 refine thn (ha pins s σ H _ I h) fun v s1 ⟨x,H1,I1,r1,q1⟩=>?_
 refine thn (hb pins s1 σ H1 _ I1 q1) fun u s2 ⟨y,H2,I2,r2,q2⟩=>?_
 exact hf v u s2 x y H2 I2 r1 r2 q2
theorem zc8{op:Operator}{r:R2}(ho:OpR X (binaryOp op) r)(ha:PE X a ta)(hb:PE X b tb):PE X (.BinOp a op b pos) (tOp r ta tb):=by
 intro pins s σ H Q I h
 exact wpAny_BinOp (binT ha hb I h fun v u s2 x y H2 I2 rx ry q=>ho pins s2 σ H2 x y v u Q I2 rx ry q)
theorem pe_un{op:UnaryOp}{r:V->Hp->VK->Prop}(ho:UnR X (unaryOp op) r)(ha:PE X a ta):PE X (.UnaryOp op a pos) (tUn r ta):=by
 intro pins s σ H Q I h
 exact UnaryOp_ (thn (ha pins s σ H _ I h) fun v s1 ⟨x,H1,I1,r1,q1⟩=>ho pins s1 σ H1 x v Q I1 r1 q1)
theorem opI{f:Value->Value->Sem Value}{C:Int->Int->Prop}{g:Int->Int->Int}(rule:∀ (i j:Int) (t u:Tok) (s:Shared) (Q:Value->Shared->Prop) (E:Value->Shared->Prop),C i j->Q (.int (g i j) s.toks) { s with toks:=s.toks+1 }->wpAny (model X.prog X.w) X.A (f (.int i t) (.int j u)) Q E s) :
  OpR X f (rI C fun i j=>.int (g i j)):=by
 intro pins s σ H x y v u Q I rx ry h
 obtain⟨i,j,rfl,rfl,hc,q⟩:=h
 obtain⟨t,rfl⟩:=rx
 obtain⟨t',rfl⟩:=ry
 exact rule i j t t' s _ _ hc ⟨.int (g i j),H,I.tok _,⟨_,rfl⟩,q⟩
theorem opI0{f:Value->Value->Sem Value}{g:Int->Int->Int}(rule:∀ (i j:Int) (t u:Tok) (s:Shared) (Q:Value->Shared->Prop) (E:Value->Shared->Prop),Q (.int (g i j) s.toks) { s with toks:=s.toks+1 }->wpAny (model X.prog X.w) X.A (f (.int i t) (.int j u)) Q E s) :
  OpR X f (rI0 fun i j=>.int (g i j)):=by
 intro pins s σ H x y v u Q I rx ry h
 obtain⟨i,j,rfl,rfl,q⟩:=h
 obtain⟨t,rfl⟩:=rx
 obtain⟨t',rfl⟩:=ry
 exact rule i j t t' s _ _ ⟨.int (g i j),H,I.tok _,⟨_,rfl⟩,q⟩
theorem opB0{f:Value->Value->Sem Value}{g:Int->Int->Bool}(rule:∀ (i j:Int) (t u:Tok) (s:Shared) (Q:Value->Shared->Prop) (E:Value->Shared->Prop),Q (.bool (g i j)) s->wpAny (model X.prog X.w) X.A (f (.int i t) (.int j u)) Q E s) :
  OpR X f (rI0 fun i j=>.bl (g i j)):=by
 intro pins s σ H x y v u Q I rx ry h
 obtain⟨i,j,rfl,rfl,q⟩:=h
 obtain⟨t,rfl⟩:=rx
 obtain⟨t',rfl⟩:=ry
 exact rule i j t t' s _ _ ⟨.bl (g i j),H,I,rfl,q⟩
def CPow(i j:Int):Prop:=0<=j/\j<=1000000/\i.natAbs<2 ^ 64
def CMul(i j:Int):Prop:=(-(2 ^ 64)<i/\i<2 ^ 64)∨(-(2 ^ 64)<j/\j<2 ^ 64)
theorem CMul.ok{i j:Int}(h:CMul i j):IntMulOk i j:=by
 rcases h with ⟨h1,h2⟩|⟨h1,h2⟩
 ·exact .of_left (intBits_le_64 h1 h2)
 ·exact .of_right (intBits_le_64 h1 h2)
theorem op_add:OpR X (binaryOp .Add) (rI0 fun i j=>.int (i+j)):=opI0 fun _ _ _ _ _ _ _ q=>add_int q
theorem op_sub:OpR X (binaryOp .Sub) (rI0 fun i j=>.int (i - j)):=opI0 fun _ _ _ _ _ _ _ q=>sub_int q
theorem zbu1:OpR X (binaryOp .Mod) (rI (fun _ j=>j≠0) fun i j=>.int (i.fmod j)):=opI fun _ _ _ _ _ _ _ hc q=>mod_int' hc q
theorem op_pow:OpR X (binaryOp .Pow) (rI CPow fun i j=>.int (i ^ j.toNat)):=opI fun _ _ _ _ _ _ _ hc q=>pow_int_small hc.1 hc.2.1 hc.2.2 q
theorem zbx1:OpR X (inplaceOp .Add) (rI0 fun i j=>.int (i+j)):=opI0 fun _ _ _ _ _ _ _ q=>iadd_int q
theorem zbw8:OpR X (inplaceOp .Sub) (rI0 fun i j=>.int (i - j)):=opI0 fun _ _ _ _ _ _ _ q=>isub_int q
theorem unI{f:Value->Sem Value}{g:Int->Int}(rule:∀ (i:Int) (t:Tok) (s:Shared) (Q:Value->Shared->Prop) (E:Value->Shared->Prop),Q (.int (g i) s.toks) { s with toks:=s.toks+1 }->wpAny (model X.prog X.w) X.A (f (.int i t)) Q E s) :
  UnR X f (rU fun i=>.int (g i)):=by
 intro pins s σ H x v Q I rx h
 obtain⟨i,rfl,q⟩:=h
 obtain⟨t,rfl⟩:=rx
 exact rule i t s _ _ ⟨.int (g i),H,I.tok _,⟨_,rfl⟩,q⟩
theorem un_neg:UnR X (unaryOp .USub) (rU fun i=>.int (-i)):=unI fun _ _ _ _ _ q=>neg_int q
end
def scal:V->V->Bool
 | .non,.non=>true | .non,.int _=>true | .int _,.non=>true | .non,.bl _=>true | .bl _,.non=>true | .non,.str _=>true | .str _,.non=>true
 | .int _,.int _=>true | .bl _,.bl _=>true | .str _,.str _=>true | .byt _,.byt _=>true
 | .int _,.str _=>true | .str _,.int _=>true | .bl _,.str _=>true | .str _,.bl _=>true
 | _,_=>false
def rEq:R2:=fun x y H Q=>scal x y=true/\Q (.bl (decide (x=y))) H
def rNe:R2:=fun x y H Q=>scal x y=true/\Q (.bl (!decide (x=y))) H
theorem zbg2{i j:Int}:decide (V.int i=V.int j)=(i==j):=by
 rw[zck5]
 simp
theorem zbq7{i j:Bool}:decide (V.bl i=V.bl j)=(i==j):=by
 rw[zck5]
 simp
theorem zba2{i j:Str}:decide (V.str i=V.str j)=(i==j):=by
 rw[zck5]
 simp
theorem zbh1{i j:Array UInt8}:decide (V.byt i=V.byt j)=(i.toList==j.toList):=by
 rw[zck5]
 cases i
 cases j
 simp
section
variable {X:Cx}{a b c:Expr}{ta tb tc:TE}{pos:Pos}
theorem zd5{Q:VK}{k k':Bool}(I:Inv X pins σ H s)(q:Q (.bl k) H)(e:k=k'):EP X pins σ Q (.bool k') s:=by
 subst e
 exact⟨.bl k,H,I,rfl,q⟩
theorem op_eq:OpR X (compareOp .Eq) rEq:=by
 intro pins s σ H x y v u Q I rx ry h
 obtain⟨hs,q⟩:=h
 cases x with
 | non=>
  cases rx
  cases y with
  | non=>cases ry;exact PySem.EqNone.eq_none_none (zd5 I q (by simp))
  | bl j=>cases ry;exact PySem.EqNone.eq_none_bool (zd5 I q (by simp))
  | int j=>obtain⟨t',rfl⟩:=ry;exact PySem.EqNone.eq_none_int (zd5 I q (by simp))
  | str j=>obtain⟨t',rfl⟩:=ry;exact PySem.EqNone.eq_none_str (zd5 I q (by simp))
  | _=>exact absurd (show false=true from hs) zcg3
 | bl i=>
  cases rx
  cases y with
  | non=>cases ry;exact PySem.EqNone.eq_bool_none (zd5 I q (by simp))
  | bl j=>cases ry;exact eq_bool (zd5 I q zbq7)
  | str j=>obtain⟨t',rfl⟩:=ry;exact PySem.EqMixed.eq_bool_str (zd5 I q (by simp))
  | _=>exact absurd (show false=true from hs) zcg3
 | int i=>
  obtain⟨t,rfl⟩:=rx
  cases y with
  | non=>cases ry;exact PySem.EqNone.eq_int_none (zd5 I q (by simp))
  | int j=>obtain⟨t',rfl⟩:=ry;exact eq_int (zd5 I q zbg2)
  | str j=>obtain⟨t',rfl⟩:=ry;exact PySem.EqMixed.eq_int_str (zd5 I q (by simp))
  | _=>exact absurd (show false=true from hs) zcg3
 | str i=>
  obtain⟨t,rfl⟩:=rx
  cases y with
  | non=>cases ry;exact PySem.EqNone.eq_str_none (zd5 I q (by simp))
  | bl j=>cases ry;exact PySem.EqMixed.eq_str_bool (zd5 I q (by simp))
  | int j=>obtain⟨t',rfl⟩:=ry;exact PySem.EqMixed.eq_str_int (zd5 I q (by simp))
  | str j=>obtain⟨t',rfl⟩:=ry;exact eq_str (zd5 I q zba2)
  | _=>exact absurd (show false=true from hs) zcg3
 | byt i=>
  obtain⟨t,rfl⟩:=rx
  cases y with
  | byt j=>obtain⟨t',rfl⟩:=ry;exact PySem.W.eq_bytes (zd5 I q zbh1)
  | _=>exact absurd (show false=true from hs) zcg3
 | _=>cases y<;>exact absurd (show false=true from hs) zcg3
theorem op_ne:OpR X (compareOp .NotEq) rNe:=by
 intro pins s σ H x y v u Q I rx ry h
 obtain⟨hs,q⟩:=h
 cases x with
 | non=>
  cases rx
  cases y with
  | non=>cases ry;exact PySem.EqNone.ne_none_none (zd5 I q (by simp))
  | bl j=>cases ry;exact PySem.EqNone.ne_none_bool (zd5 I q (by simp))
  | int j=>obtain⟨t',rfl⟩:=ry;exact PySem.EqNone.ne_none_int (zd5 I q (by simp))
  | str j=>obtain⟨t',rfl⟩:=ry;exact PySem.EqNone.ne_none_str (zd5 I q (by simp))
  | _=>exact absurd (show false=true from hs) zcg3
 | bl i=>
  cases rx
  cases y with
  | non=>cases ry;exact PySem.EqNone.ne_bool_none (zd5 I q (by simp))
  | bl j=>cases ry;exact ne_bool (zd5 I q (congrArg not zbq7))
  | str j=>obtain⟨t',rfl⟩:=ry;exact PySem.EqMixed.ne_bool_str (zd5 I q (by simp))
  | _=>exact absurd (show false=true from hs) zcg3
 | int i=>
  obtain⟨t,rfl⟩:=rx
  cases y with
  | non=>cases ry;exact PySem.EqNone.ne_int_none (zd5 I q (by simp))
  | int j=>obtain⟨t',rfl⟩:=ry;exact ne_int (zd5 I q (congrArg not zbg2))
  | str j=>obtain⟨t',rfl⟩:=ry;exact PySem.EqMixed.ne_int_str (zd5 I q (by simp))
  | _=>exact absurd (show false=true from hs) zcg3
 | str i=>
  obtain⟨t,rfl⟩:=rx
  cases y with
  | non=>cases ry;exact PySem.EqNone.ne_str_none (zd5 I q (by simp))
  | bl j=>cases ry;exact PySem.EqMixed.ne_str_bool (zd5 I q (by simp))
  | int j=>obtain⟨t',rfl⟩:=ry;exact PySem.EqMixed.ne_str_int (zd5 I q (by simp))
  | str j=>obtain⟨t',rfl⟩:=ry;exact ne_str (zd5 I q (congrArg not zba2))
  | _=>exact absurd (show false=true from hs) zcg3
 | byt i=>
  obtain⟨t,rfl⟩:=rx
  cases y with
  | byt j=>obtain⟨t',rfl⟩:=ry;exact PySem.W.ne_bytes (zd5 I q (congrArg not zbh1))
  | _=>exact absurd (show false=true from hs) zcg3
 | _=>cases y<;>exact absurd (show false=true from hs) zcg3
theorem op_lt:OpR X (compareOp .Lt) (rI0 fun i j=>.bl (decide (i<j))):=opB0 fun _ _ _ _ _ _ _ q=>lt_int q
theorem op_le:OpR X (compareOp .LtE) (rI0 fun i j=>.bl (decide (i<=j))):=opB0 fun _ _ _ _ _ _ _ q=>le_int q
theorem op_gt:OpR X (compareOp .Gt) (rI0 fun i j=>.bl (decide (j<i))):=opB0 fun _ _ _ _ _ _ _ q=>gt_int q
theorem op_isN:OpR X (compareOp .Is) (fun x y H Q=>y=.non/\Q (.bl (decide (x=.non))) H):=by
 intro pins s σ H x y v u Q I rx ry h
 obtain⟨rfl,q⟩:=h
 cases ry
 refine is_none_gen (zd5 I q ?_)
 cases x<;>first
  | (cases rx;rfl)
  | (obtain⟨t,rfl⟩:=rx;rfl)
theorem zbs1(b:Expr){op:CmpOp}(h:op≠.In:=by decide)(h2:op≠.NotIn:=by decide):behindInMarks op b=false:=by
 have e1:(op==CmpOp.In)=false:=by cases op<;>first|rfl|exact absurd rfl h
 have e2:(op==CmpOp.NotIn)=false:=by cases op<;>first|rfl|exact absurd rfl h2
 cases b<;>simp[behindInMarks,e1,e2]
theorem zbx8{op:CmpOp}{r:R2}(ho:OpR X (compareOp op) r)(ha:PE X a ta)(hb:PE X b tb)(hm:behindInMarks op b=false):PE X (.Compare a [op] [b] pos) (tOp r ta tb):=by
 intro pins s σ H Q I h
 exact wpAny_Compare1 (binT ha hb I h fun v u s2 x y H2 I2 rx ry q=>ho pins s2 σ H2 x y v u Q I2 rx ry q) hm
def TruV(K:zcf5)(x:V)(H:Hp)(k:Bool):Prop:=
 match x with
 | .non=>k=false
 | .bl b=>k=b
 | .int i=>k=(i != 0)
 | .str y=>y.length<=sizeLine/\k=((y.length:Int) != 0)
 | .byt y=>y.size<=sizeLine/\k=((y.size:Int) != 0)
 | .ref p=>(∃ xs,SqL K H p xs/\k=!xs.isEmpty)∨(∃ xs,SqT K H p xs/\k=!xs.isEmpty)∨∃ kvs,H p=some (.dK kvs)/\k=!kvs.isEmpty
 | _=>False
theorem zax6{κ:Type}{kvs:List (κ×V)}{vs:List (κ×Value)}(r:KV kvs vs):(!vs.isEmpty)=!kvs.isEmpty:=by
 cases r<;>rfl
theorem zae7{xs:List V}{its:List Value}(r:Vals xs its):(!its.toArray.isEmpty)=!xs.isEmpty:=by
 cases r<;>simp
theorem zab7:(sizeLine:Nat)<2 ^ 63:=by rw[zcp8];decide
theorem zbk4:TruR X (fun x H Q=>∃ k,TruV X.K x H k/\Q k H):=by
 intro pins s σ H x v Q I rx h
 obtain⟨k,e,q⟩:=h
 have hl:=zab7
 have hs:sizeLine=16777216:=zcp8
 cases x with
 | non=>
  cases rx
  have e':k=false:=e
  subst e'
  exact truthy_none ⟨H,I,q⟩
 | bl b=>
  cases rx
  have e':k=b:=e
  subst e'
  exact wpAny_truthy_bool ⟨H,I,q⟩
 | int i=>
  obtain⟨t,rfl⟩:=rx
  have e':k=(i != 0):=e
  subst e'
  exact PySem.P.truthy_int ⟨H,I,q⟩
 | str y=>
  obtain⟨t,rfl⟩:=rx
  obtain⟨hy,e'⟩:y.length<=sizeLine/\k=((y.length:Int) != 0):=e
  subst e'
  exact PySem.P.truthy_str (by omega) ⟨H,I.tok _,q⟩
 | byt y=>
  obtain⟨t,rfl⟩:=rx
  obtain⟨hy,e'⟩:y.size<=sizeLine/\k=((y.size:Int) != 0):=e
  subst e'
  exact PySem.W.truthy_bytes (by omega) ⟨H,I.tok _,q⟩
 | ref p=>
  cases rx
  have e':(∃ xs,SqL X.K H p xs/\k=!xs.isEmpty)∨(∃ xs,SqT X.K H p xs/\k=!xs.isEmpty)∨∃ kvs,H p=some (.dK kvs)/\k=!kvs.isEmpty:=e
  rcases e' with ⟨xs,hx,e'⟩|⟨xs,hx,e'⟩|⟨kvs,hx,e'⟩
  ·subst e'
   obtain⟨its,r,pl,hz⟩:=I.list hx
   have hlen:=r.length
   exact wpAny_truthy_list pl.isList (by simp only[zcg1];omega) ⟨H,I.tok _,by rw[zae7 r];exact q⟩
  ·subst e'
   obtain⟨its,r,pl,hz⟩:=I.tuple hx
   have hlen:=r.length
   exact truthy_tuple pl (by simp only[zcg1];omega) ⟨H,I.tok _,by rw[zae7 r];exact q⟩
  ·subst e'
   obtain⟨hz,hS,vs,r,m⟩:kvs.length<=sizeLine/\(p==sysModules)=false/\∃ vs,KV kvs vs/\s.heap.DictOf (zf9 X.prog X.w) p vs:=I.hok p _ hx
   have hlen:kvs.length=vs.length:=Paired.length r
   exact wpAny_truthy_dict hS m (by omega) ⟨H,I.tok _,by rw[zax6 r];exact q⟩
 | _=>exact (show False from e).elim
theorem zax9:OpR X (binaryOp .Add) (fun x y H Q=>∃ i j,x=.str i/\y=.str j/\i.length+j.length<=sizeLine/\Q (.str (i++j)) H):=by
 intro pins s σ H x y v u Q I rx ry h
 obtain⟨i,j,rfl,rfl,hz,q⟩:=h
 obtain⟨t,rfl⟩:=rx
 obtain⟨t',rfl⟩:=ry
 exact add_str (fun t' tk=>⟨.str (i++j),H,I.tok _,⟨_,rfl⟩,q⟩) hz
theorem zv7{x:V}(r:Vals [x] us):∃ u,us=[u]/\RelV x u:=by
 cases r with
 | cons r1 r2=>cases r2;exact⟨_,rfl,r1⟩
theorem zao9{x y:V}(r:Vals [x,y] us):∃ u w',us=[u,w']/\RelV x u/\RelV y w':=by
 cases r with
 | cons r1 r2=>
  cases r2 with
  | cons r3 r4=>cases r4;exact⟨_,_,rfl,r1,r3⟩
theorem zbl0(hc:X.calm=true):zi8 X (.builtin "min") (fun xs H Q=>∃ i j,xs=[.int i,.int j]/\Q (.int (if j<i then j else i)) H):=by
 intro pins s σ H xs us Q I r h
 obtain⟨i,j,rfl,q⟩:=h
 obtain⟨u,w',rfl,⟨t,rfl⟩,⟨t',rfl⟩⟩:=zao9 r
 refine min_two_ints (I.ok.hd hc) fun h' tk k=>⟨_,H,I.kept k,?_,q⟩
 by_cases hj:j<i
 ·rw[if_pos hj,if_pos hj];exact⟨_,rfl⟩
 ·rw[if_neg hj,if_neg hj];exact⟨_,rfl⟩
theorem zan2:zi8 X (.type "int") (fun xs H Q=>(∃ i,xs=[.int i]/\Q (.int i) H)∨∃ k,xs=[.bl k]/\Q (.int (if k then 1 else 0)) H):=by
 intro pins s σ H xs us Q I r h
 rcases h with ⟨i,rfl,q⟩|⟨k,rfl,q⟩
 ·obtain⟨u,rfl,t,rfl⟩:=zv7 r
  exact call_int_int ⟨.int i,H,I,⟨_,rfl⟩,q⟩
 ·obtain⟨u,rfl,r1⟩:=zv7 r
  cases r1
  exact call_int_bool ⟨.int (if k then 1 else 0),H,I.tok _,⟨_,rfl⟩,q⟩
end
structure ObjM(h:Heap)(x dx C:Addr)(mA:Str->Option Value):Prop where
 obj:h.get? x=some (PySem.W.instObj C dx)
 ns:h.Ns1 dx mA
 ne:dx≠x
theorem zbc0{dx:Addr}{mA:Str->Option Value}(n:h.Ns1 dx mA):∃ od,h.get? dx=some od/\∀ name,PySem.W.lookIn name od=some (mA name):=by
 obtain⟨o,es,ep,ho,hd,hk,_,hm⟩:=n
 refine⟨o,ho,fun name=>?_⟩
 have e:=hm name
 unfold nsFind findBy at e
 rw[← Array.find?_toList] at e
 unfold PySem.W.lookIn
 rw[hd]
 dsimp only
 split
 ·rename_i y q
  rw[q] at e
  exact congrArg some e
 ·rename_i q
  rw[q] at e
  have a:es.toList.any (·.refKey)=false:=by
   rw[List.any_eq_false]
   intro y hy
   obtain⟨z,t,hkey⟩:=hk y (zcp2.mp hy)
   simp[DictEntry.refKey,hkey]
  have a':¬ es.toList.any (·.refKey)=true:=by rw[a];exact zcg3
  rw[if_neg a']
  exact congrArg some e
theorem ObjM.look{x dx C:Addr}{mA:Str->Option Value}(I:ObjM h x dx C mA):∃ od,PySem.W.InstAt h x (PySem.W.instObj C dx) C (some od)/\∀ name,PySem.W.lookIn name od=some (mA name):=
 let ⟨od,ho,hl⟩:=zbc0 I.ns
 ⟨od,⟨I.obj,rfl,rfl,ho⟩,hl⟩
section
variable {prog:Program}{w:World}{A:Around}{E:Value->Shared->Prop}{s:Shared}{K:zcf5}{x dx C f:Addr}{mA:Str->Option Value}{name:Str}{v:Value}
end
theorem RelO.some_of{v:V}{o:Option Value}(r:RelO (some v) o):∃ u,o=some u/\RelV v u:=by
 cases o with
 | none=>exact (show False from r).elim
 | some u=>exact⟨u,rfl,r⟩
section
variable {P:Program}{w:World}{H H':Hp}{h h':Heap}{a C dx:Addr}{fs fs':List (Str×V)}
theorem zbv1(hok:HOk P w H h)(e:H a=some (.ins C dx fs)):∃ mA,ObjM h a dx C mA/\(∀ f,RelO (fs.lookup f) (mA f))/\PySem.Within mA (fs.map (·.1))/\fs.length<=1000/\H dx=some (.own a):=by
 obtain⟨d,z,ne,ob,mA,n,r,q⟩:=(show ze9 P w H h a (.ins C dx fs) from hok a _ e)
 exact⟨mA,⟨ob,n,ne⟩,r,q,z,d⟩
end
structure Cls(K:zcf5)(C:Addr):Prop where
 pg:PySem.W.plainGet K C Str.empty=true
 hd:PySem.W.hasDictIn K C=true
 po:PySem.W.plainOver K C=true
 sa:zcn2 K (.ref C) "__setattr__"=some (some (.builtin "object.__setattr__"))
theorem Cls.get{K:zcf5}{C:Addr}(c:Cls K C)(f:Str):PySem.W.plainGet K C f=true:=c.pg
section
variable {X:Cx}{pins:List (Addr×Obj)}{σ:St}{H:Hp}{s:Shared}{a C dx:Addr}{fs:List (Str×V)}{f:Str}{v:V}{A:Around}{E:Value->Shared->Prop}
end
section
variable {X:Cx}{pins:List (Addr×Obj)}{σ:St}{H:Hp}{s:Shared}{A:Around}{E:Value->Shared->Prop}{Q:Value->Shared->Prop}{c:Value}{b:Bool}
inductive TyOf(K:zcf5)(H:Hp):V->Value->Prop where
 | non:TyOf K H .non (.type "NoneType")
 | bl (x:Bool):TyOf K H (.bl x) (.type "bool")
 | int (i:Int):TyOf K H (.int i) (.type "int")
 | str (x:Str):TyOf K H (.str x) (.type "str")
 | flt (x:UInt64):TyOf K H (.flt x) (.type "float")
 | lst {a:Addr}{xs:List V}(e:H a=some (.lst xs)):TyOf K H (.ref a) (.type "list")
 | frz {a:Addr}{o:Obj}{xs:List V}(e:H a=some (.frz o (.lst xs))):TyOf K H (.ref a) (.type "list")
 | tup {a:Addr}{xs:List V}(e:H a=some (.tup xs)):TyOf K H (.ref a) (.type "tuple")
 | dK {a:Addr}{kvs:List (Key×V)}(e:H a=some (.dK kvs)):TyOf K H (.ref a) (.type "dict")
 | dT {a:Addr}{kvs:List (List Key×V)}(e:H a=some (.dT kvs)):TyOf K H (.ref a) (.type "dict")
 | ins {a C dx:Addr}{fs:List (Str×V)}(e:H a=some (.ins C dx fs)) (cl:Cls K C) (ha:zcn2 K (.ref C) "__class__"=some (some (.builtin "object.__class__")))
   (hn:PySem.W.specialIn K (.builtin "object.__class__") "__get__"=some (some (.builtin "getset_descriptor.__get__"))) (htk:PySem.W.takesIn K (.builtin "object.__class__")=some true)
   (hm:PySem.W.mroIn K C (.type "object")=some true):TyOf K H (.ref a) (.ref C)
theorem zba3{x:V}{t:Value}(I:Inv X pins σ H s)(rx:RelV x u)(ty:TyOf X.K H x t)(e:zch8 X.K t c=some b)(h:∀ tk,Q (.bool b) { s with toks:=tk }) :
  wpAny (model X.prog X.w) A (call (.builtin "isinstance") [u,c]) Q E s:=by
 cases ty with
 | non=>cases (show u=Value.none from rx);exact zcl0 PySem.W.kitx_none I.kIn True.intro e (fun z=>nomatch z) h
 | bl y=>cases (show u=Value.bool y from rx);exact zcl0 PySem.W.kitx_bool I.kIn True.intro e (fun z=>nomatch z) h
 | int i=>obtain⟨t,q⟩:=(show ∃ t,u=Value.int i t from rx);cases q;exact zcl0 PySem.W.kitx_int I.kIn True.intro e (fun z=>nomatch z) h
 | str y=>obtain⟨t,q⟩:=(show ∃ t,u=Value.str y t from rx);cases q;exact zcl0 PySem.W.kitx_str I.kIn True.intro e (fun z=>nomatch z) h
 | flt y=>obtain⟨t,q⟩:=(show ∃ t,u=Value.float y t from rx);cases q;exact zcl0 PySem.W.kitx_float I.kIn True.intro e (fun z=>nomatch z) h
 | @lst a xs ea=>
  cases (show u=Value.ref a from rx)
  obtain⟨_,_,n,_,h1⟩:=(show ze9 X.prog X.w H s.heap a (.lst xs) from I.hok a _ ea)
  exact zcl0 PySem.W.kitx_list I.kIn ⟨_,h1,rfl⟩ e (fun z=>nomatch z) h
 | @frz a ob xs ea=>
  cases (show u=Value.ref a from rx)
  obtain⟨_,_,_,n,_,h1⟩:=(show ze9 X.prog X.w H s.heap a (.frz ob (.lst xs)) from I.hok a _ ea)
  exact zcl0 PySem.W.kitx_list I.kIn ⟨_,h1,rfl⟩ e (fun z=>nomatch z) h
 | @tup a xs ea=>
  cases (show u=Value.ref a from rx)
  obtain⟨_,_,_,p⟩:=(show ze9 X.prog X.w H s.heap a (.tup xs) from I.hok a _ ea)
  obtain⟨o,h1,h2,_⟩:=p
  exact zcl0 PySem.W.kitx_tuple I.kIn ⟨o,h1,h2⟩ e (fun z=>nomatch z) h
 | @dK a kvs ea=>
  cases (show u=Value.ref a from rx)
  obtain⟨_,_,vs,_,p⟩:=(show ze9 X.prog X.w H s.heap a (.dK kvs) from I.hok a _ ea)
  obtain⟨o,es,ep,h1,h2,_⟩:=p
  exact zcl0 PySem.W.kitx_dict I.kIn ⟨o,h1,h2.1⟩ e (fun z=>nomatch z) h
 | @dT a kvs ea=>
  cases (show u=Value.ref a from rx)
  obtain⟨_,_,xs,_,o,es,ep,h1,h2,_⟩:=(show ze9 X.prog X.w H s.heap a (.dT kvs) from I.hok a _ ea)
  exact zcl0 PySem.W.kitx_dict I.kIn ⟨o,h1,h2.1⟩ e (fun z=>nomatch z) h
 | @ins a C dx fs ea cl ha hn htk hm=>
  cases (show u=Value.ref a from rx)
  obtain⟨mA,O,_⟩:=zbv1 I.hok ea
  obtain⟨od,J,_⟩:=O.look
  exact zcl0 (PySem.W.kitx_own (cl.get _) cl.hd ha hn htk hm) I.kIn J e (fun z=>nomatch z) h
end
structure Room(k:Nat)(A:Around):Prop where
 hd:A.handled=none
 dp:A.depth+3*k+5<recursionLimit
 un:A.units+16*k+200<cLine
 gd:A.guards=some []
theorem Room.mono{j k:Nat}{A:Around}(r:Room k A)(h:j<=k):Room j A:=⟨r.hd,by have:=r.dp;omega,by have:=r.un;omega,r.gd⟩
theorem Room.deeper{k:Nat}{A:Around}(r:Room (k+1) A)(env:Env):Room k (A.deeper env):=
 ⟨r.hd,by have:=r.dp;show A.depth+1+3*k+5<_;omega,by have:=r.un;show A.units+3+16*k+200<_;omega,r.gd⟩
theorem Room.depth{k:Nat}{A:Around}(r:Room k A):A.depth<recursionLimit:=by have:=r.dp;omega
theorem Room.units{k:Nat}{A:Around}(r:Room k A):A.units+64<cLine:=by have:=r.un;omega
def tNil:TA:=fun _ H Q=>Q [] H
def tCons(ta:TE)(tr:TA):TA:=fun σ H Q=>ta σ H fun x H1=>tr σ H1 fun xs H2=>Q (x :: xs) H2
section
variable {X:Cx}{e:Expr}{es:List Expr}{te:TE}{t:TA}{pos:Pos}
theorem za1:PA X [] tNil:=fun _ _ _ _ H Q I h=>Calls.spliced_nil ⟨[],H,I,.nil,h⟩
theorem za0(ha:PE X e te)(hr:PA X es t)(hs:starEach (e :: es) X.env=(false,eval e X.env) :: starEach es X.env:=by rfl):PA X (e :: es) (tCons te t):=by
 intro pos pins s σ H Q I h
 rw[hs]
 show wpAny _ _ (spliced ((false,eval e X.env) :: backTo pos (starEach es X.env))) _ _ s
 refine Calls.spliced_cons (thn (ha pins s σ H _ I h) fun u s1 ⟨x,H1,I1,r1,q1⟩=>?_)
 exact thn (hr pos pins s1 σ H1 _ I1 q1) fun us s2 ⟨xs,H2,I2,r2,q2⟩=>⟨x :: xs,H2,I2,.cons r1 r2,q2⟩
end
abbrev Sp:=List V->Hp->VK->XK->Prop
abbrev CXT:=List Env->Hp->Shared->XK->Value->Shared->Prop
structure Env0(P:Program)(w:World)(K:zcf5)(mg:Str->Option Value)(base:Heap)(A:Around)(outer:List Env)(s:Shared)(H:Hp):Prop where
 frames:A.frames=some outer
 mod:Mod K mg base
 bs:∀ b o,base.get? b=some o->s.heap.get? b=some o/\H b=none
 bsz:base.objs.size<=s.heap.objs.size
 funs:s.heap.FunFrames base outer
 frf:∀ b∈frs outer,H b=none
 hok:HOk P w H s.heap
 bare:AllBare s.gens
def CE(outer:List Env)(P:Program)(w:World)(H:Hp)(s:Shared)(Q:VK)(u:Value)(s':Shared):Prop:=
 ∃ v H',s'.os=s.os/\AllBare s'.gens/\Un (frs outer) [] H H' s.heap s'.heap/\HOk P w H' s'.heap/\RelV v u/\Q v H'
def CR(CX:CXT)(outer:List Env)(P:Program)(w:World)(H:Hp)(s:Shared)(Q:VK)(E:XK)(r:Result)(s':Shared):Prop:=
 match r with
 | .ok (.ret u)=>CE outer P w H s Q u s'
 | .ok _=>False
 | .error e=>CX outer H s E e s'
structure FnOk(P:Program)(w:World)(K:zcf5)(mg:Str->Option Value)(base:Heap)(CX:CXT)(k:Nat)(f:Addr)(fd:FuncData)(ps:List Str)(sp:Sp):Prop where
 len:∀ vs H Q E,sp vs H Q E->vs.length=ps.length
 run:∀ (A:Around) (outer:List Env) (s:Shared) (H:Hp) (args:Args) (us:List Value) (vs:List V) (Q:VK) (E:XK),Room k A->Env0 P w K mg base A outer s H->BindsTo s fd args (ps.zip us)->Vals vs us->sp vs H Q E ->
  codeAny (model P w) A (.call (.ref f) args) (CR CX outer P w H s Q E) s
section
variable {X:Cx}{pins:List (Addr×Obj)}{σ:St}{H:Hp}{s s':Shared}
theorem Inv.env0(I:Inv X pins σ H s):Env0 X.prog X.w X.K X.mg X.base X.A X.stack s H:=
 ⟨I.ok.frames,I.ok.mod,I.bs,zcj5 I.ok.bsz I.sz,I.stack,I.stkFree,I.hok,I.bare⟩
theorem Inv.after{Q:VK}(I:Inv X pins σ H s)(h:CE X.stack X.prog X.w H s Q u s'):EP X pins σ Q u s':=by
 obtain⟨v,H',os,bare,un,hok,r,q⟩:=h
 obtain⟨hh,g,d,t,os'⟩:=s'
 obtain rfl:os'=s.os:=os
 exact⟨v,H',I.call (h':=hh) (g':=g) (d':=d) (t':=t) (ch:=[]) un hok bare (fun b z=>absurd z (by simp)),r,q⟩
end
def tCall(sp:Sp)(dvs:List V)(E:XK)(t:TA):TE:=fun σ H Q=>t σ H fun vs H1=>sp (vs++dvs) H1 Q E
def zao8(K:zcf5)(fd:FuncData)(ps:List Str)(ds:List Value):Prop:=
 ∀ (s:Shared) (us:List Value),K.In s.heap->(us++ds).length=ps.length->BindsTo s fd ⟨us,[]⟩ (ps.zip (us++ds))
theorem zao8.all{K:zcf5}{fd:FuncData}{ps:List Str}(h:∀ us:List Value,us.length=ps.length->bindArgs fd ⟨us,[]⟩=pure (ps.zip us)):zao8 K fd ps []:=fun s us _ hl=>by
 rw[zcn4] at hl ⊢
 exact .of_eq (h us hl)
def zam3(CX:CXT)(X:Cx)(E:XK):Prop:=∀ (pins:List (Addr×Obj)) (σ:St) (H:Hp) (s:Shared) (e:Value) (s':Shared),Inv X pins σ H s->CX X.stack H s E e s'->X.xe e s'
section
variable {X:Cx}{CX:CXT}{k:Nat}{f C:Addr}{fd:FuncData}{ps:List Str}{sp:Sp}{dvs:List V}{ds:List Value}{E:XK}{x m:Str}{p pos apos:Pos}{e o:Expr}{es:List Expr}{ta:TE}{t:TA}
theorem run_fn{Q:VK}{vs:List V}(F:FnOk X.prog X.w X.K X.mg X.base CX k f fd ps sp)(hr:Room k X.A)(hb:zao8 X.K fd ps ds)(hd:Vals dvs ds)(hx:zam3 CX X E)(I:Inv X pins σ H s)(r:Vals vs us)(h:sp (vs++dvs) H Q E):wpAny (model X.prog X.w) X.A (call (.ref f) us) (EP X pins σ Q) X.xe s:=by
 have r2:Vals (vs++dvs) (us++ds):=r.append hd
 have hl:(us++ds).length=ps.length:=by rw[← r2.length];exact F.len _ _ _ _ h
 refine wpAny_call (codeAny_mono (F.run X.A X.stack s H ⟨us,[]⟩ (us++ds) (vs++dvs) Q E hr I.env0 (hb s us I.kIn hl) r2 h) fun r s' hq=>?_)
 cases r with
 | error e=>exact hx pins σ H s e s' I hq
 | ok fl=>
  cases fl with
  | ret u=>exact I.after hq
  | next=>exact False.elim hq
  | brk=>exact False.elim hq
  | cont=>exact False.elim hq
theorem zbw9(F:FnOk X.prog X.w X.K X.mg X.base CX k f fd ps sp)(hr:Room k X.A)(hg:Gl X x)(hm:X.mg x=some (.ref f))(hk:zco5 X.K (.ref f)=true)(hb:zao8 X.K fd ps ds)(hd:Vals dvs ds)(hx:zam3 CX X E)(ha:PA X (e :: es) t)(hdb:(x==("__debug__":Str))=false:=by decide)(he:starEach (e :: es) X.env=(false,eval e X.env) :: starEach es X.env:=by rfl)(hpl:(backTo pos (starEach es X.env)).any (·.1)=false:=by rfl) :
  PE X (.Call (.Name x p) (e :: es) [] pos) (tCall sp dvs E t):=by
 intro pins s σ H Q I h
 refine wpAny_Call_Name_kw (zac6 I hg hm ?_ hdb)
 refine PySem.W.callWith_K (h₀:=X.base) I.ok.mod.kin hk (thn (ha pos pins s σ H _ I h) fun us s1 ⟨vs,H1,I1,r,q⟩=>⟨I1.kIn,?_⟩) he hpl
 exact run_fn F hr hb hd hx I1 r q
end
structure zb7(N P:List Str)(sc:Scope):Prop where
 kind:sc.kind=.function
 co:sc.isCoroutine=false
 gen:sc.isGenerator=false
 nd:N.Nodup
 pre:N.take P.length=P
 par:∀ x∈P,sc.names.lookup x=some .local∨sc.names.lookup x=some .cell
 nofree:∀ y∈sc.names,y.2≠.free
theorem zal7{kindOf:Str->Option NameKind}{x:Str}:∀ {binds:List (Str×Value)}{m:Str->Option Value},(∀ v,(x,v) ∉ binds)->bindL kindOf binds m x=m x
 | [],_,_=>rfl
 | (n,v) :: r,m,h=>by
  unfold bindL
  rw[zal7 fun w hw=>h w (zcj9 _ hw)]
  split
  ·have:x≠n:=by rintro rfl;exact h v zck4
   simp[this]
  ·rfl
theorem zam6{kindOf:Str->Option NameKind}{x:Str}:∀ {binds:List (Str×Value)}{m:Str->Option Value},(∀ v,(x,v) ∉ binds)->bindC kindOf binds m x=m x
 | [],_,_=>rfl
 | (n,v) :: r,m,h=>by
  unfold bindC
  rw[zam6 fun w hw=>h w (zcj9 _ hw)]
  split
  ·rfl
  ·have:x≠n:=by rintro rfl;exact h v zck4
   simp[this]
theorem zaj4{kindOf:Str->Option NameKind}{x:Str}{v:Value}:∀ {P:List Str}{vs:List Value}{i:Nat}{m:Str->Option Value},P.Nodup->P[i]?=some x->vs[i]?=some v->kindOf x=some .local ->
  bindL kindOf (P.zip vs) m x=some v
 | [],_,_,_,_,h,_,_=>by simp at h
 | _ :: _,[],_,_,_,_,h,_=>by simp at h
 | p :: P,w :: vs,0,m,nd,h1,h2,hk=>by
  simp at h1 h2;subst h1;subst h2
  show bindL kindOf ((p,w) :: P.zip vs) m p=_
  unfold bindL
  rw[zal7 fun v hv=>(zcl1.mp nd).1 (List.of_mem_zip hv).1,if_pos hk]
  simp
 | p :: P,w :: vs,i+1,m,nd,h1,h2,hk=>by
  show bindL kindOf ((p,w) :: P.zip vs) m x=_
  unfold bindL
  exact zaj4 (i:=i) (zcl1.mp nd).2 (by simpa using h1) (by simpa using h2) hk
theorem zam5{kindOf:Str->Option NameKind}{x:Str}{v:Value}:∀ {P:List Str}{vs:List Value}{i:Nat}{m:Str->Option Value},P.Nodup->P[i]?=some x->vs[i]?=some v->kindOf x≠some .local ->
  bindC kindOf (P.zip vs) m x=some v
 | [],_,_,_,_,h,_,_=>by simp at h
 | _ :: _,[],_,_,_,_,h,_=>by simp at h
 | p :: P,w :: vs,0,m,nd,h1,h2,hk=>by
  simp at h1 h2;subst h1;subst h2
  show bindC kindOf ((p,w) :: P.zip vs) m p=_
  unfold bindC
  rw[zam6 fun v hv=>(zcl1.mp nd).1 (List.of_mem_zip hv).1,if_neg hk]
  simp
 | p :: P,w :: vs,i+1,m,nd,h1,h2,hk=>by
  show bindC kindOf ((p,w) :: P.zip vs) m x=_
  unfold bindC
  exact zam5 (i:=i) (zcl1.mp nd).2 (by simpa using h1) (by simpa using h2) hk
def zad9(N:List Str)(vs:List V):St:=vs.map some++List.replicate (N.length - vs.length) none
def cxOf(CX:CXT)(P:Program)(w:World)(K:zcf5)(mg:Str->Option Value)(base:Heap)(N:List Str)(qual:Str)(scope:Scope)(f:Addr)(cd:Value)(A:Around)(outer:List Env)(s:Shared)(H:Hp)(E:XK):Cx where
 prog:=P
 w:=w
 K:=K
 mg:=mg
 base:=base
 A:=A.deeper (envOfC qual scope s.heap.objs.size f cd)
 N:=N
 s₀:=s
 H₀:=H
 env:=envOfC qual scope s.heap.objs.size f cd
 outer:=outer
 stack:=envOfC qual scope s.heap.objs.size f cd :: outer
 ex:=[]
 calm:=true
 fn:=fun _=>true
 pn:=[]
 xe:=fun e s'=>wpAny (model P w) (A.deeper (envOfC qual scope s.heap.objs.size f cd)) (leaving (envOfC qual scope s.heap.objs.size f cd) e) (fun _ s''=>CX outer H s E e s'') (fun e' s''=>CX outer H s E e' s'') s'
theorem zav9{sc:Scope}{n:Nat}{x:Str}(h:sc.names.lookup x=some .cell):∃ c,(cellsFrom n sc.names []).lookup x=some c:=by
 have q:=PySem.W.cellsFrom_some sc.names n [] (.inl h)
 exact zck8.mp q
theorem zbk5{CX:CXT}{P:Program}{w:World}{K:zcf5}{mg:Str->Option Value}{base:Heap}{N ps:List Str}{qual:Str}{scope:Scope}{f:Addr}{cd:Value}{A:Around}{outer:List Env}{s1:Shared}{E:XK}{vs:List V}(S:zb7 N ps scope)(hd:A.handled=none)(e0:Env0 P w K mg base A outer s H)(hl:vs.length=ps.length)(r:Vals vs us)(x:InCallC s s.heap.objs.size (bindL (envOfC qual scope s.heap.objs.size f cd).kindOf (ps.zip us) fun _=>none) (cellsFrom (s.heap.objs.size+1) scope.names []) (bindC (envOfC qual scope s.heap.objs.size f cd).kindOf (ps.zip us) fun _=>none) s1) :
  Inv (cxOf CX P w K mg base N qual scope f cd A outer s H E) [] (zad9 N vs) H s1:=by
 have hpl:ps.length<=N.length:=by have:=congrArg List.length S.pre;rw[zcj3] at this;omega
 obtain⟨h1,tk,rfl,hk⟩:=x.done
 have noA:∀ b:Addr,b ∉ (cxOf CX P w K mg base N qual scope f cd A outer s H E).ex:=fun b z=>absurd (show b∈([]:List Addr) from z) (by simp)
 refine⟨⟨e0.mod,S.kind,rfl,rfl,zcg9 _,fun y z c h1 h2=>?_,fun y hy=>?_,fun y c _ h=>?_,fun _=>hd,Around.frames_deeper e0.frames,.inr ⟨rfl,rfl⟩,fun b z=>absurd z (noA b),e0.bs,e0.bsz,fun b _ _=>noA b,fun b z=>absurd z (noA b),e0.funs,e0.frf⟩,
  rfl,e0.bare,Un.kept hk,⟨_,x.toInCall.ns,fun i y v h1 h2 h3=>?_⟩,fun y c h=>⟨_,x.cell y c h⟩,e0.hok.fresh (zcg9 _),fun y c h=>?_,fun p hp=>absurd (show p∈([]:List (Addr×Obj)) from hp) (by simp),e0.hok.kept hk,?_⟩
 ·exact name_of_addr x.apart (PySem.mem_of_lookup h1) (PySem.mem_of_lookup h2)
 ·have hy:scope.names.lookup y=some .cell∨scope.names.lookup y=some .free:=hy
  rcases hy with hy|hy
  ·exact zav9 hy
  ·exact absurd rfl (S.nofree _ (PySem.mem_of_lookup hy))
 ·exact Nat.le_of_lt (x.above y c (PySem.mem_of_lookup h))
 ·have hi:i<vs.length:=by
   unfold zad9 at h2
   by_cases hi:i<vs.length
   ·exact hi
   ·rw[zcj6 (by simpa using hi)] at h2
    rw[List.getElem?_replicate] at h2
    split at h2<;>cases h2
  have ha:vs[i]?=some v:=by
   unfold zad9 at h2
   rw[zck3 (by simpa using hi),zcf9] at h2
   cases e:vs[i]? with
   | none=>rw[e] at h2;cases h2
   | some a=>rw[e] at h2;cases h2;rfl
  obtain⟨u,hu,rv⟩:=r.get ha
  have hp:ps[i]?=some y:=by
   rw[← S.pre,List.getElem?_take_of_lt (by omega)];exact h1
  have ndP:ps.Nodup:=by rw[← S.pre];exact S.nd.sublist (List.take_sublist _ _)
  refine⟨u,rv,?_⟩
  rcases S.par y (zcf8 hp) with k|k
  ·exact .inl ⟨k,zaj4 ndP hp hu k⟩
  ·obtain⟨c,e⟩:=zav9 (n:=s.heap.objs.size+1) k
   refine .inr ⟨.inl k,c,e,?_⟩
   have q:=x.cell y c e
   rw[zam5 ndP hp hu (by show scope.names.lookup y≠_;rw[k];decide)] at q
   exact q
 ·exact e0.hok.fresh (Nat.le_of_lt (x.above y c (PySem.mem_of_lookup h)))
 ·unfold zad9
  show _=N.length
  rw[zcg2,zcf4,List.length_replicate]
  omega
theorem fn_of{CX:CXT}{P:Program}{w:World}{K:zcf5}{mg:Str->Option Value}{base:Heap}{k:Nat}{f:Addr}{name qual:Str}{params:Arguments}{body:List Stmt}{scope:Scope}{dV kV doc pm cdv ct oc:Value}{an od:Option Addr}{osl:Array (Option Value)}{N ps:List Str}{sp:Sp}(lk:K.lookup f=some ⟨oc,od,.func (zcm8 name qual params body scope dV kV doc pm an cdv ct),osl⟩)(hcd:PySem.W.codeIn K cdv qual=true)(S:zb7 N ps scope)(len:∀ vs H Q E,sp vs H Q E->vs.length=ps.length)(hbody:∀ (A:Around) (outer:List Env) (s:Shared) (H:Hp) (vs:List V) (Q:VK) (E:XK),Room k (A.deeper (envOfC qual scope s.heap.objs.size f cdv))->sp vs H Q E ->
   ∃ t,PSs (cxOf CX P w K mg base N qual scope f cdv A outer s H E) body t/\t { nx:=fun _ H'=>Q .non H',rt:=Q } (zad9 N vs) H) :
  FnOk P w K mg base CX (k+1) f (zcm8 name qual params body scope dV kV doc pm an cdv ct) ps sp:=by
 refine⟨len,fun A outer s H args us vs Q E hr e0 hb r hsp=>?_⟩
 have hl:=len _ _ _ _ hsp
 have KX:K.In s.heap:=e0.mod.kin.keeps fun b o e=>(e0.bs b o e).1
 have lim:s.heap.NoLimit:=e0.mod.nolimit.keeps fun b o e=>(e0.bs b o e).1
 have hkind:∀ y∈ps.zip us,scope.names.lookup y.1=some .local∨(scope.names.lookup y.1=some .cell/\((cellsFrom (s.heap.objs.size+1) scope.names []).lookup y.1).isSome=true):=fun ⟨n,v⟩ hy=>by
  rcases S.par n (List.of_mem_zip hy).1 with q|q
  ·exact .inl q
  ·exact .inr ⟨q,PySem.W.cellsFrom_some _ _ _ (.inl q)⟩
 refine codeAny_call_function hr.depth (KX _ _ lk) rfl S.co S.gen rfl (PySem.W.codeRec_of KX hcd) (hb _ _ _ _ ?_)
 refine wpAny_newFunctionEnv_cells S.kind hkind fun env he s1 x=>?_
 subst he
 refine⟨lim.keeps x.toInCall.keep,codeAny_func ?_⟩
 obtain⟨t,ht,hq⟩:=hbody A outer s H vs Q E (hr.deeper _) hsp
 have I:Inv (cxOf CX P w K mg base N qual scope f cdv A outer s H E) [] (zad9 N vs) H s1:=zbk5 S hr.hd e0 hl r x
 refine wpAny_mono (ht [] s1 (zad9 N vs) H _ I hq) (fun fl s' hs=>?_) fun e s' hs=>hs
 have fin:∀ {σ':St}{H':Hp}{v:V}{u:Value},Inv (cxOf CX P w K mg base N qual scope f cdv A outer s H E) [] σ' H' s'->RelV v u->Q v H'->CE outer P w H s Q u s':=
  fun {σ' H' v u} J rv q=>⟨v,H',J.os,J.bare,J.base,J.hok,rv,q⟩
 cases fl with
 | ret u=>
  obtain⟨v,σ',H',J,rv,q⟩:=hs
  exact fin J rv q
 | next=>
  obtain⟨σ',H',J,q⟩:=hs
  exact fin (v:=V.non) (u:=Value.none) J rfl q
 | brk=>
  obtain⟨_,_,_,q⟩:=hs
  exact False.elim q
 | cont=>
  obtain⟨_,_,_,q⟩:=hs
  exact False.elim q
section
variable {X:Cx}{x:Str}{p pos:Pos}{e:Expr}{es:List Expr}{t:TA}{id T:String}{r:List V->Hp->VK->Prop}
def tCB(r:List V->Hp->VK->Prop)(t:TA):TE:=fun σ H Q=>t σ H fun vs H1=>r vs H1 Q
theorem zbm7(hc:zi8 X (.builtin id) r)(hg:Gl X x)(hm:X.mg x=none)(hv:bootBuiltins x=some (.builtin id))(ha:PA X (e :: es) t)(hn:x≠"__name__":=by decide)(hdb:(x==("__debug__":Str))=false:=by decide)(he:starEach (e :: es) X.env=(false,eval e X.env) :: starEach es X.env:=by rfl)(hpl:(backTo pos (starEach es X.env)).any (·.1)=false:=by rfl):PE X (.Call (.Name x p) (e :: es) [] pos) (tCB r t):=by
 intro pins s σ H Q I h
 refine wpAny_Call_Name_kw (zx4 I hg hm hv ?_ hn hdb)
 exact PyProof.Rows.callWith_builtin1 (thn (ha pos pins s σ H _ I h) fun us s1 ⟨vs,H1,I1,r1,q1⟩=>hc pins s1 σ H1 vs us Q I1 r1 q1) he hpl
theorem zbe4(hc:zi8 X (.type T) r)(hg:Gl X x)(hm:X.mg x=none)(hv:bootBuiltins x=some (.type T))(ha:PA X (e :: es) t)(hn:x≠"__name__":=by decide)(hdb:(x==("__debug__":Str))=false:=by decide)(he:starEach (e :: es) X.env=(false,eval e X.env) :: starEach es X.env:=by rfl)(hpl:(backTo pos (starEach es X.env)).any (·.1)=false:=by rfl):PE X (.Call (.Name x p) (e :: es) [] pos) (tCB r t):=by
 intro pins s σ H Q I h
 refine wpAny_Call_Name_kw (zx4 I hg hm hv ?_ hn hdb)
 exact PyProof.Rows.callWith_type1 (thn (ha pos pins s σ H _ I h) fun us s1 ⟨vs,H1,I1,r1,q1⟩=>hc pins s1 σ H1 vs us Q I1 r1 q1) he hpl
end
end L2
namespace HT
open PySem PyProof.Rows
section
open PySem.SeqAt
open PySem.AutoSeq1 (wpAny_loadPart')
open PySem.MeetsSeq PySem.MeetsSeq2 PySem.MeetsSeq3
end
section
variable {prog:Program}{w:World}{A:Around}{E:Value->Shared->Prop}{s:Shared}
def sIx(n d:Nat):Option Int->Nat
 | none=>d
 | some v=>if v<0 then (v+(n:Int)).toNat else min v.toNat n
theorem sIx_le(n d:Nat)(hd:d<=n)(o:Option Int):sIx n d o<=n:=by
 cases o with
 | none=>exact hd
 | some v=>
  show (if v<0 then (v+(n:Int)).toNat else min v.toNat n)<=n
  by_cases hv:v<0
  ·rw[if_pos hv];omega
  ·rw[if_neg hv];exact Nat.min_le_right _ _
theorem zbf9(v:Int)(n d:Nat):(if v<0 then max (v+(n:Int)) 0 else min v (n:Int))=((sIx n d (some v):Nat):Int):=by
 show (if v<0 then max (v+(n:Int)) 0 else min v (n:Int))=(((if v<0 then (v+(n:Int)).toNat else min v.toNat n):Nat):Int)
 by_cases hv:v<0
 ·simp only[if_pos hv];omega
 ·simp only[if_neg hv];omega
theorem zay9(lo hi:Option Int)(n:Nat):Builtin.Slice.sliceAdjust lo hi 1 (n:Int)=(((sIx n 0 lo:Nat):Int),((sIx n n hi:Nat):Int)):=by
 have h1:¬ ((1:Int)<0):=by omega
 unfold Builtin.Slice.sliceAdjust
 simp only[h1,if_false]
 refine Prod.ext ?_ ?_
 ·cases lo with
  | none=>rfl
  | some v=>exact zbf9 v n 0
 ·cases hi with
  | none=>rfl
  | some v=>exact zbf9 v n n
theorem zaz2(i j:Nat):Builtin.Slice.slicePlaces (i:Int) (j:Int) 1=j - i:=by
 unfold Builtin.Slice.slicePlaces
 have h1:(1:Int)>0:=by omega
 simp only[h1,if_true,Int.ediv_one]
 split<;>omega
theorem zae0{v:Value}{o:Option Int}{Q:Option Int->Shared->Prop}(p:IsPart v o)(h:Q o s):wpAny (model prog w) A (Builtin.Slice.slicePartIndex v) Q E s:=by
 cases p with
 | none=>exact slicePart_none h
 | int i t=>exact slicePart_int h
theorem zy7{sl:Addr}{vl vu:Value}{lo hi:Option Int}{n:Nat}{Q:Int×Int×Nat->Shared->Prop}(hs:s.heap.IsSliceOf sl vl vu .none)(pl:IsPart vl lo)(pu:IsPart vu hi)(h:Q (((sIx n 0 lo:Nat):Int),1,sIx n n hi - sIx n 0 lo) s):wpAny (model prog w) A (Builtin.Slice.sliceApplied (.ref sl) (pure (n:Int))) Q E s:=by
 obtain⟨os,hos,hcs,hds⟩:=id hs
 unfold Builtin.Slice.sliceApplied Builtin.Slice.sliceFields
 refine zcp6 (zcp6 (wpAny_field hos hds (x:=vl) rfl (zcp6 (wpAny_field hos hds (x:=vu) rfl (zcp6 (wpAny_field hos hds (x:=.none) rfl (zcp7 ?_)))))))
 refine zcp6 (slicePart_none ?_)
 show wpAny _ _ (if ((1:Int)==0)=true then _ else _) _ _ s
 rw[if_neg (by decide)]
 refine zcp6 (zae0 pl (zcp6 (zae0 pu (zcp6 (zcp7 ?_)))))
 show wpAny _ _ (match Builtin.Slice.sliceAdjust lo hi 1 (n:Int) with|(lo,hi)=>pure (lo,(1:Int),Builtin.Slice.slicePlaces lo hi 1)) _ _ s
 rw[zay9 lo hi n]
 show wpAny _ _ (pure (((sIx n 0 lo:Nat):Int),(1:Int),Builtin.Slice.slicePlaces ((sIx n 0 lo:Nat):Int) ((sIx n n hi:Nat):Int) 1)) _ _ s
 rw[zaz2]
 exact zcp7 h
theorem zbn4(xs:Array Value)(i k:Nat):((List.range k).filterMap fun (m:Nat)=>xs[((i:Int)+(m:Int)*1).toNat]?).toArray=((xs.toList.drop i).take k).toArray:=by
 have e:(fun (m:Nat)=>xs[((i:Int)+(m:Int)*1).toNat]?)=fun m=>xs[i+m]?:=by
  funext m
  have:((i:Int)+(m:Int)*1).toNat=i+m:=by omega
  rw[this]
 rw[e]
 have:=pick_run xs i k
 rw[List.filterMap_map] at this
 have e2:((fun x=>xs[x]?)∘fun x=>i+x)=fun m=>xs[i+m]?:=rfl
 rw[e2] at this
 rw[this]
theorem getItem_tuple_cut{t sl:Addr}{items:Array Value}{vl vu:Value}{lo hi:Option Int}{Q:Value->Shared->Prop}(ht:IsTup s.heap t items)(hs:s.heap.IsSliceOf sl vl vu .none)(pl:IsPart vl lo)(pu:IsPart vu hi)(hw:¬ (sIx items.size 0 lo=0/\sIx items.size items.size hi=items.size))(h:Q (.ref s.heap.objs.size) { s with heap:=s.heap.push { cls:=.type "tuple",data:=.seq ((items.toList.drop (sIx items.size 0 lo)).take (sIx items.size items.size hi - sIx items.size 0 lo)).toArray } })(hsz:items.size<=sizeLine):wpAny (model prog w) A (getItem (.ref t) (.ref sl)) Q E s:=by
 have htake:sizeOk (.seq ((items.toList.drop (sIx items.size 0 lo)).take (sIx items.size items.size hi - sIx items.size 0 lo)).toArray):=by
  show ((items.toList.drop (sIx items.size 0 lo)).take (sIx items.size items.size hi - sIx items.size 0 lo)).toArray.size<=sizeLine
  rw[zcg1,zcj3,zck7,zcg7]
  omega
 have hj:sIx items.size items.size hi<=items.size:=sIx_le _ _ (zcg9 _) hi
 obtain⟨os,hos,hcs,hds⟩:=id hs
 have hTs:s.TypeIs (.ref sl) "slice":=⟨os,hos,hcs⟩
 unfold getItem
 try with_reducible refine zcq1 ?_
 first|refine zcp6 (zcp7 ?_)|skip
 refine zcp6 (wpAny_sequenceKey ht.typeIs (by decide) ?_)
 refine zcp6 (wpAny_callSpecial?_slot (name:=Str.ofString "__getitem__") ht.typeIs PyProof.Rows.slot_tuple_getitem
  (wpAny_call_entry PyProof.Rows.slot_tuple_getitem ht.typeIs entry_tuple_getitem ?_ (args_tuple_getitem _ _)))
 show wpAny _ _ (Builtin.Tuple.tupleItemsOf (.ref t) >>= _) _ _ s
 refine zcp6 (tupleItemsOf_ ht ?_)
 refine zcp6 (wpAny_typeOf hTs ?_)
 rw[if_pos (by decide)]
 refine zcp6 (zy7 hs pl pu ?_)
 have hno:¬ ((((sIx items.size 0 lo:Nat):Int)==0&&(1:Int)==1&&(sIx items.size items.size hi - sIx items.size 0 lo)==items.size)=true):=by
  intro q
  rw[zcg4,zcg4] at q
  have q1:((sIx items.size 0 lo:Nat):Int)=0:=eq_of_beq q.1.1
  have q2:sIx items.size items.size hi - sIx items.size 0 lo=items.size:=eq_of_beq q.2
  exact hw ⟨by omega,by omega⟩
 show wpAny _ _ (if (((sIx items.size 0 lo:Nat):Int)==0&&(1:Int)==1&&(sIx items.size items.size hi - sIx items.size 0 lo)==items.size)=true then _ else _) _ _ s
 rw[if_neg hno,zbn4]
 first
  | exact zcp6 (m:=Builtin.Tuple.tupleExact _) (wpAny_newObj_type (zcp7 ⟨_,rfl,zcp7 h⟩) htake)
  | exact zcp6 (m:=Builtin.Tuple.tupleExact _) (wpAny_newObj_type (zcp6 (zcp7 (zcp7 ⟨_,rfl,zcp7 h⟩))) htake)
  | exact zcp6 (zcp6 (m:=Builtin.Tuple.tupleExact _) (wpAny_newObj_type (zcp7 (zcp7 ⟨_,rfl,zcp7 h⟩)) htake))
  | exact zcp6 (zcp6 (m:=Builtin.Tuple.tupleExact _) (wpAny_newObj_type (zcp7 ⟨_,rfl,zcp7 h⟩) htake))
end
end HT
namespace L2
open PySem PySem.Spec PyProof.Rows
abbrev TO:=St->Hp->(Option Int->Hp->Prop)->Prop
def PO(X:Cx)(e:Option Expr)(t:TO):Prop:=
 ∀ (pins:List (Addr×Obj)) (s:Shared) (σ:St) (H:Hp) (Q:Option Int->Hp->Prop),Inv X pins σ H s->t σ H Q ->
  wpAny (model X.prog X.w) X.A (evalPart e X.env) (fun u s'=>∃ o H',Inv X pins σ H' s'/\IsPart u o/\Q o H') X.xe s
def zbx2:TO:=fun _ H Q=>Q none H
theorem zw2{ns:List Int}:∀ {us:List Value},Vals (ns.map V.int) us->IntsAre us ns:=by
 induction ns with
 | nil=>intro us r;rw[List.map_nil] at r;cases r;exact .nil
 | cons n ns ih=>
  intro us r
  rw[zci1] at r
  cases r with
  | cons r1 r2=>
   obtain⟨t,e⟩:=r1
   subst e
   exact .cons n t (ih r2)
section
variable {X:Cx}{e:Expr}{te:TE}{lo hi:Option Expr}{tl th:TO}{pos p2:Pos}
theorem zf1:PO X none zbx2:=by
 intro pins s σ H Q I h
 rw[evalPart_none]
 exact zcp7 ⟨none,H,I,.none,h⟩
def SlR(X:Cx)(r:V->Option Int->Option Int->Hp->VK->Prop):Prop:=
 ∀ (pins:List (Addr×Obj)) (s:Shared) (σ:St) (H:Hp) (x:V) (v vl vu:Value) (lo hi:Option Int) (sl:Addr) (Q:VK),Inv X pins σ H s->RelV x v->s.heap.IsSliceOf sl vl vu .none->IsPart vl lo->IsPart vu hi->r x lo hi H Q ->
  ∃ T id,typeLookup (.type T) "__getitem__"=pure (some (.builtin id))/\s.TypeIs v T/\wpAny (model X.prog X.w) X.A (getItem v (.ref sl)) (EP X pins σ Q) X.xe s
def tSl(r:V->Option Int->Option Int->Hp->VK->Prop)(te:TE)(tl th:TO):TE:=fun σ H Q=>te σ H fun x H1=>tl σ H1 fun l H2=>th σ H2 fun u H3=>r x l u H3 Q
theorem zd2{r:V->Option Int->Option Int->Hp->VK->Prop}(hr:SlR X r)(he:PE X e te)(hl:PO X lo tl)(hu:PO X hi th):PE X (.Subscript e (.Slice lo hi none p2) pos) (tSl r te tl th):=by
 intro pins s σ H Q I h
 refine Subscript_ (thn (he pins s σ H _ I h) fun v s1 ⟨x,H1,I1,r1,q1⟩=>?_)
 refine wpAny_Slice (thn (hl pins s1 σ H1 _ I1 q1) fun vl s2 ⟨l,H2,I2,pl,q2⟩=>thn (hu pins s2 σ H2 _ I2 q2) fun vu s3 ⟨u,H3,I3,pu,q3⟩=>?_)
 rw[evalPart_none]
 refine zcp7 ?_
 have I4:Inv X pins σ H3 { s3 with heap:=s3.heap.push { cls:=.type "slice",data:=.fields #[vl,vu,.none] } }:=I3.kept (t':=s3.toks) fun b ob q=>zcf7 _ q
 obtain⟨T,id,hT,ht,hg⟩:=hr pins { s3 with heap:=s3.heap.push { cls:=.type "slice",data:=.fields #[vl,vu,.none] } } σ H3 x v vl vu l u s3.heap.objs.size Q I4 r1 (Heap.IsSliceOf.new ..) pl pu q3
 show wpAny (model X.prog X.w) X.A (subscriptTail e (.Slice lo hi none p2) v (.ref s3.heap.objs.size)) (EP X pins σ Q) X.xe { s3 with heap:=s3.heap.push { cls:=.type "slice",data:=.fields #[vl,vu,.none] } }
 exact tail_any (ops:=[.ref s3.heap.objs.size,v]) ht hT hg (by with_unfolding_all rfl)
def cutV(xs:List V)(lo hi:Option Int):List V:=(xs.drop (HT.sIx xs.length 0 lo)).take (HT.sIx xs.length xs.length hi - HT.sIx xs.length 0 lo)
theorem zz9(xs:List V)(lo hi:Option Int):(cutV xs lo hi).length<=xs.length:=by
 unfold cutV
 rw[zcj3,zck7]
 omega
def rSlT(K:zcf5):V->Option Int->Option Int->Hp->VK->Prop:=fun x lo hi H Q=>∃ a xs,x=.ref a/\SqT K H a xs /\
 ¬ (HT.sIx xs.length 0 lo=0/\HT.sIx xs.length xs.length hi=xs.length)/\∀ p,H p=none->Q (.ref p) (upd H p (.tup (cutV xs lo hi)))
theorem sl_tup:SlR X (rSlT X.K):=by
 intro pins s σ H x v vl vu lo hi sl Q I rx hs pl pu h
 obtain⟨a,xs,rfl,hx,hw,q⟩:=h
 cases rx
 obtain⟨its,r,ht,hz⟩:=I.tuple hx
 have hlen:its.toArray.size=xs.length:=by rw[zcg1];exact r.length.symm
 refine⟨"tuple",_,PyProof.Rows.slot_tuple_getitem.lookup,ht.typeIs,?_⟩
 refine HT.getItem_tuple_cut ht hs pl pu (by rw[hlen];exact hw) ?_ (by rw[hlen];exact hz)
 rw[hlen]
 refine⟨.ref s.heap.objs.size,_,I.laid (t':=s.toks) (o:=.tup (cutV xs lo hi)) (fun b ob q=>zcf7 _ q) (zcg9 _) ?_,rfl,q _ (I.hok.fresh (zcg9 _))⟩
 exact⟨zcj5 (zz9 xs lo hi) hz,_,(r.drop (HT.sIx xs.length 0 lo)).take (HT.sIx xs.length xs.length hi - HT.sIx xs.length 0 lo),IsTup.new _ _⟩
end
def ixN(n:Nat)(i:Int):Option Nat:=if 0<=i then (if i<n then some i.toNat else none) else if -(n:Int)<=i then some (i+n).toNat else none
def atI{α:Type}(xs:List α)(i:Int):Option α:=(ixN xs.length i).bind fun j=>xs[j]?
theorem zbf7{n:Nat}{i:Int}{j:Nat}(h:ixN n i=some j):seqIndex? i n=some j/\j<n/\-(n:Int)<=i/\i<n:=by
 unfold ixN at h
 by_cases h0:0<=i
 ·rw[if_pos h0] at h
  by_cases h1:i<n
  ·rw[if_pos h1] at h
   have e:i.toNat=j:=Option.some.inj h
   exact⟨by rw[seqIndex_of h0 h1,e],by omega,by omega,h1⟩
  ·rw[if_neg h1] at h;cases h
 ·rw[if_neg h0] at h
  by_cases h1:-(n:Int)<=i
  ·rw[if_pos h1] at h
   have e:(i+n).toNat=j:=Option.some.inj h
   exact⟨by rw[seqIndex_neg (by omega) h1,e],by omega,h1,by omega⟩
  ·rw[if_neg h1] at h;cases h
theorem zap6{α:Type}{xs:List α}{i:Int}{v:α}(h:atI xs i=some v):∃ j,seqIndex? i xs.length=some j/\xs[j]?=some v/\j<xs.length/\-(xs.length:Int)<=i/\i<xs.length:=by
 unfold atI at h
 cases e:ixN xs.length i with
 | none=>rw[e] at h;cases h
 | some j=>
  rw[e] at h
  obtain⟨h1,h2,h3,h4⟩:=zbf7 e
  exact⟨j,h1,h,h2,h3,h4⟩
theorem zg8{α:Type}{xs:List α}{j:Nat}{v:α}(h:xs[j]?=some v):atI xs (j:Int)=some v:=by
 have hj:j<xs.length:=(zcf6.mp h).1
 have e:ixN xs.length (j:Int)=some j:=by
  unfold ixN
  rw[if_pos (by omega),if_pos (by omega)];simp
 unfold atI;rw[e];exact h
def zai1(b:Expr):Prop:=∀ o i,subscripted b false o i=operate [o,i] (getItem o i)
def IxR(X:Cx)(r:R2):Prop:=
 ∀ (value slice:Expr) (pins:List (Addr×Obj)) (s:Shared) (σ:St) (H:Hp) (x y:V) (v u:Value) (Q:VK),Inv X pins σ H s->RelV x v->RelV y u->r x y H Q ->
  subscripted slice false v u=operate [v,u] (getItem v u)->wpAny (model X.prog X.w) X.A (subscriptTail value slice v u) (EP X pins σ Q) X.xe s
def MtR(X:Cx)(id:String)(r:V->List V->Hp->VK->Prop):Prop:=
 ∀ (pins:List (Addr×Obj)) (s:Shared) (σ:St) (H:Hp) (x:V) (xs:List V) (v:Value) (us:List Value) (Q:VK),Inv X pins σ H s->RelV x v->Vals xs us->r x xs H Q ->
  wpAny (model X.prog X.w) X.A (call (.builtin id) (v :: us)) (EP X pins σ Q) X.xe s
section
variable {X:Cx}{a b:Expr}{ta tb:TE}{pos:Pos}
theorem pe_ix{r:R2}(hr:IxR X r)(ha:PE X a ta)(hb:PE X b tb)(hs:zai1 b):PE X (.Subscript a b pos) (tOp r ta tb):=by
 intro pins s σ H Q I h
 exact Subscript_ (binT ha hb I h fun v u s2 x y H2 I2 rx ry q=>hr a b pins s2 σ H2 x y v u Q I2 rx ry q (hs _ _))
def rIxL(K:zcf5):R2:=fun x y H Q=>∃ p xs i v,x=.ref p/\y=.int i/\SqL K H p xs/\atI xs i=some v/\Q v H
def rIxT(K:zcf5):R2:=fun x y H Q=>∃ p xs i v,x=.ref p/\y=.int i/\SqT K H p xs/\atI xs i=some v/\Q v H
def rIxS:R2:=fun x y H Q=>∃ z i c,x=.str z/\y=.int i/\z.length<=sizeLine/\atI z.cps.toList i=some c/\Q (.str ⟨#[c]⟩) H
theorem zbz7:IxR X (rIxL X.K):=by
 intro value slice pins s σ H x y v u Q I rx ry h hs
 obtain⟨p,xs,i,z,rfl,rfl,hq,he,q⟩:=h
 cases rx
 obtain⟨t,rfl⟩:=ry
 obtain⟨its,r,pl,hz⟩:=I.list hq
 obtain⟨j,h1,h2,h3,h4,h5⟩:=zap6 he
 obtain⟨w,ew,rw'⟩:=r.get h2
 have hl:=r.length
 have hn:=zab7
 have fin:EP X pins σ Q w s:=⟨z,H,I,rw',q⟩
 by_cases h0:0<=i
 ·have hj:i.toNat=j:=by
   rw[seqIndex_of h0 h5] at h1
   exact Option.some.inj h1
  exact item_listR pl.isList h0 (by omega) (by rw[hj];simpa using ew) fin hs
 ·have hj:(i+(its.toArray.size:Int)).toNat=j:=by
   rw[seqIndex_neg (by omega) h4] at h1
   rw[zcg1,← hl]
   exact Option.some.inj h1
  exact subscriptTail_builtinR (x:=w) pl.isList.typeIs slot_list_getitem.lookup
   (wpAny_getItem_list_neg (Q:=fun r s'=>r=w/\EP X pins σ Q r s') pl.isList (by omega) (by rw[zcg1]<;>omega) (by omega) (by rw[hj];simpa using ew) ⟨rfl,fin⟩) hs
theorem ix_tup:IxR X (rIxT X.K):=by
 intro value slice pins s σ H x y v u Q I rx ry h hs
 obtain⟨p,xs,i,z,rfl,rfl,hq,he,q⟩:=h
 cases rx
 obtain⟨t,rfl⟩:=ry
 obtain⟨its,r,pl,hz⟩:=I.tuple hq
 obtain⟨j,h1,h2,h3,h4,h5⟩:=zap6 he
 obtain⟨w,ew,rw'⟩:=r.get h2
 have hl:=r.length
 have hn:=zab7
 have fin:EP X pins σ Q w s:=⟨z,H,I,rw',q⟩
 exact subscriptTail_builtinR (x:=w) pl.typeIs slot_tuple_getitem.lookup
  (getItem_tuple (j:=j) (Q:=fun r s'=>r=w/\EP X pins σ Q r s') pl (by omega) (by omega) (by rw[zcg1,← hl];exact h1) (by simpa using ew) ⟨rfl,fin⟩) hs
theorem ix_str:IxR X rIxS:=by
 intro value slice pins s σ H x y v u Q I rx ry h hs
 obtain⟨z,i,c,rfl,rfl,hz,he,q⟩:=h
 obtain⟨t,rfl⟩:=rx
 obtain⟨t',rfl⟩:=ry
 obtain⟨j,h1,h2,h3,h4,h5⟩:=zap6 he
 have hl:z.cps.toList.length=z.length:=by simp[Str.length]
 rw[hl] at h1 h4 h5
 have hn:=zab7
 exact tail_any (typeIs_str s z t) slot_str_getitem.lookup (getItem_str (c:=c) (by
  have e1:decide (i < -(2 ^ 63:Int))=false:=decide_eq_false (by omega)
  have e2:decide (i≥2 ^ 63)=false:=decide_eq_false (by omega)
  rw[e1,e2,Bool.or_false]) (by rw[h1];simpa using h2) ⟨.str ⟨#[c]⟩,H,I.tok _,⟨_,rfl⟩,q⟩) hs
theorem zba1(its:List Value)(n j:Nat)(u:Value):Obj.mapSeq (·.setIfInBounds j u) { cls:=.type "list",data:=.seq its.toArray n }={ cls:=.type "list",data:=.seq (its.set j u).toArray n }:=by
 simp[Obj.mapSeq]
theorem Inv.lst{pins:List (Addr×Obj)}{σ:St}{H:Hp}{s:Shared}{p:Addr}{xs:List V}(I:Inv X pins σ H s)(h:H p=some (.lst xs)) :
  ∃ (its:List Value) (n:Nat),Vals xs its/\s.heap.get? p=some { cls:=.type "list",data:=.seq its.toArray n }/\xs.length<=sizeLine:=by
 obtain⟨z,its,n,r,e⟩:=I.hok p _ h
 exact⟨its,n,r,e,z⟩
theorem Inv.lstUpd{pins:List (Addr×Obj)}{σ:St}{H:Hp}{s:Shared}{p:Addr}{xs ys:List V}{its its':List Value}{n n':Nat}{f:Obj->Obj}(I:Inv X pins σ H s)(h:H p=some (.lst xs))(ho:s.heap.get? p=some { cls:=.type "list",data:=.seq its.toArray n })(hf:f { cls:=.type "list",data:=.seq its.toArray n }={ cls:=.type "list",data:=.seq its'.toArray n' })(r:Vals ys its')(hz:ys.length<=sizeLine)(t:Nat) :
  Inv X pins σ (upd H p (.lst ys)) { s with heap:=s.heap.update p f,toks:=t }:=by
 have e:(s.heap.update p f).get? p=some { cls:=.type "list",data:=.seq its'.toArray n' }:=by
  rw[zcl7 f ho (by rw[hf]<;>rfl),hf]
 refine I.write (x:=p) (e:=p) (by rw[h];trivial) (.inl rfl) (fun b u hb q=>(zci7 _ _ (Ne.symm hb)).trans q) ⟨_,e⟩ ?_
 exact⟨hz,its',n',r,e⟩
def rSetL:V->V->V->Hp->(Hp->Prop)->Prop:=fun o i v H Q=>∃ p xs k j,o=.ref p/\i=.int k/\H p=some (.lst xs)/\ixN xs.length k=some j/\Q (upd H p (.lst (xs.set j v)))
theorem zbm5:PSet X rSetL:=by
 intro pins s σ H o i v ov iv u Q I ro ri rv h
 obtain⟨p,xs,k,j,rfl,rfl,hp,hj,q⟩:=h
 cases ro
 obtain⟨t,rfl⟩:=ri
 obtain⟨its,n,r,ho,hz⟩:=I.lst hp
 obtain⟨h1,h2,h3,h4⟩:=zbf7 hj
 have hl:=r.length
 have hn:=zab7
 have I':Inv X pins σ (upd H p (.lst (xs.set j v))) { s with heap:=s.heap.update p (Obj.mapSeq (·.setIfInBounds j u)) }:=
  I.lstUpd hp ho (zba1 its n j u) (r.set rv j) (by rw[List.length_set];exact hz) s.toks
 by_cases h0:0<=k
 ·have hk:k.toNat=j:=by
   rw[seqIndex_of h0 h4] at h1
   exact Option.some.inj h1
  exact PySem.W.ki_setAt ho h0 (by omega) (by rw[zcg1,← hl];exact h4) (by rw[hk];exact⟨_,I',q⟩)
 ·have hk:(k+(its.toArray.size:Int)).toNat=j:=by
   rw[seqIndex_neg (by omega) h3] at h1
   rw[zcg1,← hl]
   exact Option.some.inj h1
  exact PySem.W.ki_setBack ho (by omega) (by rw[zcg1,← hl];exact h3) (by omega) (by rw[hk];exact⟨_,I',q⟩)
theorem zao0(lo hi:Option Int)(n:Nat):(sliceBounds lo hi none n).1=((HT.sIx n 0 lo:Nat):Int)/\(sliceBounds lo hi none n).2.1=((HT.sIx n n hi:Nat):Int)/\(sliceBounds lo hi none n).2.2=1:=by
 refine⟨?_,?_,rfl⟩
 ·cases lo with
  | none=>simp[sliceBounds,HT.sIx]
  | some i=>
   simp only[sliceBounds,HT.sIx,Option.getD_none,show (1:Int)>0 by decide,if_true]
   by_cases h:i<0
   ·simp only[h,if_true]<;>omega
   ·simp only[h,if_false]<;>omega
 ·cases hi with
  | none=>simp[sliceBounds,HT.sIx]
  | some i=>
   simp only[sliceBounds,HT.sIx,Option.getD_none,show (1:Int)>0 by decide,if_true]
   by_cases h:i<0
   ·simp only[h,if_true]<;>omega
   ·simp only[h,if_false]<;>omega
theorem zai9(its:List Value)(lo hi:Option Int):slicePick its.toArray lo hi none=((its.drop (HT.sIx its.length 0 lo)).take (HT.sIx its.length its.length hi - HT.sIx its.length 0 lo)).toArray:=by
 obtain⟨h1,h2,h3⟩:=zao0 lo hi its.toArray.size
 unfold slicePick
 rw[h1,h2,h3]
 simp only[sliceRange_one,pick_run,zcg1]<;>rfl
def rSlL(K:zcf5):V->Option Int->Option Int->Hp->VK->Prop:=fun x lo hi H Q=>∃ a xs,x=.ref a/\SqL K H a xs/\∀ p,H p=none->Q (.ref p) (upd H p (.lst (cutV xs lo hi)))
theorem zbu6:SlR X (rSlL X.K):=by
 intro pins s σ H x v vl vu lo hi sl Q I rx hs pl pu h
 obtain⟨a,xs,rfl,hx,q⟩:=h
 cases rx
 obtain⟨its,r,ht,hz⟩:=I.list hx
 have hlen:=r.length
 refine⟨"list",_,slot_list_getitem.lookup,ht.isList.typeIs,?_⟩
 refine wpAny_getItem_list_slice ht.isList hs pl pu .none (by simp) ?_ (by rw[zcg1]<;>omega)
 rw[zai9,← hlen]
 refine⟨.ref s.heap.objs.size,_,I.laid (t':=s.toks) (o:=.lst (cutV xs lo hi)) (fun b ob q=>zcf7 _ q) (zcg9 _) ?_,rfl,q _ (I.hok.fresh (zcg9 _))⟩
 exact⟨zcj5 (zz9 xs lo hi) hz,_,0,(r.drop (HT.sIx xs.length 0 lo)).take (HT.sIx xs.length xs.length hi - HT.sIx xs.length 0 lo),zch5 _ rfl⟩
def zbf6:V->Bool
 | .non=>true
 | .bl _=>true
 | .int _=>true
 | .str _=>true
 | _=>false
def eqV:V->V->Bool
 | .non,.non=>true
 | .bl a,.bl b=>a==b
 | .bl a,.int b=>(if a then 1 else 0)==b
 | .int a,.bl b=>a==(if b then 1 else 0)
 | .int a,.int b=>a==b
 | .str a,.str b=>a==b
 | _,_=>false
theorem zbs6{A:Around}{s:Shared}{y x:V}{u v:Value}(ry:RelV y u)(rx:RelV x v)(fy:zbf6 y=true)(fx:zbf6 x=true):SeqAt.EqAt A s u v (eqV y x):=by
 cases y with
 | non=>
  cases ry
  cases x with
  | non=>cases rx;exact SeqAt.EqAt.same _
  | bl b=>cases rx;exact SeqAt.EqAt.none_bool b
  | int b=>obtain⟨t,rfl⟩:=rx;exact SeqAt.EqAt.none_int b t
  | str b=>obtain⟨t,rfl⟩:=rx;exact SeqAt.EqAt.none_str b t
  | _=>exact absurd (show false=true from fx) zcg3
 | bl a=>
  cases ry
  cases x with
  | non=>cases rx;exact SeqAt.EqAt.bool_none a
  | bl b=>cases rx;exact SeqAt.EqAt.bool_bool a b
  | int b=>obtain⟨t,rfl⟩:=rx;exact SeqAt.EqAt.bool_int a b t
  | str b=>obtain⟨t,rfl⟩:=rx;exact SeqAt.EqAt.bool_str a b t
  | _=>exact absurd (show false=true from fx) zcg3
 | int a=>
  obtain⟨t',rfl⟩:=ry
  cases x with
  | non=>cases rx;exact SeqAt.EqAt.int_none a t'
  | bl b=>cases rx;exact SeqAt.EqAt.int_bool a t' b
  | int b=>obtain⟨t,rfl⟩:=rx;exact SeqAt.EqAt.int_int a t' b t
  | str b=>obtain⟨t,rfl⟩:=rx;exact SeqAt.EqAt.int_str a t' b t
  | _=>exact absurd (show false=true from fx) zcg3
 | str a=>
  obtain⟨t',rfl⟩:=ry
  cases x with
  | non=>cases rx;exact SeqAt.EqAt.str_none a t'
  | bl b=>cases rx;exact SeqAt.EqAt.str_bool a t' b
  | int b=>obtain⟨t,rfl⟩:=rx;exact SeqAt.EqAt.str_int a t' b t
  | str b=>obtain⟨t,rfl⟩:=rx;exact SeqAt.EqAt.str_str a t' b t
  | _=>exact absurd (show false=true from fx) zcg3
 | _=>exact absurd (show false=true from fy) zcg3
theorem zaj8:zi8 X (.builtin "len") (fun xs H Q=>∃ p ys,xs=[.ref p]/\(SqL X.K H p ys∨SqT X.K H p ys)/\Q (.int ys.length) H):=by
 intro pins s σ H xs us Q I r h
 obtain⟨p,ys,rfl,hq,q⟩:=h
 obtain⟨u,rfl,rx⟩:=zv7 r
 cases rx
 have hn:=zab7
 rcases hq with hq|hq
 ·obtain⟨its,r',pl,hz⟩:=I.list hq
  have hlen:=r'.length
  exact Calls.call_len_list pl.isList (by simp only[zcg1]<;>omega) ⟨.int ys.length,H,I.tok _,⟨s.toks+1,by rw[zcg1,hlen]⟩,q⟩
 ·obtain⟨its,r',pl,hz⟩:=I.tuple hq
  have hlen:=r'.length
  exact len_tuple pl (by simp only[zcg1]<;>omega) ⟨.int ys.length,H,I.tok _,⟨s.toks+1,by rw[zcg1,hlen]⟩,q⟩
theorem zan0:zi8 X (.builtin "len") (fun xs H Q=>∃ z,xs=[.str z]/\z.length<=sizeLine/\Q (.int z.length) H):=by
 intro pins s σ H xs us Q I r h
 obtain⟨z,rfl,hz,q⟩:=h
 obtain⟨u,rfl,t,rfl⟩:=zv7 r
 have hn:=zab7
 exact len_str (by omega) ⟨.int z.length,H,I.tok _,⟨_,rfl⟩,q⟩
theorem zam0:zi8 X (.type "list") (fun xs H Q=>∃ p ys,xs=[.ref p]/\(SqL X.K H p ys∨SqT X.K H p ys)/\∀ l,H l=none->Q (.ref l) (upd H l (.lst ys))):=by
 intro pins s σ H xs us Q I r h
 obtain⟨p,ys,rfl,hq,q⟩:=h
 obtain⟨u,rfl,rx⟩:=zv7 r
 cases rx
 have fin:∀ (its:List Value),Vals ys its->ys.length<=sizeLine->∀ (h':Heap) (c':Nat),(∀ b o',s.heap.get? b=some o'->h'.get? b=some o') ->
   h'.get? s.heap.objs.size=some { cls:=.type "list",dict:=none,data:=.seq its.toArray c',slots:=#[] }->EP X pins σ Q (.ref s.heap.objs.size) { s with heap:=h' }:=fun its r' hz h' c' kp e=>
  ⟨.ref s.heap.objs.size,_,I.laid (t':=s.toks) kp (zcg9 _) (show ze9 X.prog X.w _ h' _ (.lst ys) from ⟨hz,its,c',r',e⟩),rfl,q _ (I.hok.fresh (zcg9 _))⟩
 rcases hq with hq|hq
 ·obtain⟨its,r',pl,hz⟩:=I.list hq
  have hlen:=r'.length
  obtain⟨o,ho,hc,n,hd⟩:=pl.isList
  exact call_list_seq p (.inl rfl) ho hc hd (fun h' c' kp e=>fin its r' hz h' c' kp e) (by simp only[zcg1]<;>omega)
 ·obtain⟨its,r',pl,hz⟩:=I.tuple hq
  have hlen:=r'.length
  obtain⟨o,ho,hc,n,hd⟩:=pl
  exact call_list_seq p (.inr rfl) ho hc hd (fun h' c' kp e=>fin its r' hz h' c' kp e) (by simp only[zcg1]<;>omega)
theorem zah2:zi8 X (.type "tuple") (fun xs H Q=>∃ p ys,xs=[.ref p]/\((SqL X.K H p ys/\∀ l,H l=none->Q (.ref l) (upd H l (.tup ys)))∨(SqT X.K H p ys/\Q (.ref p) H))):=by
 intro pins s σ H xs us Q I r h
 obtain⟨p,ys,rfl,h⟩:=h
 obtain⟨u,rfl,rx⟩:=zv7 r
 cases rx
 rcases h with ⟨hq,q⟩|⟨hq,q⟩
 ·obtain⟨its,r',pl,hz⟩:=I.list hq
  have hlen:=r'.length
  refine call_tuple_list pl.isList (fun h' kp=>?_) (by simp only[zcg1]<;>omega)
  have I1:Inv X pins σ H { s with heap:=h' }:=I.kept (t':=s.toks) kp
  have I2:Inv X pins σ (upd H h'.objs.size (.tup ys)) { s with heap:=h'.push { cls:=.type "tuple",data:=.seq its.toArray } }:=
   I1.laid (t':=s.toks) (fun b o e=>zcf7 _ e) (zcg9 _) (show ze9 X.prog X.w _ _ _ (.tup ys) from ⟨hz,its,r',IsTup.new _ _⟩)
  exact⟨.ref h'.objs.size,_,I2,rfl,q _ (I1.hok.fresh (zcg9 _))⟩
 ·obtain⟨its,r',pl,hz⟩:=I.tuple hq
  exact call_tuple_same pl ⟨.ref p,H,I,rfl,q⟩
def tyV(K:zcf5)(T:String)(x:V)(H:Hp):Prop:=match x with
 | .str _=>T="str"
 | .int _=>T="int"
 | .ref p=>(T="list"/\∃ xs,SqL K H p xs)∨(T="tuple"/\∃ o,K.lookup p=some o/\o.cls=.type "tuple"/\o.dict=none) ∨
   (T="dict"/\((∃ kvs,H p=some (.dK kvs))∨∃ kvs,H p=some (.dT kvs)))∨(T="set"/\∃ S n,H p=some (.set S n))
 | _=>False
theorem tyV_is{pins:List (Addr×Obj)}{σ:St}{H:Hp}{s:Shared}{T:String}{x:V}{v:Value}(I:Inv X pins σ H s)(r:RelV x v)(ty:tyV X.K T x H) :
  s.TypeIs v T/\∀ a,v=.ref a->∃ ob,s.heap.get? a=some ob/\ob.dict=none:=by
 cases x with
 | str z=>
  obtain⟨t,rfl⟩:=r
  cases (show T="str" from ty)
  exact⟨typeIs_str s z t,fun _ e=>nomatch e⟩
 | int i=>
  obtain⟨t,rfl⟩:=r
  cases (show T="int" from ty)
  exact⟨typeIs_int s i t,fun _ e=>nomatch e⟩
 | ref p=>
  cases r
  rcases ty with ⟨rfl,xs,hq⟩|⟨rfl,o,hk,hc,hd⟩|⟨rfl,hk⟩|⟨rfl,S,n,hk⟩
  ·obtain⟨its,_,pl,_⟩:=I.list hq
   refine⟨pl.isList.typeIs,fun a e=>?_⟩
   cases e
   obtain⟨o,n,e,c,hd,_⟩:=pl
   exact⟨o,e,hd⟩
  ·refine⟨⟨o,I.kIn p o hk,hc⟩,fun a e=>?_⟩
   cases e
   exact⟨o,I.kIn _ o hk,hd⟩
  ·have z:∃ o,s.heap.get? p=some o/\o.ExactDict:=by
    rcases hk with ⟨kvs,hk⟩|⟨kvs,hk⟩
    ·obtain⟨_,_,_,_,o,_,_,e,ex,_⟩:=I.hok p _ hk
     exact⟨o,e,ex⟩
    ·obtain⟨_,_,_,_,o,_,_,e,ex,_⟩:=I.hok p _ hk
     exact⟨o,e,ex⟩
   obtain⟨o,e,ex⟩:=z
   refine⟨⟨o,e,ex.1⟩,fun a e2=>?_⟩
   cases e2
   exact⟨o,e,ex.2.1⟩
  ·obtain⟨o,_,_,_,e,ex,_⟩:=I.hok p _ hk
   refine⟨⟨o,e,ex.1⟩,fun a e2=>?_⟩
   cases e2
   exact⟨o,e,ex.2.1⟩
 | _=>exact False.elim ty
variable {o e:Expr}{es:List Expr}{to:TE}{t:TA}{name:Str}{apos cpos:Pos}{T id:String}{r:V->List V->Hp->VK->Prop}
end
def MtM(X:Cx)(id:String)(r:V->List V->Hp->VK->Prop):Prop:=
 ∀ (pins:List (Addr×Obj)) (s:Shared) (σ:St) (H:Hp) (x:V) (xs:List V) (v:Value) (us:List Value) (Q:VK),Inv X pins σ H s->RelV x v->Vals xs us->r x xs H Q ->
  wpAny (model X.prog X.w) X.A (call (.builtin id) (v :: us)) (EP X pins σ Q) X.xe s
theorem Vals.one:∀ {x:V}{us:List Value},Vals [x] us->∃ u,us=[u]/\RelV x u
 | _,_,.cons r .nil=>⟨_,rfl,r⟩
theorem Vals.reverse{xs:List V}{us:List Value}(h:Vals xs us):Vals xs.reverse us.reverse:=by
 induction h with
 | nil=>exact .nil
 | cons r t ih=>rw[List.reverse_cons,List.reverse_cons];exact Vals.append ih (.cons r .nil)
theorem Vals.rep{xs:List V}{us:List Value}(h:Vals xs us):∀ k:Nat,Vals (List.replicate k xs).flatten (List.replicate k us).flatten
 | 0=>.nil
 | k+1=>by
  rw[zcn7,zcn7,List.flatten_cons,List.flatten_cons]
  exact Vals.append h (Vals.rep h k)
theorem zak5(its:List Value):∀ (k:Nat) (acc:List Value),
  List.foldl (fun x1 x2=>x1++x2) acc.toArray (List.replicate k its.toArray)=(acc++(List.replicate k its).flatten).toArray
 | 0,acc=>by simp
 | k+1,acc=>by
  have e:acc.toArray++its.toArray=(acc++its).toArray:=by simp
  have e2:(acc++its)++(List.replicate k its).flatten=acc++(List.replicate (k+1) its).flatten:=by
   rw[zcn7,List.flatten_cons,zco7]
  rw[← e2,← zak5 its k (acc++its),← e,zcn7,List.foldl_cons]
section
variable {X:Cx}{pins:List (Addr×Obj)}{σ:St}{H:Hp}{s:Shared}{l b:Addr}{xs ys zs:List V}
theorem Inv.lset{its its':List Value}{n:Nat}{f:Array Value->Array Value}{t':Nat}(I:Inv X pins σ H s)(hH:H l=some (.lst xs))(e:s.heap.get? l=some { cls:=.type "list",data:=.seq its.toArray n })(hf:f its.toArray=its'.toArray)(hv:Vals ys its')(hz:ys.length<=sizeLine) :
  Inv X pins σ (upd H l (.lst ys)) { s with heap:=s.heap.update l (Obj.mapSeq f),toks:=t' }:=by
 have q:=PySem.IsL.update e f
 rw[hf] at q
 refine I.write (x:=l) (e:=l) (by rw[hH];exact trivial) (.inl rfl) (fun b' u hb hu=>(zci7 s.heap (Obj.mapSeq f) (Ne.symm hb)).trans hu) ⟨_,q⟩ ?_
 exact⟨hz,its',_,hv,q⟩
theorem Inv.lnew{its:List Value}{t':Nat}(I:Inv X pins σ H s)(hv:Vals ys its)(hz:ys.length<=sizeLine) :
  Inv X pins σ (upd H s.heap.objs.size (.lst ys)) { s with heap:=s.heap.push { cls:=.type "list",data:=.seq its.toArray },toks:=t' }:=
 I.laid (fun _ _ q=>zcf7 _ q) (zcg9 _) ⟨hz,its,0,hv,zch5 _ rfl⟩
theorem Inv.fresh(I:Inv X pins σ H s):H s.heap.objs.size=none:=I.hok.fresh (zcg9 _)
theorem Inv.lstM(I:Inv X pins σ H s)(hH:H l=some (.lst xs)):xs.length<=sizeLine/\∃ (its:List Value) (n:Nat),Vals xs its/\xs.length=its.length/\s.heap.get? l=some { cls:=.type "list",data:=.seq its.toArray n }:=by
 obtain⟨z,its,n,r,e⟩:=I.hok l _ hH
 exact⟨z,its,n,r,r.length,e⟩
theorem zav0{n:Nat}(h:n<=sizeLine):Builtin.List.listTooLong n=false:=by
 unfold Builtin.List.listTooLong
 exact decide_eq_false (by omega)
end
section
variable {X:Cx}
def zbu8:V->List V->Hp->VK->Prop:=fun x vs H Q=>∃ l xs y,x=.ref l/\vs=[y]/\H l=some (.lst xs)/\xs.length<sizeLine/\Q .non (upd H l (.lst (xs++[y])))
theorem zab5:MtM X "list.append" zbu8:=by
 intro pins s σ H x vs v us Q I rx rv h
 obtain⟨l,xs,y,rfl,rfl,hH,hz,q⟩:=h
 cases rx
 obtain⟨u,rfl,ru⟩:=rv.one
 obtain⟨z,its,n,r,hl,e⟩:=I.lstM hH
 refine call_meets F.slot_list_append ⟨_,e,rfl⟩ F.entry_list_append (F.args_list_append_2 _ _) (PySem.list_append l its.toArray n u (by rw[zcg1];omega)) ⟨e,?_⟩
 refine⟨.non,_,I.lset (its':=its++[u]) hH e (by simp) (r.append (.cons ru .nil)) ?_,rfl,q⟩
 rw[zcg2,zcj0]
 omega
def zbu3:V->List V->Hp->VK->Prop:=fun x vs H Q=>∃ l b xs zs,x=.ref l/\vs=[.ref b]/\H l=some (.lst xs)/\H b=some (.lst zs)/\xs.length+zs.length<=sizeLine/\Q .non (upd H l (.lst (xs++zs)))
theorem mt_extend:MtM X "list.extend" zbu3:=by
 intro pins s σ H x vs v us Q I rx rv h
 obtain⟨l,b,xs,zs,rfl,rfl,hH,hB,hz,q⟩:=h
 cases rx
 obtain⟨u,rfl,ru⟩:=rv.one
 cases ru
 obtain⟨z,its,n,r,hl,e⟩:=I.lstM hH
 obtain⟨z2,its2,n2,r2,hl2,e2⟩:=I.lstM hB
 have hsz:its.toArray.size+its2.toArray.size<=sizeLine:=by rw[zcg1,zcg1];omega
 have hlong:¬ (!its.toArray.isEmpty&&Builtin.List.listTooLong (its.toArray.size+its2.toArray.size))=true:=by
  rw[zav0 hsz,Bool.and_false]
  exact zcg3
 refine call_meets F.slot_list_extend ⟨_,e,rfl⟩ F.entry_list_extend (F.args_list_extend_2 _ _)
  (AutoSeq1.list_extend_list_list_0 l its.toArray n b its2.toArray n2 hlong (by rw[zcg1];omega) (by omega)) ⟨e,e2,?_⟩
 refine⟨.non,_,I.lset (its':=its++its2) hH e (by simp) (r.append r2) ?_,rfl,q⟩
 rw[zcg2]
 omega
def rCat:R2:=fun x y H Q=>∃ l b xs zs,x=.ref l/\y=.ref b/\H l=some (.lst xs)/\H b=some (.lst zs)/\xs.length+zs.length<=sizeLine/\∀ p,H p=none->Q (.ref p) (upd H p (.lst (xs++zs)))
theorem op_cat:OpR X (binaryOp .Add) rCat:=by
 intro pins s σ H x y v u Q I rx ry h
 obtain⟨l,b,xs,zs,rfl,rfl,hH,hB,hz,q⟩:=h
 cases rx
 cases ry
 obtain⟨z,its,n,r,hl,e⟩:=I.lstM hH
 obtain⟨z2,its2,n2,r2,hl2,e2⟩:=I.lstM hB
 refine PySem.P.add_list e e2 ?_ (by rw[zcg1,zcg1];omega)
 have ea:its.toArray++its2.toArray=(its++its2).toArray:=by simp
 rw[ea]
 exact⟨.ref _,_,I.lnew (t':=s.toks) (r.append r2) (by rw[zcg2];omega),rfl,q _ I.fresh⟩
def rRep:R2:=fun x y H Q=>∃ l k xs,x=.ref l/\y=.int k/\H l=some (.lst xs)/\-(2 ^ 63)<=k/\k<2 ^ 63/\xs.length*k.toNat<=sizeLine /\
 ∀ p,H p=none->Q (.ref p) (upd H p (.lst (List.replicate k.toNat xs).flatten))
theorem zbu7{α:Type}(xs:List α)(k:Nat):(List.replicate k xs).flatten.length=k*xs.length:=by
 induction k with
 | zero=>simp
 | succ k ih=>rw[zcn7,List.flatten_cons,zcg2,ih,Nat.succ_mul,Nat.add_comm]
theorem op_rep:OpR X (binaryOp .Mult) rRep:=by
 intro pins s σ H x y v u Q I rx ry h
 obtain⟨l,k,xs,rfl,rfl,hH,h1,h2,hz,q⟩:=h
 cases rx
 obtain⟨t,rfl⟩:=ry
 obtain⟨z,its,n,r,hl,e⟩:=I.lstM hH
 have hlen:its.toArray.size*k.toNat<=sizeLine:=by rw[zcg1,← hl];exact hz
 have hcap:¬ its.toArray.size*k.toNat>(2 ^ 63 - 1) / 8:=by
  have:(sizeLine:Nat)<=(2 ^ 63 - 1) / 8:=by decide
  omega
 have hfit:¬ (!Builtin.List.listFitsIndex k)=true:=by
  rw[fitsIndex_both h1 h2]
  exact zcg3
 have hlong:¬ Builtin.List.listTooLong (its.toArray.size*k.toNat)=true:=by
  rw[zav0 hlen]
  exact zcg3
 have hnew:List.foldl (fun x1 x2=>x1++x2) #[] (List.replicate (if its.toArray.isEmpty=true then 0 else k.toNat) its.toArray)=(List.replicate k.toNat its).flatten.toArray:=by
  have f0:∀ m:Nat,List.foldl (fun x1 x2=>x1++x2) #[] (List.replicate m its.toArray)=(List.replicate m its).flatten.toArray:=fun m=>by
   have:=zak5 its m []
   rw[List.nil_append] at this
   exact this
  rw[f0]
  cases its with
  | nil=>simp
  | cons a r'=>rw[if_neg (by simp)]
 refine wpAny_binaryOp_repeat_ref (T:="list") (U:="int") (by decide) ⟨_,e,rfl⟩ (fun s'=>typeIs_int s' k t) noFill_list_mul F.fills_int_mul F.slot_int_rmul repeat_list F.slot_int_index.lookup
  (call_meets F.slot_int_rmul (typeIs_int s k t) F.entry_int_rmul (F.args_int_rmul_2 _ _) (int___rmul___int_list k t l its.toArray n)
   ⟨e,rfl,⟨_,e,rfl⟩,call_meets F.slot_list_mul ⟨_,e,rfl⟩ F.entry_list_mul (F.args_list_mul_2 _ _) (AutoListH.list___mul___list_int_3 l its.toArray n k t hfit hcap hlong) ⟨e,?_⟩⟩)
 rw[hnew]
 exact⟨.ref _,_,I.lnew (t':=s.toks) (r.rep k.toNat) (by rw[zbu7,Nat.mul_comm];exact hz),rfl,q _ I.fresh⟩
end
end L2
namespace Att
open PySem PySem.W PySem.Calls PyProof.Rows
theorem zz4{P:Params}{h:Heap}:∀ (ns:List Int) (vs:List Value),WellAll P h vs (ns.map WData.int)->IntsAre vs ns:=by
 intro ns
 induction ns with
 | nil=>
  intro vs w
  rw[List.map_nil] at w
  cases w
  exact .nil
 | cons n ns ih=>
  intro vs w
  rw[zci1] at w
  cases w with
  | cons a b=>
   cases a
   exact .cons _ _ (ih _ b)
theorem zbg0{l:OpenLaw}{n:Nat}(hn:l.most=some n){P:Params}{h:Heap}{args:List WData}{vals:List Value}(hpre:l.row.toRowW.claim.pre args=true)(hwl:WellAll P h vals args) :
  ∃ a vs ns,vals=[Value.ref a]/\args=[WData.list (ns.map WData.int)]/\h.get? a=some { cls:=.type "list",data:=.seq vs.toArray }/\IntsAre vs ns/\ns.length<=n:=by
 have hsh:WShape.hasAll [] args [.list .int]=true:=(pre_splitW hpre).1
 have hc:l.pre.holds [] { args:=args }=true:=(pre_splitW hpre).2
 obtain⟨d,r,rfl,h1,h2⟩:=hasAllW_cons hsh
 obtain rfl:=hasAllW_nil h2
 obtain⟨xs,rfl,h3⟩:=hasW_list h1
 obtain⟨ns,rfl⟩:=items_int h3
 have hlen:ns.length<=n:=by
  unfold OpenLaw.pre at hc
  have h4:(WTm.not (.lt (.lit (.int (n:Int))) (.len (.arg 0)))).holds [] { args:=[.list (ns.map .int)] }=true:=by
   have h4:=(holds_andW hc).1
   rw[hn] at h4
   exact h4
  have h5:=condW_of h4 (w_not (w_lt w_lit (w_len_list (w_arg rfl))))
  rw[zcf4] at h5
  refine Nat.le_of_not_lt fun q=>?_
  have q':(n:Int)<((ns.length:Nat):Int):=by omega
  first
   | (rw[decide_eq_true q'] at h5;exact absurd h5 (by decide))
   | (simp at h5;omega)
 cases hwl with
 | cons w1 w2=>
  cases w2
  cases w1 with
  | list ho hall=>exact⟨_,_,ns,rfl,rfl,ho,zz4 ns _ hall,hlen⟩
theorem zbi9(l:OpenLaw)(args:List WData):l.row.toRowW.claim.post args (.bool true) args=true:=
 postW_of (r:=l.row.toRowW) (X:=(true==true))
  (show WShape.has [] (.bool true) .bool=true by first|rfl|decide|simp[WShape.has,WShape.arms,WShape.armsAll])
  (show (WTm.eq .res (.lit (.bool true))).value [] { args:=args,res:=some (.bool true),after:=args }=some (.bool (true==true)) from w_eq_bool (w_res rfl) w_lit) rfl
theorem attach_call{l:OpenLaw}{n:Nat}{q:Program}{loose:List Str}{XP:(Str->Option Value)->Heap->Prop}{YP:World->Heap->Prop}{d:DefRec}(hn:l.most=some n)(hdf:d.params.defaults=[])(call:∀ (w:World) (s₀ s₁:Shared) (mg mb:Str->Option Value) (fa:Addr) (o:Obj) (pm cd doc:Value) (a:Addr) (vs:List Value) (ns:List Int),
   Ground q loose [] XP w s₀ mg mb s₁.heap->YP w s₁.heap ->
   s₁.heap.get? fa=some o->o.data=.func (docDef d.name d.params d.body d.scope pm cd doc)->s₁.heap.CodeRec cd d.name->mg d.name=some (.ref fa) ->
   s₁.heap.get? a=some { cls:=.type "list",data:=.seq vs.toArray }->IntsAre vs ns->ns.length<=n->s₁.gens=#[] ->
   codeAny (model l.prog w) callerA (.call (.ref fa) ⟨[.ref a],[]⟩) (fun r s'=>r=.ok (.ret (.bool true))/\OldK s₁.heap s'.heap/\s'.os=s₁.os/\AllBare s'.gens) s₁) :
  WalkO q loose XP YP l.row.toRowW d [] (fun f vs=>PySem.call f vs):=by
 intro w s₀ s₁ mg mb G Y fa o pm cd doc dV kV ho hd hcd hD hmg hg args vals as hpre hlay hrd hwl hlo
 obtain rfl:dV=.none:=Dflts.none hD hdf
 obtain rfl:kV=.none:=Dflts.noKw hD
 obtain⟨a,vs,ns,rfl,rfl,hobj,hints,hlen⟩:=zbg0 hn hpre hwl
 refine enter_call (codeAny_mono (call w s₀ s₁ mg mb fa o pm cd doc a vs ns G Y ho (fd_plain hd) hcd hmg hobj hints hlen hg) fun r s' hq=>?_)
 obtain⟨rfl,h2,h3,h4⟩:=hq
 exact⟨.inl ⟨.bool true,.bool true,[],rfl,fun _=>rfl,.bool true,zbi9 l _,fun _=>⟨List.Pairwise.nil,fun _ hm=>(nomatch hm)⟩⟩,h2,h3,h4⟩
section
variable {prog:Program}{w:World}{A:Around}{E:Value->Shared->Prop}{s:Shared}{K:Frag}
def noObjs(h:Heap):Heap:={ h with objs:=#[] }
theorem noObjs_get(h:Heap)(b:Addr):(noObjs h).get? b=none:=by
 cases e:(noObjs h).get? b with
 | none=>rfl
 | some o=>exact absurd (zch1 e) (Nat.not_lt_zero _)
def ledger(h:Heap)(L d:Addr):List (Addr×Obj):=(List.range h.objs.size).filterMap fun a=>if a=L∨a=d then none else (h.get? a).map fun o=>(a,o)
theorem mem_ledger{h:Heap}{L d a:Addr}{o:Obj}:(a,o)∈ledger h L d↔a≠L/\a≠d/\h.get? a=some o:=by
 unfold ledger
 rw[zco4]
 constructor
 ·rintro⟨b,_,e⟩
  split at e
  ·cases e
  ·rename_i hb
   obtain⟨o',ho,e'⟩:=zcg5.mp e
   cases e'
   exact⟨fun q=>hb (.inl q),fun q=>hb (.inr q),ho⟩
 ·rintro⟨n1,n2,ho⟩
  refine⟨a,zci3.mpr (zch1 ho),?_⟩
  rw[if_neg (show ¬ (a=L∨a=d) from fun q=>q.elim n1 n2),ho]<;>rfl
theorem fr_all{h:Heap}{L:Addr}{m:Str->Option Value}(n:h.Ns L m):Fr (noObjs h) L h m:=
 ⟨n,fun b o e=>(by rw[noObjs_get] at e;cases e),zci0 _⟩
end
end Att
namespace L2
open PySem PySem.Spec PyProof.Rows
variable {qual:Str}{st:Stmt}{C D f:Addr}{ps:List Str}{sp:Sp}{H H' H1:Hp}{xs:List V}{o:HO}{tg:Expr}{es:List Expr}{i:Nat}{te:TE}{scope:Scope}{Q:VK}
theorem zaj6:∀ {vs:List Value}{ns:List Int},IntsAre vs ns->Vals (ns.map V.int) vs
 | _,_,.nil=>.nil
 | _,_,.cons n t h=>.cons ⟨t,rfl⟩ (zaj6 h)
def zn2(s:Stmt):Arguments:=match s with
 | .FunctionDef _ a _ _ _ _ _ _ _ _=>a
 | _=>{ posonlyargs:=[],args:=[],vararg:=none,kwonlyargs:=[],kw_defaults:=[],kwarg:=none,defaults:=[] }
def zj0(s:Stmt):List Stmt:=match s with
 | .FunctionDef _ _ b _ _ _ _ _ _ _=>b
 | _=>[]
def za7(s:Stmt):Scope:=match s with
 | .FunctionDef _ _ _ _ _ _ sc _ _ _=>sc
 | _=>{ kind:=.function,names:=[],isGenerator:=false,isCoroutine:=false }
abbrev CX0:CXT:=fun _ _ _ _ _ _=>False
abbrev E0:XK:=fun _ _ _=>False
theorem zc5{X:Cx}:zam3 CX0 X E0:=fun _ _ _ _ _ _ _ h=>h.elim
structure Fun(K:zcf5)(x qual:Str)(st:Stmt)(f:Addr)(fd:FuncData):Prop where
 ex:∃ (oc:Value) (od:Option Addr) (kV doc pm:Value) (an:Option Addr) (cdv ct:Value) (osl:Array (Option Value)),
  fd=zcm8 x qual (zn2 st) (zj0 st) (za7 st) .none kV doc pm an cdv ct/\K.lookup f=some ⟨oc,od,.func fd,osl⟩/\PySem.W.codeIn K cdv qual=true
 kp:zco5 K (.ref f)=true
section
variable {P:Program}{w:World}{K:zcf5}{mg:Str->Option Value}{base:Heap}
theorem Fun.ok{x:Str}{fd:FuncData}{N:List Str}{k:Nat}(F:Fun K x qual st f fd)(S:zb7 N ps (za7 st))(len:∀ vs H Q E,sp vs H Q E->vs.length=ps.length)(hbody:∀ (cdv:Value) (A:Around) (outer:List Env) (s:Shared) (H:Hp) (vs:List V) (Q:VK) (E:XK),Room k (A.deeper (envOfC qual (za7 st) s.heap.objs.size f cdv))->sp vs H Q E ->
   ∃ t,PSs (cxOf CX0 P w K mg base N qual (za7 st) f cdv A outer s H E).nox (zj0 st) t/\t { nx:=fun _ H'=>Q .non H',rt:=Q } (zad9 N vs) H):FnOk P w K mg base CX0 (k+1) f fd ps sp:=by
 obtain⟨oc,od,kV,doc,pm,an,cdv,ct,osl,rfl,lk,hcd⟩:=F.ex
 refine fn_of lk hcd S len fun A outer s H vs Q E hr hsp=>?_
 obtain⟨t,h,q⟩:=hbody cdv A outer s H vs Q E hr hsp
 exact⟨t,h.nox,q⟩
theorem Fun.binds{x:Str}{fd:FuncData}(F:Fun K x qual st f fd)(h:∀ (kV doc pm:Value) (an:Option Addr) (cdv ct:Value) (us:List Value),us.length=ps.length->bindArgs (zcm8 x qual (zn2 st) (zj0 st) (za7 st) .none kV doc pm an cdv ct) ⟨us,[]⟩=pure (ps.zip us)):zao8 K fd ps []:=by
 obtain⟨oc,od,kV,doc,pm,an,cdv,ct,osl,rfl,lk,hcd⟩:=F.ex
 exact .all (h kV doc pm an cdv ct)
theorem zbb8{x:Str}{oc:Value}{od an:Option Addr}{osl:Array (Option Value)}{kV doc pm cdv ct:Value}(l:K.lookup f=some ⟨oc,od,.func (zcm8 x qual (zn2 st) (zj0 st) (za7 st) .none kV doc pm an cdv ct),osl⟩)(c:PySem.W.codeIn K cdv qual=true)(k:zco5 K (.ref f)=true):Fun K x qual st f (zcm8 x qual (zn2 st) (zj0 st) (za7 st) .none kV doc pm an cdv ct):=⟨⟨oc,od,kV,doc,pm,an,cdv,ct,osl,rfl,l,c⟩,k⟩
end
theorem iteF{A B:Prop}(h:B):if false=true then A else B:=by
 rw[if_neg zcg3]
 exact h
theorem iteT{A B:Prop}(h:A):if true=true then A else B:=by
 rw[if_pos rfl]
 exact h
theorem ite2{c A B:Prop}[Decidable c](h1:c->A)(h2:¬ c->B):if c then A else B:=by
 by_cases h:c
 ·rw[if_pos h]
  exact h1 h
 ·rw[if_neg h]
  exact h2 h
def Same(H H':Hp):Prop:=∀ b o,H b=some o->H' b=some o
theorem Same.refl(H:Hp):Same H H:=fun _ _ h=>h
theorem Same.trans{H2:Hp}(a:Same H H1)(b:Same H1 H2):Same H H2:=fun c o h=>b c o (a c o h)
theorem Same.free(e:Same H H'){l:Addr}(h:H' l=Option.none):H l=Option.none:=by
 cases q:H l with
 | none=>rfl
 | some o=>
  rw[e l o q] at h
  cases h
theorem Same.seq{K:zcf5}{a:Addr}(e:Same H H')(h:SqL K H a xs):SqL K H' a xs:=by
 rcases h with (h|⟨o,h⟩)|h
 ·exact .inl (.inl (e _ _ h))
 ·exact .inl (.inr ⟨o,e _ _ h⟩)
 ·exact .inr h
set_option maxHeartbeats 1000000
@[irreducible] def br(c:Bool)(A B:Prop):Prop:=if c=true then A else B
section
variable {A B p:Prop}{c:Bool}
theorem zx7:br c A B=(if c=true then A else B):=by unfold br;rfl
theorem br_T(h:A):br true A B:=by unfold br;exact iteT h
theorem br_F(h:B):br false A B:=by unfold br;exact iteF h
theorem br_any(h1:c=true->A)(h2:c=false->B):br c A B:=by
 cases c with
 | true=>exact br_T (h1 rfl)
 | false=>exact br_F (h2 rfl)
theorem ze6 [Decidable p](h1:p->A)(h2:¬ p->B):br (decide p) A B:=br_any (fun h=>h1 (of_decide_eq_true h)) fun h=>h2 (of_decide_eq_false h)
theorem zaj7 [Decidable p](hp:p)(h:A):br (decide p) A B:=ze6 (fun _=>h) fun n=>absurd hp n
theorem zbj7 [Decidable p](hp:¬ p)(h:B):br (decide p) A B:=ze6 (fun n=>absurd n hp) fun _=>h
theorem zc1(h:br c B A):br (!c) A B:=by
 cases c with
 | true=>unfold br at h ⊢;simpa using h
 | false=>unfold br at h ⊢;simpa using h
end
def Chg(a:Addr)(H H':Hp):Prop:=∀ b o,b≠a->H b=some o->H' b=some o
theorem Chg.upd{H:Hp}{a:Addr}{o:HO}:Chg a H (upd H a o):=fun b u hb e=>by rw[zb4 hb];exact e
theorem Same.upd{H:Hp}{a:Addr}{o:HO}(h:H a=none):Same H (L2.upd H a o):=fun b u e=>by rw[zb4 (za5 e h)];exact e
theorem Same.chg{H0:Hp}{a:Addr}(s:Same H0 H)(n:H0 a=none)(c:Chg a H H'):Same H0 H':=fun b o e=>c b o (za5 e n) (s b o e)
theorem Chg.refl(a:Addr)(H:Hp):Chg a H H:=fun _ _ _ e=>e
theorem Chg.trans{H2:Hp}{a:Addr}(x:Chg a H H1)(y:Chg a H1 H2):Chg a H H2:=fun b o h e=>y b o h (x b o h e)
theorem Chg.same{H2:Hp}{a:Addr}(x:Chg a H H1)(y:Same H1 H2):Chg a H H2:=fun b o h e=>y b o (x b o h e)
theorem Same.toChg{a:Addr}(x:Same H H1):Chg a H H1:=fun b o _ e=>x b o e
theorem Same.at{b:Addr}(s:Same H H')(e:H b=some o):H' b=some o:=s b o e
theorem Chg.at{a b:Addr}(s:Chg a H H')(e:H b=some o)(n:b≠a):H' b=some o:=s b o n e
def qV(i:Nat):TE:=fun σ H Q=>match σ[i]? with
 | some (some v)=>Q v H
 | _=>False
section
variable {X:Cx}
theorem pq(i:Nat){x:Str}{pos:Pos}(hN:X.N[i]?=some x:=by rfl)(hv:Vis X.env.scope x:=by first|exact Or.inl rfl|exact Or.inr (Or.inl rfl)|exact Or.inr (Or.inr rfl))(hd:(x==("__debug__":Str))=false:=by decide)(hcd:(x==("__classdict__":Str))=false:=by decide):PE X (.Name x pos) (qV i):=fun pins s σ H Q I h=>by
 refine pe_var hN hv hd hcd pins s σ H Q I ?_
 unfold qV at h
 split at h
 ·rename_i v e
  exact⟨v,e,h⟩
 ·exact h.elim
@[irreducible] def zaw7(i j:Int)(H:Hp)(Q:VK):Prop:=IntMulOk i j/\Q (.int (i*j)) H
@[irreducible] def rDivI(i j:Int)(H:Hp)(Q:VK):Prop:=(j≠0/\j.natAbs.log2<9000)/\Q (.int (i.fdiv j)) H
@[irreducible] def zbl4(i j:Int)(H:Hp)(Q:VK):Prop:=j≠0/\Q (.int (i.fmod j)) H
@[irreducible] def rPowI(i j:Int)(H:Hp)(Q:VK):Prop:=CPow i j/\Q (.int (i ^ j.toNat)) H
@[irreducible] def rCatL(a b:Addr)(H:Hp)(Q:VK):Prop:=∃ xs zs,H a=some (.lst xs)/\H b=some (.lst zs)/\xs.length+zs.length<=sizeLine /\
 ∀ p H',H p=none->Same H H'->H' p=some (.lst (xs++zs))->Q (.ref p) H'
@[irreducible] def rRepL(a:Addr)(k:Int)(H:Hp)(Q:VK):Prop:=∃ xs,H a=some (.lst xs)/\-(2 ^ 63)<=k/\k<2 ^ 63/\xs.length*k.toNat<=sizeLine /\
 ∀ p H',H p=none->Same H H'->H' p=some (.lst (List.replicate k.toNat xs).flatten)->Q (.ref p) H'
def rAddM:R2:=fun x y H Q=>match x,y with
 | .int i,.int j=>Q (.int (i+j)) H
 | .ref a,.ref b=>rCatL a b H Q
 | .str a,.str b=>a.length+b.length<=sizeLine/\Q (.str (a++b)) H
 | _,_=>False
def rSubM:R2:=fun x y H Q=>match x,y with
 | .int i,.int j=>Q (.int (i - j)) H
 | _,_=>False
def rMulM:R2:=fun x y H Q=>match x,y with
 | .int i,.int j=>zaw7 i j H Q
 | .ref a,.int k=>rRepL a k H Q
 | _,_=>False
def rDivM:R2:=fun x y H Q=>match x,y with
 | .int i,.int j=>rDivI i j H Q
 | _,_=>False
def rModM:R2:=fun x y H Q=>match x,y with
 | .int i,.int j=>zbl4 i j H Q
 | _,_=>False
def rPowM:R2:=fun x y H Q=>match x,y with
 | .int i,.int j=>rPowI i j H Q
 | _,_=>False
theorem oAdd:OpR X (binaryOp .Add) rAddM:=by
 intro pins s σ H x y v u Q I rx ry h
 unfold rAddM at h
 split at h
 ·exact op_add pins s σ H _ _ v u Q I rx ry ⟨_,_,rfl,rfl,h⟩
 ·unfold rCatL at h
  obtain⟨xs,zs,h1,h2,h3,h4⟩:=h
  exact op_cat pins s σ H _ _ v u Q I rx ry ⟨_,_,xs,zs,rfl,rfl,h1,h2,h3,fun p hp=>h4 p _ hp (Same.upd hp) zb1⟩
 ·exact zax9 pins s σ H _ _ v u Q I rx ry ⟨_,_,rfl,rfl,h.1,h.2⟩
 ·exact h.elim
theorem oSub:OpR X (binaryOp .Sub) rSubM:=by
 intro pins s σ H x y v u Q I rx ry h
 unfold rSubM at h
 split at h
 ·exact op_sub pins s σ H _ _ v u Q I rx ry ⟨_,_,rfl,rfl,h⟩
 ·exact h.elim
theorem oMul:OpR X (binaryOp .Mult) rMulM:=by
 intro pins s σ H x y v u Q I rx ry h
 unfold rMulM at h
 split at h
 ·unfold zaw7 at h
  obtain⟨t,rfl⟩:=rx
  obtain⟨t',rfl⟩:=ry
  exact mul_int ⟨.int _,H,I.tok _,⟨_,rfl⟩,h.2⟩ h.1
 ·unfold rRepL at h
  obtain⟨xs,h1,h2,h3,h4,h5⟩:=h
  exact op_rep pins s σ H _ _ v u Q I rx ry ⟨_,_,xs,rfl,rfl,h1,h2,h3,h4,fun p hp=>h5 p _ hp (Same.upd hp) zb1⟩
 ·exact h.elim
theorem oDiv:OpR X (binaryOp .FloorDiv) rDivM:=by
 intro pins s σ H x y v u Q I rx ry h
 unfold rDivM at h
 split at h
 ·unfold rDivI at h
  obtain⟨⟨h1,h2⟩,h3⟩:=h
  obtain⟨t,rfl⟩:=rx
  obtain⟨t',rfl⟩:=ry
  exact floordiv_int h1 ⟨.int _,H,I.tok _,⟨_,rfl⟩,h3⟩ (.inl (PyProof.noPylong_of_log2 h2))
 ·exact h.elim
theorem oMod:OpR X (binaryOp .Mod) rModM:=by
 intro pins s σ H x y v u Q I rx ry h
 unfold rModM at h
 split at h
 ·unfold zbl4 at h
  exact zbu1 pins s σ H _ _ v u Q I rx ry ⟨_,_,rfl,rfl,h.1,h.2⟩
 ·exact h.elim
theorem oPow:OpR X (binaryOp .Pow) rPowM:=by
 intro pins s σ H x y v u Q I rx ry h
 unfold rPowM at h
 split at h
 ·unfold rPowI at h
  exact op_pow pins s σ H _ _ v u Q I rx ry ⟨_,_,rfl,rfl,h.1,h.2⟩
 ·exact h.elim
def rNegM:V->Hp->VK->Prop:=fun x H Q=>match x with
 | .int i=>Q (.int (-i)) H
 | _=>False
theorem uNeg:UnR X (unaryOp .USub) rNegM:=by
 intro pins s σ H x v Q I rx h
 unfold rNegM at h
 split at h
 ·exact un_neg pins s σ H _ v Q I rx ⟨_,rfl,h⟩
 ·exact h.elim
section
variable {i j:Int}{H:Hp}{Q:VK}
theorem zbs7(h:IntMulOk i j)(q:Q (.int (i*j)) H):zaw7 i j H Q:=by unfold zaw7;exact⟨h,q⟩
theorem log2_lt{n k:Nat}(h:n<2 ^ k)(hk:0<k):n.log2<k:=by
 by_cases h0:n=0
 ·subst h0;simpa using hk
 ·exact (Nat.log2_lt h0).mpr h
theorem zbw6{j:Int}(h1:-(10 ^ 240)<j)(h2:j<10 ^ 240):j.natAbs<2 ^ 2000:=by
 have e:(10:Int) ^ 240=((10 ^ 240:Nat):Int):=by norm_cast
 have e2:(10:Nat) ^ 240<2 ^ 2000:=by decide +kernel
 rw[e] at h1 h2
 generalize hN:(10:Nat) ^ 240=N at h1 h2 e2
 generalize hM:(2:Nat) ^ 2000=M at e2
 omega
theorem div_rd(h1:0<j)(h2:j<10 ^ 240)(q:Q (.int (i / j)) H):rDivI i j H Q:=by
 unfold rDivI
 refine⟨⟨by omega,?_⟩,?_⟩
 ·have h:=log2_lt (zbw6 (j:=j) (by have:(0:Int)<10 ^ 240:=(by decide +kernel);generalize (10:Int) ^ 240=N at this;omega) h2) (by decide)
  omega
 ·rw[Int.fdiv_eq_ediv_of_nonneg _ (by omega)];exact q
theorem mod_rd(h1:0<j)(q:Q (.int (i % j)) H):zbl4 i j H Q:=by
 unfold zbl4
 refine⟨by omega,?_⟩
 rw[Int.fmod_eq_emod_of_nonneg _ (by omega)];exact q
theorem zbs4(h:CPow i j)(q:Q (.int (i ^ j.toNat)) H):rPowI i j H Q:=by unfold rPowI;exact⟨h,q⟩
theorem zp0{a b:Addr}{zs:List V}(h1:H a=some (.lst xs))(h2:H b=some (.lst zs))(h3:xs.length+zs.length<=sizeLine)(q:∀ p H',H p=none->Same H H'->H' p=some (.lst (xs++zs))->Q (.ref p) H'):rCatL a b H Q:=by unfold rCatL;exact⟨xs,zs,h1,h2,h3,q⟩
theorem zbi0{a:Addr}{k:Int}(h1:H a=some (.lst xs))(h2:-(2 ^ 63)<=k)(h3:k<2 ^ 63)(h4:xs.length*k.toNat<=sizeLine)(q:∀ p H',H p=none->Same H H'->H' p=some (.lst (List.replicate k.toNat xs).flatten)->Q (.ref p) H'):rRepL a k H Q:=by unfold rRepL;exact⟨xs,h1,h2,h3,h4,q⟩
end
def rLeM:R2:=fun x y H Q=>match x,y with
 | .int i,.int j=>Q (.bl (decide (i<=j))) H
 | _,_=>False
def rGtM:R2:=fun x y H Q=>match x,y with
 | .int i,.int j=>Q (.bl (decide (j<i))) H
 | _,_=>False
theorem oLe:OpR X (compareOp .LtE) rLeM:=by
 intro pins s σ H x y v u Q I rx ry h
 unfold rLeM at h
 split at h
 ·exact op_le pins s σ H _ _ v u Q I rx ry ⟨_,_,rfl,rfl,h⟩
 ·exact h.elim
theorem oGt:OpR X (compareOp .Gt) rGtM:=by
 intro pins s σ H x y v u Q I rx ry h
 unfold rGtM at h
 split at h
 ·exact op_gt pins s σ H _ _ v u Q I rx ry ⟨_,_,rfl,rfl,h⟩
 ·exact h.elim
inductive EqR(K:zcf5)(H:Hp):Nat->V->V->Bool->Prop where
 | flat {n:Nat}{x y:V}(fx:zbf6 x=true) (fy:zbf6 y=true):EqR K H n x y (eqV x y)
 | tup {n:Nat}{a b:Addr}{xs ys:List V}(e:Nat->Bool) (ha:SqT K H a xs) (hb:SqT K H b ys) (h:∀ (j:Nat) (x y:V),xs[j]?=some x->ys[j]?=some y->EqR K H n x y (e j)) :
   EqR K H (n+1) (.ref a) (.ref b) ((List.range (min xs.length ys.length)).all e&&xs.length==ys.length)
 | lst {n:Nat}{a b:Addr}{xs ys:List V}(e:Nat->Bool) (ha:SqL K H a xs) (hb:SqL K H b ys) (hl:xs.length=ys.length) (h:∀ (j:Nat) (x y:V),xs[j]?=some x->ys[j]?=some y->EqR K H n x y (e j)) :
   EqR K H (n+1) (.ref a) (.ref b) ((List.range xs.length).all e)
 | lstN {n:Nat}{a b:Addr}{xs ys:List V}(ha:SqL K H a xs) (hb:SqL K H b ys) (hl:xs.length≠ys.length):EqR K H (n+1) (.ref a) (.ref b) false
theorem zbp1{x:V}(f:zbf6 x=true):eqV x x=true:=by
 cases x<;>first|rfl|(simp[eqV];done)|exact absurd (show false=true from f) zcg3
section
variable {pins:List (Addr×Obj)}{σ:St}{H:Hp}{s:Shared}
theorem EqR.self(I:Inv X pins σ H s){n:Nat}{x y:V}{b:Bool}(h:EqR X.K H n x y b):x=y->b=true:=by
 induction h with
 | flat fx fy=>rintro rfl;exact zbp1 fx
 | tup e ha hb h ih=>
  intro q
  cases q
  have q:=I.tuple_inj ha hb
  subst q
  rw[Nat.min_self,zcg4]
  refine⟨zcg8.mpr fun j hj=>?_,by simp⟩
  have hj:=zci3.mp hj
  exact ih j _ _ (zcf3 hj) (zcf3 hj) rfl
 | lst e ha hb hl h ih=>
  intro q
  cases q
  have q:=I.list_inj ha hb
  subst q
  refine zcg8.mpr fun j hj=>?_
  have hj:=zci3.mp hj
  exact ih j _ _ (zcf3 hj) (zcf3 hj) rfl
 | lstN ha hb hl=>
  intro q
  cases q
  exact absurd (congrArg List.length (I.list_inj ha hb)) hl
theorem zj5(A:Around):A.in1.units=A.units+1:=rfl
mutual
theorem EqR.at(I:Inv X pins σ H s):∀ {n:Nat}{x y:V}{b:Bool},EqR X.K H n x y b->∀ {u v:Value}{A:Around},RelV x u->RelV y v->A.units+n<cLine->SeqAt.EqAt A s u v b
 | _,_,_,_,.flat fx fy,u,v,A,rx,ry,_=>zbs6 rx ry fx fy
 | _,.ref a,.ref b,_,h,u,v,A,rx,ry,hu=>by
  cases rx
  cases ry
  by_cases e:a=b
  ·subst e
   rw[h.self I rfl]
   exact SeqAt.EqAt.same _
  ·exact SeqAt.EqAt.of_refs e (EqR.rc I h hu)
theorem EqR.rc(I:Inv X pins σ H s):∀ {n:Nat}{a b:Addr}{c:Bool},EqR X.K H n (.ref a) (.ref b) c->∀ {A:Around},A.units+n<cLine->SeqAt.RcAt A s (.ref a) (.ref b) c
 | _,_,_,_,.flat fx _,_,_=>absurd (show false=true from fx) zcg3
 | _,a,b,_,.tup (xs:=xs) (ys:=ys) e ha hb h,A,hu=>by
  obtain⟨its,r1,t1,z1⟩:=I.tuple ha
  obtain⟨its2,r2,t2,z2⟩:=I.tuple hb
  have l1:its.toArray.size=xs.length:=by rw[zcg1];exact r1.length.symm
  have l2:its2.toArray.size=ys.length:=by rw[zcg1];exact r2.length.symm
  have q:=SeqAt.RcAt.tuples (A:=A) (e:=e) t1 t2 (by omega) fun j h1 h2=>by
   rw[l1] at h1
   rw[l2] at h2
   obtain⟨u1,e1,q1⟩:=r1.get (zcf3 h1)
   obtain⟨u2,e2,q2⟩:=r2.get (zcf3 h2)
   have i1:its.toArray[j]=u1:=by
    have:=(zcf6.mp e1).2
    simpa using this
   have i2:its2.toArray[j]=u2:=by
    have:=(zcf6.mp e2).2
    simpa using this
   rw[i1,i2]
   exact EqR.at I (h j _ _ (zcf3 h1) (zcf3 h2)) q1 q2 (by rw[zj5];omega)
  rw[l1,l2] at q
  exact q
 | _,a,b,_,.lst (xs:=xs) (ys:=ys) e ha hb hl h,A,hu=>by
  obtain⟨its,r1,t1,z1⟩:=I.list ha
  obtain⟨its2,r2,t2,z2⟩:=I.list hb
  have l1:its.toArray.size=xs.length:=by rw[zcg1];exact r1.length.symm
  have l2:its2.toArray.size=ys.length:=by rw[zcg1];exact r2.length.symm
  have q:=SeqAt.RcAt.lists (A:=A) (e:=e) t1.isList t2.isList (by rw[l1,l2];exact hl) (by omega) fun j h1 h2=>by
   rw[l1] at h1
   rw[l2] at h2
   obtain⟨u1,e1,q1⟩:=r1.get (zcf3 h1)
   obtain⟨u2,e2,q2⟩:=r2.get (zcf3 h2)
   have i1:its.toArray[j]=u1:=by
    have:=(zcf6.mp e1).2
    simpa using this
   have i2:its2.toArray[j]=u2:=by
    have:=(zcf6.mp e2).2
    simpa using this
   rw[i1,i2]
   exact EqR.at I (h j _ _ (zcf3 h1) (zcf3 h2)) q1 q2 (by rw[zj5];omega)
  rw[l1] at q
  exact q
 | _,a,b,_,.lstN (xs:=xs) (ys:=ys) ha hb hl,A,hu=>by
  obtain⟨its,r1,t1,z1⟩:=I.list ha
  obtain⟨its2,r2,t2,z2⟩:=I.list hb
  have l1:its.toArray.size=xs.length:=by rw[zcg1];exact r1.length.symm
  have l2:its2.toArray.size=ys.length:=by rw[zcg1];exact r2.length.symm
  exact SeqAt.RcAt.lists_lengths t1.isList t2.isList (by rw[l1,l2];simpa using hl) (by omega)
end
theorem EqR.rcNe(I:Inv X pins σ H s):∀ {n:Nat}{a b:Addr}{c:Bool},EqR X.K H n (.ref a) (.ref b) c->∀ {A:Around},A.units+n<cLine->SeqAt.RcNeAt A s (.ref a) (.ref b) (!c)
 | _,_,_,_,.flat fx _,_,_=>absurd (show false=true from fx) zcg3
 | _,a,b,_,.tup (xs:=xs) (ys:=ys) e ha hb h,A,hu=>by
  obtain⟨its,r1,t1,z1⟩:=I.tuple ha
  obtain⟨its2,r2,t2,z2⟩:=I.tuple hb
  have l1:its.toArray.size=xs.length:=by rw[zcg1];exact r1.length.symm
  have l2:its2.toArray.size=ys.length:=by rw[zcg1];exact r2.length.symm
  have q:=SeqAt.RcNeAt.tuples (A:=A) (e:=e) t1 t2 (by omega) fun j h1 h2=>by
   rw[l1] at h1
   rw[l2] at h2
   obtain⟨u1,e1,q1⟩:=r1.get (zcf3 h1)
   obtain⟨u2,e2,q2⟩:=r2.get (zcf3 h2)
   have i1:its.toArray[j]=u1:=by
    have:=(zcf6.mp e1).2
    simpa using this
   have i2:its2.toArray[j]=u2:=by
    have:=(zcf6.mp e2).2
    simpa using this
   rw[i1,i2]
   exact EqR.at I (h j _ _ (zcf3 h1) (zcf3 h2)) q1 q2 (by rw[zj5];omega)
  rw[l1,l2] at q
  exact q
 | _,a,b,_,.lst (xs:=xs) (ys:=ys) e ha hb hl h,A,hu=>by
  obtain⟨its,r1,t1,z1⟩:=I.list ha
  obtain⟨its2,r2,t2,z2⟩:=I.list hb
  have l1:its.toArray.size=xs.length:=by rw[zcg1];exact r1.length.symm
  have l2:its2.toArray.size=ys.length:=by rw[zcg1];exact r2.length.symm
  have q:=SeqAt.RcNeAt.lists (A:=A) (e:=e) t1.isList t2.isList (by rw[l1,l2];exact hl) (by omega) fun j h1 h2=>by
   rw[l1] at h1
   rw[l2] at h2
   obtain⟨u1,e1,q1⟩:=r1.get (zcf3 h1)
   obtain⟨u2,e2,q2⟩:=r2.get (zcf3 h2)
   have i1:its.toArray[j]=u1:=by
    have:=(zcf6.mp e1).2
    simpa using this
   have i2:its2.toArray[j]=u2:=by
    have:=(zcf6.mp e2).2
    simpa using this
   rw[i1,i2]
   exact EqR.at I (h j _ _ (zcf3 h1) (zcf3 h2)) q1 q2 (by rw[zj5];omega)
  rw[l1] at q
  exact q
 | _,a,b,_,.lstN (xs:=xs) (ys:=ys) ha hb hl,A,hu=>by
  obtain⟨its,r1,t1,z1⟩:=I.list ha
  obtain⟨its2,r2,t2,z2⟩:=I.list hb
  have l1:its.toArray.size=xs.length:=by rw[zcg1];exact r1.length.symm
  have l2:its2.toArray.size=ys.length:=by rw[zcg1];exact r2.length.symm
  exact SeqAt.RcNeAt.lists_lengths t1.isList t2.isList (by rw[l1,l2];simpa using hl) (by omega)
end
@[irreducible] def rEqO(K:zcf5)(a b:Addr)(H:Hp)(Q:VK):Prop:=∃ n c,n<=40/\EqR K H n (.ref a) (.ref b) c/\Q (.bl c) H
def rEqM(K:zcf5):R2:=fun x y H Q=>match x,y with
 | .int i,.int j=>Q (.bl (decide (i=j))) H
 | .bl i,.bl j=>Q (.bl (decide (i=j))) H
 | .str i,.str j=>Q (.bl (decide (i=j))) H
 | .ref a,.ref b=>rEqO K a b H Q
 | x,y=>scal x y=true/\Q (.bl (decide (x=y))) H
def rNeM(K:zcf5):R2:=fun x y H Q=>rEqM K x y H fun v H'=>match v with
 | .bl b=>Q (.bl (!b)) H'
 | _=>False
theorem zv4{α β:Type}[DecidableEq α][DecidableEq β]{f:α->β}(hf:∀ a b,f a=f b->a=b)(a b:α):decide (f a=f b)=decide (a=b):=by
 by_cases h:a=b
 ·subst h;simp
 ·rw[decide_eq_false h,decide_eq_false fun e=>h (hf _ _ e)]
def qB(t:TE):TT:=fun σ H Q=>t σ H fun x H1=>match x with
 | .bl c=>Q c H1
 | .int i=>Q (!decide (i=0)) H1
 | _=>False
theorem ptV{e:Expr}{t:TE}(h:PE X e t)(he:∀ whole,isTrue e X.env whole=(do let v ← whole;standAt e.pos;holding [v] (truthy v)):=by intro _;rfl):PT X e (qB t):=fun pins s σ H Q I hw=>by
 refine isTrue_plain (thn (h pins s σ H _ I hw) fun v s1 ⟨x,H1,I1,r1,q1⟩=>?_) (he _)
 dsimp only at q1
 split at q1
 ·exact zbk4 pins s1 σ H1 _ v Q I1 r1 ⟨_,rfl,q1⟩
 ·rename_i i
  refine zbk4 pins s1 σ H1 _ v Q I1 r1 ⟨_,rfl,?_⟩
  have e:(i != 0)=!decide (i=0):=by by_cases h:i=0<;>simp[h]
  rw[e];exact q1
 ·exact q1.elim
theorem ptC{a b:Expr}{ta tb:TE}{pos:Pos}{op:CmpOp}{r:R2}(ho:OpR X (compareOp op) r)(ha:PE X a ta)(hb:PE X b tb)(hm:behindInMarks op b=false:=by first|exact zbs1 _|with_unfolding_all rfl):PT X (.Compare a [op] [b] pos) (qB (tOp r ta tb)):=by
 intro pins s σ H Q I h
 refine wpAny_isTrue_Compare1 (thn (ha pins s σ H _ I h) fun v s1 ⟨x,H1,I1,r1,q1⟩=>thn (hb pins s1 σ H1 _ I1 q1) fun u s2 ⟨y,H2,I2,r2,q2⟩=>
  thn (ho pins s2 σ H2 x y v u _ I2 r1 r2 q2) fun c s3 ⟨z,H3,I3,r3,q3⟩=>?_) hm
 dsimp only at q3
 split at q3
 ·cases r3
  exact wpAny_truthy_bool ⟨H3,I3,q3⟩
 ·rename_i i
  refine zbk4 pins s3 σ H3 _ c Q I3 r3 ⟨_,rfl,?_⟩
  have e:(i != 0)=!decide (i=0):=by by_cases h:i=0<;>simp[h]
  rw[e];exact q3
 ·exact q3.elim
theorem peC{a b:Expr}{ta tb:TE}{pos:Pos}{op:CmpOp}{r:R2}(ho:OpR X (compareOp op) r)(ha:PE X a ta)(hb:PE X b tb)(hm:behindInMarks op b=false:=by first|exact zbs1 _|with_unfolding_all rfl):PE X (.Compare a [op] [b] pos) (tOp r ta tb):=
 zbx8 ho ha hb hm
variable {a b:Expr}{rest:List Expr}{tA tB':TT}{ta tb:TE}{pos:Pos}
def qAnd(t u:TT):TT:=fun σ H Q=>t σ H fun c H1=>br c (u σ H1 Q) (Q false H1)
def qOr(t u:TT):TT:=fun σ H Q=>t σ H fun c H1=>br c (Q true H1) (u σ H1 Q)
theorem pwAnd(ha:PT X a tA)(hb:PW X (.BoolOp .And (b :: rest) pos) tB'):PW X (.BoolOp .And (a :: b :: rest) pos) (qAnd tA tB'):=fun wh pins s σ H Q I h=>
 pw_and ha hb wh pins s σ H Q I (by unfold qAnd at h;simp only[zx7] at h;exact h)
theorem pwOr(ha:PT X a tA)(hb:PW X (.BoolOp .Or (b :: rest) pos) tB'):PW X (.BoolOp .Or (a :: b :: rest) pos) (qOr tA tB'):=fun wh pins s σ H Q I h=>
 pw_or ha hb wh pins s σ H Q I (by unfold qOr at h;simp only[zx7] at h;exact h)
def qAndV(ta tb:TE):TE:=fun σ H Q=>ta σ H fun x H1=>match x with
 | .bl c=>br c (tb σ H1 Q) (Q (.bl false) H1)
 | _=>False
def qNotV(ta:TE):TE:=fun σ H Q=>ta σ H fun x H1=>match x with
 | .bl c=>Q (.bl (!c)) H1
 | _=>False
theorem zx3(ha:PE X a ta)(hb:PE X (.BoolOp .And (b :: rest) pos) tb):PE X (.BoolOp .And (a :: b :: rest) pos) (qAndV ta tb):=by
 intro pins s σ H Q I h
 refine BoolOp_and (thn (ha pins s σ H _ I h) fun v s1 ⟨x,H1,I1,r1,q1⟩=>?_)
 dsimp only at q1
 split at q1
 ·rename_i c
  cases r1
  refine wpAny_truthy_bool ?_
  rw[zx7] at q1
  cases c with
  | true=>exact hb pins s1 σ H1 Q I1 (by simpa using q1)
  | false=>exact⟨.bl false,H1,I1,rfl,by simpa using q1⟩
 ·exact q1.elim
theorem peNot(ha:PE X a ta):PE X (.UnaryOp .Not a pos) (qNotV ta):=by
 intro pins s σ H Q I h
 refine UnaryOp_ (thn (ha pins s σ H _ I h) fun v s1 ⟨x,H1,I1,r1,q1⟩=>?_)
 dsimp only at q1
 split at q1
 ·rename_i c
  cases r1
  exact not_of (wpAny_truthy_bool ⟨.bl (!c),H1,I1,rfl,q1⟩)
 ·exact q1.elim
def qIf(t:TT)(ta tb:TE):TE:=fun σ H Q=>t σ H fun c H1=>br c (ta σ H1 Q) (tb σ H1 Q)
theorem peIf{c:Expr}(hc:PT X c tA)(ha:PE X a ta)(hb:PE X b tb):PE X (.IfExp c a b pos) (qIf tA ta tb):=fun pins s σ H Q I h=>
 zbp6 hc ha hb pins s σ H Q I (by unfold qIf at h;simp only[zx7] at h;exact h)
variable {st:Stmt}{t u:TS}{e:Expr}{te:TE}
def qIfS(c:TT)(t u:TS):TS:=fun D σ H=>c σ H fun b H1=>br b (t D σ H1) (u D σ H1)
theorem psIf{c:Expr}{a b:List Stmt}{tc:TT}(hc:PT X c tc)(ha:PSs X a t)(hb:PSs X b u):PS X (.If c a b pos) (qIfS tc t u):=fun pins s σ H D I h=>
 ps_if hc ha hb pins s σ H D I (by unfold qIfS at h;simp only[zx7] at h;exact h)
@[irreducible] def zba0(J:It)(g:TG)(tb:TS)(D:Ends)(σ:St)(H1:Hp):Prop:=∃ W:Nat->Nat->St->Hp->Prop,(∃ m,W 0 m σ H1)/\∀ i m σ H,W i m σ H ->
 (J.stop i H/\D.nx σ H)∨(J.go i H/\∃ N:St->Hp->Prop,(∀ σ' H',N σ' H'->∃ m',m'<m/\W (i+1) m' σ' H')/\∀ x H',J.yld i H x H'->g x σ H' fun σ2 H2=>tb { D with nx:=N,ct:=N,bk:=D.nx } σ2 H2)
def qFor(wi:TI)(g:TG)(tb:TS):TS:=fun D σ H=>wi σ H fun J H1=>zba0 J g tb D σ H1
theorem zz7{iter:Expr}{body:List Stmt}{wi:TI}{g:TG}{tb:TS}{pos:Pos}(hp:PassesOwn (model X.prog X.w) X.A X.env X.xe)(hc:X.calm=true)(hi:PI X tg iter wi)(hg:PG X tg g)(hb:PSs X body tb)(hs:∀ x,foldedSetIterable iter X.env x=pure x:=by intro _;rfl):PS X (.For tg iter body [] pos) (qFor wi g tb):=fun pins s σ H D I h=>
 ps_for hp hc hi hg hb hs pins s σ H D I (by unfold qFor at h;unfold zba0 at h;exact h)
@[irreducible] def zay2(K:zcf5)(a:Addr)(H:Hp)(R:It->Hp->Prop):Prop:=((∃ xs,SqL K H a xs)/\R (Itl K a) H)∨((∃ xs,SqT K H a xs)/\R (Itt K a) H)
def qiSeq(K:zcf5)(tl:TE):TI:=fun σ H R=>tl σ H fun x H1=>match x with
 | .ref a=>zay2 K a H1 R
 | _=>False
theorem piSeq{l:Expr}{tl:TE}(hl:PE X l tl):PI X tg l (qiSeq X.K tl):=by
 intro pins s σ H R I h
 refine thn (hl pins s σ H _ I h) fun v s1 ⟨x,H1,I1,r1,q1⟩=>?_
 dsimp only at q1
 split at q1
 ·rename_i a
  unfold zay2 at q1
  cases r1
  have fp:∀ b∈[s1.heap.objs.size],FpOk X pins H1 b:=fun b hb=>by
   have e:b=s1.heap.objs.size:=by simpa using hb
   subst e
   exact I1.fpOk (zcg9 _) (I1.hok.fresh (zcg9 _))
  rcases q1 with ⟨⟨xs,hq⟩,q⟩|⟨⟨xs,hq⟩,q⟩
  ·obtain⟨its,rv,p,hz⟩:=I1.list hq
   refine wpAny_pyIter_list p.isList ?_
   exact⟨s1.heap.objs.size,[s1.heap.objs.size],_,_,H1,rfl,I1.kept (t':=s1.toks) fun b o e=>zcf7 _ e,zbk9 a _,⟨_,zch5 _ rfl,rfl,rfl⟩,fp,q⟩
  ·obtain⟨its,rv,p,hz⟩:=I1.tuple hq
   refine wpAny_pyIter_tuple (show s1.heap.IsTuple a its.toArray from p) ?_
   exact⟨s1.heap.objs.size,[s1.heap.objs.size],_,_,H1,rfl,I1.kept (t':=s1.toks) fun b o e=>zcf7 _ e,zax2 a _,⟨_,zch5 _ rfl,rfl,rfl⟩,fp,q⟩
 ·exact q1.elim
@[irreducible] def zae1(i j:Int)(H:Hp)(R:It->Hp->Prop):Prop:=(-(2 ^ 62)<=i/\i<2 ^ 62/\-(2 ^ 62)<=j/\j<2 ^ 62)/\R (Itr i (j - i).toNat) H
def qiRng(ta:TA):TI:=fun σ H R=>ta σ H fun vs H1=>match vs with
 | [.int j]=>zae1 0 j H1 R
 | [.int i,.int j]=>zae1 i j H1 R
 | _=>False
theorem zae4{a:Expr}{ta:TA}{p pos:Pos}(hm:X.mg "range"=none)(ha:PA X [a] ta)(hg:Gl X "range":=by rfl)(hs:starEach [a] X.env=[(false,eval a X.env)]:=by rfl):PI X tg (.Call (.Name "range" p) [a] [] pos) (qiRng ta):=by
 intro pins s σ H R I h
 refine Call_ (zx4 I hg hm boot_range (PyProof.Rows.callWith_type1 (thn (ha pos pins s σ H _ I h) fun us s1 ⟨vs,H1,I1,r1,q1⟩=>?_) hs rfl))
 dsimp only at q1
 split at q1
 ·unfold zae1 at q1
  obtain⟨⟨a1,a2,a3,a4⟩,q⟩:=q1
  cases r1 with
  | cons r rr=>
   cases rr
   obtain⟨t,rfl⟩:=r
   exact call_range_1 (zav2 I1 a1 a2 a3 a4 q)
 ·unfold zae1 at q1
  cases r1 with
  | cons r rr=>
   cases rr with
   | cons r' rr=>
    cases rr
    obtain⟨t,rfl⟩:=r
    obtain⟨t',rfl⟩:=r'
    obtain⟨⟨a1,a2,a3,a4⟩,q⟩:=q1
    exact call_range_2 (zav2 I1 a1 a2 a3 a4 q)
 ·exact q1.elim
section
variable {K:zcf5}{g:TG}{tb:TS}{D:Ends}{σ:St}{H:Hp}{R:It->Hp->Prop}
theorem zc6{a:Addr}(h:H a=some (.lst xs))(q:R (Itl K a) H):zay2 K a H R:=by unfold zay2;exact .inl ⟨⟨xs,SqL.of h⟩,q⟩
theorem zbp9{a:Addr}(h:H a=some (.tup xs))(q:R (Itt K a) H):zay2 K a H R:=by unfold zay2;exact .inr ⟨⟨xs,SqT.of h⟩,q⟩
theorem zr3{i j:Int}(h1:-(2 ^ 62)<=i)(h2:i<2 ^ 62)(h3:-(2 ^ 62)<=j)(h4:j<2 ^ 62)(q:R (Itr i (j - i).toNat) H):zae1 i j H R:=by unfold zae1;exact⟨⟨h1,h2,h3,h4⟩,q⟩
theorem zj4{a:Addr}(Pv:Nat->St->Hp->Prop)(h0:Pv 0 σ H)(hl:∀ i σ H,i<=xs.length->Pv i σ H->SqL K H a xs)(hs:∀ i x σ H,xs[i]?=some x->Pv i σ H->g x σ H fun σ2 H2=>tb { D with nx:=Pv (i+1),ct:=Pv (i+1),bk:=D.nx } σ2 H2)(hd:∀ σ H,Pv xs.length σ H->D.nx σ H):zba0 (Itl K a) g tb D σ H:=by
 unfold zba0;exact zbn8 Pv h0 hl hs hd
theorem zr1{lo:Int}{n:Nat}(Pv:Nat->St->Hp->Prop)(h0:Pv 0 σ H)(hs:∀ i σ H,i<n->Pv i σ H->g (.int (lo+i)) σ H fun σ2 H2=>tb { D with nx:=Pv (i+1),ct:=Pv (i+1),bk:=D.nx } σ2 H2)(hd:∀ σ H,Pv n σ H->D.nx σ H):zba0 (Itr lo n) g tb D σ H:=by
 unfold zba0;exact zbd6 Pv h0 hs hd
end
@[irreducible] def wIf(W:Nat->St->Hp->Prop)(m:Nat)(tb:TS)(D:Ends)(σ:St)(b:Bool)(H1:Hp):Prop:=
 if b=true then ∃ N:St->Hp->Prop,(∀ σ' H',N σ' H'->∃ m',m'<m/\W m' σ' H')/\tb { D with nx:=N,ct:=N,bk:=D.nx } σ H1 else D.nx σ H1
@[irreducible] def zar7(c:TT)(tb:TS):TS:=fun D σ H=>∃ W:Nat->St->Hp->Prop,(∃ m,W m σ H)/\∀ m σ H,W m σ H->c σ H fun b H1=>wIf W m tb D σ b H1
theorem zby7{c:Expr}{body:List Stmt}{tc:TT}{tb:TS}(hp:PassesOwn (model X.prog X.w) X.A X.env X.xe)(hc:PT X c tc)(hb:PSs X body tb):PS X (.While c body [] pos) (zar7 tc tb):=fun pins s σ H D I h=>
 zbq2 hp hc hb pins s σ H D I (by unfold zar7 at h;unfold wIf at h;exact h)
section
variable {c:TT}{tb:TS}{D:Ends}{σ:St}{H H1:Hp}{W:Nat->St->Hp->Prop}{m:Nat}{p:Prop}
theorem zbm6(Pv:St->Hp->Prop)(μ:St->Hp->Nat)(h0:Pv σ H)(hs:∀ σ H,Pv σ H->c σ H fun b H1=>wIf (fun m σ H=>m=μ σ H/\Pv σ H) (μ σ H) tb D σ b H1):zar7 c tb D σ H:=by
 unfold zar7
 refine⟨fun m σ H=>m=μ σ H/\Pv σ H,⟨_,rfl,h0⟩,?_⟩
 rintro m σ H ⟨rfl,p⟩
 exact hs σ H p
theorem zbu4{Pv:St->Hp->Prop}{μ:St->Hp->Nat}[Decidable p](h1:p->tb { D with nx:=fun σ' H'=>Pv σ' H'/\μ σ' H'<m,ct:=fun σ' H'=>Pv σ' H'/\μ σ' H'<m,bk:=D.nx } σ H1)(h2:¬ p->D.nx σ H1) :
  wIf (fun m σ H=>m=μ σ H/\Pv σ H) m tb D σ (decide p) H1:=by
 unfold wIf
 refine ite2 (fun h=>⟨_,fun σ' H' ⟨a,b⟩=>⟨_,b,rfl,a⟩,h1 (of_decide_eq_true h)⟩) fun h=>h2 fun hp=>h (decide_eq_true hp)
end
@[irreducible] def rNewT(xs:List V)(H:Hp)(Q:VK):Prop:=xs.length<=sizeLine/\∀ p H',H p=none->Same H H'->H' p=some (.tup xs)->Q (.ref p) H'
@[irreducible] def rNewL(xs:List V)(H:Hp)(Q:VK):Prop:=xs.length<=sizeLine/\∀ p H',H p=none->Same H H'->H' p=some (.lst xs)->Q (.ref p) H'
def qTup(t:TA):TE:=fun σ H Q=>t σ H fun xs H1=>rNewT xs H1 Q
def qLst(t:TA):TE:=fun σ H Q=>t σ H fun xs H1=>rNewL xs H1 Q
theorem zy2{x1}{t:TA}(h:PA X es t):PE X (.Tuple es x1 pos) (qTup t):=by
 intro pins s σ H Q I hq
 refine wpAny_Tuple_spliced (thn (h pos pins s σ H _ I hq) fun us s1 ⟨xs,H1,I1,r,z⟩=>?_)
 unfold rNewT at z
 obtain⟨z,q⟩:=z
 refine⟨by rw[← r.length];exact z,?_⟩
 have hf:H1 s1.heap.objs.size=none:=I1.hok.fresh (zcg9 _)
 refine⟨.ref s1.heap.objs.size,upd H1 s1.heap.objs.size (.tup xs),I1.laid (t':=s1.toks) (fun b u e=>zcf7 _ e) (zcg9 _) ?_,rfl,q _ _ hf (Same.upd hf) zb1⟩
 exact⟨z,us,r,⟨_,zch5 _ rfl,rfl,_,rfl⟩⟩
theorem zp2{t:TA}(h:PA X es t):PE X (.List es pos) (qLst t):=by
 intro pins s σ H Q I hq
 refine wpAny_List_spliced (thn (h pos pins s σ H _ I hq) fun us s1 ⟨xs,H1,I1,r,z⟩=>?_)
 unfold rNewL at z
 obtain⟨z,q⟩:=z
 refine⟨by rw[← r.length];exact z,?_⟩
 have hf:H1 s1.heap.objs.size=none:=I1.hok.fresh (zcg9 _)
 refine⟨.ref s1.heap.objs.size,upd H1 s1.heap.objs.size (.lst xs),I1.laid (t':=s1.toks) (fun b u e=>zcf7 _ e) (zcg9 _) ?_,rfl,q _ _ hf (Same.upd hf) zb1⟩
 exact⟨z,us,0,r,zch5 _ rfl⟩
@[irreducible] def rIxA(K:zcf5)(p:Addr)(i:Int)(H:Hp)(Q:VK):Prop:=∃ xs v,(SqL K H p xs∨SqT K H p xs)/\atI xs i=some v/\Q v H
def rIxM(K:zcf5):R2:=fun x y H Q=>match x,y with
 | .ref p,.int i=>rIxA K p i H Q
 | .str z,.int i=>∃ c,z.length<=sizeLine/\atI z.cps.toList i=some c/\Q (.str ⟨#[c]⟩) H
 | _,_=>False
theorem ixM:IxR X (rIxM X.K):=by
 intro value slice pins s σ H x y v u Q I rx ry h hs
 unfold rIxM at h
 split at h
 ·unfold rIxA at h
  obtain⟨xs,z,h1,h2,q⟩:=h
  rcases h1 with h1|h1
  ·exact zbz7 value slice pins s σ H _ _ v u Q I rx ry ⟨_,xs,_,z,rfl,rfl,h1,h2,q⟩ hs
  ·exact ix_tup value slice pins s σ H _ _ v u Q I rx ry ⟨_,xs,_,z,rfl,rfl,h1,h2,q⟩ hs
 ·obtain⟨c,h1,h2,q⟩:=h
  exact ix_str value slice pins s σ H _ _ v u Q I rx ry ⟨_,_,c,rfl,rfl,h1,h2,q⟩ hs
 ·exact h.elim
theorem peIx(ha:PE X a ta)(hb:PE X b tb)(hs:zai1 b:=by exact fun _ _=>rfl):PE X (.Subscript a b pos) (tOp (rIxM X.K) ta tb):=pe_ix ixM ha hb hs
@[irreducible] def rSetA(p:Addr)(k:Int)(v:V)(H:Hp)(Q:Hp->Prop):Prop:=∃ xs j,H p=some (.lst xs)/\ixN xs.length k=some j/\∀ H',Chg p H H'->H' p=some (.lst (xs.set j v))->Q H'
def rSetM:TSet:=fun o i v H Q=>match o,i with
 | .ref p,.int k=>rSetA p k v H Q
 | _,_=>False
theorem setM:PSet X rSetM:=by
 intro pins s σ H o i v ov iv u Q I ro ri rv h
 unfold rSetM at h
 split at h
 ·unfold rSetA at h
  obtain⟨xs,j,h1,h2,q⟩:=h
  exact zbm5 pins s σ H _ _ v ov iv u Q I ro ri rv ⟨_,xs,_,j,rfl,rfl,h1,h2,q _ Chg.upd zb1⟩
 ·exact h.elim
def qPart(t:TE):TO:=fun σ H Q=>t σ H fun x H1=>match x with
 | .int i=>Q (some i) H1
 | _=>False
theorem zi1(h:PE X e te):PO X (some e) (qPart te):=by
 intro pins s σ H Q I hw
 rw[evalPart_some]
 refine thn (h pins s σ H _ I hw) fun u s1 ⟨x,H1,I1,r1,q1⟩=>?_
 dsimp only at q1
 split at q1
 ·rename_i i
  obtain⟨t,rfl⟩:=r1
  exact⟨some i,H1,I1,.int i t,q1⟩
 ·exact q1.elim
section
variable {K:zcf5}{H:Hp}{Q:VK}{p:Addr}{xs:List V}{v:V}{i:Int}
theorem zd0(q:∀ p H',H p=none->Same H H'->H' p=some (.tup xs)->Q (.ref p) H')(h:xs.length<=sizeLine:=by first|assumption|(simp only[zch0,zch9,Nat.zero_add,Nat.reduceAdd];decide)):rNewT xs H Q:=by unfold rNewT;exact⟨h,q⟩
theorem zb2(q:∀ p H',H p=none->Same H H'->H' p=some (.lst xs)->Q (.ref p) H')(h:xs.length<=sizeLine:=by first|assumption|(simp only[zch0,zch9,Nat.zero_add,Nat.reduceAdd];decide)):rNewL xs H Q:=by unfold rNewL;exact⟨h,q⟩
theorem zj8(h:H p=some (.tup xs))(e:atI xs i=some v)(q:Q v H):rIxA K p i H Q:=by unfold rIxA;exact⟨xs,v,.inr (SqT.of h),e,q⟩
theorem zc2(h:H p=some (.lst xs))(e:atI xs i=some v)(q:Q v H):rIxA K p i H Q:=by unfold rIxA;exact⟨xs,v,.inl (SqL.of h),e,q⟩
theorem zbr8{R:Hp->Prop}{j:Nat}(h:H p=some (.lst xs))(e:ixN xs.length i=some j)(q:∀ H',Chg p H H'->H' p=some (.lst (xs.set j v))->R H'):rSetA p i v H R:=by unfold rSetA;exact⟨xs,j,h,e,q⟩
end
def qgNil:TGs:=fun vs σ H Q=>match vs with
 | []=>Q σ H
 | _=>False
def zbs5(t:TG)(u:TGs):TGs:=fun vs σ H Q=>match vs with
 | v :: r=>t v σ H fun σ' H'=>u r σ' H' Q
 | _=>False
theorem zm2:PGs X [] qgNil:=fun pins s σ H vs us Q I r h=>by
 unfold qgNil at h
 split at h
 ·exact zbx4 pins s σ H _ us Q I r ⟨rfl,h⟩
 ·exact h.elim
theorem zb9{e:Expr}{t:TG}{u:TGs}(h1:PG X e t)(h2:PGs X es u)(hs:(assignEach (e :: es) X.env).map (·.2)=assign e X.env :: (assignEach es X.env).map (·.2):=by rfl):PGs X (e :: es) (zbs5 t u):=fun pins s σ H vs us Q I r h=>by
 unfold zbs5 at h
 split at h
 ·exact zbn1 h1 h2 hs pins s σ H _ us Q I r ⟨_,_,rfl,h⟩
 ·exact h.elim
end
section
variable {X:Cx}
def rAbsM:List V->Hp->VK->Prop:=fun xs H Q=>match xs with
 | [.int i]=>Q (.int (i.natAbs:Int)) H
 | _=>False
def rIntM:List V->Hp->VK->Prop:=fun xs H Q=>match xs with
 | [.int i]=>Q (.int i) H
 | [.bl k]=>Q (.int (if k=true then 1 else 0)) H
 | _=>False
theorem cInt:zi8 X (.type "int") rIntM:=fun pins s σ H xs us Q I r h=>by
 unfold rIntM at h
 split at h
 ·exact zan2 pins s σ H _ us Q I r (.inl ⟨_,rfl,h⟩)
 ·exact zan2 pins s σ H _ us Q I r (.inr ⟨_,rfl,h⟩)
 ·exact h.elim
@[irreducible] def zay1(K:zcf5)(p:Addr)(H:Hp)(Q:VK):Prop:=∃ ys,(SqL K H p ys∨SqT K H p ys)/\Q (.int ys.length) H
def rLenM(K:zcf5):List V->Hp->VK->Prop:=fun xs H Q=>match xs with
 | [.ref p]=>zay1 K p H Q
 | [.str z]=>z.length<=sizeLine/\Q (.int z.length) H
 | _=>False
theorem cLen:zi8 X (.builtin "len") (rLenM X.K):=fun pins s σ H xs us Q I r h=>by
 unfold rLenM at h
 split at h
 ·unfold zay1 at h
  obtain⟨ys,h1,h2⟩:=h
  exact zaj8 pins s σ H _ us Q I r ⟨_,ys,rfl,h1,h2⟩
 ·exact zan0 pins s σ H _ us Q I r ⟨_,rfl,h.1,h.2⟩
 ·exact h.elim
@[irreducible] def zr4(K:zcf5)(x c:V)(H:Hp)(Q:VK):Prop:=∃ t b,TyOf K H x t/\(∀ cv,RelV c cv->zch8 K t cv=some b)/\Q (.bl b) H
def rIsiM(K:zcf5):List V->Hp->VK->Prop:=fun xs H Q=>match xs with
 | [x,c]=>zr4 K x c H Q
 | _=>False
theorem cIsi:zi8 X (.builtin "isinstance") (rIsiM X.K):=fun pins s σ H xs us Q I r h=>by
 unfold rIsiM at h
 split at h
 ·unfold zr4 at h
  obtain⟨t,b,h1,h2,h3⟩:=h
  obtain⟨u,w,rfl,r1,r2⟩:=zao9 r
  exact zba3 I r1 h1 (h2 _ r2) fun tk=>⟨.bl b,H,I.tok _,rfl,h3⟩
 ·exact h.elim
section
variable {K:zcf5}{H:Hp}{Q:VK}{p:Addr}{xs:List V}
theorem zf8(h:H p=some (.lst xs))(q:Q (.int xs.length) H):zay1 K p H Q:=by unfold zay1;exact⟨xs,.inl (SqL.of h),q⟩
theorem zao2(h:H p=some (.tup xs))(q:Q (.int xs.length) H):zay1 K p H Q:=by unfold zay1;exact⟨xs,.inr (SqT.of h),q⟩
theorem zai5{i:Int}{n:String}{b:Bool}(q:Q (.bl b) H)(e:zch8 K (.type "int") (.type n)=some b:=by rfl):zr4 K (.int i) (.ty n) H Q:=by
 unfold zr4;exact⟨_,b,.int i,fun cv r=>by cases r;exact e,q⟩
theorem zah7{i:Bool}{n:String}{b:Bool}(q:Q (.bl b) H)(e:zch8 K (.type "bool") (.type n)=some b:=by rfl):zr4 K (.bl i) (.ty n) H Q:=by
 unfold zr4;exact⟨_,b,.bl i,fun cv r=>by cases r;exact e,q⟩
theorem zbz6{n:String}{b:Bool}(q:Q (.bl b) H)(e:zch8 K (.type "NoneType") (.type n)=some b:=by rfl):zr4 K .non (.ty n) H Q:=by
 unfold zr4;exact⟨_,b,.non,fun cv r=>by cases r;exact e,q⟩
theorem zbv6{x:Str}{n:String}{b:Bool}(q:Q (.bl b) H)(e:zch8 K (.type "str") (.type n)=some b:=by rfl):zr4 K (.str x) (.ty n) H Q:=by
 unfold zr4;exact⟨_,b,.str x,fun cv r=>by cases r;exact e,q⟩
theorem zbb3{n:String}{b:Bool}(h:H p=some (.tup xs))(q:Q (.bl b) H)(e:zch8 K (.type "tuple") (.type n)=some b:=by rfl):zr4 K (.ref p) (.ty n) H Q:=by
 unfold zr4;exact⟨_,b,.tup h,fun cv r=>by cases r;exact e,q⟩
theorem zbg1{n:String}{b:Bool}(h:H p=some (.lst xs))(q:Q (.bl b) H)(e:zch8 K (.type "list") (.type n)=some b:=by rfl):zr4 K (.ref p) (.ty n) H Q:=by
 unfold zr4;exact⟨_,b,.lst h,fun cv r=>by cases r;exact e,q⟩
end
theorem bt_min:bootBuiltins "min"=some (.builtin "min"):=by decide +kernel
theorem zi3:bootBuiltins "len"=some (.builtin "len"):=by decide +kernel
theorem zbj0:bootBuiltins "sum"=some (.builtin "sum"):=by decide +kernel
theorem zaf4:bootBuiltins "all"=some (.builtin "all"):=by decide +kernel
theorem zb3:bootBuiltins "isinstance"=some (.builtin "isinstance"):=by decide +kernel
theorem zp8:bootBuiltins "sorted"=some (.builtin "sorted"):=by decide +kernel
theorem zx9:bootBuiltins "int"=some (.type "int"):=by decide +kernel
theorem zbh7:bootBuiltins "bool"=some (.type "bool"):=by decide +kernel
theorem zo0:bootBuiltins "list"=some (.type "list"):=by decide +kernel
theorem zy9:bootBuiltins "tuple"=some (.type "tuple"):=by decide +kernel
theorem pTy{x:Str}{n:String}{pos:Pos}(hm:X.mg x=none)(hv:bootBuiltins x=some (.type n))(hg:Gl X x:=by rfl)(hn:x≠"__name__":=by decide)(hd:(x==("__debug__":Str))=false:=by decide):PE X (.Name x pos) (tC (.ty n)):=
 zbw0 hg hm hv rfl hn hd
theorem pB{x:Str}{p pos:Pos}{e:Expr}{t:TA}{id:String}{r:List V->Hp->VK->Prop}(hc:zi8 X (.builtin id) r)(hm:X.mg x=none)(hv:bootBuiltins x=some (.builtin id))(ha:PA X (e :: es) t)(hg:Gl X x:=by rfl)(hn:x≠"__name__":=by decide)(hdb:(x==("__debug__":Str))=false:=by decide)(he:starEach (e :: es) X.env=(false,eval e X.env) :: starEach es X.env:=by rfl)(hpl:(backTo pos (starEach es X.env)).any (·.1)=false:=by rfl):PE X (.Call (.Name x p) (e :: es) [] pos) (tCB r t):=zbm7 hc hg hm hv ha hn hdb he hpl
theorem pT{x:Str}{p pos:Pos}{e:Expr}{t:TA}{id:String}{r:List V->Hp->VK->Prop}(hc:zi8 X (.type id) r)(hm:X.mg x=none)(hv:bootBuiltins x=some (.type id))(ha:PA X (e :: es) t)(hg:Gl X x:=by rfl)(hn:x≠"__name__":=by decide)(hdb:(x==("__debug__":Str))=false:=by decide)(he:starEach (e :: es) X.env=(false,eval e X.env) :: starEach es X.env:=by rfl)(hpl:(backTo pos (starEach es X.env)).any (·.1)=false:=by rfl):PE X (.Call (.Name x p) (e :: es) [] pos) (tCB r t):=zbe4 hc hg hm hv ha hn hdb he hpl
structure Def(P:Program)(w:World)(K:zcf5)(mg:Str->Option Value)(base:Heap)(CX:CXT)(k:Nat)(x:Str)(ps:List Str)(sp:Sp):Prop where
 ex:∃ (f:Addr) (fd:FuncData),FnOk P w K mg base CX k f fd ps sp/\mg x=some (.ref f)/\zco5 K (.ref f)=true/\zao8 K fd ps []
def qCall(sp:Sp)(E:XK)(t:TA):TE:=fun σ H Q=>t σ H fun vs H1=>sp vs H1 Q E
theorem pD{CX:CXT}{k j:Nat}{x:Str}{E:XK}{p pos:Pos}{e:Expr}{t:TA}(F:Def X.prog X.w X.K X.mg X.base CX k x ps sp)(hr:Room j X.A)(hx:zam3 CX X E)(ha:PA X (e :: es) t)(hk:k<=j:=by decide)(hg:Gl X x:=by rfl)(hdb:(x==("__debug__":Str))=false:=by decide)(he:starEach (e :: es) X.env=(false,eval e X.env) :: starEach es X.env:=by rfl)(hpl:(backTo pos (starEach es X.env)).any (·.1)=false:=by rfl) :
  PE X (.Call (.Name x p) (e :: es) [] pos) (qCall sp E t):=by
 obtain⟨f,fd,F1,F2,F3,F4⟩:=F.ex
 intro pins s σ H Q I h
 refine zbw9 F1 (hr.mono hk) hg F2 F3 F4 .nil hx ha hdb he hpl pins s σ H Q I ?_
 unfold tCall
 simp only[zcn4]
 exact h
theorem psS{x:Str}{e:Expr}{pos' pos:Pos}(hN:X.N.Nodup)(he:PE X e te)(hi:X.N[i]?=some x:=by rfl)(hx:Loc X.env.scope x:=by first|exact Or.inl rfl|exact Or.inr rfl)(hs:swapsWith e (some (.Name x pos')) pos.line X.env=pure false:=by rfl)(hf:X.fn x=true∨X.env.scope.names.lookup x=some .local:=by first|exact .inl rfl|exact .inr rfl|assumption) :
  PS X (.Assign [.Name x pos'] e pos) (tAsg te (zay0 i)):=zbd3 hN hi hx he hs hf
section
variable {K:zcf5}{H:Hp}{Q:VK}{p:Addr}{xs:List V}{i j:Int}
theorem zap4(h1:-18446744073709551616<i)(h2:i<18446744073709551616)(q:Q (.int (i*j)) H):zaw7 i j H Q:=zbs7 (.of_left (intBits_le_64 (by simpa using h1) (by simpa using h2))) q
theorem zbz8(h1:-18446744073709551616<j)(h2:j<18446744073709551616)(q:Q (.int (i*j)) H):zaw7 i j H Q:=zbs7 (.of_right (intBits_le_64 (by simpa using h1) (by simpa using h2))) q
theorem zaa1(h:0<j)(q:∀ r:Int,0<=r->r<j->Q (.int r) H):zbl4 i j H Q:=mod_rd h (q _ (Int.emod_nonneg _ (by omega)) (Int.emod_lt_of_pos _ h))
theorem zm5(h:H p=some (.lst xs))(h0:0<=i)(h1:i<xs.length)(q:∀ v,v∈xs->Q v H):rIxA K p i H Q:=by
 have hl:i.toNat<xs.length:=by omega
 refine zc2 h (v:=xs[i.toNat]) ?_ (q _ (zcn9 hl))
 have e:((i.toNat:Nat):Int)=i:=by omega
 have z:=zg8 (zcf3 hl)
 rw[e] at z
 exact z
theorem hu40{A:Around}{k:Nat}(hr:Room k A):A.units+40<cLine:=by have:=hr.units;omega
end
theorem EqR.ints2{K:zcf5}{a b:Addr}{t u x y:Int}(ha:H a=some (.tup [.int t,.int u]))(hb:H b=some (.tup [.int x,.int y])):EqR K H 1 (.ref a) (.ref b) (decide (t=x/\u=y)):=by
 have h:=EqR.tup (K:=K) (H:=H) (n:=0) (fun j=>match j with|0=>decide (t=x)|1=>decide (u=y)|_=>true) (SqT.of ha) (SqT.of hb) (fun j p q hp hq=>by
  have fl:∀ (i k:Int),EqR K H 0 (.int i) (.int k) (decide (i=k)):=fun i k=>by
   have:=EqR.flat (K:=K) (H:=H) (n:=0) (x:=.int i) (y:=.int k) rfl rfl
   have e:eqV (.int i) (.int k)=decide (i=k):=by
    by_cases z:i=k
    ·subst z;simp[eqV]
    ·simp[eqV,z]
   rw[e] at this;exact this
  match j with
  | 0=>simp at hp hq;subst hp hq;exact fl t x
  | 1=>simp at hp hq;subst hp hq;exact fl u y
  | j+2=>simp at hp)
 have e:((List.range (min [V.int t,V.int u].length [V.int x,V.int y].length)).all (fun j=>match j with|0=>decide (t=x)|1=>decide (u=y)|_=>true)&&([V.int t,V.int u].length==[V.int x,V.int y].length))=decide (t=x/\u=y):=by
  show ((decide (t=x)&&(decide (u=y)&&true))&&true)=_
  rw[zcp4,zcp4,Bool.decide_and]
 rw[e] at h
 exact h
end
set_option maxHeartbeats 2000000
theorem zw8{env:Env}:∀ (names:List (Str×NameKind)) (acc:List (Str×Addr)),(∀ x∈names,x.2=.free->∃ c,env.cells.lookup x.1=some c) ->
  ∃ acc',(forIn (m:=Sem) names acc (fun (x:Str×NameKind) (r:List (Str×Addr))=>if (x.2==.free)=true then (do let c ← cellOf env x.1;pure (ForInStep.yield ((x.1,c) :: r))) else pure (ForInStep.yield r)))=pure acc' /\
   (∀ x c,acc'.lookup x=some c->acc.lookup x=some c∨env.cells.lookup x=some c)/\(∀ x c,acc.lookup x=some c->∃ c',acc'.lookup x=some c')/\∀ x∈names,x.2=.free->∃ c,acc'.lookup x.1=some c
 | [],acc,_=>⟨acc,rfl,fun _ _ h=>.inl h,fun _ c h=>⟨c,h⟩,fun _ h=>by cases h⟩
 | (n,k) :: r,acc,h=>by
  by_cases hk:k=.free
  ·subst hk
   obtain⟨c,hc⟩:=h (n,.free) zck4 rfl
   obtain⟨acc',e,h1,h2,h3⟩:=zw8 r ((n,c) :: acc) fun x hx=>h x (zcj9 _ hx)
   have hco:cellOf env n=pure c:=by unfold cellOf;rw[hc]
   refine⟨acc',?_,fun x d hd=>?_,fun x d hd=>?_,fun x hx hf=>?_⟩
   ·rw[List.forIn_cons]
    simp only[hco]
    exact e
   ·rcases h1 x d hd with q|q
    ·rw[zci8] at q
     split at q
     ·rename_i hx
      have hx:x=n:=by simpa using hx
      subst hx
      cases q
      exact .inr hc
     ·exact .inl q
    ·exact .inr q
   ·by_cases hx:x=n
    ·subst hx
     exact h2 x c (by simp[zci8])
    ·refine h2 x d ?_
     rw[zci8]
     have:(x==n)=false:=by simpa using hx
     rw[this];exact hd
   ·rcases zcg6.mp hx with rfl|hx
    ·exact h2 n c (by simp[zci8])
    ·exact h3 x hx hf
  ·obtain⟨acc',e,h1,h2,h3⟩:=zw8 r acc fun x hx=>h x (zcj9 _ hx)
   refine⟨acc',?_,h1,h2,fun x hx hf=>?_⟩
   ·rw[List.forIn_cons]
    have:(k==NameKind.free)=false:=by simpa using hk
    simp only[this]
    exact e
   ·rcases zcg6.mp hx with rfl|hx
    ·exact absurd hf hk
    ·exact h3 x hx hf
theorem zw4{env:Env}(h:∀ x∈scope.names,x.2=.free->∃ c,env.cells.lookup x.1=some c) :
  ∃ cl,closureFor scope env=pure cl/\(∀ x c,cl.lookup x=some c->env.cells.lookup x=some c)/\∀ x∈scope.names,x.2=.free->∃ c,cl.lookup x.1=some c:=by
 obtain⟨cl,e,h1,_,h3⟩:=zw8 (env:=env) scope.names [] h
 refine⟨cl,?_,fun x c hc=>(h1 x c hc).elim (fun q=>by cases q) id,h3⟩
 unfold closureFor
 show (forIn (m:=Sem) scope.names ([]:List (Str×Addr)) _ >>= fun r=>pure r)=_
 rw[e]
 rfl
theorem zp9{env:Env}:∀ {names:List (Str×NameKind)}{x:Str},names.lookup x=some .free ->
  (names.map fun (n,k)=>if (k==NameKind.free&&env.scope.kind==.function&&env.kindOf n==some .cell) then (n,NameKind.cell) else (n,k)).lookup x=some .cell ∨
  (names.map fun (n,k)=>if (k==NameKind.free&&env.scope.kind==.function&&env.kindOf n==some .cell) then (n,NameKind.cell) else (n,k)).lookup x=some .free
 | [],_,h=>by simp at h
 | (n,k) :: r,x,h=>by
  have ih:=@zp9 env r x
  show List.lookup x ((if (k==NameKind.free&&env.scope.kind==.function&&env.kindOf n==some .cell)=true then (n,NameKind.cell) else (n,k)) :: _)=_∨List.lookup x ((if (k==NameKind.free&&env.scope.kind==.function&&env.kindOf n==some .cell)=true then (n,NameKind.cell) else (n,k)) :: _)=_
  cases hx:x==n with
  | true=>
   simp only[zci8,hx] at h
   cases h
   by_cases hc:(NameKind.free==NameKind.free&&env.scope.kind==.function&&env.kindOf n==some .cell)=true
   ·left;rw[if_pos hc];simp only[zci8,hx]
   ·right;rw[if_neg hc];simp only[zci8,hx]
  | false=>
   simp only[zci8,hx] at h
   by_cases hc:(k==NameKind.free&&env.scope.kind==.function&&env.kindOf n==some .cell)=true
   ·rw[if_pos hc];simp only[zci8,hx];exact ih h
   ·rw[if_neg hc];simp only[zci8,hx];exact ih h
theorem zq8{env:Env}:∀ {names:List (Str×NameKind)}{x:Str}{k':NameKind},(∀ y∈names,y.2≠.cell)->(k'=.cell∨k'=.free) ->
  (names.map fun (n,k)=>if (k==NameKind.free&&env.scope.kind==.function&&env.kindOf n==some .cell) then (n,NameKind.cell) else (n,k)).lookup x=some k'->∃ y∈names,y.1=x/\y.2=.free
 | [],_,_,_,_,h=>by simp at h
 | (n,k) :: r,x,k',hn,hk,h=>by
  have ih:=@zq8 env r x k' (fun y hy=>hn y (zcj9 _ hy)) hk
  replace h:List.lookup x ((if (k==NameKind.free&&env.scope.kind==.function&&env.kindOf n==some .cell)=true then (n,NameKind.cell) else (n,k)) :: List.map (fun (n,k)=>if (k==NameKind.free&&env.scope.kind==.function&&env.kindOf n==some .cell) then (n,NameKind.cell) else (n,k)) r)=some k':=h
  cases hx:x==n with
  | true=>
   have hx':x=n:=by simpa using hx
   by_cases hf:k=.free
   ·exact⟨(n,k),zck4,hx'.symm,hf⟩
   ·have hc:¬ (k==NameKind.free&&env.scope.kind==.function&&env.kindOf n==some .cell)=true:=by
     have:(k==NameKind.free)=false:=by simpa using hf
     rw[this];simp
    rw[if_neg hc] at h
    simp only[zci8,hx] at h
    have:k=k':=Option.some.inj h
    subst this
    rcases hk with hk|hk
    ·exact absurd hk (hn (n,k) zck4)
    ·exact absurd hk hf
  | false=>
   have h':List.lookup x (List.map (fun (n,k)=>if (k==NameKind.free&&env.scope.kind==.function&&env.kindOf n==some .cell) then (n,NameKind.cell) else (n,k)) r)=some k':=by
    by_cases hc:(k==NameKind.free&&env.scope.kind==.function&&env.kindOf n==some .cell)=true
    ·rw[if_pos hc] at h;simp only[zci8,hx] at h;exact h
    ·rw[if_neg hc] at h;simp only[zci8,hx] at h;exact h
   obtain⟨y,hy,h1,h2⟩:=ih h'
   exact⟨y,zcj9 _ hy,h1,h2⟩
def blk(X:Cx)(N:List Str)(scope:Scope)(cl:List (Str×Addr))(C:Addr)(s3:Shared)(H3:Hp)(fp:List Addr):Cx:=
 { X with N:=N,s₀:=s3,H₀:=H3,env:=compEnvC scope cl C X.env,outer:=X.stack,ex:=fp,fn:=fun _=>false,pn:=[],xe:=fun _ _=>False }
def PTs(X:Cx)(ifs:List Expr)(t:TT):Prop:=
 ∀ (pins:List (Addr×Obj)) (s:Shared) (σ:St) (H:Hp) (Q:Bool->Hp->Prop),Inv X pins σ H s->t σ H Q ->
  wpAny (model X.prog X.w) X.A (forIn ifs true fun c r=>if r=true then do let ok ← isTrue c X.env (eval c X.env);pure (ForInStep.yield ok) else pure (ForInStep.yield r)) (TP X pins σ Q) X.xe s
theorem zf6{X:Cx}:PTs X [] (fun _ H Q=>Q true H):=fun _ _ _ H _ I h=>wpAny_tests_nil ⟨H,I,h⟩
theorem zbz4{X:Cx}{c:Expr}{t:TT}(h:PT X c t):PTs X [c] t:=fun pins s σ H Q I hq=>wpAny_tests_one (h pins s σ H Q I hq)
@[irreducible] def cPut(W:Nat->Nat->List V->St->Hp->Prop)(acc:Addr)(ys:List V)(i m:Nat)(σ2:St)(v:V)(H5:Hp):Prop:=
 H5 acc=some (.lst ys)/\∀ H6,Chg acc H5 H6->H6 acc=some (.lst (ys++[v]))->∃ m',m'<m/\W (i+1) m' (ys++[v]) σ2 H6
@[irreducible] def zai2(W:Nat->Nat->List V->St->Hp->Prop)(ys:List V)(i m:Nat)(σ2:St)(H4:Hp):Prop:=∃ m',m'<m/\W (i+1) m' ys σ2 H4
@[irreducible] def zv2(J:It)(g:TG)(tt:TT)(te:TE)(σ0:St)(H1:Hp)(Q:VK):Prop:=
 ∀ acc H2,H1 acc=none->Same H1 H2->H2 acc=some (.lst [])->∃ W:Nat->Nat->List V->St->Hp->Prop,(∃ m,W 0 m [] σ0 H2)/\∀ i m ys σ H,W i m ys σ H->H acc=some (.lst ys)/\ys.length<sizeLine /\
  ((J.stop i H/\Q (.ref acc) H)∨(J.go i H/\∀ x H',J.yld i H x H'->g x σ H' fun σ2 H3=>tt σ2 H3 fun b H4=>
   br b (te σ2 H4 fun v H5=>cPut W acc ys i m σ2 v H5) (zai2 W ys i m σ2 H4)))
section
variable {X:Cx}{pins:List (Addr×Obj)}{σ:St}{H:Hp}{s2:Shared}
theorem zbz5{N:List Str}{cl:List (Str×Addr)}{s3 s4:Shared}{H3:Hp}{fp:List Addr}{σc:St}(I:Inv X pins σ H3 s3)(hcl1:∀ x c,cl.lookup x=some c->X.env.cells.lookup x=some c)(hcl2:∀ x∈scope.names,x.2=.free->∃ c,cl.lookup x.1=some c)(hkind:scope.kind=.function)(hcell:∀ y∈scope.names,y.2≠.cell)(hcap:∀ (i:Nat) (x:Str) (v:V),N[i]?=some x->σc[i]?=some (some v)->∃ j:Nat,X.N[j]?=some x/\σ[j]?=some (some v)/\scope.names.lookup x=some .free/\(X.env.kindOf x=some .cell∨X.env.kindOf x=some .free))(hlen:σc.length=N.length)(hC:s3.heap.objs.size=C)(hfp:∀ b∈fp,FpOk X pins H3 b)(hfpl:∀ b∈fp,b<C)(hex:∀ b o,X.base.get? b=some o->b ∉ fp)(hns:∃ m,s4.heap.Ns C m)(hk:∀ b o,s3.heap.get? b=some o->s4.heap.get? b=some o)(h4:s4.os=s3.os)(h5:s4.gens=s3.gens) :
  Inv (blk X N scope cl C s3 H3 fp) [] σc H3 s4:=by
 subst hC
 have look:∀ x,(blk X N scope cl s3.heap.objs.size s3 H3 fp).env.kindOf x=(relabel scope X.env).names.lookup x:=fun x=>rfl
 have cne:∀ x c,cl.lookup x=some c->c<s3.heap.objs.size:=fun x c h=>by
  obtain⟨v,o,ho,_⟩:=I.cell x c (hcl1 x c h)
  exact zch1 ho
 refine⟨⟨I.ok.mod,?_,I.ok.glob,I.ok.blt,zcg9 _,fun x y c h1 h2=>I.ok.inj x y c (hcl1 _ _ h1) (hcl1 _ _ h2),fun x hx=>?_,fun x c h=>?_,I.ok.hd,I.ok.frames,.inl rfl,fun b hb=>⟨zci2 (hfpl b hb),fun x c h=>?_⟩,fun b o e=>I.bs b o e,zcj5 I.ok.bsz I.sz,fun b o e=>hex b o e,fun b hb=>?_,I.stack,I.stkFree⟩,
  h4,by rw[h5];exact I.bare,Un.kept hk,?_,fun x c h=>?_,I.hok.fresh (zcg9 _),fun x c h=>I.freeC x c (hcl1 _ _ h),fun p hp=>(by cases hp),I.hok.kept hk,hlen⟩
 ·exact hkind
 ·have hx':(relabel scope X.env).names.lookup x=some .cell∨(relabel scope X.env).names.lookup x=some .free:=hx
  have hz:∃ y∈scope.names,y.1=x/\y.2=.free:=by
   rcases hx' with q|q
   ·exact zq8 hcell (.inl rfl) q
   ·exact zq8 hcell (.inr rfl) q
  obtain⟨y,hy,rfl,hf⟩:=hz
  exact hcl2 y hy hf
 ·exact absurd (show false=true from h) zcg3
 ·exact (hfp b hb).2.2.2.2.1 x c (hcl1 x c h)
 ·have:=(hfp b hb).1
  intro hz
  obtain⟨f0,f1,f2,_⟩:=hfp b hb
  have hz:b∈frs X.stack:=hz
  rcases zcg6.mp (I.stkSub b hz) with q|q
  ·exact f1 q
  ·exact f2 q
 ·obtain⟨m,hm⟩:=hns
  refine⟨m,hm,fun i x v h1 h2 h3=>?_⟩
  obtain⟨j,e1,e2,e3,e4⟩:=hcap i x v h1 h2
  obtain⟨mX,_,hl⟩:=I.loc
  obtain⟨u,r,q⟩:=hl j x v e1 e2 (by rcases e4 with e4|e4;exact .inr (.inl e4);exact .inr (.inr e4))
  refine⟨u,r,.inr ⟨zp9 e3,?_⟩⟩
  obtain⟨c,hc⟩:=hcl2 (x,.free) (PySem.mem_of_lookup e3) rfl
  refine⟨c,hc,?_⟩
  have hc':=hcl1 x c hc
  rcases q with ⟨k,_⟩|⟨_,c2,e5,o,ho,hd⟩
  ·rcases e4 with e4|e4<;>rw[e4] at k<;>cases k
  ·rw[hc'] at e5
   cases e5
   exact⟨o,hk _ _ ho,hd⟩
 ·obtain⟨v,o,ho,hd⟩:=I.cell x c (hcl1 x c h)
  exact⟨v,o,hk _ _ ho,hd⟩
theorem zal6{prog:Program}{w:World}{A:Around}{R:Result->Shared->Prop}{s:Shared}{elt target iter:Expr}{ifs:List Expr}{pos:Pos}{it acc:Value}{env:Env}(I:Nat->Shared->Prop)(turn:∀ n s,I n s->wpAny (model prog w) A (pyNext it) (fun r s₁=>match r with
   | none=>R (.ok .next) s₁
   | some v=>wpAny (model prog w) A (letOwnedTupleGo target it v) (fun _ s₁'=>wpAny (model prog w) A (assign target env v) (fun _ s₂=>
     wpAny (model prog w) A (forIn ifs true fun c r=>if r=true then do let ok ← isTrue c env (eval c env);pure (ForInStep.yield ok) else pure (ForInStep.yield r)) (fun ok s₃=>
      if ok=true then wpAny (model prog w) A (eval elt env) (fun x s₄=>
       wpAny (model prog w) A (call (.builtin "list.append") [acc,x]) (fun _ s₅=>∃ m,m<n/\I m s₅) (fun _ _=>False) s₄) (fun _ _=>False) s₃
      else ∃ m,m<n/\I m s₃) (fun _ _=>False) s₂) (fun _ _=>False) s₁') (fun _ _=>False) s₁) (fun _ _=>False) s)(n:Nat)(h:I n s):codeAny (model prog w) A (.compLoop (.ListComp elt [⟨target,iter,ifs,0⟩] scope pos) 0 it acc env) R s:=by
 refine codeAny_loop rfl I (fun n s hI=>?_) n h
 show wpAny _ A ((compTurn (.ListComp elt [⟨target,iter,ifs,0⟩] scope pos) 0 it acc env).onRaise (fun x=>do noteFrame x env;theTreesLotGoes x)) _ _ s
 refine wpAny_noted ?_
 rw[compTurn_list]
 refine zcp6 (wpAny_standAt (zcp6 (wpAny_mono (turn n s hI) (fun r s₁ h₁=>?_) fun _ _ h'=>h'.elim)))
 cases r with
 | none=>exact zcp7 h₁
 | some v=>
  refine zcp6 (wpAny_mono h₁ (fun _ s₁' h₁'=>?_) fun _ _ h'=>h'.elim)
  refine zcp6 (wpAny_mono h₁' (fun _ s₂ h₂=>zcp6 (wpAny_mono h₂ (fun ok s₃ h₃=>?_) fun _ _ h'=>h'.elim)) fun _ _ h'=>h'.elim)
  cases ok with
  | false=>exact zcp7 ⟨rfl,h₃⟩
  | true=>
   exact zcp6 (zcp6 (wpAny_mono h₃ (fun x s₄ h₄=>zcp6 (wpAny_mono h₄ (fun _ s₅ h₅=>zcp7 (zcp7 ⟨rfl,h₅⟩)) fun _ _ h'=>h'.elim)) fun _ _ h'=>h'.elim))
theorem zam9{E:Value->Shared->Prop}{elt iter:Expr}{ifs:List Expr}{pos:Pos}{cl:List (Str×Addr)}{N:List Str}{σc:St}{J:It}{fp:List Addr}{it:Addr}{tn:Nat->Heap->Prop}{g:TG}{tt:TT}{RR:Value->Addr->Result->Shared->Prop}(hcl1:∀ x c,cl.lookup x=some c->X.env.cells.lookup x=some c)(hcl2:∀ x∈scope.names,x.2=.free->∃ c,cl.lookup x.1=some c)(hkind:scope.kind=.function)(hcell:∀ y∈scope.names,y.2≠.cell)(hcap:∀ (i:Nat) (x:Str) (v:V),N[i]?=some x->σc[i]?=some (some v)->∃ j:Nat,X.N[j]?=some x/\σ[j]?=some (some v)/\scope.names.lookup x=some .free/\(X.env.kindOf x=some .cell∨X.env.kindOf x=some .free))(hlen:σc.length=N.length)(hc:X.calm=true)(I:Inv X pins σ H s2)(T:Turn X.prog X.w X.K tg J fp it tn)(st:tn 0 s2.heap)(fpok:∀ b∈fp,FpOk X pins H b)(hg:∀ C s3 H3 fp,PG (blk X N scope cl C s3 H3 fp) tg g)(ht:∀ C s3 H3 fp,PTs (blk X N scope cl C s3 H3 fp) ifs tt)(he:∀ C s3 H3 fp,PE (blk X N scope cl C s3 H3 fp) elt te)(h:zv2 J g tt te σc H Q)(hRR:∀ (acc C:Addr) (H':Hp) (s':Shared),Inv X pins σ H' s'->FpOk X pins H' C->(∃ m,s'.heap.Ns C m)->Q (.ref acc) H'->RR (.ref acc) C (.ok .next) s') :
  wpAny (model X.prog X.w) X.A (newList []) (fun acc s₃=>wpAny (model X.prog X.w) X.A (newFunctionEnv scope X.env.globals cl [] X.env.qual none .none (some X.env)) (fun cenv s₄=>
   codeAny (model X.prog X.w) X.A (.compStart (.ListComp elt [⟨tg,iter,ifs,0⟩] scope pos) 0 (.ref it) acc { cenv with scope:=relabel scope X.env }) (RR acc cenv.locals) s₄) E s₃) E s2:=by
 refine wpAny_newObj_type (wpAny_newFunctionEnv hcell (by intro y hy;simp at hy) (fun h₁ hns₁ hsb₁=>?_) hkind)
 dsimp only at hns₁ hsb₁ ⊢
 have hf:H s2.heap.objs.size=none:=I.fresh
 have I3:Inv X pins σ (upd H s2.heap.objs.size (.lst [])) { s2 with heap:=s2.heap.push { cls:=.type "list",data:=.seq ([]:List Value).toArray } }:=I.lnew (t':=s2.toks) (its:=[]) .nil (zci0 _)
 generalize hs3:({ s2 with heap:=s2.heap.push { cls:=.type "list",data:=.seq ([]:List Value).toArray } }:Shared)=s3 at I3
 have hH:s2.heap.push { cls:=.type "list",dict:=none,data:=.seq ([]:List Value).toArray }=s3.heap:=by rw[← hs3]
 rw[hH] at hns₁ hsb₁ ⊢
 have hsz:s3.heap.objs.size=s2.heap.objs.size+1:=by rw[← hH,Heap.size_push]
 have old23:∀ b o,s2.heap.get? b=some o->s3.heap.get? b=some o:=fun b o e=>by rw[← hH];exact zcf7 _ e
 have fplt:∀ b∈fp,b<s2.heap.objs.size:=fun b hb=>by
  obtain⟨o,e,_⟩:=T.obj 0 _ st b hb
  exact zch1 e
 have fp3:∀ b∈fp,FpOk X pins (upd H s2.heap.objs.size (.lst [])) b:=fun b hb=>by
  obtain⟨f0,f1⟩:=fpok b hb
  refine⟨?_,f1⟩
  rw[zb4 (zci2 (fplt b hb))]
  exact f0
 have old34:∀ b o,s3.heap.get? b=some o->h₁.get? b=some o:=fun b o e=>hsb₁.extBut b o (zci2 (zch1 e)) (zcf7 _ e)
 have nob:∀ b o,X.base.get? b=some o->b ∉ fp:=fun b o e hb=>by
  obtain⟨_,_,_,f3,_,_⟩:=fpok b hb
  rcases f3 with f3|f3
  ·exact I.ok.noex b o e f3
  ·exact absurd (zch3 (zch1 e) I.ok.bsz) (Nat.not_lt.mpr f3)
 have hs4e:({ s2 with heap:=h₁,toks:=s2.toks+([]:List (Str×Value)).length }:Shared).os=s3.os:=by rw[← hs3]
 have hs4g:({ s2 with heap:=h₁,toks:=s2.toks+([]:List (Str×Value)).length }:Shared).gens=s3.gens:=by rw[← hs3]
 have I4:Inv (blk X N scope cl s3.heap.objs.size s3 (upd H s2.heap.objs.size (.lst [])) fp) [] σc (upd H s2.heap.objs.size (.lst [])) { s2 with heap:=h₁,toks:=s2.toks+([]:List (Str×Value)).length }:=
  zbz5 (s4:={ s2 with heap:=h₁,toks:=s2.toks+([]:List (Str×Value)).length }) I3 hcl1 hcl2 hkind hcell hcap hlen rfl fp3 (fun b hb=>zch3 (fplt b hb) (by rw[hsz];exact zco6 _)) nob ⟨_,hns₁⟩ old34 hs4e hs4g
 have st4:tn 0 h₁:=T.keep _ _ _ st fun b hb o e=>old34 b o (old23 b o e)
 unfold zv2 at h
 obtain⟨W,⟨m0,w0⟩,turn⟩:=h s2.heap.objs.size _ hf (Same.upd hf) zb1
 have loop:codeAny (model X.prog X.w) X.A (.compLoop (.ListComp elt [⟨tg,iter,ifs,0⟩] scope pos) 0 (.ref it) (.ref s2.heap.objs.size) (blk X N scope cl s3.heap.objs.size s3 (upd H s2.heap.objs.size (.lst [])) fp).env)
   (RR (.ref s2.heap.objs.size) s3.heap.objs.size) { s2 with heap:=h₁,toks:=s2.toks+([]:List (Str×Value)).length }:=by
  refine zal6 (fun n s'=>∃ i ys σ' H',Inv (blk X N scope cl s3.heap.objs.size s3 (upd H s2.heap.objs.size (.lst [])) fp) [] σ' H' s'/\tn i s'.heap/\(∀ b∈fp,H' b=none)/\W i n ys σ' H') ?_ m0 ⟨0,[],σc,_,I4,st4,fun b hb=>(fp3 b hb).1,w0⟩
  rintro n s5 ⟨i,ys,σ5,H5,I5,st5,fr5,w5⟩
  obtain⟨hacc,hl5,hcase⟩:=turn i n ys σ5 H5 w5
  have stat:∀ {H':Hp},(∀ b∈fp,H' b=none)->∀ b∈fp,FpOk (blk X N scope cl s3.heap.objs.size s3 (upd H s2.heap.objs.size (.lst [])) fp) [] H' b:=fun hn b hb=>by
   obtain⟨_,f1,f2,f3,f4,_⟩:=fpok b hb
   refine⟨hn b hb,zci2 (zch3 (fplt b hb) (by rw[hsz];exact zco6 _)),fun hz=>?_,.inl hb,fun x c hx=>f4 x c (hcl1 x c hx),fun p hp=>by cases hp⟩
   rcases zcg6.mp (I.stkSub b hz) with q|q
   ·exact f1 q
   ·exact f2 q
  rcases hcase with ⟨stop,hq⟩|⟨go,step⟩
  ·refine thn (T.done (blk X N scope cl s3.heap.objs.size s3 (upd H s2.heap.objs.size (.lst [])) fp) rfl rfl rfl hc i [] s5 σ5 H5 (fun _ _=>False) I5 (stat fr5) st5 stop) fun r s6 ⟨hr,I6⟩=>?_
   subst hr
   have u1:Un (frs X.stack) fp H (upd H s2.heap.objs.size (.lst [])) s2.heap s3.heap:=Un.laid old23 (zcg9 _) hf
   have u2:Un (frs X.stack) fp (upd H s2.heap.objs.size (.lst [])) H5 s3.heap s6.heap:=I6.base
   have hC:H5 s3.heap.objs.size=none:=I6.free
   obtain⟨m6,hm6,_⟩:=I6.loc
   have hos:s6.os=s2.os:=by rw[I6.os];show s3.os=s2.os;rw[← hs3]
   have hok6:=I6.hok
   have bare6:=I6.bare
   obtain⟨hh,gg,dd,tt',os'⟩:=s6
   obtain rfl:os'=s2.os:=hos
   exact hRR _ _ H5 _ (I.call (h':=hh) (g':=gg) (d':=dd) (t':=tt') (ch:=fp) (u1.trans u2) hok6 bare6 fun b hb=>⟨(fpok b hb).2.2.2.1,(fpok b hb).2.1,(fpok b hb).2.2.2.2.1,(fpok b hb).2.2.2.2.2⟩)
    (I.fpOk (by rw[hsz];exact zco6 _) hC) ⟨m6,hm6⟩ hq
  ·refine thn (T.item (blk X N scope cl s3.heap.objs.size s3 (upd H s2.heap.objs.size (.lst [])) fp) rfl rfl rfl hc i [] s5 σ5 H5 (fun _ _=>False) I5 (stat fr5) st5 go) fun r s6 ⟨u,hr,h6⟩=>?_
   subst hr
   refine thn h6 fun _ s7 ⟨x,H7,I7,r7,y7,st7,fr7⟩=>?_
   have I7':=I7.pinned (stat fr7) (T.obj _ _ st7)
   refine thn (hg _ _ _ _ _ s7 σ5 H7 x u _ I7' r7 (step x H7 y7)) fun _ s8 ⟨σ8,H8,I8,q8⟩=>?_
   refine thn (ht _ _ _ _ _ s8 σ8 H8 _ I8 q8) fun ok s9 ⟨H9,I9,q9⟩=>?_
   have again:∀ {s10:Shared}{σ10:St}{H10:Hp}{zs:List V},Inv (blk X N scope cl s3.heap.objs.size s3 (upd H s2.heap.objs.size (.lst [])) fp) ([]++zae9 fp s7.heap) σ10 H10 s10->(∃ m',m'<n/\W (i+1) m' zs σ10 H10) ->
     ∃ m,m<n/\∃ i ys σ' H',Inv (blk X N scope cl s3.heap.objs.size s3 (upd H s2.heap.objs.size (.lst [])) fp) [] σ' H' s10/\tn i s10.heap/\(∀ b∈fp,H' b=none)/\W i m ys σ' H':=fun {s10 σ10 H10 zs} I10 ⟨m',hm,w10⟩=>by
    refine⟨m',hm,i+1,zs,σ10,H10,I10.unpinned,T.keep _ _ _ st7 fun b hb o e=>(I10.pin (b,o) (zci5 _ (zci5 _ (zk8 hb e)))).1,fun b hb=>?_,w10⟩
    obtain⟨o,e,d⟩:=T.obj _ _ st7 b hb
    exact (I10.pin (b,o) (zci5 _ (zci5 _ (zk8 hb e)))).2.1
   dsimp only at q9
   rw[zx7] at q9
   cases ok with
   | false=>
    have q9:∃ m',m'<n/\W (i+1) m' ys σ8 H9:=by rw[if_neg zcg3] at q9;unfold zai2 at q9;exact q9
    exact again I9 q9
   | true=>
    have q9:=(if_pos rfl▸q9:te σ8 H9 _)
    refine thn (he _ _ _ _ _ s9 σ8 H9 _ I9 q9) fun v s10 ⟨y,H10,I10,r10,q10⟩=>?_
    unfold cPut at q10
    obtain⟨e10,q10⟩:=q10
    refine thn (zab5 _ s10 σ8 H10 (.ref s2.heap.objs.size) [y] (.ref s2.heap.objs.size) [v] (fun _ H11=>∃ m',m'<n/\W (i+1) m' (ys++[y]) σ8 H11) I10 rfl (.cons r10 .nil) ⟨_,ys,y,rfl,rfl,e10,hl5,q10 _ Chg.upd zb1⟩) fun _ s11 ⟨z,H11,I11,_,q11⟩=>?_
    exact again I11 q11
 exact codeAny_compStart_list loop (T.self _ 0 _ _ _ st4 loop)
def capS(ks:List (Option Nat))(σ:St):St:=ks.map fun k=>match k with
 | none=>none
 | some j=>(σ[j]?).join
inductive zy5(X:Cx)(scope:Scope):List Str->List (Option Nat)->Prop where
 | nil:zy5 X scope [] []
 | skip {x:Str}{N:List Str}{ks:List (Option Nat)}(t:zy5 X scope N ks):zy5 X scope (x :: N) (none :: ks)
 | take {x:Str}{N:List Str}{ks:List (Option Nat)}{j:Nat}(h1:X.N[j]?=some x) (h2:scope.names.lookup x=some .free) (h3:X.env.kindOf x=some .cell∨X.env.kindOf x=some .free) (t:zy5 X scope N ks):zy5 X scope (x :: N) (some j :: ks)
theorem zy5.cap{N:List Str}{ks:List (Option Nat)}(h:zy5 X scope N ks)(σ:St):∀ (i:Nat) (x:Str) (v:V),N[i]?=some x->(capS ks σ)[i]?=some (some v)->∃ j:Nat,X.N[j]?=some x/\σ[j]?=some (some v)/\scope.names.lookup x=some .free/\(X.env.kindOf x=some .cell∨X.env.kindOf x=some .free):=by
 induction h with
 | nil=>intro i x v h;simp at h
 | skip t ih=>
  intro i x v h1 h2
  cases i with
  | zero=>simp[capS] at h2
  | succ i=>exact ih i x v (by simpa using h1) (by simpa [capS] using h2)
 | take a b c t ih=>
  intro i x v h1 h2
  cases i with
  | zero=>
   simp only[List.getElem?_cons_zero,Option.some.injEq] at h1
   subst h1
   refine⟨_,a,?_,b,c⟩
   simpa [capS,Option.join_eq_some_iff] using h2
  | succ i=>exact ih i x v (by simpa using h1) (by simpa [capS] using h2)
theorem zy5.len{N:List Str}{ks:List (Option Nat)}(h:zy5 X scope N ks)(σ:St):(capS ks σ).length=N.length:=by
 have:ks.length=N.length:=by
  induction h with
  | nil=>rfl
  | skip t ih=>simp[ih]
  | take a b c t ih=>simp[ih]
 simp[capS,this]
def qComp(ks:List (Option Nat))(wi:TI)(g:TG)(tt:TT)(te:TE):TE:=fun σ H Q=>wi σ H fun J H1=>zv2 J g tt te (capS ks σ) H1 Q
def freeB(scope:Scope)(f:Str->Option NameKind):Bool:=scope.names.all fun x=>x.2 != .free || (f x.1==some .cell || f x.1==some .free)
def zau0(scope:Scope):Bool:=scope.names.all (fun x=>x.2 != .cell)&&scope.names.all fun x=>x.2 != .local || scope.names.lookup x.1==some .local
theorem zag8{f:Str->Option NameKind}(h:freeB scope f=true):∀ x∈scope.names,x.2=.free->f x.1=some .cell∨f x.1=some .free:=fun x hx hf=>by
 have:=zcg8.mp h x hx
 simpa [hf] using this
theorem zan9(h:zau0 scope=true):(∀ y∈scope.names,y.2≠.cell)/\∀ x∈scope.names,x.2=.local->scope.names.lookup x.1=some .local:=by
 unfold zau0 at h
 rw[zcg4] at h
 refine⟨fun y hy=>?_,fun x hx hl=>?_⟩
 ·have:=zcg8.mp h.1 y hy
  simpa using this
 ·have:=zcg8.mp h.2 x hx
  simpa [hl] using this
theorem zk4{elt iter:Expr}{ifs:List Expr}{pos:Pos}{N:List Str}{ks:List (Option Nat)}{wi:TI}{g:TG}{tt:TT}(hi:PI X tg iter wi)(hg:∀ cl C s3 H3 fp,PG (blk X N scope cl C s3 H3 fp) tg g)(ht:∀ cl C s3 H3 fp,PTs (blk X N scope cl C s3 H3 fp) ifs tt)(he:∀ cl C s3 H3 fp,PE (blk X N scope cl C s3 H3 fp) elt te)(hcap:zy5 X scope N ks)(hc:X.calm=true:=by rfl)(hkind:scope.kind=.function:=by rfl)(hb:freeB scope X.env.kindOf=true:=by rfl)(hn:zau0 scope=true:=by rfl)(hs:∀ x,foldedSetIterable iter X.env x=pure x:=by intro _;rfl) :
  PE X (.ListComp elt [⟨tg,iter,ifs,0⟩] scope pos) (qComp ks wi g tt te):=by
 intro pins s σ H Q I h
 obtain⟨hcell,hnames⟩:=zan9 hn
 obtain⟨cl,hcl,hcl1,hcl2⟩:=zw4 (scope:=scope) (env:=X.env) fun x hx hf=>I.ok.has x.1 (zag8 hb x hx hf)
 rw[eval_ListComp]
 refine wpAny_comprehension_free (use:=none) rfl hs hcl hkind hnames ?_
 show wpAny _ _ (eval iter X.env) _ _ s
 refine thn (hi pins s σ H _ I h) fun v s1 h1=>thn h1 fun itv s2 h2=>?_
 obtain⟨it,fp,tn,J,H2,e,I2,T,st2,f2,q2⟩:=h2
 subst e
 refine zam9 (RR:=fun acc C=>compPost (model X.prog X.w) X.A X.xe none (EP X pins σ Q) acc C) hcl1 hcl2 hkind hcell (hcap.cap σ) (hcap.len σ) hc I2 T st2 f2 (hg cl) (ht cl) (he cl) q2 ?_
 rintro acc C H' s' I' hC ⟨m,hm⟩ hq
 refine⟨m,hm,fun h' hsb=>⟨.ref acc,H',?_,rfl,hq⟩⟩
 exact I'.turned (t':=s'.toks) (fun b o hb e=>hsb.extBut b o hb e) hC.1 hC.2.1 hC.2.2.2.1 hC.2.2.2.2.1 hC.2.2.2.2.2
theorem psC{y:Str}{py spos:Pos}{elt iter:Expr}{ifs:List Expr}{pos:Pos}{N:List Str}{ks:List (Option Nat)}{wi:TI}{g:TG}{tt:TT}(hN:X.N.Nodup)(hi:PI X tg iter wi)(hg:∀ cl C s3 H3 fp,PG (blk X N scope cl C s3 H3 fp) tg g)(ht:∀ cl C s3 H3 fp,PTs (blk X N scope cl C s3 H3 fp) ifs tt)(he:∀ cl C s3 H3 fp,PE (blk X N scope cl C s3 H3 fp) elt te)(hcap:zy5 X scope N ks)(hy:X.N[i]?=some y:=by rfl)(hl:X.env.scope.names.lookup y=some .local:=by rfl)(hsw:swapsWith (.ListComp elt [⟨tg,iter,ifs,0⟩] scope pos) (some (.Name y py)) spos.line X.env=pure true:=by rfl)(hc:X.calm=true:=by rfl)(hkind:scope.kind=.function:=by rfl)(hb:freeB scope X.env.kindOf=true:=by rfl)(hn:zau0 scope=true:=by rfl)(hs:∀ x,foldedSetIterable iter X.env x=pure x:=by intro _;rfl) :
  PS X (.Assign [.Name y py] (.ListComp elt [⟨tg,iter,ifs,0⟩] scope pos) spos) (tAsg (qComp ks wi g tt te) (zay0 i)):=by
 intro pins s σ H D I h
 obtain⟨hcell,hnames⟩:=zan9 hn
 obtain⟨cl,hcl,hcl1,hcl2⟩:=zw4 (scope:=scope) (env:=X.env) fun x hx hf=>I.ok.has x.1 (zag8 hb x hx hf)
 rw[exec_Assign_Name_used _ _ _ _ hsw]
 refine zcp6 (wpAny_standAt (zcp6 ?_))
 show wpAny _ X.A (do let _ ← comprehension (.ListComp elt [⟨tg,iter,ifs,0⟩] scope pos) scope X.env _ (newList []) false (eval iter X.env) (some (assign (.Name y py) X.env))) _ _ s
 refine zcp6 (wpAny_mono (wpAny_comprehension_free (use:=some (assign (.Name y py) X.env)) (Q:=fun _ s'=>SP X pins D .next s') rfl hs hcl hkind hnames ?_) (fun _ s' hq=>zcp7 (zcp7 hq)) fun _ _ e=>e)
 refine thn (hi pins s σ H _ I h) fun v s1 h1=>thn h1 fun itv s2 h2=>?_
 obtain⟨it,fp,tn,J,H2,e,I2,T,st2,f2,q2⟩:=h2
 subst e
 refine zam9 (RR:=fun acc C=>compPost (model X.prog X.w) X.A X.xe (some (assign (.Name y py) X.env)) (fun _ s'=>SP X pins D .next s') acc C) hcl1 hcl2 hkind hcell (hcap.cap σ) (hcap.len σ) hc I2 T st2 f2 (hg cl) (ht cl) (he cl) q2 ?_
 rintro acc C H' s' I' hC ⟨m,hm⟩ hq
 show wpAny _ _ (assign (.Name y py) X.env (.ref acc)) _ _ _
 refine wpAny_assign_Name (zam4 I' hN hy (.inl hl) (v:=.ref acc) rfl (fun s'' I'' hsb=>?_) (.inr hl))
 obtain⟨a,hsb,ha⟩:=hsb
 have hCa:C≠a:=by
  rcases ha with ha|ha
  ·rw[ha];exact hC.2.1
  ·exact (hC.2.2.2.2.1 y a ha).symm
 refine⟨m,hm.sameBut hsb hCa,fun h' hsb'=>⟨σ.set i (some (.ref acc)),H',?_,hq⟩⟩
 exact I''.turned (t':=s''.toks) (fun b o hb e=>hsb'.extBut b o hb e) hC.1 hC.2.1 hC.2.2.2.1 hC.2.2.2.2.1 hC.2.2.2.2.2
end
section
variable {X:Cx}
@[irreducible] def rSumA(K:zcf5)(p:Addr)(H:Hp)(Q:VK):Prop:=∃ ns:List Int,SqL K H p (ns.map V.int)/\Q (.int ns.sum) H
def rSumM(K:zcf5):List V->Hp->VK->Prop:=fun xs H Q=>match xs with
 | [.ref p]=>rSumA K p H Q
 | _=>False
theorem cSum(hc:X.calm=true):zi8 X (.builtin "sum") (rSumM X.K):=fun pins s σ H xs us Q I r h=>by
 unfold rSumM at h
 split at h
 ·unfold rSumA at h
  obtain⟨ns,h1,h2⟩:=h
  obtain⟨u,rfl,rx⟩:=zv7 r
  cases rx
  obtain⟨its,r',pl,hz⟩:=I.list h1
  have hi:=zw2 r'
  obtain⟨ys,hx⟩:=hi.allInts.items
  have hl':s.heap.IsList _ (intItems ys):=hx▸pl.isList
  refine sum_intListG (I.ok.hd hc) hl' fun h' tk t' hk=>?_
  have e1:ns=ys.toList.map (·.1):=by
   rw[← nums_intItems,← hx]
   exact (show numsOf its.toArray.toList=ns from hi.numsOf).symm
  have e2:preSum (numAt ys) ys.size=ns.sum:=by
   rw[preSum_eq,zcl2 (by simp),e1]
  rw[e2]
  exact⟨.int ns.sum,H,I.kept hk,⟨_,rfl⟩,h2⟩
 ·exact h.elim
theorem zbt5{K:zcf5}{p:Addr}{ns:List Int}(h:H p=some (.lst (ns.map V.int)))(q:Q (.int ns.sum) H):rSumA K p H Q:=by unfold rSumA;exact⟨ns,SqL.of h,q⟩
theorem zab4:∀ {bs:List Bool}{us:List Value},Vals (bs.map V.bl) us->LSm.BoolsAre us bs
 | [],us,r=>by rw[List.map_nil] at r;cases r;exact .nil
 | b :: bs,us,r=>by
  rw[zci1] at r
  cases r with
  | cons r1 r2=>
   cases r1
   exact .cons b (zab4 r2)
@[irreducible] def rAllA(K:zcf5)(p:Addr)(H:Hp)(Q:VK):Prop:=∃ bs:List Bool,SqL K H p (bs.map V.bl)/\Q (.bl (bs.all id)) H
def rAllM(K:zcf5):List V->Hp->VK->Prop:=fun xs H Q=>match xs with
 | [.ref p]=>rAllA K p H Q
 | _=>False
theorem cAll(hc:X.calm=true):zi8 X (.builtin "all") (rAllM X.K):=fun pins s σ H xs us Q I r h=>by
 unfold rAllM at h
 split at h
 ·rename_i p
  unfold rAllA at h
  obtain⟨bs,h1,h2⟩:=h
  obtain⟨u,rfl,rx⟩:=zv7 r
  cases rx
  obtain⟨its,r',pl,hz⟩:=I.list h1
  have hb:=zab4 r'
  have hlt:p<s.heap.objs.size:=by obtain⟨_,e,_⟩:=pl.isList;exact zch1 e
  refine call_all_walk (wpAny_pyIter_list pl.isList ?_)
  refine⟨s.heap.objs.size,[s.heap.objs.size,_],[s.heap.objs.size],its.toArray.size,_,_,fun i=>(bs[i]?).getD true,rfl,Walks.list (A:=X.A.in1) (I.ok.hd hc) _ _ (zci2 hlt) its.toArray,
   ⟨⟨_,zch5 _ rfl,rfl,rfl⟩,pl.isList.push _⟩,fun i v s' Q' E' hP hQ=>?_,fun h' tk hk=>?_⟩
  ·obtain⟨b,e,rfl⟩:=hb.get i v (by simpa using hP)
   simp only[e,Option.getD_some] at hQ
   exact wpAny_truthy_bool hQ
  ·have e:((List.range its.toArray.size).all fun i=>(bs[i]?).getD true)=bs.all id:=by
    rw[zcg1,hb.length];exact LSm.range_all bs
   rw[e]
   exact⟨.bl _,H,I.kept (LSm.kept_iter hk),rfl,h2⟩
 ·exact h.elim
theorem zaf9{K:zcf5}{p:Addr}{bs:List Bool}(h:H p=some (.lst (bs.map V.bl)))(q:Q (.bl (bs.all id)) H):rAllA K p H Q:=by unfold rAllA;exact⟨bs,SqL.of h,q⟩
@[irreducible] def zas0(K:zcf5)(p:Addr)(H:Hp)(Q:VK):Prop:=∃ ys,(SqL K H p ys∨SqT K H p ys)/\∀ l H',H l=none->Same H H'->H' l=some (.lst ys)->Q (.ref l) H'
def zbj9(K:zcf5):List V->Hp->VK->Prop:=fun xs H Q=>match xs with
 | [.ref p]=>zas0 K p H Q
 | _=>False
theorem cList:zi8 X (.type "list") (zbj9 X.K):=fun pins s σ H xs us Q I r h=>by
 unfold zbj9 at h
 split at h
 ·unfold zas0 at h
  obtain⟨ys,h1,h2⟩:=h
  exact zam0 pins s σ H _ us Q I r ⟨_,ys,rfl,h1,fun l hl=>h2 l _ hl (Same.upd hl) zb1⟩
 ·exact h.elim
theorem zau3{K:zcf5}{p:Addr}{ys:List V}(h:SqL K H p ys)(q:∀ l H',H l=none->Same H H'->H' l=some (.lst ys)->Q (.ref l) H'):zas0 K p H Q:=by unfold zas0;exact⟨ys,.inl h,q⟩
@[irreducible] def zam7(K:zcf5)(p:Addr)(H:Hp)(R:Prop):Prop:=(∃ xs,SqL K H p xs)/\R
def qBM(K:zcf5)(r:Addr->List V->Hp->VK->Prop)(to:TE)(t:TA):TE:=fun σ H Q=>to σ H fun x H1=>match x with
 | .ref p=>zam7 K p H1 (t σ H1 fun xs H2=>r p xs H2 Q)
 | _=>False
theorem zae3{K:zcf5}{p:Addr}{R:Prop}(h:H p=some (.lst xs))(q:R):zam7 K p H R:=by unfold zam7;exact⟨⟨xs,SqL.of h⟩,q⟩
def MtA(X:Cx)(id:String)(r:Addr->List V->Hp->VK->Prop):Prop:=
 ∀ (pins:List (Addr×Obj)) (s:Shared) (σ:St) (H:Hp) (p:Addr) (xs:List V) (us:List Value) (Q:VK),Inv X pins σ H s->Vals xs us->r p xs H Q ->
  wpAny (model X.prog X.w) X.A (call (.builtin id) (.ref p :: us)) (EP X pins σ Q) X.xe s
theorem peBM{o e:Expr}{to:TE}{t:TA}{name:Str}{apos cpos:Pos}{id:String}{r:Addr->List V->Hp->VK->Prop}(slot:Slot "list" name id)(hty:typeOf (.builtin id)=pure (.type "method_descriptor"))(hm:MtA X id r)(ho:PE X o to)(ha:PA X (e :: es) t)(hbase:attributeBase o name X.env (eval o X.env)=eval o X.env:=by rfl)(hfew:((backTo cpos (starEach (e :: es) X.env)).all (fun x=>!x.1)&&(backToKw cpos (keywordEach [] X.env)).all (fun x=>x.1.isSome)
   && decide ((e :: es).length+([]:List Keyword).length+(if ([]:List Keyword).isEmpty then 0 else 1)<30))=true:=by rfl)(hline:(apos.endLine==cpos.line)=true:=by rfl)(hs:starEach (e :: es) X.env=(false,eval e X.env) :: starEach es X.env:=by rfl)(hplain:(backTo cpos (starEach es X.env)).any (·.1)=false:=by rfl) :
  PE X (.Call (.Attribute o name apos) (e :: es) [] cpos) (qBM X.K r to t):=by
 intro pins s σ H Q I h
 refine wpAny_Call_method_late hbase hfew hline rfl (thn (ho pins s σ H _ I h) fun v s1 ⟨x,H1,I1,r1,q1⟩=>?_)
 dsimp only at q1
 split at q1
 ·rename_i p
  unfold zam7 at q1
  obtain⟨hq,q1⟩:=q1
  obtain⟨h1,h2⟩:=tyV_is (T:="list") I1 r1 (.inl ⟨rfl,hq⟩)
  refine⟨"list",id,PySem.F.plainAttrs_list,slot,hty,h1,h2,?_⟩
  have hA:=ha cpos pins s1 σ H1 _ I1 q1
  rw[hs] at hA ⊢
  refine Calls.callWith_builtin (by show (false || (backTo cpos (starEach es X.env)).any (·.1))=false;rw[hplain]<;>rfl) (Calls.evalArgs_plain ?_)
  cases r1
  exact thn hA fun us s2 ⟨vs,H2,I2,r2,q2⟩=>hm pins s2 σ H2 p vs us Q I2 r2 q2
 ·exact q1.elim
@[irreducible] def rAppA(p:Addr)(v:V)(H:Hp)(Q:VK):Prop:=∃ xs,H p=some (.lst xs)/\xs.length<sizeLine/\∀ H',Chg p H H'->H' p=some (.lst (xs++[v]))->Q .non H'
def rAppM:Addr->List V->Hp->VK->Prop:=fun p vs H Q=>match vs with
 | [v]=>rAppA p v H Q
 | _=>False
theorem zbx3:MtA X "list.append" rAppM:=fun pins s σ H p xs us Q I r h=>by
 unfold rAppM at h
 split at h
 ·unfold rAppA at h
  obtain⟨ys,h1,h2,h3⟩:=h
  exact zab5 pins s σ H (.ref p) _ (.ref p) us Q I rfl r ⟨p,ys,_,rfl,rfl,h1,h2,h3 _ Chg.upd zb1⟩
 ·exact h.elim
theorem zaf7{p:Addr}{v:V}(h:H p=some (.lst xs))(hz:xs.length<sizeLine)(q:∀ H',Chg p H H'->H' p=some (.lst (xs++[v]))->Q .non H'):rAppA p v H Q:=by unfold rAppA;exact⟨xs,h,hz,q⟩
theorem zn4{o e:Expr}{to:TE}{t:TA}{apos cpos:Pos}(ho:PE X o to)(ha:PA X [e] t)(hbase:attributeBase o "append" X.env (eval o X.env)=eval o X.env:=by rfl)(hfew:((backTo cpos (starEach [e] X.env)).all (fun x=>!x.1)&&(backToKw cpos (keywordEach [] X.env)).all (fun x=>x.1.isSome)
   && decide ([e].length+([]:List Keyword).length+(if ([]:List Keyword).isEmpty then 0 else 1)<30))=true:=by rfl)(hline:(apos.endLine==cpos.line)=true:=by rfl)(hs:starEach [e] X.env=(false,eval e X.env) :: starEach [] X.env:=by rfl)(hplain:(backTo cpos (starEach [] X.env)).any (·.1)=false:=by rfl):PE X (.Call (.Attribute o "append" apos) [e] [] cpos) (qBM X.K rAppM to t):=
 peBM PySem.F.slot_list_append PySem.F.type_list_append zbx3 ho ha hbase hfew hline hs hplain
def qAug(i:Nat)(te:TE)(r:R2):TS:=fun D σ H=>match σ[i]? with
 | some (some x)=>te σ H fun y H1=>r x y H1 fun z H2=>D.nx (σ.set i (some z)) H2
 | _=>False
theorem ipAdd:OpR X (inplaceOp .Add) (fun x y H Q=>match x,y with|.int i,.int j=>Q (.int (i+j)) H|_,_=>False):=by
 intro pins s σ H x y v u Q I rx ry h
 split at h
 ·exact zbx1 pins s σ H _ _ v u Q I rx ry ⟨_,_,rfl,rfl,h⟩
 ·exact h.elim
theorem ipSub:OpR X (inplaceOp .Sub) (fun x y H Q=>match x,y with|.int i,.int j=>Q (.int (i - j)) H|_,_=>False):=by
 intro pins s σ H x y v u Q I rx ry h
 split at h
 ·exact zbw8 pins s σ H _ _ v u Q I rx ry ⟨_,_,rfl,rfl,h⟩
 ·exact h.elim
theorem psAug{x:Str}{e:Expr}{op:Operator}{r:R2}{pos pos':Pos}(hN:X.N.Nodup)(ho:OpR X (inplaceOp op) r)(he:PE X e te)(hi:X.N[i]?=some x:=by rfl)(hx:Loc X.env.scope x:=by first|exact Or.inl rfl|exact Or.inr rfl)(hf:X.fn x=true∨X.env.scope.names.lookup x=some .local:=by first|exact .inl rfl|exact .inr rfl|assumption) :
  PS X (.AugAssign (.Name x pos') op e pos) (qAug i te r):=fun pins s σ H D I h=>by
 unfold qAug at h
 split at h
 ·rename_i v e
  exact ps_aug hN hi hx he (fun pins s σ H x y v u Q I rx ry q=>ho pins s σ H x y v u Q I rx ry q) hf pins s σ H D I ⟨v,e,h⟩
 ·exact h.elim
section
variable {prog:Program}{w:World}{A:Around}{E:Value->Shared->Prop}{s:Shared}
theorem zak9{it t:Addr}{items:Array Value}(hne:t≠it):∀ (n i:Nat) (s:Shared) (Q:List Value->Shared->Prop),s.heap.IsListIter it t i->s.heap.IsList t items->i+n<=items.size ->
  (∀ h',h'.IsListIter it t (i+n)->Heap.SameBut it s.heap h'->Q ((items.toList.drop i).take n) { s with heap:=h' })->wpAny (model prog w) A (draw (.ref it) n) Q E s
 | 0,i,s,Q,hit,_,_,hQ=>by
  show wpAny _ _ (pure []) Q E s
  exact zcp7 (by simpa using hQ s.heap hit (Heap.SameBut.refl ..))
 | n+1,i,s,Q,hit,ht,hle,hQ=>by
  have hlt:i<items.size:=by omega
  show wpAny _ _ (pyNext (.ref it) >>= _) Q E s
  refine zcp6 (wpAny_pyNext_list_item hit ht (x:=items[i]) (by simp[hlt]) fun h₁ hit₁ hs₁=>?_)
  refine zcp6 (zcq1 (zak9 hne n (i+1) _ _ hit₁ (ht.extBut hs₁.extBut hne) (by omega) fun h₂ hit₂ hs₂=>zcp7 ?_))
  have hd:items.toList.drop i=items[i] :: items.toList.drop (i+1):=by simp[zcm6,hlt]
  have:=hQ h₂ (by rw[show i+(n+1)=i+1+n by omega];exact hit₂) (hs₁.trans hs₂)
  rw[hd,List.take_succ_cons] at this
  exact this
theorem zw1{env:Env}{elts:List Expr}{x1}{pos:Pos}{t:Addr}{items:Array Value}{Q:Unit->Shared->Prop}(hh:A.handled=none)(ht:s.heap.IsList t items)(hn:(assignEach elts env).length=items.size)(hstar:(assignEach elts env).findIdx? (·.1)=none)(h:∀ h',Heap.ExtBut s.heap.objs.size s.heap h'->wpAny (model prog w) A (assignInOrder ((assignEach elts env).map (·.2)) items.toList) Q E { s with heap:=h' }) :
  wpAny (model prog w) A (assign (.Tuple elts x1 pos) env (.ref t)) Q E s:=by
 rw[assign_Tuple]
 refine zcp6 (wpAny_standAt ?_)
 unfold unpack
 rw[hn,hstar]
 refine zcp6 (zcq1 ?_)
 have hlt:t≠s.heap.objs.size:=by obtain⟨o,ho,_⟩:=ht;exact zci2 (zch1 ho)
 unfold unpackItems
 refine zcp6 ?_
 unfold notIterableAtAll
 refine zcp6 (wpAny_specialOf ht.typeIs F.slot_list_iter.lookup ?_)
 refine zcp7 ?_
 simp only[zcn1,if_false]
 refine zcp6 (zcq1 (wpAny_pyIter_list ht ?_))
 refine zcp6 (zcq1 (zak9 hlt items.size 0 _ _ ⟨_,zch5 _ rfl,rfl,rfl⟩ (ht.push _) (by omega) fun h₁ hit₁ hs₁=>?_))
 have hall:List.take items.size (List.drop 0 items.toList)=items.toList:=by
  rw[List.drop_zero];exact zcl2 (by simp)
 rw[hall]
 rw[if_neg (by simp)]
 have ht₁:h₁.IsList t items:=(ht.push _).extBut hs₁.extBut hlt
 refine zcp6 (zcq1 (wpAny_pyNext_list_end hh hit₁ ht₁ (by simp) fun h₂ he₂=>?_))
 simp only[Option.isSome_none,zcn1,if_false]
 exact zcp7 (h h₂ fun b o hb e=>he₂ b o hb (hs₁.extBut b o hb (zcf7 _ e)))
end
@[irreducible] def rUnpA(K:zcf5)(a:Addr)(n:Nat)(t:TGs)(σ:St)(H:Hp)(Q:St->Hp->Prop):Prop:=∃ xs,(SqT K H a xs∨SqL K H a xs)/\xs.length=n/\t xs σ H Q
def qgAny(K:zcf5)(n:Nat)(t:TGs):TG:=fun v σ H Q=>match v with
 | .ref a=>rUnpA K a n t σ H Q
 | _=>False
theorem pgAny{pos:Pos}{k:Nat}{t:TGs}{n:Nat}(hc:X.calm=true)(h:PGs X es t)(hn:(assignEach es X.env).length=n:=by rfl)(hst:(assignEach es X.env).findIdx? (·.1)=none:=by rfl):PG X (.Tuple es k pos) (qgAny X.K n t):=fun pins s σ H v u Q I r hq=>by
 unfold qgAny at hq
 split at hq
 ·unfold rUnpA at hq
  obtain⟨xs,a1,a2,a3⟩:=hq
  rcases a1 with a1|a1
  ·exact pg_tup hc h hn hst pins s σ H _ u Q I r ⟨_,xs,rfl,a1,a2,a3⟩
  ·cases r
   obtain⟨its,rv,pl,hz⟩:=I.list a1
   refine zw1 (I.ok.hd hc) pl.isList (by simp[hn,← a2,rv.length]) hst fun h' hx=>?_
   have I1:Inv X pins σ H { s with heap:=h' }:=I.kept (t':=s.toks) fun b o e=>hx b o (zci2 (zch1 e)) e
   exact h pins _ σ H xs _ Q I1 (by simpa using rv) a3
 ·exact hq.elim
theorem zh1{K:zcf5}{a:Addr}{n:Nat}{t:TGs}{σ:St}{Q:St->Hp->Prop}(h:H a=some (.tup xs))(q:t xs σ H Q)(e:xs.length=n:=by rfl):rUnpA K a n t σ H Q:=by
 unfold rUnpA;exact⟨xs,.inl (SqT.of h),e,q⟩
end
def Chg2(a c:Addr)(H H':Hp):Prop:=∀ b o,b≠a->b≠c->H b=some o->H' b=some o
theorem Chg2.at{a c b:Addr}(x:Chg2 a c H H')(e:H b=some o)(h1:b≠a)(h2:b≠c):H' b=some o:=x b o h1 h2 e
def cV(n:Nat)(acc:Addr)(Pv:Nat->List V->St->Hp->Prop):Nat->Nat->List V->St->Hp->Prop:=fun i m ys σ H=>m=n - i/\i<=n/\ys.length<=i/\H acc=some (.lst ys)/\Pv i ys σ H
section
variable {K:zcf5}{g:TG}{tt:TT}{te:TE}{σ0:St}{H1:Hp}{Q:VK}
theorem zbq0{n m:Nat}{acc:Addr}{Pv:Nat->List V->St->Hp->Prop}{ys:List V}{σ2:St}{v:V}{H5:Hp}(hi:i<n)(hm:m=n - i)(hl:ys.length<=i)(ha:H5 acc=some (.lst ys))(q:∀ H6,Chg acc H5 H6->H6 acc=some (.lst (ys++[v]))->Pv (i+1) (ys++[v]) σ2 H6):cPut (cV n acc Pv) acc ys i m σ2 v H5:=by
 unfold cPut
 exact⟨ha,fun H6 hc h6=>⟨n - (i+1),by omega,rfl,by omega,by rw[zcg2,zcj0];omega,h6,q H6 hc h6⟩⟩
theorem zaq8{lo:Int}{n:Nat}(hn:n<sizeLine)(h:∀ acc H2,H1 acc=none->Same H1 H2->H2 acc=some (.lst [])->∃ Pv:Nat->List V->St->Hp->Prop,Pv 0 [] σ0 H2 /\
  (∀ i m ys σ H,i<n->m=n - i->ys.length<=i->H acc=some (.lst ys)->Pv i ys σ H->g (.int (lo+i)) σ H fun σ2 H3=>tt σ2 H3 fun b H4=>br b (te σ2 H4 fun v H5=>cPut (cV n acc Pv) acc ys i m σ2 v H5) (zai2 (cV n acc Pv) ys i m σ2 H4)) /\
  ∀ ys σ H,H acc=some (.lst ys)->Pv n ys σ H->Q (.ref acc) H):zv2 (Itr lo n) g tt te σ0 H1 Q:=by
 unfold zv2
 intro acc H2 hf hs ha
 obtain⟨Pv,h0,turn,fin⟩:=h acc H2 hf hs ha
 refine⟨cV n acc Pv,⟨n,by simp,zci0 _,zcg9 _,ha,h0⟩,?_⟩
 rintro i m ys σ H ⟨hm,hi,hl,ha',hp⟩
 refine⟨ha',by omega,?_⟩
 by_cases hlt:i<n
 ·refine .inr ⟨hlt,fun x H' y=>?_⟩
  obtain⟨e,y⟩:=y
  subst e y
  exact turn i m ys σ _ hlt hm hl ha' hp
 ·have e:i=n:=by omega
  subst e
  exact .inl ⟨zcg9 _,fin ys σ H ha' hp⟩
end
section
variable {X:Cx}{K:zcf5}
theorem zc3{a b:Expr}{ta tb:TE}{pos:Pos}(hK:X.K=K)(ha:PE X a ta)(hb:PE X b tb)(hs:zai1 b:=by exact fun _ _=>rfl):PE X (.Subscript a b pos) (tOp (rIxM K) ta tb):=by subst hK;exact peIx ha hb hs
theorem zp3(hK:X.K=K):zi8 X (.builtin "len") (rLenM K):=by subst hK;exact cLen
theorem zw7(hK:X.K=K):zi8 X (.builtin "isinstance") (rIsiM K):=by subst hK;exact cIsi
theorem cSumK(hK:X.K=K)(hc:X.calm=true):zi8 X (.builtin "sum") (rSumM K):=by subst hK;exact cSum hc
theorem zax7(hK:X.K=K)(hc:X.calm=true):zi8 X (.builtin "all") (rAllM K):=by subst hK;exact cAll hc
theorem zbt3(hK:X.K=K):zi8 X (.type "list") (zbj9 K):=by subst hK;exact cList
theorem zg6{l:Expr}{tl:TE}(hK:X.K=K)(hl:PE X l tl):PI X tg l (qiSeq K tl):=by subst hK;exact piSeq hl
theorem zm6{pos:Pos}{k:Nat}{t:TGs}{n:Nat}(hK:X.K=K)(hc:X.calm=true)(h:PGs X es t)(hn:(assignEach es X.env).length=n:=by rfl)(hst:(assignEach es X.env).findIdx? (·.1)=none:=by rfl):PG X (.Tuple es k pos) (qgAny K n t):=by subst hK;exact pgAny hc h hn hst
end
theorem zt7{k:Int}(h:0<=k):cutV xs (some k) none=xs.drop k.toNat:=by
 show List.take (xs.length - (if k<0 then (k+(xs.length:Int)).toNat else min k.toNat xs.length)) (List.drop (if k<0 then (k+(xs.length:Int)).toNat else min k.toNat xs.length) xs)=_
 rw[if_neg (by omega)]
 by_cases hk:k.toNat<=xs.length
 ·rw[Nat.min_eq_left hk,zcl2 (by rw[zck7];omega)]
 ·rw[Nat.min_eq_right (by omega),zco0 (by omega),zco0 (by omega),List.take_nil]
theorem zv0{k:Int}(h:0<=k):cutV xs none (some k)=xs.take k.toNat:=by
 show List.take ((if k<0 then (k+(xs.length:Int)).toNat else min k.toNat xs.length) - 0) (List.drop 0 xs)=_
 rw[if_neg (by omega),List.drop_zero,Nat.sub_zero]
 by_cases hk:k.toNat<=xs.length
 ·rw[Nat.min_eq_left hk]
 ·rw[Nat.min_eq_right (by omega),zcl2 (zcg9 _),zcl2 (by omega)]
def rowV(n:Nat)(r:Nat->Int):List V:=(List.range n).map fun t=>V.int (r t)
theorem ref_at{ps:List Addr}{i:Int}{p:Addr}(h0:0<=i)(h:ps[i.toNat]?=some p):atI (ps.map V.ref) i=some (.ref p):=by
 have:=zg8 (xs:=ps.map V.ref) (j:=i.toNat) (v:=.ref p) (by rw[zcf9,h];rfl)
 rw[show ((i.toNat:Nat):Int)=i by omega] at this
 exact this
theorem int_at{ns:List Int}{i:Int}{n:Int}(h0:0<=i)(h:ns[i.toNat]?=some n):atI (ns.map V.int) i=some (.int n):=by
 have:=zg8 (xs:=ns.map V.int) (j:=i.toNat) (v:=.int n) (by rw[zcf9,h];rfl)
 rw[show ((i.toNat:Nat):Int)=i by omega] at this
 exact this
theorem zbd8{v:V}{n:Nat}(h:xs.length=n+1)(e:xs[n]?=some v):atI xs (-1)=some v:=by
 unfold atI ixN
 rw[if_neg (by decide),if_pos (by omega)]
 show xs[((-1:Int)+xs.length).toNat]?=_
 rw[show ((-1:Int)+xs.length).toNat=n by omega];exact e
structure zbq6(H:Hp)(a:Addr)(ps:List Addr)(n h:Nat)(g:Nat->Nat->Int):Prop where
 out:H a=some (.lst (ps.map V.ref))
 len:ps.length=n
 row:∀ (i:Nat) (p:Addr),ps[i]?=some p->H p=some (.lst (rowV h (g i)))
theorem zbq6.some{H:Hp}{a:Addr}{ps:List Addr}{n h:Nat}{g:Nat->Nat->Int}(G:zbq6 H a ps n h g){i:Nat}(hi:i<n):∃ p,ps[i]?=.some p/\H p=.some (.lst (rowV h (g i))):=by
 have hl:i<ps.length:=by rw[G.len];exact hi
 exact⟨ps[i],zcf3 hl,G.row i _ (zcf3 hl)⟩
structure Wk(J:It)(n:Nat)(H1:Hp)(X:Nat->V->Hp->Prop):Prop where
 go:∀ i H,Same H1 H->i<n->J.go i H
 stop:∀ H,Same H1 H->J.stop n H
 yld:∀ i H x H',Same H1 H->i<n->J.yld i H x H'->Same H H'/\X i x H'
theorem Wk.range{lo:Int}{n:Nat}:Wk (Itr lo n) n H1 fun i x _=>x=.int (lo+i):=
 ⟨fun i H _ h=>h,fun H _=>zcg9 _,fun i H x H' _ _ y=>by obtain⟨rfl,rfl⟩:=y;exact⟨Same.refl _,rfl⟩⟩
theorem Wk.list{K:zcf5}{a:Addr}(h:SqL K H1 a xs):Wk (Itl K a) xs.length H1 fun i x _=>xs[i]?=some x:=
 ⟨fun i H s hi=>⟨xs,xs[i],s.seq h,by simp[hi]⟩,fun H s=>⟨xs,s.seq h,zcg9 _⟩,fun i H x H' s _ y=>by
  obtain⟨e,y⟩:=y
  subst e
  exact⟨Same.refl _,y xs (s.seq h)⟩⟩
structure zas6(H1 H:Hp)(acc:Addr)(ps:List Addr)(n:Nat)(f:Nat->HO):Prop where
 facc:H1 acc=none
 same:Same H1 H
 out:H acc=some (.lst (ps.map V.ref))
 len:ps.length=n
 nd:ps.Nodup
 nin:acc ∉ ps
 row:∀ i p,ps[i]?=some p->H1 p=none/\H p=some (f i)
theorem zas6.some{H1 H:Hp}{acc:Addr}{ps:List Addr}{n:Nat}{f:Nat->HO}(F:zas6 H1 H acc ps n f){i:Nat}(hi:i<n):∃ p,ps[i]?=.some p/\H p=.some (f i):=by
 have hl:i<ps.length:=by rw[F.len];exact hi
 exact⟨ps[i],zcf3 hl,(F.row i _ (zcf3 hl)).2⟩
section
variable {K:zcf5}{g:TG}{tt:TT}{te:TE}{σ0:St}{H1:Hp}{Q:VK}{J:It}{n:Nat}{X:Nat->V->Hp->Prop}
theorem zaa8(w:Wk J n H1 X)(hn:n<sizeLine)(f:Nat->HO)(Ps:Nat->St->Prop)(h0:Ps 0 σ0)(turn:∀ i x σ H (R:St->V->Hp->Prop) (S:St->Hp->Prop),i<n->Same H1 H->X i x H->Ps i σ->(∀ σ2 p H5,H p=none->Same H H5->H5 p=some (f i)->Ps (i+1) σ2->R σ2 (.ref p) H5)->g x σ H fun σ2 H3=>tt σ2 H3 fun b H4=>br b (te σ2 H4 fun v H5=>R σ2 v H5) (S σ2 H4))(fin:∀ acc ps H,zas6 H1 H acc ps n f->Q (.ref acc) H):zv2 J g tt te σ0 H1 Q:=by
 unfold zv2
 intro acc H2 hf hs ha
 refine⟨fun i m ys σ H=>m=n - i/\i<=n/\∃ ps:List Addr,ys=ps.map V.ref/\zas6 H1 H acc ps i f/\Ps i σ,⟨n,by simp,zci0 _,[],rfl,⟨hf,hs,ha,rfl,List.nodup_nil,by simp,fun i p e=>by simp at e⟩,h0⟩,?_⟩
 rintro i m ys σ H ⟨rfl,hi,ps,rfl,F,P⟩
 refine⟨F.out,by rw[zcf4,F.len];omega,?_⟩
 by_cases hlt:i<n
 ·refine .inr ⟨w.go i H F.same hlt,fun x H' y=>?_⟩
  obtain⟨s1,x1⟩:=w.yld i H x H' F.same hlt y
  refine turn i x σ H' (fun σ2 v H5=>cPut _ acc (ps.map V.ref) i (n - i) σ2 v H5) (fun σ2 H4=>zai2 _ (ps.map V.ref) i (n - i) σ2 H4) hlt (F.same.trans s1) x1 P ?_
  intro σ2 p H5 fp s5 hp P2
  have fp0:H p=none:=s1.free fp
  have s15:=s1.trans s5
  have na:p≠acc:=Ne.symm (za5 F.out fp0)
  unfold cPut
  refine⟨s15 _ _ F.out,fun H6 c6 h6=>⟨n - (i+1),by omega,rfl,hlt,ps++[p],by rw[zci6];rfl,⟨F.facc,(F.same.trans s15).chg F.facc c6,by rw[zci6];exact h6,by rw[zcg2,F.len];rfl,?_,?_,?_⟩,P2⟩⟩
  ·rw[List.nodup_append]
   refine⟨F.nd,by simp,fun a ha b hb=>?_⟩
   have:b=p:=by simpa using hb
   subst this
   obtain⟨k,hk⟩:=zci9 ha
   exact za5 (F.row k a hk).2 fp0
  ·intro hz
   rcases zch7.mp hz with hz|hz
   ·exact F.nin hz
   ·exact na (by simpa using hz:acc=p).symm
  ·intro k q e
   by_cases hk:k<ps.length
   ·rw[zck3 hk] at e
    obtain⟨z1,z2⟩:=F.row k q e
    exact⟨z1,c6 _ _ (fun z=>F.nin (z▸zcf8 e)) (s15 _ _ z2)⟩
   ·rw[zcj6 (by omega)] at e
    have hk2:k - ps.length=0:=by
     have:=(zcf6.mp e).1
     simp at this;omega
    rw[hk2] at e
    have:p=q:=by simpa using e
    subst this
    have:k=i:=by have:=F.len;omega
    subst this
    exact⟨F.same.free fp0,c6 _ _ na hp⟩
 ·have e:i=n:=by omega
  subst e
  exact .inl ⟨w.stop H F.same,fin acc ps H F⟩
theorem zu9(w:Wk J n H1 X)(hn:n<sizeLine)(f:Nat->V)(p:Nat->Bool)(Ps:Nat->St->Prop)(h0:Ps 0 σ0)(turn:∀ i x σ H (R:St->V->Hp->Prop) (S:St->Hp->Prop),i<n->Same H1 H->X i x H->Ps i σ->(p i=true->∀ σ2 H5,Same H H5->Ps (i+1) σ2->R σ2 (f i) H5)->(p i=false->∀ σ2 H5,Same H H5->Ps (i+1) σ2->S σ2 H5) ->
   g x σ H fun σ2 H3=>tt σ2 H3 fun b H4=>br b (te σ2 H4 fun v H5=>R σ2 v H5) (S σ2 H4))(fin:∀ acc H,H1 acc=none->Same H1 H->H acc=some (.lst (((List.range n).filter p).map f))->Q (.ref acc) H):zv2 J g tt te σ0 H1 Q:=by
 unfold zv2
 intro acc H2 hf hs ha
 refine⟨fun i m ys σ H=>m=n - i/\i<=n/\ys=((List.range i).filter p).map f/\Same H1 H/\H acc=some (.lst ys)/\Ps i σ,⟨n,by simp,zci0 _,rfl,hs,ha,h0⟩,?_⟩
 rintro i m ys σ H ⟨rfl,hi,rfl,s,hy,P⟩
 have hlen:(((List.range i).filter p).map f).length<=i:=by
  rw[zcf4]
  have:=List.length_filter_le p (List.range i)
  rwa [zcl8] at this
 refine⟨hy,by omega,?_⟩
 by_cases hlt:i<n
 ·refine .inr ⟨w.go i H s hlt,fun x H' y=>?_⟩
  obtain⟨s1,x1⟩:=w.yld i H x H' s hlt y
  refine turn i x σ H' (fun σ2 v H5=>cPut _ acc _ i (n - i) σ2 v H5) (fun σ2 H4=>zai2 _ _ i (n - i) σ2 H4) hlt (s.trans s1) x1 P ?_ ?_
  ·intro hp σ2 H5 s5 P2
   unfold cPut
   refine⟨s5 _ _ (s1 _ _ hy),fun H6 c6 h6=>⟨n - (i+1),by omega,rfl,hlt,?_,((s.trans s1).trans s5).chg hf c6,h6,P2⟩⟩
   rw[List.range_succ,List.filter_append,zci6]
   congr 1
   simp[hp]
  ·intro hp σ2 H5 s5 P2
   unfold zai2
   refine⟨n - (i+1),by omega,rfl,hlt,?_,(s.trans s1).trans s5,s5 _ _ (s1 _ _ hy),P2⟩
   rw[List.range_succ,List.filter_append,zci6]
   simp[hp]
 ·have e:i=n:=by omega
  subst e
  exact .inl ⟨w.stop H s,fin acc H hf s hy⟩
theorem zm7(n:Nat):(List.range n).filter (fun _=>true)=List.range n:=by simp
end
theorem EqR.intL{K:zcf5}{a b:Addr}{xs ys:List Int}(ha:SqL K H a (xs.map V.int))(hb:SqL K H b (ys.map V.int)):EqR K H 1 (.ref a) (.ref b) (decide (xs=ys)):=by
 by_cases hl:xs.length=ys.length
 ·have h:=EqR.lst (K:=K) (H:=H) (n:=0) (fun j=>decide (xs[j]?=ys[j]?)) ha hb (by simpa using hl) (fun j x y hx hy=>by
   rw[zcf9] at hx hy
   obtain⟨i,e1,rfl⟩:=zcg5.mp hx
   obtain⟨k,e2,rfl⟩:=zcg5.mp hy
   have e:eqV (.int i) (.int k)=decide (xs[j]?=ys[j]?):=by
    rw[e1,e2]
    by_cases z:i=k
    ·subst z;simp[eqV]
    ·simp[eqV,z]
   rw[← e]
   exact EqR.flat rfl rfl)
  have e:(List.range (xs.map V.int).length).all (fun j=>decide (xs[j]?=ys[j]?))=decide (xs=ys):=by
   rw[zck5,zcg8,decide_eq_true_iff]
   constructor
   ·intro q
    apply zco8
    intro j
    by_cases hj:j<xs.length
    ·exact of_decide_eq_true (q j (zci3.mpr (by simpa using hj)))
    ·rw[zck2 (by omega),zck2 (by omega)]
   ·rintro rfl j _
    exact decide_eq_true rfl
  rw[e] at h
  exact h
 ·have:decide (xs=ys)=false:=decide_eq_false fun e=>hl (by rw[e])
  rw[this]
  exact EqR.lstN ha hb (by simpa using hl)
def Itd(hi:Int)(n:Nat):It:=⟨fun i _=>i<n,fun i H x H'=>H'=H/\x=.int (hi - i),fun i _=>n<=i⟩
section
variable {X:Cx}{tg:Expr}
@[irreducible] def zby3(i j:Int)(H:Hp)(R:It->Hp->Prop):Prop:=(-(2 ^ 62)<=i/\i<2 ^ 62/\-(2 ^ 62)<=j/\j<2 ^ 62)/\R (Itd i (i - j).toNat) H
def qiRngD(ta:TA):TI:=fun σ H R=>ta σ H fun vs H1=>match vs with
 | [.int i,.int j,.int (-1)]=>zby3 i j H1 R
 | _=>False
end
section
variable {X:Cx}{K:zcf5}
def qBM0(K:zcf5)(r:Addr->List V->Hp->VK->Prop)(to:TE):TE:=fun σ H Q=>to σ H fun x H1=>match x with
 | .ref p=>zam7 K p H1 (r p [] H1 Q)
 | _=>False
theorem zaw1{α β:Type}{f g:α->Option β}:∀ {l:List α},(∀ a∈l,f a=g a)->l.filterMap f=l.filterMap g
 | [],_=>rfl
 | a :: l,h=>by
  rw[zcn6,zcn6,h a zck4,zaw1 fun b hb=>h b (zcj9 _ hb)]
theorem zag1(its:List Value):slicePick its.toArray none none (some (-1))=its.reverse.toArray:=by
 unfold slicePick sliceBounds sliceRange
 simp only[Option.getD_some,show ¬ (-1:Int)>0 by decide,if_false,zcg1]
 by_cases h0:its.length=0
 ·have:its=[]:=zcn5.mp h0
  subst this
  rfl
 ·have hgt:((its.length:Int) - 1) > -1:=by omega
  simp only[hgt,if_true]
  have e1:(((its.length:Int) - 1 - -1 - -1 - 1) / (- -1)).toNat=its.length:=by
   rw[show -(-1:Int)=1 by decide,Int.ediv_one];omega
  rw[e1]
  congr 1
  rw[List.filterMap_map]
  have hk:∀ k∈List.range its.length,((fun x=>its.toArray[x]?)∘fun k:Nat=>((its.length:Int) - 1+-1*(k:Int)).toNat) k=(some∘fun k=>its.getD (its.length - 1 - k) .none) k:=fun k hk=>by
   have hk:=zci3.mp hk
   show its.toArray[((its.length:Int) - 1+-1*(k:Int)).toNat]?=some (its.getD (its.length - 1 - k) .none)
   rw[show ((its.length:Int) - 1+-1*(k:Int)).toNat=its.length - 1 - k by omega,List.getElem?_toArray,zcg0,zcf3 (by omega)]
   rfl
  rw[zaw1 hk,List.filterMap_eq_map]
  apply zco8
  intro i
  by_cases hi:i<its.length
  ·rw[zcf9,zcn8 hi,List.getElem?_reverse hi,zcf3 (by omega)]
   show some (its.getD (its.length - 1 - i) .none)=_
   rw[zcg0,zcf3 (by omega)]
   rfl
  ·rw[zck2 (by simp;omega),zck2 (by simp;omega)]
@[irreducible] def rRvA(K:zcf5)(a:Addr)(H:Hp)(Q:VK):Prop:=∃ xs,SqL K H a xs/\∀ p H',H p=none->Same H H'->H' p=some (.lst xs.reverse)->Q (.ref p) H'
def qRv(K:zcf5)(te:TE):TE:=fun σ H Q=>te σ H fun x H1=>match x with
 | .ref a=>rRvA K a H1 Q
 | _=>False
theorem peRv{e:Expr}{p1 p2 p3 pos:Pos}(hK:X.K=K)(he:PE X e te):PE X (.Subscript e (.Slice none none (some (.UnaryOp .USub (.Constant (.int 1) 0 p1) p3)) p2) pos) (qRv K te):=by
 subst hK
 intro pins s σ H Q I h
 refine Subscript_ (thn (he pins s σ H _ I h) fun v s1 ⟨x,H1,I1,r1,q1⟩=>?_)
 dsimp only at q1
 split at q1
 case h_2=>exact q1.elim
 rename_i a
 unfold rRvA at q1
 obtain⟨xs,hx,q⟩:=q1
 refine wpAny_Slice ?_
 rw[evalPart_none]
 refine zcp7 (zcp7 ?_)
 rw[evalPart_some]
 refine thn (pe_un (X:=X) uNeg za2 pins s1 σ H1 (fun y H2=>y=.int (-1)/\H2=H1) I1 ⟨rfl,rfl⟩) fun u s2 ⟨y,H2,I2,r2,q2⟩=>?_
 obtain⟨rfl,rfl⟩:=q2
 obtain⟨t,rfl⟩:=r2
 cases r1
 have I4:Inv X pins σ H2 { s2 with heap:=s2.heap.push { cls:=.type "slice",data:=.fields #[.none,.none,.int (-1) t] } }:=I2.kept (t':=s2.toks) fun b ob q=>zcf7 _ q
 obtain⟨its,r,ht,hz⟩:=I4.list hx
 have hlen:=r.length
 refine tail_any (ops:=[.ref a,.ref s2.heap.objs.size]) ht.isList.typeIs F.slot_list_getitem.lookup ?_ (by with_unfolding_all rfl)
 refine wpAny_getItem_list_slice ht.isList (Heap.IsSliceOf.new ..) .none .none (.int (-1) t) (by simp) ?_ (by rw[zcg1]<;>omega)
 rw[zag1]
 have hf:=I4.hok.fresh (zcg9 _)
 refine⟨.ref _,_,I4.laid (t':=s2.toks) (o:=.lst xs.reverse) (fun b ob q=>zcf7 _ q) (zcg9 _) ?_,rfl,q _ _ hf (Same.upd hf) zb1⟩
 exact⟨by rw[List.length_reverse];exact hz,_,0,r.reverse,zch5 _ rfl⟩
theorem rv_rd{a:Addr}(h:SqL K H a xs)(q:∀ p H',H p=none->Same H H'->H' p=some (.lst xs.reverse)->Q (.ref p) H'):rRvA K a H Q:=by unfold rRvA;exact⟨xs,h,q⟩
@[irreducible] def rMinL(K:zcf5)(p:Addr)(H:Hp)(Q:VK):Prop:=∃ ns:List Int,SqL K H p (ns.map V.int)/\0<ns.length/\∀ M:Int,M∈ns->(∀ a∈ns,M<=a)->Q (.int M) H
def zbs0(K:zcf5):List V->Hp->VK->Prop:=fun xs H Q=>match xs with
 | [.ref p]=>rMinL K p H Q
 | [.int i,.int j]=>Q (.int (if j<i then j else i)) H
 | _=>False
theorem cMinK(hK:X.K=K)(hc:X.calm=true):zi8 X (.builtin "min") (zbs0 K):=by
 subst hK
 intro pins s σ H xs us Q I r h
 unfold zbs0 at h
 split at h
 ·unfold rMinL at h
  obtain⟨ns,h1,h2,h3⟩:=h
  obtain⟨u,rfl,rx⟩:=zv7 r
  cases rx
  obtain⟨its,r',pl,hz⟩:=I.list h1
  have hi:=zw2 r'
  obtain⟨ys,hx⟩:=hi.allInts.items
  have e1:ns=ys.toList.map (·.1):=by
   rw[← nums_intItems,← hx]
   exact (show numsOf its.toArray.toList=ns from hi.numsOf).symm
  have hs:0<ys.size:=by
   have z:ns.length=ys.size:=by
    conv=>lhs;rw[e1]
    rw[zcf4,zcg7]
   omega
  have hl':s.heap.IsList _ (intItems ys):=hx▸pl.isList
  refine min_intList (I.ok.hd hc) hl' hs fun v h' tk hv hk=>?_
  obtain⟨t,rfl⟩:=intItems_at hv
  have best:=argBest_lt (numAt ys) (ys.size - 1)
  refine⟨.int _,H,I.kept hk,⟨t,rfl⟩,h3 _ ?_ fun a ha=>?_⟩
  ·rw[e1,numAt_eq]
   exact getD_mem (by rw[zcf4,zcg7];omega)
  ·rw[e1] at ha
   obtain⟨j,hj,rfl⟩:=mem_getD ha
   rw[zcf4,zcg7] at hj
   rw[← numAt_eq]
   exact best.2 j (by omega)
 ·exact zbl0 hc pins s σ H _ us Q I r ⟨_,_,rfl,h⟩
 ·exact h.elim
theorem ptW{e:Expr}{t:TT}(h:PW X e t):PT X e t:=h.pt
end
def zbv5(o:Obj):Bool:=match o.data with
 | .cls cd=>cd.name=="NoText"
 | _=>false
def Chd(B:Heap)(cls:Value):Prop:=∃ (C:Addr) (o:Obj),cls=.ref C/\B.get? C=some o/\zbv5 o=true
def ExAt(B h:Heap)(e:Addr)(cls:Value)(dx:Option Addr):Prop:=
 ∃ (oe:Obj) (vs:Array Value),h.get? e=some oe/\oe.cls=cls/\oe.dict=dx/\oe.data=.fields vs/\1<vs.size /\
  (vs[1]?=some .none∨∃ (T:Addr) (oT:Obj) (ts:Array Value),vs[1]?=some (.ref T)/\B.get? T=none/\T≠e/\h.get? T=some oT/\oT.data=.fields ts/\3<ts.size/\ts[3]?=some .none)/\(vs[2]?=some .none∨Chd B cls)
def Th(h h':Heap):Prop:=∀ b o,h.get? b=some o->∃ o',h'.get? b=some o'
structure FlyX(B:Heap)(l:List Env)(e:Addr)(cls:Value)(dx:Option Addr)(h:Heap):Prop where
 stays:B.StaysIn h
 new:B.get? e=none
 frames:h.FunFrames B l
 ex:ExAt B h e cls dx
section
variable {M:Model}{A:Around}{E:Value->Shared->Prop}{s:Shared}{B:Heap}{env:Env}{outer:List Env}{L e:Addr}{cls:Value}{dx:Option Addr}{Q:Unit->Shared->Prop}
theorem zz0(f:Array Value->Array Value)(o:Obj):(Obj.mapFields f o).cls=o.cls/\(Obj.mapFields f o).dict=o.dict:=by
 obtain⟨c,d,dt,sl⟩:=o
 cases dt<;>exact⟨rfl,rfl⟩
theorem zam1{head:Value}{hn:Bool}{oe:Obj}{vs:Array Value}(hfr:A.frames=some (env :: outer))(hf:env.frame=some L)(f1:B.StaysIn s.heap)(f2:B.get? e=none)(f3:s.heap.FunFrames B (env :: outer))(he:s.heap.get? e=some oe)(hc:oe.cls=cls)(hdx:oe.dict=dx)(hd:oe.data=.fields vs)(hsz:1<vs.size)(h2c:vs[2]?=some .none∨Chd B cls)(hQ:∀ h',FlyX B (env :: outer) e cls dx h'->s.heap.UpToSlots h'->Th s.heap h'->Q () { s with heap:=h' }) :
  wpAny M A (do let a ← frameOf env;let pl ← entryPlaceOf L hn;let b ← EntryCells.newEntry head a .none (rawInt L) .none pl;setField (.ref e) 1 b) (fun _ s1=>wpAny M A (setFlight (.ref e) none) Q E s1) E s:=by
 have hene:e ∉ (env :: outer).filterMap (·.frame):=fun hm=>by
  obtain⟨_,o,ho,hnf⟩:=f3.mem hm
  rw[he] at ho
  cases ho
  exact hnf vs hd
 refine zcp6 (wpAny_frameOf_fun hfr f3 hf fun g hg=>zcp6 (wpAny_entryPlaceOf fun pl hpl=>?_))
 refine zcp6 (wpAny_newObj_type ?_ (hpl.sizeOk5 _ _ _ _ _))
 have e1:g.get? e=some oe:=(hg.2.1 e hene).trans he
 have lt1:=zch1 e1
 generalize hO:({ cls:=.type "traceback",data:=.fields ([head,.ref L,.none,rawInt L,.none]++(if pl.isEmpty then List.replicate 6 Value.none else pl)).toArray }:Obj)=O
 have hOd:O.data=.fields ([head,.ref L,.none,rawInt L,.none]++(if pl.isEmpty then List.replicate 6 Value.none else pl)).toArray:=by rw[← hO]
 have hOz:3<([head,.ref L,.none,rawInt L,.none]++(if pl.isEmpty then List.replicate 6 Value.none else pl)).toArray.size:=by simp
 have hOf:O.isFreed=false:=by rw[← hO];rfl
 generalize ([head,.ref L,.none,rawInt L,.none]++(if pl.isEmpty then List.replicate 6 Value.none else pl)).toArray=ts at hOd hOz
 have e2:(g.push O).get? e=some oe:=zcf7 _ e1
 have t2:(g.push O).get? g.objs.size=some O:=zch5 _ hOf
 have nT:g.objs.size≠e:=zcp1 lt1
 refine wpAny_setField e2 hd hsz ?_
 have d3:=Obj.data_mapFields hd (fun a=>a.setIfInBounds 1 (Value.ref g.objs.size))
 have e3:=zcl7 (Obj.mapFields fun a=>a.setIfInBounds 1 (Value.ref g.objs.size)) e2 (Obj.isFreed_of_fields d3)
 have t3:=(zci7 (g.push O) (Obj.mapFields fun a=>a.setIfInBounds 1 (Value.ref g.objs.size)) (Ne.symm nT)).trans t2
 unfold setFlight
 refine zcp6 (wpAny_field e3 d3 (x:=.ref g.objs.size) (by simp[hsz]) ?_)
 rw[if_pos (by simp)]
 refine wpAny_setField t3 hOd hOz (hQ _ ?_ ?_ ?_)
 ·have kp:∀ b o,b≠e->g.get? b=some o->(((g.push O).update e (Obj.mapFields fun a=>a.setIfInBounds 1 (Value.ref g.objs.size))).update g.objs.size (Obj.mapFields fun a=>a.setIfInBounds 3 Value.none)).get? b=some o:=fun b o hb hz=>by
   rw[zci7 _ _ (zcp1 (zch1 hz)),zci7 _ _ (Ne.symm hb)]
   exact zcf7 _ hz
  have d4:=Obj.data_mapFields hOd (fun a=>a.setIfInBounds 3 Value.none)
  have t4:=zcl7 (Obj.mapFields fun a=>a.setIfInBounds 3 Value.none) t3 (Obj.isFreed_of_fields d4)
  have e4:=(zci7 ((g.push O).update e (Obj.mapFields fun a=>a.setIfInBounds 1 (Value.ref g.objs.size))) (Obj.mapFields fun a=>a.setIfInBounds 3 Value.none) nT).trans e3
  have pf:=zz0 (fun a=>a.setIfInBounds 1 (Value.ref g.objs.size)) oe
  refine⟨fun b o hb=>kp b o (fun z=>by rw[z,f2] at hb;cases hb) ((hg.2.1 b fun hm=>by rw[(f3.mem hm).1] at hb;cases hb).trans (f1 b o hb)),f2,f3.of_keeps fun b o hb hnf=>?_,_,_,e4,pf.1.trans hc,pf.2.trans hdx,d3,by simpa using hsz,.inr ⟨_,_,_,by simp[hsz],?_,nT,t4,d4,by simpa using hOz,by simp[hOz]⟩,h2c.imp (fun z=>by rw[Array.getElem?_setIfInBounds_ne (by decide)];exact z) id⟩
  ·obtain⟨sl,hs⟩:=hg.2.2 b o hb
   refine⟨_,kp b _ (fun z=>?_) hs,rfl⟩
   rw[z,he] at hb
   cases hb
   exact hnf vs hd
  ·cases q:B.get? g.objs.size with
   | none=>rfl
   | some o=>
    have z1:=f1 _ _ q
    have z2:=(hg.2.1 _ fun hm=>by rw[(f3.mem hm).1] at q;cases q).trans z1
    exact absurd (zch1 z2) (zcm3 _)
 ·intro b o hb hnf
  obtain⟨sl,hs⟩:=hg.2.2 b o hb
  refine⟨sl,?_⟩
  rw[zci7 _ _ (zcp1 (zch1 hs)),zci7 _ _ (fun z=>?_)]
  ·exact zcf7 _ hs
  ·rw[← z,he] at hb
   cases hb
   exact hnf vs hd
 ·intro b o hb
  by_cases hbe:b=e
  ·subst hbe
   exact⟨_,(zci7 _ _ nT).trans e3⟩
  ·obtain⟨sl,hs⟩:=hg.2.2 b o hb
   refine⟨{ o with slots:=sl },?_⟩
   rw[zci7 _ _ (zcp1 (zch1 hs)),zci7 _ _ (Ne.symm hbe)]
   exact zcf7 _ hs
theorem zar4(hfr:A.frames=some (env :: outer))(hf:env.frame=some L)(F:FlyX B (env :: outer) e cls dx s.heap)(hQ:∀ h',FlyX B (env :: outer) e cls dx h'->s.heap.UpToSlots h'->Th s.heap h'->Q () { s with heap:=h' }):wpAny M A (noteFrame (.ref e) env) (fun _ s1=>wpAny M A (setFlight (.ref e) none) Q E s1) E s:=by
 obtain⟨f1,f2,f3,oe,vs,he,hc,hdx,hd,hsz,hT,h2c⟩:=F
 unfold noteFrame
 rw[hf]
 rcases hT with h1|⟨T,oT,ts,h1,bT,nT,gT,dT,zT,vT⟩
 ·refine zcp6 (wpAny_field he hd h1 ?_)
  dsimp only
  rw[if_neg (by simp)]
  exact zam1 hfr hf f1 f2 f3 he hc hdx hd hsz h2c hQ
 ·refine zcp6 (wpAny_field he hd h1 ?_)
  dsimp only
  rw[if_pos (by simp)]
  refine zcp6 (wpAny_field gT dT vT ?_)
  rw[if_neg (by simp[rawInt])]
  refine zcp6 (wpAny_setField gT dT zT ?_)
  have ne:∀ b o,s.heap.get? b=some o->(∀ vs,o.data≠.fields vs)->b≠T:=fun b o hb hnf z=>by
   rw[z,gT] at hb
   cases hb
   exact hnf ts dT
  have kp:∀ b o,b≠T->s.heap.get? b=some o->(s.heap.update T (Obj.mapFields fun a=>a.setIfInBounds 3 Value.none)).get? b=some o:=fun b o hb hz=>by
   rw[zci7 _ _ (Ne.symm hb)];exact hz
  refine zam1 (s:={ s with heap:=s.heap.update T (Obj.mapFields fun a=>a.setIfInBounds 3 Value.none) }) hfr hf (fun b o hb=>kp b o (fun z=>by rw[z,bT] at hb;cases hb) (f1 b o hb)) f2 (f3.of_keeps fun b o hb hnf=>⟨o,kp b o (ne b o hb hnf) hb,rfl⟩)
   (kp e oe (Ne.symm nT) he) hc hdx hd hsz h2c fun h' F' U W=>hQ h' F' (fun b o hb hnf=>U b o (kp b o (ne b o hb hnf) hb) hnf) fun b o hb=>?_
  by_cases hbT:b=T
  ·subst hbT
   exact W b _ (zcl7 (Obj.mapFields fun a=>a.setIfInBounds 3 Value.none) gT (Obj.isFreed_of_fields (Obj.data_mapFields dT _)))
  ·exact W b o (kp b o hbT hb)
theorem zbv3(F:FlyX B outer e cls dx s.heap)(hQ:∀ h',FlyX B outer e cls dx h'->s.heap.UpToSlots h'->Th s.heap h'->Q () { s with heap:=h' }):wpAny M A (setFlight (.ref e) none) Q E s:=by
 obtain⟨f1,f2,f3,oe,vs,he,hc,hdx,hd,hsz,hT,h2c⟩:=F
 unfold setFlight
 rcases hT with h1|⟨T,oT,ts,h1,bT,nT,gT,dT,zT,vT⟩
 ·refine zcp6 (wpAny_field he hd h1 ?_)
  rw[if_neg (by simp)]
  exact zcp7 (hQ s.heap ⟨f1,f2,f3,oe,vs,he,hc,hdx,hd,hsz,.inl h1,h2c⟩ (Heap.UpToSlots.refl _) fun b o hb=>⟨o,hb⟩)
 ·refine zcp6 (wpAny_field he hd h1 ?_)
  rw[if_pos (by simp)]
  refine wpAny_setField gT dT zT ?_
  have kp:∀ b o,b≠T->s.heap.get? b=some o->(s.heap.update T (Obj.mapFields fun a=>a.setIfInBounds 3 Value.none)).get? b=some o:=fun b o hb hz=>by
   rw[zci7 _ _ (Ne.symm hb)];exact hz
  have ne:∀ b o,s.heap.get? b=some o->(∀ vs,o.data≠.fields vs)->b≠T:=fun b o hb hnf z=>by
   rw[z,gT] at hb
   cases hb
   exact hnf ts dT
  have d4:=Obj.data_mapFields dT (fun a=>a.setIfInBounds 3 Value.none)
  have t4:=zcl7 (Obj.mapFields fun a=>a.setIfInBounds 3 Value.none) gT (Obj.isFreed_of_fields d4)
  exact hQ _ ⟨fun b o hb=>kp b o (fun z=>by rw[z,bT] at hb;cases hb) (f1 b o hb),f2,f3.of_keeps fun b o hb hnf=>⟨o,kp b o (ne b o hb hnf) hb,rfl⟩,oe,vs,kp e oe (Ne.symm nT) he,hc,hdx,hd,hsz,
   .inr ⟨T,_,_,h1,bT,nT,t4,d4,by simpa using zT,by simp[zT]⟩,h2c⟩ (fun b o hb hnf=>⟨o.slots,kp b o (ne b o hb hnf) hb⟩) fun b o hb=>(Classical.em (b=T)).elim (fun z=>by subst z;exact⟨_,t4⟩) fun z=>⟨o,kp b o z hb⟩
theorem zbg9(hfr:A.frames=some (env :: outer))(hf:env.frame=some L)(F:FlyX B (env :: outer) e cls dx s.heap)(hQ:∀ h',FlyX B outer e cls dx h'->s.heap.UpToSlots h'->Th s.heap h'->Q () { s with heap:=h' }):wpAny M A (leaving env (.ref e)) Q E s:=by
 unfold leaving
 exact zcp6 (zar4 hfr hf F fun h' F' U W=>hQ h' ⟨F'.stays,F'.new,F'.frames.2.2,F'.ex⟩ U W)
end
structure zw6(X:Cx)(pins:List (Addr×Obj))(σ:St)(H:Hp)(B:Heap)(e:Addr)(cls:Value)(dx:Option Addr)(s:Shared):Prop where
 inv:Inv X pins σ H s
 hok:HOk X.prog X.w H B
 fly:FlyX B X.stack e cls dx s.heap
 kb:∀ b o,X.s₀.heap.get? b=some o->X.H₀ b=none->b ∉ X.fs->b ∉ X.ex->B.get? b=some o
 en:∀ o,X.s₀.heap.get? e=some o->e∈X.ex
def CXR(P:Program)(w:World):CXT:=fun outer H s E e s'=>∃ (ea:Addr) (cls:Value) (dx:Option Addr) (H':Hp) (B:Heap),e=.ref ea/\s'.os=s.os/\AllBare s'.gens/\HOk P w H' B/\FlyX B outer ea cls dx s'.heap /\
 Un (frs outer) [] H H' s.heap s'.heap/\(∀ b o,s.heap.get? b=some o->H b=none->b ∉ frs outer->B.get? b=some o)/\(∀ o,s.heap.get? ea≠some o)/\E cls dx H'
section
variable {X:Cx}{pins:List (Addr×Obj)}{σ:St}{H:Hp}{s s':Shared}
theorem zab8(I:Inv X pins σ H s){b:Addr}{o:Obj}(e:X.s₀.heap.get? b=some o)(h:b ∉ X.fs):b ∉ frs X.stack:=fun hm=>by
 rcases zcg6.mp (I.stkSub b hm) with z|z
 ·exact absurd (zch3 (zch1 e) I.ok.above) (by rw[z];exact zcm3 _)
 ·exact h z
theorem zw6.of_call{E:XK}{e:Value}(I:Inv X pins σ H s)(h:CXR X.prog X.w X.stack H s E e s'):∃ (ea:Addr) (cls:Value) (dx:Option Addr) (H':Hp) (B:Heap),e=.ref ea/\zw6 X pins σ H' B ea cls dx s'/\E cls dx H':=by
 obtain⟨ea,cls,dx,H',B,rfl,os,bare,hok,fly,un,kb,en,hE⟩:=h
 refine⟨ea,cls,dx,H',B,rfl,⟨I.call' os un (hok.kept fly.stays) bare (fun b hb=>absurd hb (by simp)),hok,fly,fun b o e n h1 h2=>?_,fun o e=>?_⟩,hE⟩
 ·have k:=I.base.keep b o e n h1 h2
  exact kb b o k (I.base.free b o e n h2) (zab8 I e h1)
 ·apply Classical.byContradiction
  intro hx
  obtain⟨o',k⟩:=I.base.there ea o e hx
  exact en o' k
theorem zw6.of_raise{e:Addr}{cls:Value}{args:List Value}{h':Heap}{t':Nat}(I:Inv X pins σ H s)(m:Heap.MadeExcOf s.heap h' e cls args):zw6 X pins σ H (PySem.W.hideAll s.heap (frs X.stack)) e cls none { s with heap:=h',toks:=t' }:=by
 have nofr:∀ b o,H b=some o->b ∉ frs X.stack:=fun b o hb hm=>by rw[I.stkFree b hm] at hb;cases hb
 refine⟨I.kept m.keeps,fun a o ha=>?_,⟨fun b o hb=>m.keeps _ _ (PySem.W.of_hideAll _ hb),?_,?_,?_⟩,fun b o e n h1 h2=>?_,fun o hz=>?_⟩
 ·refine (I.hok a o ha).stay (fun b u hb hu=>PySem.W.hideAll_get _ hu ?_) (fun _ q=>q) fun _ _ q=>q
  rcases hb with rfl|hb
  ·exact nofr _ _ ha
  ·exact nofr _ _ hb
 ·cases q:(PySem.W.hideAll s.heap (frs X.stack)).get? e with
  | none=>rfl
  | some o=>
   have:=PySem.W.of_hideAll _ q
   rw[m.new] at this
   cases this
 ·refine Heap.FunFrames.of_keeps (fun b o hb _=>⟨o,m.keeps b o hb,rfl⟩) (PySem.W.funFrames_hide I.stack fun env he a hf=>?_)
  exact zco4.mpr ⟨env,he,hf⟩
 ·obtain⟨t,h1,_,_⟩:=m.there
  exact⟨_,_,h1,rfl,rfl,rfl,by simp,.inl rfl,.inl rfl⟩
 ·exact PySem.W.hideAll_get _ (I.base.keep b o e n h1 h2) (zab8 I e h1)
 ·apply Classical.byContradiction
  intro hx
  obtain⟨o',k⟩:=I.base.there _ o hz hx
  rw[m.new] at k
  cases k
def XOut(X:Cx)(E:XK):Prop:=∀ (pins:List (Addr×Obj)) (σ:St) (H:Hp) (B:Heap) (e:Addr) (cls:Value) (dx:Option Addr) (s:Shared),zw6 X pins σ H B e cls dx s->E cls dx H->X.xe (.ref e) s
theorem passR{E:XK}(hx:XOut X E):zam3 (CXR X.prog X.w) X E:=fun pins σ H s e s' I h=>by
 obtain⟨ea,cls,dx,H',B,rfl,F,hE⟩:=zw6.of_call I h
 exact hx _ _ _ _ _ _ _ _ F hE
end
theorem xout{P:Program}{w:World}{K:zcf5}{mg:Str->Option Value}{base:Heap}{N:List Str}{cd:Value}{A:Around}{outer:List Env}{s:Shared}{E:XK} :
  XOut (cxOf (CXR P w) P w K mg base N qual scope f cd A outer s H E) E:=fun pins σ H' B e cls dx s' F hE=>by
 have I:=F.inv
 refine zbg9 (outer:=outer) I.ok.frames (rfl:(envOfC qual scope s.heap.objs.size f cd).frame=some s.heap.objs.size) F.fly fun h' F' U W=>?_
 have kb:∀ b o,s.heap.get? b=some o->H b=none->b ∉ frs outer->B.get? b=some o:=fun b o e n h1=>F.kb b o e n h1 (by exact zcj2)
 refine⟨e,cls,dx,H',B,rfl,I.os,I.bare,F.hok,F',?_,kb,fun o z=>absurd (F.en o z) (by exact zcj2),hE⟩
 have un:Un (frs outer) [] H H' s.heap s'.heap:=I.base
 refine⟨fun b o e n h1 _=>F'.stays _ _ (kb b o e n h1),fun b o e n h1 h2=>?_,un.free,fun b o e h2=>?_,un.tups,un.frzs,un.tbls⟩
 ·obtain⟨sl,k⟩:=un.slot b o e n h1 h2
  obtain⟨_,o2,ho2,hd⟩:=I.ok.funs.mem h1
  have:o2=o:=Option.some.inj (ho2.symm.trans e)
  subst this
  obtain⟨sl',k'⟩:=U b _ k hd
  exact⟨sl',k'⟩
 ·obtain⟨o',k⟩:=un.there b o e h2
  exact W b o' k
section
variable {X:Cx}{x:Str}{C:Addr}{bm:List Value}{B newId initId:String}{np cpos pos:Pos}{e₀:Expr}{rest:List Expr}{t:TA}{E:XK}
def qRaise(C:Addr)(E:XK)(t:TA):TS:=fun _ σ H=>t σ H fun vs H1=>vs.length<=sizeLine/\E (.ref C) none H1
theorem zbx9(O:OwnCls x C bm newId X.mg X.base)(FB:ExcBaseFacts B newId initId bm)(hc:X.calm=true)(hout:XOut X E)(ha:PA X (e₀ :: rest) t)(hg:Gl X x:=by rfl)(hd:(x==("__debug__":Str))=false:=by decide)(he:starEach (e₀ :: rest) X.env=(false,eval e₀ X.env) :: starEach rest X.env:=by rfl)(hpl:(backTo cpos (starEach rest X.env)).any (·.1)=false:=by rfl) :
  PS X (.Raise (some (.Call (.Name x np) (e₀ :: rest) [] cpos)) none pos) (qRaise C E t):=by
 intro pins s σ H D I h
 obtain⟨tl,N,nm,q,bs,hdct,sn,sub,ab,col,dd,k0,k1,k2,k3,k5,mN,hC,hN,hni,T⟩:=O.obj
 refine wpAny_Raise_call_subT (C:=C) (nm:=nm) (q:=q) (N:=N) (bs:=bs) (bm:=tl) (hdct:=hdct) (sn:=sn) (sub:=sub) (ab:=ab) (col:=col) (dd:=dd) (k0:=k0) (k1:=k1) (k2:=k2) (k3:=k3) (k5:=k5) FB (mN:=mN)
  (T.hasType FB.hasBase) (I.ok.hd hc) (by rw[he];show (false || (backTo cpos (starEach rest X.env)).any (·.1))=false;rw[hpl];rfl) hni (zac6 I hg O.bound ⟨rfl,?_⟩ hd)
 have hA:=ha cpos pins s σ H _ I h
 rw[he] at hA ⊢
 refine Calls.evalArgs_plain (thn hA fun us s2 ⟨vs,H1,I1,r,hz,q⟩=>⟨rfl,by rw[← r.length];exact hz,I1.bk _ _ hC,hN.keeps I1.bk,T.keeps I1.bk,fun h' e m=>?_⟩)
 exact hout _ _ _ _ _ _ _ _ (zw6.of_raise (t':=s2.toks) I1 m) q
end
section
variable {P:Program}{w:World}{K:zcf5}{mg:Str->Option Value}{base:Heap}
theorem Fun.okR{x:Str}{fd:FuncData}{N:List Str}{k:Nat}(F:Fun K x qual st f fd)(S:zb7 N ps (za7 st))(len:∀ vs H Q E,sp vs H Q E->vs.length=ps.length)(hbody:∀ (cdv:Value) (A:Around) (outer:List Env) (s:Shared) (H:Hp) (vs:List V) (Q:VK) (E:XK),Room k (A.deeper (envOfC qual (za7 st) s.heap.objs.size f cdv))->XOut (cxOf (CXR P w) P w K mg base N qual (za7 st) f cdv A outer s H E) E->sp vs H Q E ->
   ∃ t,PSs (cxOf (CXR P w) P w K mg base N qual (za7 st) f cdv A outer s H E) (zj0 st) t/\t { nx:=fun _ H'=>Q .non H',rt:=Q } (zad9 N vs) H):FnOk P w K mg base (CXR P w) (k+1) f fd ps sp:=by
 obtain⟨oc,od,kV,doc,pm,an,cdv,ct,osl,rfl,lk,hcd⟩:=F.ex
 refine fn_of lk hcd S len fun A outer s H vs Q E hr hsp=>?_
 exact hbody cdv A outer s H vs Q E hr xout hsp
end
set_option maxHeartbeats 4000000
structure ExcK(K:zcf5)(D:Addr):Prop where
 h1:zcn2 K (.ref D) "__getattribute__"=some (some (.builtin "BaseException.__getattribute__"))
 h2:zcn2 K (.ref D) "__getattr__"=some none
 h3:zcn2 K (.ref D) "__class__"=some (some (.builtin "object.__class__"))
 h4:zck1 K (.ref D) (.type "BaseException")=some true
 h5:PySem.W.mroIn K D (.type "object")=some true
def ExcIs(e:Addr)(cls:Value)(dx:Option Addr)(h:Heap):Prop:=∃ (oe:Obj) (vs:Array Value),h.get? e=some oe/\oe.cls=cls/\oe.dict=dx/\oe.data=.fields vs
section
open PySem.W PySem.Calls
theorem zbk7{prog:Program}{w:World}{A:Around}{E:Value->Shared->Prop}{K:Frag}{e:Addr}{h:Heap}{g d t os}{Q:Option Value->Shared->Prop}(X:K.In h)(x:ExcIs e (.ref D) none h)(k:ExcK K D)(hq:Q (some (.ref D)) ⟨h,g,d,t+1,os⟩):wpAny (model prog w) A (getAttr? (.ref e) "__class__") Q E ⟨h,g,d,t,os⟩:=by
 obtain⟨oe,vs,he,hc,hdx,hd⟩:=x
 obtain⟨h1,h2,h3,h4,h5⟩:=k
 have L0:Looks (model prog w) h (typeOf (.ref e)) (.ref D):=hc▸(Looks.ld he).andThen .now
 have L1:=looks_findIn (M:=model prog w) X h1
 have L2:=looks_findIn (M:=model prog w) X h2
 have L3:=looks_findIn (M:=model prog w) X h3
 have hx:(onTheHeap (Value.ref D)&&Value.builtin "BaseException.__getattribute__"==Value.builtin "object.__getattribute__")=false:=by
  have z:(Value.builtin "BaseException.__getattribute__"==Value.builtin "object.__getattribute__")=false:=by decide +kernel
  rw[z];rfl
 have I:InstAt h e oe D none:=⟨he,hc,by unfold notCls;rw[hd],by rw[hdx];trivial⟩
 have L4:Looks (model prog w) h (isInstance (.ref e) (.type "BaseException")) true:=L0.andThen (looks_subIn X h4)
 have FB:=PySem.F.attrBase_ValueError
 have f3:=FB.ga.bind (.ref e)
 have kd:builtinKind "BaseException.__getattribute__"=some .slot:=by decide +kernel
 have sid:splitId "BaseException.__getattribute__"=some ("BaseException","__getattribute__"):=by decide +kernel
 have aok:=PySem.F.args_bexc_ga (.ref e) (.str "__class__" t)
 have f5:=KF.type_class
 have f6:=PySem.F.slot_gs_get.lookup
 have f7:=PySem.F.slot_gs_set.lookup
 unfold getAttr? getAttrBy? getAttrBy
 refine zcp6 (wpAny_mkText (zcp6 (wpAny_attempt (zcq1 (zcp6 (L0.at (zcp6 (L1.at ?_))))))))
 dsimp only
 rw[if_neg (by rw[hx];decide)]
 unfold getAttrByItsOwn hookBefore
 repeat (any_goals (first|assumption|with_reducible refine L0.at ?_|with_reducible refine L1.at ?_|with_reducible refine L2.at ?_|with_reducible refine L3.at ?_|wp_step))
 refine codeAny_call_builtin FB.ga.plain PySem.F.entry_bexc_ga ?_
 simp only[checkBuiltinCall,kd,sid]
 refine zcp6 (L4.at ?_)
 repeat (any_goals (first|assumption|with_reducible refine L0.at ?_|with_reducible refine L1.at ?_|with_reducible refine L2.at ?_|with_reducible refine L3.at ?_|wp_step))
 refine class_get (ox:=oe) (od:=none) X I h5 ?_
 repeat (any_goals (first|assumption|wp_step))
theorem zat2{K:Frag}{e:Addr}(k:ExcK K D)(hcl:(clsIn K D).isSome=true):KitX K (.ref e) (.ref D) (ExcIs e (.ref D) none) where
 ty:=fun M h _ p=>by
  obtain⟨oe,vs,he,hc,_⟩:=p
  exact hc▸(Looks.ld he).andThen .now
 it:=fun M h X p=>by
  obtain⟨cd,hcd⟩:=zck8.mp hcl
  unfold clsIn at hcd
  split at hcd
  ·rename_i ho
   intro A' Q' E' s' kk q
   unfold isType loadHead
   exact zcp6 (wpAny_loadPart (kk _ _ (X _ _ ho)) (zcp7 q))
  ·cases hcd
 ne:=fun h tp dd its n sl X htp=>by
  refine Bool.eq_false_iff.mpr fun q=>?_
  have z:D=tp:=Value.ref.inj (beq_iff_eq.mp q)
  subst z
  obtain⟨cd,hcd⟩:=zck8.mp hcl
  unfold clsIn at hcd
  split at hcd
  ·rename_i ho
   cases (X _ _ ho).symm.trans htp
  ·cases hcd
 ca:=fun {prog w A E Q s} X p q=>by
  obtain⟨hh,g,d,t,os⟩:=s
  exact zbk7 X p k q
end
abbrev excO(ea:Addr)(cls:Value)(dx:Option Addr):HO:=.ext (ExcIs ea cls dx)
section
variable {X:Cx}{K:zcf5}{H:Hp}{Q:VK}
@[irreducible] def zay7(K:zcf5)(x c:V)(H:Hp)(Q:VK):Prop:=zr4 K x c H Q∨∃ (ea D:Addr) (b:Bool),x=.ref ea/\H ea=some (excO ea (.ref D) none)/\ExcK K D/\(zcl3 K D).isSome=true/\(∀ cv,RelV c cv->zch8 K (.ref D) cv=some b)/\Q (.bl b) H
def zbs8(K:zcf5):List V->Hp->VK->Prop:=fun xs H Q=>match xs with
 | [x,c]=>zay7 K x c H Q
 | _=>False
theorem cIsiX(hK:X.K=K):zi8 X (.builtin "isinstance") (zbs8 K):=by
 subst hK
 intro pins s σ H xs us Q I r h
 unfold zbs8 at h
 split at h
 ·unfold zay7 at h
  rcases h with h|⟨ea,D,b,rfl,h1,h2,h3,h4,h5⟩
  ·exact cIsi pins s σ H _ us Q I r h
  ·obtain⟨u,w,rfl,r1,r2⟩:=zao9 r
   cases r1
   obtain⟨p,_⟩:=I.hok ea _ h1
   exact zcl0 (zat2 h2 h3) I.kIn p (h4 _ r2) (fun z=>nomatch z) fun tk=>⟨.bl b,H,I.tok _,rfl,h5⟩
 ·exact h.elim
theorem zbd1{ea:Addr}{b:Bool}(h1:H ea=some (excO ea (.ref D) none))(h2:ExcK K D)(h3:(zcl3 K D).isSome=true)(e:zch8 K (.ref D) (.ref C)=some b)(q:Q (.bl b) H):zay7 K (.ref ea) (.ref C) H Q:=by
 unfold zay7;exact .inr ⟨ea,D,b,rfl,h1,h2,h3,fun cv r=>by cases r;exact e,q⟩
theorem zav7{ea:Addr}{n:String}{b:Bool}(h1:H ea=some (excO ea (.ref D) none))(h2:ExcK K D)(h3:(zcl3 K D).isSome=true)(e:zch8 K (.ref D) (.type n)=some b)(q:Q (.bl b) H):zay7 K (.ref ea) (.ty n) H Q:=by
 unfold zay7;exact .inr ⟨ea,D,b,rfl,h1,h2,h3,fun cv r=>by cases r;exact e,q⟩
theorem zai6:bootBuiltins "ValueError"=some (.type "ValueError"):=by decide +kernel
end
section
variable {X:Cx}{pins:List (Addr×Obj)}{σ:St}{H:Hp}{s:Shared}
def ExcP(X:Cx)(pins:List (Addr×Obj))(σ:St)(EX:XK)(e:Value)(s':Shared):Prop:=∃ (H':Hp) (B:Heap) (ea:Addr) (cls:Value) (dx:Option Addr),e=.ref ea/\zw6 X pins σ H' B ea cls dx s'/\(∀ p∈X.pn++pins,B.get? p.1=some p.2)/\EX cls dx H'
def PSX(X:Cx)(st:Stmt)(t:XK->TS):Prop:=∀ (pins:List (Addr×Obj)) (s:Shared) (σ:St) (H:Hp) (D:Ends) (EX:XK),Inv X pins σ H s->t EX D σ H->wpAny (model X.prog X.w) X.A (exec st X.env) (SP X pins D) (ExcP X pins σ EX) s
def PSXs(X:Cx)(l:List Stmt)(t:XK->TS):Prop:=∀ (pins:List (Addr×Obj)) (s:Shared) (σ:St) (H:Hp) (D:Ends) (EX:XK),Inv X pins σ H s->t EX D σ H->wpAny (model X.prog X.w) X.A (execs l X.env) (SP X pins D) (ExcP X pins σ EX) s
theorem zca0{EX:XK}{e:Value}{s':Shared}(I:Inv X pins σ H s)(h:CXR X.prog X.w X.stack H s EX e s'):ExcP X pins σ EX e s':=by
 obtain⟨ea,cls,dx,H',B,rfl,os,bare,hok,fly,un,k,en,hE⟩:=h
 refine⟨H',B,ea,cls,dx,rfl,⟨I.call' os un (hok.kept fly.stays) bare (fun b hb=>absurd hb (by simp)),hok,fly,fun b o e n h1 h2=>?_,fun o e=>?_⟩,fun p hp=>?_,hE⟩
 ·exact k b o (I.base.keep b o e n h1 h2) (I.base.free b o e n h2) (zab8 I e h1)
 ·apply Classical.byContradiction
  intro hx
  obtain⟨o',k'⟩:=I.base.there ea o e hx
  exact en o' k'
 ·obtain⟨q1,q2,q3,q4,_⟩:=I.pin p hp
  exact k _ _ q1 q2 fun hm=>(zcg6.mp (I.stkSub _ hm)).elim q3 q4
theorem zw6.move{B:Heap}{e:Addr}{cls:Value}{dx:Option Addr}{h':Heap}(F:zw6 X pins σ H B e cls dx s)(hp:∀ p∈X.pn++pins,B.get? p.1=some p.2)(F':FlyX B X.stack e cls dx h')(U:s.heap.UpToSlots h')(W:Th s.heap h') :
  zw6 X pins σ H B e cls dx { s with heap:=h' }:=by
 have I:=F.inv
 have cell:∀ {c:Addr}{v:Option Value},s.heap.IsCell c v->h'.IsCell c v:=fun ⟨o,ho,hd⟩=>by
  obtain⟨sl,z⟩:=U _ o ho fun vs q=>by rw[hd] at q;cases q
  exact⟨_,z,hd⟩
 refine⟨⟨I.ok,I.os,I.bare,⟨fun b o e n h1 h2=>F'.stays _ _ (F.kb b o e n h1 h2),fun b o e n h1 h2=>?_,I.base.free,fun b o e h2=>?_,I.base.tups,I.base.frzs,I.base.tbls⟩,?_,fun x c hc=>?_,I.free,I.freeC,fun p hpp=>?_,F.hok.kept F'.stays,I.len⟩,F.hok,F',F.kb,F.en⟩
 ·obtain⟨sl,k⟩:=I.base.slot b o e n h1 h2
  obtain⟨_,o2,ho2,hd⟩:=I.ok.funs.mem h1
  have:o2=o:=Option.some.inj (ho2.symm.trans e)
  subst this
  obtain⟨sl',k'⟩:=U b _ k hd
  exact⟨sl',k'⟩
 ·obtain⟨o',k⟩:=I.base.there b o e h2
  exact W b o' k
 ·obtain⟨m,hn,hl⟩:=I.loc
  refine⟨m,U.ns hn,fun i x v h1 h2 h3=>?_⟩
  obtain⟨u,r,q⟩:=hl i x v h1 h2 h3
  refine⟨u,r,?_⟩
  rcases q with q|⟨k,c,e,z⟩
  ·exact .inl q
  ·exact .inr ⟨k,c,e,cell z⟩
 ·obtain⟨v,z⟩:=I.cell x c hc
  exact⟨v,cell z⟩
 ·obtain⟨_,q2,q3,q4,q5⟩:=I.pin p hpp
  exact⟨F'.stays _ _ (hp p hpp),q2,q3,q4,q5⟩
theorem callX{k j:Nat}{x:Str}{p pos:Pos}{e:Expr}{t:TA}(F:Def X.prog X.w X.K X.mg X.base (CXR X.prog X.w) k x ps sp)(hr:Room j X.A)(ha:PA X.nox (e :: es) t)(hk:k<=j:=by decide)(hg:Gl X x:=by rfl)(hdb:(x==("__debug__":Str))=false:=by decide)(he:starEach (e :: es) X.env=(false,eval e X.env) :: starEach es X.env:=by rfl)(hpl:(backTo pos (starEach es X.env)).any (·.1)=false:=by rfl){EX:XK}(I:Inv X pins σ H s)(h:t σ H fun vs H1=>sp vs H1 Q EX):wpAny (model X.prog X.w) X.A (eval (.Call (.Name x p) (e :: es) [] pos) X.env) (EP X pins σ Q) (ExcP X pins σ EX) s:=by
 obtain⟨f,fd,F1,F2,F3,F4⟩:=F.ex
 refine wpAny_Call_Name_kw (zac6 I hg F2 ?_ hdb)
 have hA:=ha pos pins s σ H _ (I.wish _) h
 refine PySem.W.callWith_K (h₀:=X.base) I.ok.mod.kin F3 (wpAny_mono hA (fun us s1 h1=>?_) fun _ _ z=>z.elim) he hpl
 obtain⟨vs,H1,I1,r,q⟩:=h1
 have I1:Inv X pins σ H1 s1:=I1.unwish
 refine⟨I1.kIn,?_⟩
 have hl:us.length=ps.length:=by rw[← r.length];exact F1.len _ _ _ _ q
 have hb:=F4 s1 us I1.kIn (by rw[zcn4];exact hl)
 rw[zcn4] at hb
 refine wpAny_call (codeAny_mono (F1.run X.A X.stack s1 H1 ⟨us,[]⟩ us vs Q EX (hr.mono hk) I1.env0 hb r q) fun r s' hq=>?_)
 cases r with
 | error e=>exact zca0 I1 hq
 | ok fl=>
  cases fl with
  | ret u=>exact I1.after hq
  | next=>exact False.elim hq
  | brk=>exact False.elim hq
  | cont=>exact False.elim hq
def qxCall(sp:Sp)(t:TA):XK->TS:=fun EX D σ H=>t σ H fun vs H1=>sp vs H1 (fun _ H2=>D.nx σ H2) EX
theorem zbj6{k j:Nat}{x:Str}{p pos spos:Pos}{e:Expr}{t:TA}(F:Def X.prog X.w X.K X.mg X.base (CXR X.prog X.w) k x ps sp)(hr:Room j X.A)(ha:PA X.nox (e :: es) t)(hk:k<=j:=by decide)(hg:Gl X x:=by rfl)(hdb:(x==("__debug__":Str))=false:=by decide)(he:starEach (e :: es) X.env=(false,eval e X.env) :: starEach es X.env:=by rfl)(hpl:(backTo pos (starEach es X.env)).any (·.1)=false:=by rfl)(hs:swapsWith (.Call (.Name x p) (e :: es) [] pos) none spos.line X.env=pure false:=by rfl):PSX X (.Expr (.Call (.Name x p) (e :: es) [] pos) spos) (qxCall sp t):=by
 intro pins s σ H D EX I h
 exact wpAny_Expr_any (wpAny_mono (callX F hr ha hk hg hdb he hpl I h) (fun v s1 ⟨x,H1,I1,r1,q1⟩=>⟨σ,H1,I1,q1⟩) fun _ _ z=>z) I.quiet hs
def qxIf(c:TT)(t u:XK->TS):XK->TS:=fun EX D σ H=>c σ H fun b H1=>br b (t EX D σ H1) (u EX D σ H1)
theorem psxIf{c:Expr}{a b:List Stmt}{tc:TT}{t u:XK->TS}{pos:Pos}(hc:PT X.nox c tc)(ha:PSXs X a t)(hb:PSXs X b u):PSX X (.If c a b pos) (qxIf tc t u):=by
 intro pins s σ H D EX I h
 refine wpAny_If (wpAny_mono (hc pins s σ H _ (I.wish _) h) (fun d s1 ⟨H1,I1,q1⟩=>?_) fun _ _ z=>z.elim)
 have I1:Inv X pins σ H1 s1:=I1.unwish
 have q1:br d (t EX D σ H1) (u EX D σ H1):=q1
 rw[zx7] at q1
 cases d with
 | true=>exact ha pins s1 σ H1 D EX I1 (by simpa using q1)
 | false=>exact hb pins s1 σ H1 D EX I1 (by simpa using q1)
theorem zbf8{t:XK->TS}(h:PSX X st t):PSXs X [st] t:=by
 intro pins s σ H D EX I hq
 refine wpAny_execs_cons (wpAny_mono (h pins s σ H D EX I hq) (fun f s1 q=>?_) fun _ _ z=>z)
 cases f with
 | next=>exact wpAny_execs_nil q
 | brk=>exact q
 | cont=>exact q
 | ret u=>exact q
theorem ze9.ex{P:Program}{w:World}{h:Heap}{a:Addr}(x:ze9 P w H h a o):∃ u,h.get? a=some u:=by
 cases o with
 | lst xs=>obtain⟨_,_,_,_,e⟩:=x;exact⟨_,e⟩
 | tup xs=>obtain⟨_,_,_,ob,e,_⟩:=x;exact⟨ob,e⟩
 | dK kvs=>obtain⟨_,_,_,_,ob,_,_,e,_⟩:=x;exact⟨ob,e⟩
 | dT kvs=>obtain⟨_,_,_,_,ob,_,_,e,_⟩:=x;exact⟨ob,e⟩
 | set S n=>obtain⟨ob,_,_,_,e,_⟩:=x;exact⟨ob,e⟩
 | ins C dx fs=>obtain⟨_,_,_,e,_⟩:=x;exact⟨_,e⟩
 | own y=>exact x
 | xd fs=>obtain⟨_,⟨ob,_,_,e,_⟩,_⟩:=x;exact⟨ob,e⟩
 | rng lo hi=>obtain⟨_,_,_,e⟩:=x;exact⟨_,e⟩
 | frz ob u=>obtain⟨e,_⟩:=x;exact⟨_,e⟩
 | tbl ps=>exact⟨_,(show h.get? a=some _ from x)⟩
 | met f y=>exact⟨_,(show h.get? a=some _ from x)⟩
 | ext φ=>obtain⟨_,e,_⟩:=x;exact e
theorem zw6.track{B:Heap}{ea:Addr}{cls:Value}{dx:Option Addr}(F:zw6 X pins σ H B ea cls dx s)(hp:∀ p∈X.pn++pins,B.get? p.1=some p.2)(hex:X.ex=[]) :
  H ea=none/\Inv X pins σ (upd H ea (excO ea cls dx)) s:=by
 have I:=F.inv
 obtain⟨oe,vs,he,hc,hdx,hd,_⟩:=F.fly.ex
 have hn:H ea=none:=by
  cases q:H ea with
  | none=>rfl
  | some o=>
   obtain⟨u,z⟩:=ze9.ex (F.hok ea o q)
   rw[F.fly.new] at z
   cases z
 have nl:∀ {b:Addr}{o:Obj},s.heap.get? b=some o->(∀ vs,o.data≠.fields vs)->b≠ea:=fun hb hnf z=>by
  rw[z,he] at hb
  cases hb
  exact hnf vs hd
 have n0:∀ {b:Addr}{o:Obj},X.s₀.heap.get? b=some o->b≠ea:=fun hb z=>by
  have:=F.en _ (z▸hb)
  rw[hex] at this
  cases this
 refine⟨hn,I.ok,I.os,I.bare,⟨I.base.keep,I.base.slot,fun b o e n h1=>?_,I.base.there,fun b xs q=>?_,fun b o u q=>?_,fun b ps q=>?_⟩,I.loc,I.cell,?_,fun x c hcl=>?_,fun p hpp=>?_,fun b o q=>?_,I.len⟩
 ·rw[zb4 (n0 e)];exact I.base.free b o e n h1
 ·have z:=I.base.tups b xs q
  rw[zb4 (za5 z hn)];exact z
 ·have z:=I.base.frzs b o u q
  rw[zb4 (za5 z hn)];exact z
 ·obtain⟨more,z⟩:=I.base.tbls b ps q
  exact⟨more,by rw[zb4 (za5 z hn)];exact z⟩
 ·obtain⟨m,⟨o,es,ep,ho,hdd,_⟩,_⟩:=I.loc
  rw[zb4 (nl ho fun vs q=>by rw[hdd] at q;cases q)];exact I.free
 ·obtain⟨v,o,ho,hdd⟩:=I.cell x c hcl
  rw[zb4 (nl ho fun vs q=>by rw[hdd] at q;cases q)];exact I.freeC x c hcl
 ·obtain⟨q1,q2,q3,q4,q5⟩:=I.pin p hpp
  refine⟨q1,?_,q3,q4,q5⟩
  rw[zb4 fun z=>?_]
  ·exact q2
  ·have:=hp p hpp
   rw[z,F.fly.new] at this
   cases this
 ·by_cases hb:b=ea
  ·subst hb
   rw[zb1] at q
   cases q
   refine⟨⟨oe,vs,he,hc,hdx,hd⟩,⟨oe,he⟩,fun h1 h2 x k=>?_⟩
   obtain⟨o1,v1,e1,r⟩:=x
   exact⟨o1,v1,k _ e1,r⟩
  ·rw[zb4 hb] at q
   refine (I.hok b o q).stay (fun _ _ _ z=>z) (fun c z=>?_) fun c xs z=>?_
   ·rw[zb4 (za5 z hn)];exact z
   ·rw[zb4 (za5 z hn)];exact z
theorem zbe5{M:Model}{A:Around}{E:Value->Shared->Prop}{n:Str}{v:V}{Q:Unit->Shared->Prop}(I:Inv X pins σ H s)(hN:X.N.Nodup)(hi:X.N[i]?=some n)(hl:X.env.kindOf n=some .local)(hv:σ[i]?=some (some v))(h:∀ s',Inv X pins (σ.set i none) H s'->Q () s'):wpAny M A (unbindName X.env n) Q E s:=by
 obtain⟨m,hn,hlk⟩:=id I.loc
 have hcls:(X.env.scope.kind==.class || (X.env.scope.kind==.module&&X.env.locals != X.env.globals))=false:=by rw[I.ok.kind];rfl
 obtain⟨u,_,q⟩:=hlk i n v hi hv (.inl hl)
 have hm:m n=some u:=by
  rcases q with q|⟨k,_⟩
  ·exact q.2
  ·rw[hl] at k
   rcases k with k|k<;>cases k
 refine wpAny_unbindName_local hl hn hm hcls fun h' u' hn' hs=>h _ ?_
 obtain⟨oL,_,_,hoL,_⟩:=id hn
 have below:∀ {b:Addr}{o:Obj},X.s₀.heap.get? b=some o->b≠X.env.locals:=fun e=>zci2 (zch3 (zch1 e) I.ok.above)
 refine⟨I.ok,I.os,I.bare,⟨fun b o e n hb hx=>(hs.2 b (below e)).trans (I.base.keep b o e n hb hx),fun b o e n hb hx=>?_,I.base.free,fun b o e hx=>?_,I.base.tups,I.base.frzs,I.base.tbls⟩,⟨_,hn',fun j y v' e1 e2 e3=>?_⟩,fun y c e=>?_,I.free,I.freeC,fun p hp=>?_,fun b ob e=>?_,by rw[List.length_set];exact I.len⟩
 ·obtain⟨sl,z⟩:=I.base.slot b o e n hb hx
  exact⟨sl,(hs.2 b (below e)).trans z⟩
 ·obtain⟨o',z⟩:=I.base.there b o e hx
  exact⟨o',(hs.2 b (below e)).trans z⟩
 ·by_cases hj:j=i
  ·subst hj
   rw[zcn0 (by rw[I.len];exact (zcf6.mp hi).1)] at e2
   cases e2
  ·rw[List.getElem?_set_ne (Ne.symm hj)] at e2
   obtain⟨w',r',q⟩:=hlk j y v' e1 e2 e3
   refine⟨w',r',?_⟩
   rcases q with ⟨k,z⟩|⟨k,c,z,zz⟩
   ·refine .inl ⟨k,?_⟩
    have:y≠n:=fun z=>hj (zag9 hN e1 (z▸hi))
    show (if y=n then u' else m y)=_
    rw[if_neg this];exact z
   ·exact .inr ⟨k,c,z,zz.sameBut hs (I.cne y c z)⟩
 ·obtain⟨w',z⟩:=I.cell y c e
  exact⟨w',z.sameBut hs (I.cne y c e)⟩
 ·obtain⟨e,n,ne,nf,d⟩:=I.pin p hp
  exact⟨(hs.2 p.1 ne).trans e,n,ne,nf,d⟩
 ·refine (I.hok b ob e).stay (fun c w' hc q=>(hs.2 c ?_).trans q) (fun _ q=>q) fun _ _ q=>q
  rintro rfl
  rcases hc with z|hc
  ·rw[← z,I.free] at e;cases e
  ·rw[I.free] at hc;cases hc
def zaf0(X:Cx)(e:Value):Cx:={ X with A:=X.A.mark (some e),calm:=false,xe:=fun _ _=>False }
theorem Inv.mark(I:Inv X pins σ H s)(e:Value):Inv (zaf0 X e) pins σ H s:=
 ⟨⟨I.ok.mod,I.ok.kind,I.ok.glob,I.ok.blt,I.ok.above,I.ok.inj,I.ok.has,I.ok.cab,(fun z=>absurd (show false=true from z) zcg3),I.ok.frames,I.ok.stk,I.ok.exf,I.ok.bs,I.ok.bsz,I.ok.noex,I.ok.exfs,I.ok.funs,I.ok.frf⟩,I.os,I.bare,I.base,I.loc,I.cell,I.free,I.freeC,I.pin,I.hok,I.len⟩
theorem Inv.unmark{e:Value}(I0:Inv X pins σ H s){σ':St}{s':Shared}(I:Inv (zaf0 X e) pins σ' H' s'):Inv X pins σ' H' s':=
 ⟨I0.ok,I.os,I.bare,I.base,I.loc,I.cell,I.free,I.freeC,I.pin,I.hok,I.len⟩
@[irreducible] def zas8(K:zcf5)(CH:Addr)(D:Ends)(σ:St)(ke ky:Nat)(cls:Value)(dx:Option Addr)(H':Hp):Prop:=PySem.W.exmOne K cls (.ref CH)=some true /\
 ∀ ea H'',H' ea=none->Same H' H''->H'' ea=some (excO ea cls dx)->D.nx ((σ.set ke none).set ky (some (.ref ea))) H''
def qTry(K:zcf5)(CH:Addr)(t:XK->TS)(ke ky:Nat):TS:=fun D σ H=>t (fun cls dx H'=>zas8 K CH D σ ke ky cls dx H') D σ H
theorem psTry{K:zcf5}{body:List Stmt}{t:XK->TS}{hx n y:Str}{CH:Addr}{ke ky:Nat}{np p1 p2 p3 hpos pos:Pos}(hK:X.K=K)(hN:X.N.Nodup)(hcl:X.mg hx=some (.ref CH))(hb:PSXs X body t)(hke:X.N[ke]?=some n:=by rfl)(hky:X.N[ky]?=some y:=by rfl)(hkk:ke≠ky:=by decide)(hln:X.env.kindOf n=some .local:=by rfl)(hly:X.env.kindOf y=some .local:=by rfl)(hgl:Gl X hx:=by rfl)(hdb:(hx==("__debug__":Str))=false:=by decide)(hnd:(n==("__debug__":Str))=false:=by decide)(hnc:(n==("__classdict__":Str))=false:=by decide)(hstk:X.stack=X.env :: X.outer:=by rfl)(hfr:X.env.frame=some X.env.locals:=by rfl)(hex:X.ex=[]:=by rfl)(hs:swapsWith (.Name n p2) (some (.Name y p1)) p3.line X.env=pure false:=by rfl) :
  PS X (.Try body [.ExceptHandler (some (.Name hx np)) (some n) [.Assign [.Name y p1] (.Name n p2) p3] hpos] [] [] pos) (qTry K CH t ke ky):=by
 subst hK
 intro pins s σ H D I h
 rw[arm_exec_Try]
 refine zcp6 (wpAny_standAt (wpAny_tryStmt_except (wpAny_mono (hb pins s σ H D _ I h) (fun f s1 q=>?_) fun e s1 q=>?_)))
 ·cases f with
  | next=>exact wpAny_execs_nil q
  | brk=>exact q
  | cont=>exact q
  | ret u=>exact q
 ·obtain⟨H1,B,ea,cls,dx,rfl,F,hp,q⟩:=q
  unfold zas8 at q
  obtain⟨hm,q⟩:=q
  have I1:=F.inv
  refine zar4 (L:=X.env.locals) (outer:=X.outer) (by rw[← hstk];exact I1.ok.frames) hfr (by rw[← hstk];exact F.fly) fun h2 F2 U2 W2=>?_
  rw[← hstk] at F2
  have F2:=F.move hp F2 U2 W2
  have I2:=F2.inv
  refine wpAny_handleBy_cons (codeAny_handlers_test ?_) (by intro z;cases z)
  refine zac6 (X:=zaf0 X (.ref ea)) (I2.mark _) hgl hcl ?_ hdb
  have LT:PySem.W.Looks (model X.prog X.w) h2 (typeOf (.ref ea)) cls:=by
   obtain⟨oe,vs,he,hc,_⟩:=F2.fly.ex
   exact hc▸(PySem.W.Looks.ld he).andThen .now
  refine (PySem.W.exm_one I2.kIn LT hm).here ?_
  refine codeAny_handlers_suite_as ?_
  refine zbv3 F2.fly fun h3 F3 U3 W3=>?_
  have F3:=F2.move hp F3 U3 W3
  obtain⟨hn,I3⟩:=F3.track hp hex
  have hlσ:ke<σ.length:=by rw[I1.len];exact (zcf6.mp hke).1
  refine zu0 I3 hN hke (.inl hln) (v:=.ref ea) rfl (fun s4 I4=>?_) (.inr hln)
  have pn:PS (zaf0 X (.ref ea)) (.Assign [.Name y p1] (.Name n p2) p3) (tAsg (qV ke) (zay0 ky)):=zbd3 (X:=zaf0 X (.ref ea)) hN hky (.inl hly) (pq (X:=zaf0 X (.ref ea)) ke hke (.inl hln) hnd hnc) hs (.inr hly)
  refine wpAny_mono (za6 pn pins s4 _ _ { nx:=fun σ' H'=>σ'=(σ.set ke (some (.ref ea))).set ky (some (.ref ea))/\H'=upd H1 ea (excO ea cls dx),rt:=fun _ _=>False } (I4.mark (.ref ea)) ?_) (fun f s5 q5=>?_) fun _ _ z=>(show False from z).elim
  ·show qV ke (σ.set ke (some (.ref ea))) _ _
   unfold qV
   rw[zcn0 hlσ]
   exact⟨rfl,rfl⟩
  ·cases f with
   | next=>
    obtain⟨σ5,H5,I5,rfl,rfl⟩:=q5
    have I5:=Inv.unmark I1 I5
    refine zcp6 (wpAny_bindName (zu0 I5 hN hke (.inl hln) (v:=.non) rfl (fun s6 I6=>?_) (.inr hln)))
    refine wpAny_onRaise (zbe5 (v:=.non) I6 hN hke hln (by rw[zcn0 (by rw[List.length_set,List.length_set];exact hlσ)]) fun s7 I7=>?_)
    refine⟨_,_,I7,?_⟩
    rw[List.set_set,List.set_comm _ _ (Ne.symm hkk),List.set_set]
    exact q ea _ hn (Same.upd hn) zb1
   | brk=>obtain⟨_,_,_,z⟩:=q5;exact False.elim z
   | cont=>obtain⟨_,_,_,z⟩:=q5;exact False.elim z
   | ret u=>obtain⟨_,_,_,_,_,z⟩:=q5;exact False.elim z
end
section
open PySem.W
theorem zbn9{K:Frag}{h:Heap}{mg:Str->Option Value}{x:Str}{bmB:List Value}{newId:String}(X:K.In h)(G:h.Ns zcq2 mg)(e:nsIn K zcq2 x=some (some (.ref C)))(q:excIn K C bmB newId=true):OwnCls x C bmB newId mg h:=by
 have bd:=mg_of X G e
 unfold excIn at q
 split at q
 case h_2=>cases q
 rename_i dd cd sl ho
 split at q
 case h_2=>cases q
 rename_i C1 bm k0 k1 k2 k3 n k5 hm hs
 simp only[zcg4,beq_iff_eq,Bool.not_eq_true'] at q
 obtain⟨⟨⟨⟨⟨q1,q2⟩,q3⟩,q4⟩,q5⟩,q6⟩:=q
 have z:sl=#[k0,k1,k2,k3,some (.builtin n),k5]:=by
  cases sl with
  | mk l=>rw[show l=[k0,k1,k2,k3,some (.builtin n),k5] from hs]
 cases cd with
 | mk nm bs mro ns qn hd sn sub ab col del=>
  have hm:mro=.ref C1 :: bm:=hm
  have q3:del=false:=q3
  subst q1 q2 z hm q3
  exact⟨bd,bm,ns,nm,qn,bs,hd,sn,sub,ab,col,dd,k0,k1,k2,k3,k5,_,X _ _ ho,.of_isNs (isNs_of_in X q5),nsMap_none_of_in X q5 q6,tail_of_in X q4⟩
theorem zw5{K:Frag}{t:Value}{cd:ClassData}{b:Bool}(h1:clsIn K C=some cd)(h2:typeIn K (.ref C)=some (.type "type"))(h3:subIn K t (.ref C)=some b):kitCls K t (.ref C)=some b:=by
 unfold kitCls
 dsimp only
 rw[h1,h2,if_pos (by simp)]
 exact h3
theorem zq4{K:Frag}{t:Value}{cd:ClassData}{b:Bool}(h1:clsIn K C=some cd)(h2:typeIn K (.ref C)=some (.type "type"))(h3:subIn K t (.ref C)=some b)(h4:subIn K t t=some true):kitOne K t (.ref C)=some b:=by
 unfold kitOne
 split
 ·rename_i z
  have z:t=.ref C:=by simpa using z
  subst z
  rw[h3] at h4
  exact h4.symm
 ·exact zw5 h1 h2 h3
theorem zm3{K:Frag}{cd:ClassData}{b:Bool}(h1:clsIn K C=some cd)(h2:typeIn K (.ref C)=some (.type "type"))(h3:subIn K (.type "NoneType") (.ref C)=some b):kitOne K (.type "NoneType") (.ref C)=some b:=by
 unfold kitOne
 rw[if_neg (by simp)]
 exact zw5 h1 h2 h3
theorem zad8{K:Frag}{b:Bool}(h:subIn K (.ref D) (.type "ValueError")=some b):kitOne K (.ref D) (.type "ValueError")=some b:=by
 unfold kitOne kitCls
 rw[if_neg (by simp)]
 dsimp only
 rw[if_pos (by decide +kernel)]
 exact h
theorem zbu5{K:Frag}{t:Value}{cd:ClassData}{b:Bool}(h0:subIn K (.ref C) (.type "BaseException")=some true)(h1:clsIn K C=some cd)(h2:typeIn K (.ref C)=some (.type "type"))(h3:subIn K t (.ref C)=some b):exmOne K t (.ref C)=some b:=by
 unfold exmOne
 rw[if_pos (by rw[h0];simp)]
 exact zw5 h1 h2 h3
end
theorem PS.nox'{X:Cx}{t:TS}(h:PS X.nox st t):PS X st t:=fun pins s σ H D I hw=>
 wpAny_mono (h pins s σ H D (I.wish _) hw) (fun f s' q=>SP.unwish q) fun _ _ z=>(show False from z).elim
theorem zas3{K:zcf5}{CH:Addr}{D:Ends}{σ:St}{ke ky:Nat}{cls:Value}{dx:Option Addr}(h1:PySem.W.exmOne K cls (.ref CH)=some true)(h2:∀ ea H'',H' ea=none->Same H' H''->H'' ea=some (excO ea cls dx)->D.nx ((σ.set ke none).set ky (some (.ref ea))) H''):zas8 K CH D σ ke ky cls dx H':=by
 unfold zas8;exact⟨h1,h2⟩
abbrev bmV:List Value:=[.type "ValueError",.type "Exception",.type "BaseException",.type "object"]
abbrev newV:String:="ValueError.__new__"
section
variable {X:Cx}{st:Stmt}{rest:List Stmt}{t u:TS}{e:Expr}{es:List Expr}{te:TE}{ta:TA}
@[irreducible] def PSsI(X:Cx)(st:List Stmt)(t:TS):Prop:=PSs X st t
@[irreducible] def PSI(X:Cx)(st:Stmt)(t:TS):Prop:=PS X st t
@[irreducible] def PEI(X:Cx)(e:Expr)(t:TE):Prop:=PE X e t
@[irreducible] def PAI(X:Cx)(es:List Expr)(t:TA):Prop:=PA X es t
theorem psOf(h:PS X st t):PSI X st t:=by unfold PSI;exact h
theorem pssTo{st:List Stmt}(h:PSsI X st t):PSs X st t:=by unfold PSsI at h;exact h
theorem ze3(h1:PSI X st t)(h2:PSsI X rest u):PSsI X (st :: rest) (tSeq t u):=by unfold PSsI PSI at *;exact za4 h1 h2
theorem zr0(h1:PSI X st t):PSsI X [st] t:=by unfold PSsI PSI at *;exact za6 h1
theorem zu6:PSsI X [] tNext:=by unfold PSsI;exact zd7
theorem psIS{x:Str}{pos' pos:Pos}(hN:X.N.Nodup)(he:PEI X e te)(hi:X.N[i]?=some x:=by rfl)(hx:Loc X.env.scope x:=by first|exact Or.inl rfl|exact Or.inr rfl)(hs:swapsWith e (some (.Name x pos')) pos.line X.env=pure false:=by rfl)(hf:X.fn x=true∨X.env.scope.names.lookup x=some .local:=by first|exact .inl rfl|exact .inr rfl|assumption) :
  PSI X (.Assign [.Name x pos'] e pos) (tAsg te (zay0 i)):=by unfold PSI PEI at *;exact zbd3 hN hi hx he hs hf
theorem zf0{pos:Pos}(h:PAI X es ta):PEI X (.List es pos) (qLst ta):=by unfold PEI PAI at *;exact zp2 h
theorem zba4{x j pos}:PEI X (.Constant (.str x) j pos) (tC (.str x)):=by unfold PEI;exact zx5
theorem zb5:PAI X [] tNil:=by unfold PAI;exact za1
theorem za3(ha:PEI X e te)(hr:PAI X es ta)(hs:starEach (e :: es) X.env=(false,eval e X.env) :: starEach es X.env:=by rfl):PAI X (e :: es) (tCons te ta):=by unfold PEI PAI at *;exact za0 ha hr hs
end
set_option maxHeartbeats 1000000
set_option maxHeartbeats 2000000
def Itz(K:zcf5)(a b:Addr):It:=
 ⟨fun i H=>∃ xs ys x y,SqL K H a xs/\SqL K H b ys/\xs[i]?=some x/\ys[i]?=some y,
  fun i H v H'=>∃ p x y,v=.ref p/\H p=none/\Same H H'/\H' p=some (.tup [x,y])/\(∀ xs,SqL K H a xs->xs[i]?=some x)/\∀ ys,SqL K H b ys->ys[i]?=some y,
  fun i H=>∃ xs ys,SqL K H a xs/\SqL K H b ys/\(xs.length<=i∨ys.length<=i)⟩
theorem zbm1{P:Program}{w:World}{K:zcf5}{elts:List Expr}{k:Nat}{pos:Pos}(l1 l2 z TI TO i1 i2:Addr)(D:ZipApart z TI TO i1 i2 l1 l2) :
  Turn P w K (.Tuple elts k pos) (Itz K l1 l2) [z,TI,TO,i1,i2] z (fun i h=>IsZip h z TI TO .none/\IsPair h TI (.ref i1) (.ref i2)/\(∃ a b,IsPair h TO a b)/\h.IsListIter i1 l1 i/\h.IsListIter i2 l2 i) where
 mem:=by simp
 obj:=fun i h st b hb=>by
  obtain⟨hz,hTI,⟨a,b',hTO⟩,⟨o1,e1,c1,d1⟩,⟨o2,e2,c2,d2⟩⟩:=st
  simp only[zcg6,zcj2,or_false] at hb
  rcases hb with rfl|rfl|rfl|rfl|rfl
  ·exact⟨_,hz,fun v z=>by cases z⟩
  ·exact⟨_,hTI,fun v z=>by cases z⟩
  ·exact⟨_,hTO,fun v z=>by cases z⟩
  ·exact⟨o1,e1,fun v z=>by rw[d1] at z;cases z⟩
  ·exact⟨o2,e2,fun v z=>by rw[d2] at z;cases z⟩
 keep:=fun i h h' st kp=>by
  obtain⟨hz,hTI,⟨a,b',hTO⟩,h1,h2⟩:=st
  exact⟨kp z (by simp) _ hz,kp TI (by simp) _ hTI,⟨a,b',kp TO (by simp) _ hTO⟩,h1.at fun o x=>kp i1 (by simp) o x,h2.at fun o x=>kp i2 (by simp) o x⟩
 item:=by
  intro X hP hw hK hc i pins s σ H E I hf st hg
  subst hP hw hK
  obtain⟨hz,hTI,⟨a0,b0,hTO⟩,h1,h2⟩:=st
  obtain⟨xs,ys,x,y,hq1,hq2,hx,hy⟩:=hg
  obtain⟨its1,rv1,p1,_⟩:=I.list hq1
  obtain⟨its2,rv2,p2,_⟩:=I.list hq2
  obtain⟨u,hu,ru⟩:=rv1.get hx
  obtain⟨v,hv,rv⟩:=rv2.get hy
  have hzl:z<s.heap.objs.size:=zch1 hz
  refine wpAny_pyNext_zip_item D hz hTI hTO h1 h2 p1.isList p2.isList (x:=u) (y:=v) (by simpa using hu) (by simpa using hv) fun h3 z3 TO3 j1 j2 T3 sz3 kp3=>?_
  refine⟨_,rfl,wpAny_letOwnedTupleGo_zip z3 fun h4 z4 hs4=>?_⟩
  replace hs4:Heap.SameBut z h3 h4:=hs4
  have kp:∀ b o,b ∉ [z,TI,TO,i1,i2]->s.heap.get? b=some o->h4.get? b=some o:=fun b o hb x=>by
   simp only[zcg6,zcj2,or_false,not_or] at hb
   obtain⟨b1,b2,b3,b4,b5⟩:=hb
   exact (hs4.2 b b1).trans (kp3 b o b1 b3 b4 b5 x)
  have ht4:h4.get? s.heap.objs.size=some { cls:=.type "tuple",data:=.seq #[u,v] }:=(hs4.2 _ (zcp1 hzl)).trans T3
  have hfr:H s.heap.objs.size=none:=I.fresh
  have nof:∀ b v,H b=some v->b ∉ [z,TI,TO,i1,i2]:=fun b v hb m=>by
   have:=(hf b m).1
   rw[this] at hb
   cases hb
  have nlt:∀ b o,s.heap.get? b=some o->b≠s.heap.objs.size:=fun b o x=>zci2 (zch1 x)
  have hok:HOk X.prog X.w (upd H s.heap.objs.size (.tup [x,y])) h4:=fun b v' hb=>by
   by_cases e1:b=s.heap.objs.size
   ·subst e1
    rw[zb1] at hb
    cases hb
    exact⟨by show 2<=sizeLine;decide,[u,v],.cons ru (.cons rv .nil),⟨_,ht4,rfl,_,rfl⟩⟩
   ·rw[zb4 e1] at hb
    refine (I.hok b v' hb).stay (fun c w' hc q=>?_) (fun c q=>?_) (fun c ys q=>?_)
    ·rcases hc with rfl|hc
     ·exact kp _ _ (nof _ _ hb) q
     ·exact kp _ _ (nof _ _ hc) q
    ·rw[zb4 (za5 q hfr)];exact q
    ·rw[zb4 (za5 q hfr)];exact q
  have chs:∀ b∈[z,TI,TO,i1,i2],(b∈X.ex∨X.s₀.heap.objs.size<=b)/\b≠X.env.locals/\(∀ x c,X.env.cells.lookup x=some c->c≠b)/\∀ p∈X.pn++pins,p.1≠b:=fun b hb=>by
   obtain⟨f0,f1,f2,f3,f4,f5⟩:=hf b hb
   exact⟨f3,f1,f4,f5⟩
  have I2:Inv X pins σ (upd H s.heap.objs.size (.tup [x,y])) { s with heap:=h4 }:=
   I.step (g':=s.gens) (d':=s.drawn) (t':=s.toks) (ch:=[z,TI,TO,i1,i2]) chs (fun b o _ _ hb x _=>kp b o hb x) (fun b o _ _ hb x _=>⟨o.slots,kp b o hb x⟩)
    (fun b o _ x n=>by rw[zb4 (nlt b o x)];exact n) (fun b o hb x=>⟨o,kp b o hb x⟩) (fun b ys q=>by rw[zb4 (za5 q hfr)];exact q) (fun b o v q=>by rw[zb4 (za5 q hfr)];exact q)
    (fun b ps q=>⟨#[],by rw[zb4 (za5 q hfr),q];simp⟩)
    (fun m hm=>by
     obtain⟨o,es,ep,ho,r⟩:=hm
     exact⟨o,es,ep,kp _ o (fun m=>(chs _ m).2.1 rfl) ho,r⟩) hok I.bare
  refine⟨.ref s.heap.objs.size,_,I2,rfl,⟨_,x,y,rfl,hfr,Same.upd hfr,zb1,fun ys hy'=>by rw[I.list_inj hy' hq1];exact hx,fun ys hy'=>by rw[I.list_inj hy' hq2];exact hy⟩,⟨z4,?_,⟨u,v,?_⟩,?_,?_⟩,fun b hb=>?_⟩
  ·exact (hs4.2 _ D.TIz).trans (kp3 _ _ D.TIz D.TITO D.TIi1 D.TIi2 hTI)
  ·exact (hs4.2 _ D.TOz).trans TO3
  ·exact j1.extBut hs4.extBut D.i1z
  ·exact j2.extBut hs4.extBut D.i2z
  ·have hb0:H b=none:=(hf b hb).1
   have hlt:b≠s.heap.objs.size:=by
    simp only[zcg6,zcj2,or_false] at hb
    rcases hb with rfl|rfl|rfl|rfl|rfl
    ·exact nlt _ _ hz
    ·exact nlt _ _ hTI
    ·exact nlt _ _ hTO
    ·obtain⟨o,ho,_⟩:=h1;exact nlt _ _ ho
    ·obtain⟨o,ho,_⟩:=h2;exact nlt _ _ ho
   rw[zb4 hlt];exact hb0
 done:=by
  intro X hP hw hK hc i pins s σ H E I hf st hg
  subst hP hw hK
  obtain⟨hz,hTI,⟨a0,b0,hTO⟩,h1,h2⟩:=st
  obtain⟨xs,ys,hq1,hq2,hx⟩:=hg
  obtain⟨its1,rv1,p1,_⟩:=I.list hq1
  obtain⟨its2,rv2,p2,_⟩:=I.list hq2
  have hl1:=rv1.length
  have hl2:=rv2.length
  have nof:∀ b v,H b=some v->b ∉ [z,TI,TO,i1,i2]:=fun b v hb m=>by
   have:=(hf b m).1
   rw[this] at hb
   cases hb
  have chs:∀ b∈[z,TI,TO,i1,i2],(b∈X.ex∨X.s₀.heap.objs.size<=b)/\b≠X.env.locals/\(∀ x c,X.env.cells.lookup x=some c->c≠b)/\∀ p∈X.pn++pins,p.1≠b:=fun b hb=>by
   obtain⟨f0,f1,f2,f3,f4,f5⟩:=hf b hb
   exact⟨f3,f1,f4,f5⟩
  refine wpAny_pyNext_zip_end (I.ok.hd hc) D hz hTI hTO h1 h2 p1.isList p2.isList ?_ fun h' kp3=>⟨rfl,?_⟩
  ·rcases hx with hx|hx
   ·exact .inl (by simp;omega)
   ·exact .inr (by simp;omega)
  ·have kp:∀ b o,b ∉ [z,TI,TO,i1,i2]->s.heap.get? b=some o->h'.get? b=some o:=fun b o hb x=>by
    simp only[zcg6,zcj2,or_false,not_or] at hb
    obtain⟨b1,b2,b3,b4,b5⟩:=hb
    exact kp3 b o b1 b3 b4 b5 x
   have hok:HOk X.prog X.w H h':=fun b v' hb=>by
    refine (I.hok b v' hb).stay (fun c w' hc q=>?_) (fun c q=>q) (fun c ys q=>q)
    rcases hc with rfl|hc
    ·exact kp _ _ (nof _ _ hb) q
    ·exact kp _ _ (nof _ _ hc) q
   exact I.step (g':=s.gens) (d':=s.drawn) (t':=s.toks) (ch:=[z,TI,TO,i1,i2]) chs (fun b o _ _ hb x _=>kp b o hb x) (fun b o _ _ hb x _=>⟨o.slots,kp b o hb x⟩)
    (fun b o _ x n=>n) (fun b o hb x=>⟨o,kp b o hb x⟩) (fun b ys q=>q) (fun b o v q=>q)
    (fun b ps q=>⟨#[],by rw[q];simp⟩)
    (fun m hm=>by
     obtain⟨o,es,ep,ho,r⟩:=hm
     exact⟨o,es,ep,kp _ o (fun m=>(chs _ m).2.1 rfl) ho,r⟩) hok I.bare
 self:=fun _ _ _ _ _ st h=>wpAny_pyIter_zip st.1 h
section
variable {X:Cx}{K:zcf5}
theorem bt_zip:bootBuiltins "zip"=some (.type "zip"):=by decide +kernel
@[irreducible] def rZip(K:zcf5)(a b:Addr)(H:Hp)(R:It->Hp->Prop):Prop:=(∃ xs,SqL K H a xs)/\(∃ ys,SqL K H b ys)/\R (Itz K a b) H
def qiZip(K:zcf5)(ta:TA):TI:=fun σ H R=>ta σ H fun vs H1=>match vs with
 | [.ref a,.ref b]=>rZip K a b H1 R
 | _=>False
theorem zbt8{elts:List Expr}{k:Nat}{pt:Pos}{a b:Expr}{ta:TA}{p pos:Pos}(hK:X.K=K)(hm:X.mg "zip"=none)(ha:PA X [a,b] ta)(hg:Gl X "zip":=by rfl)(hs:starEach [a,b] X.env=(false,eval a X.env) :: starEach [b] X.env:=by rfl)(hpl:(backTo pos (starEach [b] X.env)).any (·.1)=false:=by rfl) :
  PI X (.Tuple elts k pt) (.Call (.Name "zip" p) [a,b] [] pos) (qiZip K ta):=by
 subst hK
 intro pins s σ H R I h
 refine Call_ (zx4 I hg hm bt_zip (PyProof.Rows.callWith_type1 (thn (ha pos pins s σ H _ I h) fun us s1 ⟨vs,H1,I1,r1,q1⟩=>?_) hs hpl))
 dsimp only at q1
 split at q1
 ·rename_i l m
  unfold rZip at q1
  obtain⟨⟨xs,hq1⟩,⟨ys,hq2⟩,q⟩:=q1
  obtain⟨u1,u2,rfl,rx,ry⟩:=zao9 r1
  cases rx
  cases ry
  obtain⟨its1,rv1,p1,_⟩:=I1.list hq1
  obtain⟨its2,rv2,p2,_⟩:=I1.list hq2
  have l1:@LT.lt Nat _ l s1.heap.objs.size:=by obtain⟨o,ho,_⟩:=p1.isList;exact zch1 ho
  have l2:@LT.lt Nat _ m s1.heap.objs.size:=by obtain⟨o,ho,_⟩:=p2.isList;exact zch1 ho
  refine call_zip_2 p1.isList p2.isList fun h' hz hTI hTO j1 j2 hsz hk=>?_
  refine wpAny_pyIter_zip hz ?_
  have I2:Inv X pins σ H1 { s1 with heap:=h' }:=I1.kept (t':=s1.toks) hk
  have D:ZipApart (s1.heap.objs.size+4) (s1.heap.objs.size+2) (s1.heap.objs.size+3) s1.heap.objs.size (s1.heap.objs.size+1) l m:=by
   constructor<;>(intro z;have z:(_:Nat)=_:=z;omega)
  refine⟨_,_,_,Itz X.K l m,H1,rfl,I2,zbm1 l m _ _ _ _ _ D,⟨hz,hTI,⟨_,_,hTO⟩,j1,j2⟩,fun b hb=>?_,q⟩
  have hb':s1.heap.objs.size<=b:=by
   simp only[zcg6,zcj2,or_false] at hb
   rcases hb with rfl|rfl|rfl|rfl|rfl
   ·exact zco1 _ _
   ·exact zco1 _ _
   ·exact zco1 _ _
   ·exact zcg9 _
   ·exact zco1 _ _
  exact I1.fpOk hb' (I1.hok.fresh hb')
 ·exact q1.elim
end
section
variable {K:zcf5}{g:TG}{tb:TS}{D:Ends}{σ:St}{H:Hp}{R:It->Hp->Prop}
theorem zbt7{a b:Addr}{ys:List V}(h:SqL K H a xs)(h':SqL K H b ys)(q:R (Itz K a b) H):rZip K a b H R:=by unfold rZip;exact⟨⟨xs,h⟩,⟨ys,h'⟩,q⟩
end
section
variable {X:Cx}{K:zcf5}
end
section
variable {J:It}{n:Nat}{H1:Hp}{X:Nat->V->Hp->Prop}{g:TG}{tt:TT}{te:TE}{σ0:St}{Q:VK}
theorem zbt6(w:Wk J n H1 X)(hn:n<sizeLine)(Pv:Addr->Nat->List V->St->Hp->Prop)(h0:∀ acc H,H1 acc=none->Same H1 H->H acc=some (.lst [])->Pv acc 0 [] σ0 H)(hP:∀ acc i ys σ H H',Same H H'->Pv acc i ys σ H->Pv acc i ys σ H')(turn:∀ acc i x ys σ H (R:St->V->Hp->Prop) (S:St->Hp->Prop),i<n->H1 acc=none->Same H1 H->H acc=some (.lst ys)->X i x H->Pv acc i ys σ H ->
   (∀ σ2 v H5,Same H H5->(∀ H6,Chg acc H5 H6->Pv acc (i+1) (ys++[v]) σ2 H6)->R σ2 v H5)->(∀ σ2 H5,Same H H5->Pv acc (i+1) ys σ2 H5->S σ2 H5) ->
   g x σ H fun σ2 H3=>tt σ2 H3 fun b H4=>br b (te σ2 H4 fun v H5=>R σ2 v H5) (S σ2 H4))(fin:∀ acc ys σ H,H1 acc=none->Same H1 H->H acc=some (.lst ys)->Pv acc n ys σ H->Q (.ref acc) H):zv2 J g tt te σ0 H1 Q:=by
 unfold zv2
 intro acc H2 hf hs ha
 refine⟨fun i m ys σ H=>m=n - i/\i<=n/\ys.length<=i/\Same H1 H/\H acc=some (.lst ys)/\Pv acc i ys σ H,⟨n,by simp,zci0 _,zcg9 _,hs,ha,h0 acc H2 hf hs ha⟩,?_⟩
 rintro i m ys σ H ⟨rfl,hi,hl,s,hy,P⟩
 refine⟨hy,by omega,?_⟩
 by_cases hlt:i<n
 ·refine .inr ⟨w.go i H s hlt,fun x H' y=>?_⟩
  obtain⟨s1,x1⟩:=w.yld i H x H' s hlt y
  refine turn acc i x ys σ H' (fun σ2 v H5=>cPut _ acc ys i (n - i) σ2 v H5) (fun σ2 H4=>zai2 _ ys i (n - i) σ2 H4) hlt hf (s.trans s1) (s1 _ _ hy) x1 (hP _ _ _ _ _ _ s1 P) ?_ ?_
  ·intro σ2 v H5 s5 q
   have s15:=s1.trans s5
   unfold cPut
   refine⟨s15 _ _ hy,fun H6 c6 h6=>⟨n - (i+1),by omega,rfl,hlt,by rw[zcg2];simp;omega,(s.trans s15).chg hf c6,h6,q H6 c6⟩⟩
  ·intro σ2 H5 s5 q
   have s15:=s1.trans s5
   unfold zai2
   exact⟨n - (i+1),by omega,rfl,hlt,by omega,s.trans s15,s15 _ _ hy,q⟩
 ·have e:i=n:=by omega
  subst e
  exact .inl ⟨w.stop H s,fin acc ys σ H hf s hy P⟩
end
end L2
set_option maxHeartbeats 2000000
namespace L2
open PySem PySem.Spec PyProof.Rows
section
variable {X:Cx}{K:zcf5}
@[irreducible] def rTupA(K:zcf5)(p:Addr)(H:Hp)(Q:VK):Prop:=∃ ys,SqL K H p ys/\∀ l H',H l=none->Same H H'->H' l=some (.tup ys)->Q (.ref l) H'
def rTupM(K:zcf5):List V->Hp->VK->Prop:=fun xs H Q=>match xs with
 | [.ref p]=>rTupA K p H Q
 | _=>False
theorem cTupK(hK:X.K=K):zi8 X (.type "tuple") (rTupM K):=fun pins s σ H xs us Q I r h=>by
 subst hK
 unfold rTupM at h
 split at h
 ·unfold rTupA at h
  obtain⟨ys,h1,h2⟩:=h
  exact zah2 pins s σ H _ us Q I r ⟨_,ys,rfl,.inl ⟨h1,fun l hl=>h2 l _ hl (Same.upd hl) zb1⟩⟩
 ·exact h.elim
theorem zbe9{p:Addr}{H:Hp}{Q:VK}{ys:List V}(h:SqL K H p ys)(q:∀ l H',H l=none->Same H H'->H' l=some (.tup ys)->Q (.ref l) H'):rTupA K p H Q:=by unfold rTupA;exact⟨ys,h,q⟩
end
variable {H H':Hp}{xs:List V}{E Q:Value->Shared->Prop}{D T q:Addr}{h h':Heap}{qual x0:Str}{s:Shared}{scope:Scope}{u:Value}{ep i j m:Nat}{vs:List Value}{o:Obj}{es:Array (Int×Value)}{keys:List (List Int)}
theorem Same.seqT{K:zcf5}{a:Addr}(e:Same H H')(h:H a=some (.tup xs)):SqT K H' a xs:=SqT.of (e _ _ h)
theorem Wk.tup{K:zcf5}{a:Addr}{H1:Hp}(h:H1 a=some (.tup xs)):Wk (Itt K a) xs.length H1 fun i x _=>xs[i]?=some x:=
 ⟨fun i H s hi=>⟨xs,xs[i],Same.seqT s h,by simp[hi]⟩,fun H s=>⟨xs,Same.seqT s h,zcg9 _⟩,fun i H x H' s _ y=>by
  obtain⟨e,y⟩:=y
  subst e
  exact⟨Same.refl _,y xs (Same.seqT s h)⟩⟩
set_option maxHeartbeats 4000000
section
variable {X:Cx}{K:zcf5}
end
def zbr2(e D d:Addr)(h:Heap):Prop:=ExcIs e (.ref D) (some d) h/\∃ od,h.get? d=some od
section
open PySem.W PySem.Calls
theorem zaw4{prog:Program}{w:World}{A:Around}{K:Frag}{e dx:Addr}{g d t os}{Q:Option Value->Shared->Prop}(X:K.In h)(x:zbr2 e D dx h)(k:ExcK K D)(hq:Q (some (.ref D)) ⟨h,g,d,t+1,os⟩):wpAny (model prog w) A (getAttr? (.ref e) "__class__") Q E ⟨h,g,d,t,os⟩:=by
 obtain⟨⟨oe,vs,he,hc,hdx,hd⟩,od,hod⟩:=x
 obtain⟨h1,h2,h3,h4,h5⟩:=k
 have L0:Looks (model prog w) h (typeOf (.ref e)) (.ref D):=hc▸(Looks.ld he).andThen .now
 have L1:=looks_findIn (M:=model prog w) X h1
 have L2:=looks_findIn (M:=model prog w) X h2
 have L3:=looks_findIn (M:=model prog w) X h3
 have hx:(onTheHeap (Value.ref D)&&Value.builtin "BaseException.__getattribute__"==Value.builtin "object.__getattribute__")=false:=by
  have z:(Value.builtin "BaseException.__getattribute__"==Value.builtin "object.__getattribute__")=false:=by decide +kernel
  rw[z];rfl
 have I:InstAt h e oe D (some od):=⟨he,hc,by unfold notCls;rw[hd],by rw[hdx];exact hod⟩
 have L4:Looks (model prog w) h (isInstance (.ref e) (.type "BaseException")) true:=L0.andThen (looks_subIn X h4)
 have FB:=PySem.F.attrBase_ValueError
 have f3:=FB.ga.bind (.ref e)
 have kd:builtinKind "BaseException.__getattribute__"=some .slot:=by decide +kernel
 have sid:splitId "BaseException.__getattribute__"=some ("BaseException","__getattribute__"):=by decide +kernel
 have aok:=PySem.F.args_bexc_ga (.ref e) (.str "__class__" t)
 have f5:=KF.type_class
 have f6:=PySem.F.slot_gs_get.lookup
 have f7:=PySem.F.slot_gs_set.lookup
 unfold getAttr? getAttrBy? getAttrBy
 refine zcp6 (wpAny_mkText (zcp6 (wpAny_attempt (zcq1 (zcp6 (L0.at (zcp6 (L1.at ?_))))))))
 dsimp only
 rw[if_neg (by rw[hx];decide)]
 unfold getAttrByItsOwn hookBefore
 repeat (any_goals (first|assumption|with_reducible refine L0.at ?_|with_reducible refine L1.at ?_|with_reducible refine L2.at ?_|with_reducible refine L3.at ?_|wp_step))
 refine codeAny_call_builtin FB.ga.plain PySem.F.entry_bexc_ga ?_
 simp only[checkBuiltinCall,kd,sid]
 refine zcp6 (L4.at ?_)
 repeat (any_goals (first|assumption|with_reducible refine L0.at ?_|with_reducible refine L1.at ?_|with_reducible refine L2.at ?_|with_reducible refine L3.at ?_|wp_step))
 refine class_get (ox:=oe) (od:=some od) X I h5 ?_
 repeat (any_goals (first|assumption|wp_step))
theorem zbf3{K:Frag}{e dx:Addr}(k:ExcK K D)(hcl:(clsIn K D).isSome=true):KitX K (.ref e) (.ref D) (zbr2 e D dx) where
 ty:=fun M h _ p=>by
  obtain⟨⟨oe,vs,he,hc,_⟩,_⟩:=p
  exact hc▸(Looks.ld he).andThen .now
 it:=fun M h X p=>by
  obtain⟨cd,hcd⟩:=zck8.mp hcl
  unfold clsIn at hcd
  split at hcd
  ·rename_i ho
   intro A' Q' E' s' kk q
   unfold isType loadHead
   exact zcp6 (wpAny_loadPart (kk _ _ (X _ _ ho)) (zcp7 q))
  ·cases hcd
 ne:=fun h tp dd its n sl X htp=>by
  refine Bool.eq_false_iff.mpr fun q=>?_
  have z:D=tp:=Value.ref.inj (beq_iff_eq.mp q)
  subst z
  obtain⟨cd,hcd⟩:=zck8.mp hcl
  unfold clsIn at hcd
  split at hcd
  ·rename_i ho
   cases (X _ _ ho).symm.trans htp
  ·cases hcd
 ca:=fun {prog w A E Q s} X p q=>by
  obtain⟨hh,g,d,t,os⟩:=s
  exact zaw4 X p k q
end
section
variable {X:Cx}{K:zcf5}{H:Hp}{Q:VK}
end
set_option maxHeartbeats 2000000
def zx2(x0:Str)(names:List (Str×NameKind)):Prop:=names.filter (fun y=>y.2==.cell)=[(x0,.cell)]/\names.lookup x0=some .cell
theorem zae6{x0:Str}:∀ {names:List (Str×NameKind)},names.filter (fun y=>y.2==.cell)=[(x0,.cell)]->∀ (n:Nat) (acc:List (Str×Addr)) (h:Heap),cellsFrom n names acc=(x0,n) :: acc/\pushCells h names=h.push { cls:=.type "cell",data:=.cell none }
 | [],e,_,_,_=>by cases e
 | (y,k) :: r,e,n,acc,h=>by
  by_cases hk:(k==NameKind.cell)=true
  ·have hk':k=.cell:=by simpa using hk
   subst hk'
   rw[List.filter_cons_of_pos (by simp)] at e
   have e1:y=x0:=by have:=congrArg (fun l=>l.head?.map (·.1)) e;simpa using this
   have e2:r.filter (fun y=>y.2==.cell)=[]:=by have:=congrArg List.tail e;simpa using this
   subst e1
   have none:∀ (r:List (Str×NameKind)),r.filter (fun y=>y.2==.cell)=[]->∀ n acc h,cellsFrom n r acc=acc/\pushCells h r=h:=by
    intro r
    induction r with
    | nil=>intro _ n acc h;exact⟨rfl,rfl⟩
    | cons z r ih=>
     obtain⟨z1,z2⟩:=z
     intro e n acc h
     by_cases hz:(z2==NameKind.cell)=true
     ·rw[List.filter_cons_of_pos (by simpa using hz)] at e;cases e
     ·rw[List.filter_cons_of_neg (by simpa using hz)] at e
      unfold cellsFrom pushCells
      rw[if_neg hz,if_neg hz]
      exact ih e n acc h
   unfold cellsFrom pushCells
   rw[if_pos hk,if_pos hk]
   exact⟨(none r e2 _ _ h).1,(none r e2 0 [] _).2⟩
  ·rw[List.filter_cons_of_neg (by simpa using hk)] at e
   unfold cellsFrom pushCells
   rw[if_neg hk,if_neg hk]
   exact zae6 e n acc h
theorem zx2.only{names:List (Str×NameKind)}(h:zx2 x0 names):∀ y∈names,y.2=.cell->y.1=x0:=fun y hy hc=>by
 have:y∈names.filter (fun y=>y.2==.cell):=List.mem_filter.mpr ⟨hy,by rw[hc];rfl⟩
 rw[h.1] at this
 rw[zci4.mp this]
theorem zbu0{M:Model}{A:Around}{globals:Addr}{cl:List (Str×Addr)}{env:Env}{Q:Env->Shared->Prop}(hone:zx2 x0 scope.names)(hQ:∀ h₁,h₁=(s.heap.push { cls:=.type "dict",data:=.dict #[] }).push { cls:=.type "cell",data:=.cell none }->Q { scope,locals:=s.heap.objs.size,globals,cells:=(x0,s.heap.objs.size+1) :: cl,qual,func:=none,code:=env.code,frame:=env.frame,builtins:=env.builtins } { s with heap:=h₁ }) :
  wpAny M A (newFunctionEnv scope globals cl [] qual none .none (some env)) Q E s:=by
 simp only[newFunctionEnv,Option.isSome_some,if_true]
 refine zcp6 (wpAny_alloc ?_)
 refine zcp6 (wpAny_layCells _ (fun name kind cells=>by cases hkc:kind==NameKind.cell<;>simp[hkc]) _ _ _ _ ?_)
 have o:=zae6 hone.1 (s.heap.push { cls:=.type "dict",data:=.dict #[] }).objs.size cl (s.heap.push { cls:=.type "dict",data:=.dict #[] })
 rw[show ({ s with heap:=s.heap.push { cls:=.type "dict",data:=.dict #[] } }:Shared).heap=s.heap.push { cls:=.type "dict",data:=.dict #[] } from rfl,o.1,o.2]
 rw[Heap.size_push]
 refine zcp6 ?_
 rw[List.forIn_nil]
 exact zcp7 (zcp7 (hQ _ rfl))
def blk1(x0:Str)(X:Cx)(N:List Str)(scope:Scope)(cl:List (Str×Addr))(C:Addr)(s3:Shared)(H3:Hp)(fp:List Addr):Cx:=
 { X with N:=N,s₀:=s3,H₀:=H3,env:=compEnvC scope ((x0,C+1) :: cl) C X.env,outer:=X.stack,ex:=fp,fn:=fun x=>x==x0,pn:=[],xe:=fun _ _=>False }
theorem zx8{x:Str}{n c:Addr}{cl:List (Str×Addr)}(h:List.lookup x ((x0,n) :: cl)=some c):(x=x0/\c=n)∨cl.lookup x=some c:=by
 rw[zci8] at h
 cases hx:x==x0 with
 | true=>rw[hx] at h;cases h;exact .inl ⟨by simpa using hx,rfl⟩
 | false=>rw[hx] at h;exact .inr h
theorem zo3{env:Env}{x0:Str}:∀ {names:List (Str×NameKind)}{x:Str}{k':NameKind},(∀ y∈names,y.2=.cell->y.1=x0)->(k'=.cell∨k'=.free) ->
  (names.map fun (n,k)=>if (k==NameKind.free&&env.scope.kind==.function&&env.kindOf n==some .cell) then (n,NameKind.cell) else (n,k)).lookup x=some k'->x=x0∨∃ y∈names,y.1=x/\y.2=.free
 | [],_,_,_,_,h=>by simp at h
 | (n,k) :: r,x,k',hn,hk,h=>by
  have ih:=@zo3 env x0 r x k' (fun y hy=>hn y (zcj9 _ hy)) hk
  replace h:List.lookup x ((if (k==NameKind.free&&env.scope.kind==.function&&env.kindOf n==some .cell)=true then (n,NameKind.cell) else (n,k)) :: List.map (fun (n,k)=>if (k==NameKind.free&&env.scope.kind==.function&&env.kindOf n==some .cell) then (n,NameKind.cell) else (n,k)) r)=some k':=h
  cases hx:x==n with
  | true=>
   have hx':x=n:=by simpa using hx
   by_cases hf:k=.free
   ·exact .inr ⟨(n,k),zck4,hx'.symm,hf⟩
   ·have hc:¬ (k==NameKind.free&&env.scope.kind==.function&&env.kindOf n==some .cell)=true:=by
     have:(k==NameKind.free)=false:=by simpa using hf
     rw[this];simp
    rw[if_neg hc] at h
    simp only[zci8,hx] at h
    have:k=k':=Option.some.inj h
    subst this
    rcases hk with hk|hk
    ·exact .inl (hx'.trans (hn (n,k) zck4 hk))
    ·exact absurd hk hf
  | false=>
   have h':List.lookup x (List.map (fun (n,k)=>if (k==NameKind.free&&env.scope.kind==.function&&env.kindOf n==some .cell) then (n,NameKind.cell) else (n,k)) r)=some k':=by
    by_cases hc:(k==NameKind.free&&env.scope.kind==.function&&env.kindOf n==some .cell)=true
    ·rw[if_pos hc] at h;simp only[zci8,hx] at h;exact h
    ·rw[if_neg hc] at h;simp only[zci8,hx] at h;exact h
   rcases ih h' with q|⟨y,hy,h1,h2⟩
   ·exact .inl q
   ·exact .inr ⟨y,zcj9 _ hy,h1,h2⟩
section
variable {X:Cx}{pins:List (Addr×Obj)}{σ:St}{H:Hp}{s2:Shared}
theorem zbo1{N:List Str}{cl:List (Str×Addr)}{C:Addr}{s3 s4:Shared}{H3:Hp}{fp:List Addr}{σc:St}(I:Inv X pins σ H3 s3)(hcl1:∀ x c,cl.lookup x=some c->X.env.cells.lookup x=some c)(hcl2:∀ x∈scope.names,x.2=.free->∃ c,cl.lookup x.1=some c)(hkind:scope.kind=.function)(hone:zx2 x0 scope.names)(hcap:∀ (i:Nat) (x:Str) (v:V),N[i]?=some x->σc[i]?=some (some v)->∃ j:Nat,X.N[j]?=some x/\σ[j]?=some (some v)/\scope.names.lookup x=some .free/\(X.env.kindOf x=some .cell∨X.env.kindOf x=some .free))(hlen:σc.length=N.length)(hC:s3.heap.objs.size=C)(hfp:∀ b∈fp,FpOk X pins H3 b)(hfpl:∀ b∈fp,b<C)(hex:∀ b o,X.base.get? b=some o->b ∉ fp)(hns:∃ m,s4.heap.Ns C m)(hce:s4.heap.IsCell (C+1) none)(hk:∀ b o,s3.heap.get? b=some o->s4.heap.get? b=some o)(h4:s4.os=s3.os)(h5:s4.gens=s3.gens) :
  Inv (blk1 x0 X N scope cl C s3 H3 fp) [] σc H3 s4:=by
 subst hC
 have cne:∀ x c,cl.lookup x=some c->c<s3.heap.objs.size:=fun x c h=>by
  obtain⟨v,o,ho,_⟩:=I.cell x c (hcl1 x c h)
  exact zch1 ho
 refine⟨⟨I.ok.mod,?_,I.ok.glob,I.ok.blt,zcg9 _,fun x y c h1 h2=>?_,fun x hx=>?_,fun x c hf h=>?_,I.ok.hd,I.ok.frames,.inl rfl,fun b hb=>⟨zci2 (hfpl b hb),fun x c h=>?_⟩,fun b o e=>I.bs b o e,zcj5 I.ok.bsz I.sz,fun b o e=>hex b o e,fun b hb=>?_,I.stack,I.stkFree⟩,
  h4,by rw[h5];exact I.bare,Un.kept hk,?_,fun x c h=>?_,I.hok.fresh (zcg9 _),fun x c h=>?_,fun p hp=>(by cases hp),I.hok.kept hk,hlen⟩
 ·exact hkind
 ·rcases zx8 h1 with ⟨e1,e2⟩|h1'
  ·rcases zx8 h2 with ⟨e3,_⟩|h2'
   ·rw[e1,e3]
   ·exact absurd (Nat.lt_trans (Nat.lt_succ_self _) (e2▸cne _ _ h2')) (zcm3 _)
  ·rcases zx8 h2 with ⟨e3,e4⟩|h2'
   ·exact absurd (Nat.lt_trans (Nat.lt_succ_self _) (e4▸cne _ _ h1')) (zcm3 _)
   ·exact I.ok.inj x y c (hcl1 _ _ h1') (hcl1 _ _ h2')
 ·have hx':(relabel scope X.env).names.lookup x=some .cell∨(relabel scope X.env).names.lookup x=some .free:=hx
  show ∃ c,List.lookup x ((x0,s3.heap.objs.size+1) :: cl)=some c
  by_cases e0:x=x0
  ·subst e0;exact⟨_,List.lookup_cons_self⟩
  ·have hz:x=x0∨∃ y∈scope.names,y.1=x/\y.2=.free:=by
    rcases hx' with q|q
    ·exact zo3 hone.only (.inl rfl) q
    ·exact zo3 hone.only (.inr rfl) q
   rcases hz with hz|⟨y,hy,rfl,hf⟩
   ·exact absurd hz e0
   ·obtain⟨c,hc⟩:=hcl2 y hy hf
    exact⟨c,by rw[zci8,beq_eq_false_iff_ne.mpr e0];exact hc⟩
 ·have hf:(x==x0)=true:=hf
  have e0:x=x0:=by simpa using hf
  subst e0
  rcases zx8 h with ⟨_,rfl⟩|h'
  ·exact zco6 _
  ·have h:List.lookup x ((x,s3.heap.objs.size+1) :: cl)=some c:=h
   rw[zci8,hf] at h
   cases h
   exact zco6 _
 ·rcases zx8 h with ⟨_,rfl⟩|h
  ·exact zcp1 (Nat.lt_succ_of_lt (hfpl b hb))
  ·exact (hfp b hb).2.2.2.2.1 x c (hcl1 x c h)
 ·intro hz
  obtain⟨f0,f1,f2,_⟩:=hfp b hb
  have hz:b∈frs X.stack:=hz
  rcases zcg6.mp (I.stkSub b hz) with q|q
  ·exact f1 q
  ·exact f2 q
 ·obtain⟨m,hm⟩:=hns
  refine⟨m,hm,fun i x v h1 h2 h3=>?_⟩
  obtain⟨j,e1,e2,e3,e4⟩:=hcap i x v h1 h2
  obtain⟨mX,_,hl⟩:=I.loc
  obtain⟨u,r,q⟩:=hl j x v e1 e2 (by rcases e4 with e4|e4;exact .inr (.inl e4);exact .inr (.inr e4))
  have n0:x≠x0:=fun z=>by rw[z,hone.2] at e3;cases e3
  refine⟨u,r,.inr ⟨zp9 e3,?_⟩⟩
  obtain⟨c,hc⟩:=hcl2 (x,.free) (PySem.mem_of_lookup e3) rfl
  refine⟨c,by show List.lookup x ((x0,s3.heap.objs.size+1) :: cl)=some c;rw[zci8,beq_eq_false_iff_ne.mpr n0];exact hc,?_⟩
  have hc':=hcl1 x c hc
  rcases q with ⟨k,_⟩|⟨_,c2,e5,o,ho,hd⟩
  ·rcases e4 with e4|e4<;>rw[e4] at k<;>cases k
  ·rw[hc'] at e5
   cases e5
   exact⟨o,hk _ _ ho,hd⟩
 ·rcases zx8 h with ⟨_,rfl⟩|h
  ·exact⟨none,hce⟩
  ·obtain⟨v,o,ho,hd⟩:=I.cell x c (hcl1 x c h)
   exact⟨v,o,hk _ _ ho,hd⟩
 ·rcases zx8 h with ⟨_,rfl⟩|h
  ·exact I.hok.fresh (zco6 _)
  ·exact I.freeC x c (hcl1 _ _ h)
theorem zaw9{E:Value->Shared->Prop}{elt tg iter:Expr}{ifs:List Expr}{pos:Pos}{cl:List (Str×Addr)}{N:List Str}{σc:St}{J:It}{fp:List Addr}{it:Addr}{tn:Nat->Heap->Prop}{g:TG}{tt:TT}{te:TE}{Q:VK}{RR:Value->Addr->Result->Shared->Prop}(hcl1:∀ x c,cl.lookup x=some c->X.env.cells.lookup x=some c)(hcl2:∀ x∈scope.names,x.2=.free->∃ c,cl.lookup x.1=some c)(hkind:scope.kind=.function)(hone:zx2 x0 scope.names)(hcap:∀ (i:Nat) (x:Str) (v:V),N[i]?=some x->σc[i]?=some (some v)->∃ j:Nat,X.N[j]?=some x/\σ[j]?=some (some v)/\scope.names.lookup x=some .free/\(X.env.kindOf x=some .cell∨X.env.kindOf x=some .free))(hlen:σc.length=N.length)(hc:X.calm=true)(I:Inv X pins σ H s2)(T:Turn X.prog X.w X.K tg J fp it tn)(st:tn 0 s2.heap)(fpok:∀ b∈fp,FpOk X pins H b)(hg:∀ C s3 H3 fp,PG (blk1 x0 X N scope cl C s3 H3 fp) tg g)(ht:∀ C s3 H3 fp,PTs (blk1 x0 X N scope cl C s3 H3 fp) ifs tt)(he:∀ C s3 H3 fp,PE (blk1 x0 X N scope cl C s3 H3 fp) elt te)(h:zv2 J g tt te σc H Q)(hRR:∀ (acc C:Addr) (H':Hp) (s':Shared),Inv X pins σ H' s'->FpOk X pins H' C->(∃ m,s'.heap.Ns C m)->Q (.ref acc) H'->RR (.ref acc) C (.ok .next) s') :
  wpAny (model X.prog X.w) X.A (newList []) (fun acc s₃=>wpAny (model X.prog X.w) X.A (newFunctionEnv scope X.env.globals cl [] X.env.qual none .none (some X.env)) (fun cenv s₄=>
   codeAny (model X.prog X.w) X.A (.compStart (.ListComp elt [⟨tg,iter,ifs,0⟩] scope pos) 0 (.ref it) acc { cenv with scope:=relabel scope X.env }) (RR acc cenv.locals) s₄) E s₃) E s2:=by
 refine wpAny_newObj_type (zbu0 hone fun h₁ hh₁=>?_)
 dsimp only at hh₁ ⊢
 have hf:H s2.heap.objs.size=none:=I.fresh
 have I3:Inv X pins σ (upd H s2.heap.objs.size (.lst [])) { s2 with heap:=s2.heap.push { cls:=.type "list",data:=.seq ([]:List Value).toArray } }:=I.lnew (t':=s2.toks) (its:=[]) .nil (zci0 _)
 generalize hs3:({ s2 with heap:=s2.heap.push { cls:=.type "list",data:=.seq ([]:List Value).toArray } }:Shared)=s3 at I3
 have hH:s2.heap.push { cls:=.type "list",dict:=none,data:=.seq ([]:List Value).toArray }=s3.heap:=by rw[← hs3]
 rw[hH] at hh₁ ⊢
 have hsz:s3.heap.objs.size=s2.heap.objs.size+1:=by rw[← hH,Heap.size_push]
 have old23:∀ b o,s2.heap.get? b=some o->s3.heap.get? b=some o:=fun b o e=>by rw[← hH];exact zcf7 _ e
 have fplt:∀ b∈fp,b<s2.heap.objs.size:=fun b hb=>by
  obtain⟨o,e,_⟩:=T.obj 0 _ st b hb
  exact zch1 e
 have fp3:∀ b∈fp,FpOk X pins (upd H s2.heap.objs.size (.lst [])) b:=fun b hb=>by
  obtain⟨f0,f1⟩:=fpok b hb
  refine⟨?_,f1⟩
  rw[zb4 (zci2 (fplt b hb))]
  exact f0
 have old34:∀ b o,s3.heap.get? b=some o->h₁.get? b=some o:=fun b o e=>by rw[hh₁];exact zcf7 _ (zcf7 _ e)
 have hns₁:h₁.Ns s3.heap.objs.size (fun _=>none):=by rw[hh₁];exact (Heap.Ns.new s3.heap (.type "dict")).keeps fun b o e=>zcf7 _ e
 have hce:h₁.IsCell (s3.heap.objs.size+1) none:=⟨{ cls:=.type "cell",data:=.cell none },by rw[hh₁];exact Heap.get?_push_at (by rw[Heap.size_push]) rfl,rfl⟩
 have nob:∀ b o,X.base.get? b=some o->b ∉ fp:=fun b o e hb=>by
  obtain⟨_,_,_,f3,_,_⟩:=fpok b hb
  rcases f3 with f3|f3
  ·exact I.ok.noex b o e f3
  ·exact absurd (zch3 (zch1 e) I.ok.bsz) (Nat.not_lt.mpr f3)
 have hs4e:({ s2 with heap:=h₁,toks:=s2.toks }:Shared).os=s3.os:=by rw[← hs3]
 have hs4g:({ s2 with heap:=h₁,toks:=s2.toks }:Shared).gens=s3.gens:=by rw[← hs3]
 have I4:Inv (blk1 x0 X N scope cl s3.heap.objs.size s3 (upd H s2.heap.objs.size (.lst [])) fp) [] σc (upd H s2.heap.objs.size (.lst [])) { s2 with heap:=h₁,toks:=s2.toks }:=
  zbo1 (s4:={ s2 with heap:=h₁,toks:=s2.toks }) I3 hcl1 hcl2 hkind hone hcap hlen rfl fp3 (fun b hb=>zch3 (fplt b hb) (by rw[hsz];exact zco6 _)) nob ⟨_,hns₁⟩ hce old34 hs4e hs4g
 have st4:tn 0 h₁:=T.keep _ _ _ st fun b hb o e=>old34 b o (old23 b o e)
 unfold zv2 at h
 obtain⟨W,⟨m0,w0⟩,turn⟩:=h s2.heap.objs.size _ hf (Same.upd hf) zb1
 have loop:codeAny (model X.prog X.w) X.A (.compLoop (.ListComp elt [⟨tg,iter,ifs,0⟩] scope pos) 0 (.ref it) (.ref s2.heap.objs.size) (blk1 x0 X N scope cl s3.heap.objs.size s3 (upd H s2.heap.objs.size (.lst [])) fp).env)
   (RR (.ref s2.heap.objs.size) s3.heap.objs.size) { s2 with heap:=h₁,toks:=s2.toks }:=by
  refine zal6 (fun n s'=>∃ i ys σ' H',Inv (blk1 x0 X N scope cl s3.heap.objs.size s3 (upd H s2.heap.objs.size (.lst [])) fp) [] σ' H' s'/\tn i s'.heap/\(∀ b∈fp,H' b=none)/\W i n ys σ' H') ?_ m0 ⟨0,[],σc,_,I4,st4,fun b hb=>(fp3 b hb).1,w0⟩
  rintro n s5 ⟨i,ys,σ5,H5,I5,st5,fr5,w5⟩
  obtain⟨hacc,hl5,hcase⟩:=turn i n ys σ5 H5 w5
  have stat:∀ {H':Hp},(∀ b∈fp,H' b=none)->∀ b∈fp,FpOk (blk1 x0 X N scope cl s3.heap.objs.size s3 (upd H s2.heap.objs.size (.lst [])) fp) [] H' b:=fun hn b hb=>by
   obtain⟨_,f1,f2,f3,f4,_⟩:=fpok b hb
   refine⟨hn b hb,zci2 (zch3 (fplt b hb) (by rw[hsz];exact zco6 _)),fun hz=>?_,.inl hb,fun x c hx=>?_,fun p hp=>by cases hp⟩
   rotate_left
   ·rcases zx8 hx with ⟨_,rfl⟩|hx
    ·exact zcp1 (Nat.lt_succ_of_lt (zch3 (fplt b hb) (by rw[hsz];exact zco6 _)))
    ·exact f4 x c (hcl1 x c hx)
   rcases zcg6.mp (I.stkSub b hz) with q|q
   ·exact f1 q
   ·exact f2 q
  rcases hcase with ⟨stop,hq⟩|⟨go,step⟩
  ·refine thn (T.done (blk1 x0 X N scope cl s3.heap.objs.size s3 (upd H s2.heap.objs.size (.lst [])) fp) rfl rfl rfl hc i [] s5 σ5 H5 (fun _ _=>False) I5 (stat fr5) st5 stop) fun r s6 ⟨hr,I6⟩=>?_
   subst hr
   have u1:Un (frs X.stack) fp H (upd H s2.heap.objs.size (.lst [])) s2.heap s3.heap:=Un.laid old23 (zcg9 _) hf
   have u2:Un (frs X.stack) fp (upd H s2.heap.objs.size (.lst [])) H5 s3.heap s6.heap:=I6.base
   have hC:H5 s3.heap.objs.size=none:=I6.free
   obtain⟨m6,hm6,_⟩:=I6.loc
   have hos:s6.os=s2.os:=by rw[I6.os];show s3.os=s2.os;rw[← hs3]
   have hok6:=I6.hok
   have bare6:=I6.bare
   obtain⟨hh,gg,dd,tt',os'⟩:=s6
   obtain rfl:os'=s2.os:=hos
   exact hRR _ _ H5 _ (I.call (h':=hh) (g':=gg) (d':=dd) (t':=tt') (ch:=fp) (u1.trans u2) hok6 bare6 fun b hb=>⟨(fpok b hb).2.2.2.1,(fpok b hb).2.1,(fpok b hb).2.2.2.2.1,(fpok b hb).2.2.2.2.2⟩)
    (I.fpOk (by rw[hsz];exact zco6 _) hC) ⟨m6,hm6⟩ hq
  ·refine thn (T.item (blk1 x0 X N scope cl s3.heap.objs.size s3 (upd H s2.heap.objs.size (.lst [])) fp) rfl rfl rfl hc i [] s5 σ5 H5 (fun _ _=>False) I5 (stat fr5) st5 go) fun r s6 ⟨u,hr,h6⟩=>?_
   subst hr
   refine thn h6 fun _ s7 ⟨x,H7,I7,r7,y7,st7,fr7⟩=>?_
   have I7':=I7.pinned (stat fr7) (T.obj _ _ st7)
   refine thn (hg _ _ _ _ _ s7 σ5 H7 x u _ I7' r7 (step x H7 y7)) fun _ s8 ⟨σ8,H8,I8,q8⟩=>?_
   refine thn (ht _ _ _ _ _ s8 σ8 H8 _ I8 q8) fun ok s9 ⟨H9,I9,q9⟩=>?_
   have again:∀ {s10:Shared}{σ10:St}{H10:Hp}{zs:List V},Inv (blk1 x0 X N scope cl s3.heap.objs.size s3 (upd H s2.heap.objs.size (.lst [])) fp) ([]++zae9 fp s7.heap) σ10 H10 s10->(∃ m',m'<n/\W (i+1) m' zs σ10 H10) ->
     ∃ m,m<n/\∃ i ys σ' H',Inv (blk1 x0 X N scope cl s3.heap.objs.size s3 (upd H s2.heap.objs.size (.lst [])) fp) [] σ' H' s10/\tn i s10.heap/\(∀ b∈fp,H' b=none)/\W i m ys σ' H':=fun {s10 σ10 H10 zs} I10 ⟨m',hm,w10⟩=>by
    refine⟨m',hm,i+1,zs,σ10,H10,I10.unpinned,T.keep _ _ _ st7 fun b hb o e=>(I10.pin (b,o) (zci5 _ (zci5 _ (zk8 hb e)))).1,fun b hb=>?_,w10⟩
    obtain⟨o,e,d⟩:=T.obj _ _ st7 b hb
    exact (I10.pin (b,o) (zci5 _ (zci5 _ (zk8 hb e)))).2.1
   dsimp only at q9
   rw[zx7] at q9
   cases ok with
   | false=>
    have q9:∃ m',m'<n/\W (i+1) m' ys σ8 H9:=by rw[if_neg zcg3] at q9;unfold zai2 at q9;exact q9
    exact again I9 q9
   | true=>
    have q9:=(if_pos rfl▸q9:te σ8 H9 _)
    refine thn (he _ _ _ _ _ s9 σ8 H9 _ I9 q9) fun v s10 ⟨y,H10,I10,r10,q10⟩=>?_
    unfold cPut at q10
    obtain⟨e10,q10⟩:=q10
    refine thn (zab5 _ s10 σ8 H10 (.ref s2.heap.objs.size) [y] (.ref s2.heap.objs.size) [v] (fun _ H11=>∃ m',m'<n/\W (i+1) m' (ys++[y]) σ8 H11) I10 rfl (.cons r10 .nil) ⟨_,ys,y,rfl,rfl,e10,hl5,q10 _ Chg.upd zb1⟩) fun _ s11 ⟨z,H11,I11,_,q11⟩=>?_
    exact again I11 q11
 exact codeAny_compStart_list loop (T.self _ 0 _ _ _ st4 loop)
def zap7(x0:Str)(scope:Scope):Bool:=scope.names.filter (fun y=>y.2==.cell)==[(x0,.cell)]&&scope.names.lookup x0==some .cell&&scope.names.all fun x=>x.2 != .local || scope.names.lookup x.1==some .local
theorem zax1(h:zap7 x0 scope=true):zx2 x0 scope.names/\∀ x∈scope.names,x.2=.local->scope.names.lookup x.1=some .local:=by
 unfold zap7 at h
 rw[zcg4,zcg4] at h
 refine⟨⟨by simpa using h.1.1,by simpa using h.1.2⟩,fun x hx hl=>?_⟩
 have:=zcg8.mp h.2 x hx
 simpa [hl] using this
theorem zbu2{elt tg iter:Expr}{ifs:List Expr}{pos:Pos}{N:List Str}{ks:List (Option Nat)}{wi:TI}{g:TG}{tt:TT}{te:TE}(hi:PI X tg iter wi)(hg:∀ cl C s3 H3 fp,PG (blk1 x0 X N scope cl C s3 H3 fp) tg g)(ht:∀ cl C s3 H3 fp,PTs (blk1 x0 X N scope cl C s3 H3 fp) ifs tt)(he:∀ cl C s3 H3 fp,PE (blk1 x0 X N scope cl C s3 H3 fp) elt te)(hcap:zy5 X scope N ks)(hc:X.calm=true:=by rfl)(hkind:scope.kind=.function:=by rfl)(hb:freeB scope X.env.kindOf=true:=by rfl)(hn:zap7 x0 scope=true:=by rfl)(hs:∀ x,foldedSetIterable iter X.env x=pure x:=by intro _;rfl) :
  PE X (.ListComp elt [⟨tg,iter,ifs,0⟩] scope pos) (qComp ks wi g tt te):=by
 intro pins s σ H Q I h
 obtain⟨hone,hnames⟩:=zax1 hn
 obtain⟨cl,hcl,hcl1,hcl2⟩:=zw4 (scope:=scope) (env:=X.env) fun x hx hf=>I.ok.has x.1 (zag8 hb x hx hf)
 rw[eval_ListComp]
 refine wpAny_comprehension_free (use:=none) rfl hs hcl hkind hnames ?_
 show wpAny _ _ (eval iter X.env) _ _ s
 refine thn (hi pins s σ H _ I h) fun v s1 h1=>thn h1 fun itv s2 h2=>?_
 obtain⟨it,fp,tn,J,H2,e,I2,T,st2,f2,q2⟩:=h2
 subst e
 refine zaw9 (RR:=fun acc C=>compPost (model X.prog X.w) X.A X.xe none (EP X pins σ Q) acc C) hcl1 hcl2 hkind hone (hcap.cap σ) (hcap.len σ) hc I2 T st2 f2 (hg cl) (ht cl) (he cl) q2 ?_
 rintro acc C H' s' I' hC ⟨m,hm⟩ hq
 refine⟨m,hm,fun h' hsb=>⟨.ref acc,H',?_,rfl,hq⟩⟩
 exact I'.turned (t':=s'.toks) (fun b o hb e=>hsb.extBut b o hb e) hC.1 hC.2.1 hC.2.2.2.1 hC.2.2.2.2.1 hC.2.2.2.2.2
end
set_option maxHeartbeats 1000000
section
variable {κ:Type}[DecidableEq κ]
def valV(kvs:List (κ×V))(k:κ):Option V:=(kvs.find? fun kv=>decide (kv.1=k)).map (·.2)
def putK(kvs:List (κ×V))(k:κ)(v:V):List (κ×V):=
 if (kvs.any fun kv=>decide (kv.1=k))=true then kvs.map (fun kv=>if kv.1=k then (kv.1,v) else kv) else kvs++[(k,v)]
theorem zt0{p:κ×V}{r:List (κ×V)}{k:κ}(e:p.1=k):valV (p :: r) k=some p.2:=by simp[valV,zcm1,e]
theorem zs9{p:κ×V}{r:List (κ×V)}{k:κ}(e:¬ p.1=k):valV (p :: r) k=valV r k:=by simp[valV,zcm1,e]
theorem zat4(k:κ):∀ kvs:List (κ×V),(kvs.any fun kv=>decide (kv.1=k))=(valV kvs k).isSome
 | []=>rfl
 | p :: r=>by
  rw[List.any_cons]
  by_cases e:p.1=k
  ·simp only[zt0 e,decide_eq_true e,Bool.true_or,Option.isSome_some]
  ·rw[zs9 e,decide_eq_false e,Bool.false_or];exact zat4 k r
theorem zaa3(kvs:List (κ×V))(k:κ)(v:V):(putK kvs k v).length<=kvs.length+1:=by
 unfold putK
 split
 ·rw[zcf4];omega
 ·rw[zcg2,zch0,zch9];omega
theorem RelO.isSome_eq{o:Option V}{u:Option Value}(r:RelO o u):o.isSome=u.isSome:=by
 cases o with
 | none=>cases u with
  | none=>rfl
  | some _=>exact (show False from r).elim
 | some _=>cases u with
  | none=>exact (show False from r).elim
  | some _=>rfl
theorem RelO.getD{o:Option V}{u:Option Value}{d:V}{d':Value}(r:RelO o u)(rd:RelV d d'):RelV (o.getD d) (u.getD d'):=by
 cases o with
 | none=>cases u with
  | none=>exact rd
  | some _=>exact (show False from r).elim
 | some _=>cases u with
  | none=>exact (show False from r).elim
  | some _=>exact r
theorem KV.val{kvs:List (κ×V)}{vs:List (κ×Value)}(r:KV kvs vs)(k:κ):RelO (valV kvs k) (valueAt vs k):=by
 unfold KV at r
 induction r with
 | nil=>exact True.intro
 | @cons p q ps qs h t ih=>
  obtain⟨h1,h2⟩:=h
  by_cases e:p.1=k
  ·have e':q.1=k:=h1.symm.trans e
   have b:valueAt (q :: qs) k=some q.2:=by simp[valueAt,zcm1,e']
   rw[zt0 e,b];exact h2
  ·have e':¬ q.1=k:=fun z=>e (h1.trans z)
   have b:valueAt (q :: qs) k=valueAt qs k:=by simp[valueAt,zcm1,e']
   rw[zs9 e,b];exact ih
theorem KV.any{kvs:List (κ×V)}{vs:List (κ×Value)}(r:KV kvs vs)(k:κ):(kvs.any fun kv=>decide (kv.1=k))=vs.any fun kv=>decide (kv.1=k):=by
 unfold KV at r
 induction r with
 | nil=>rfl
 | cons h t ih=>rw[List.any_cons,List.any_cons,ih,h.1]
theorem KV.repl{kvs:List (κ×V)}{vs:List (κ×Value)}(r:KV kvs vs)(k:κ){y:V}(ry:RelV y u) :
  KV (kvs.map fun kv=>if kv.1=k then (kv.1,y) else kv) (vs.map fun kv=>if kv.1=k then (kv.1,u) else kv):=by
 unfold KV at r ⊢
 induction r with
 | nil=>exact .nil
 | @cons p q ps qs h t ih=>
  rw[zci1,zci1]
  refine .cons ?_ ih
  obtain⟨h1,h2⟩:=h
  by_cases e:p.1=k
  ·rw[if_pos e,if_pos (h1.symm.trans e)];exact⟨h1,ry⟩
  ·rw[if_neg e,if_neg (fun z=>e (h1.trans z))];exact⟨h1,h2⟩
theorem KV.put{kvs:List (κ×V)}{vs:List (κ×Value)}(r:KV kvs vs)(k:κ){y:V}(ry:RelV y u):KV (putK kvs k y) (stored vs k u):=by
 unfold putK stored
 rw[r.any k]
 by_cases e:(vs.any fun kv=>decide (kv.1=k))=true
 ·rw[if_pos e,if_pos e];exact r.repl k ry
 ·rw[if_neg e,if_neg e];exact Paired.snoc r ⟨rfl,ry⟩
theorem KV.length{kvs:List (κ×V)}{vs:List (κ×Value)}(r:KV kvs vs):kvs.length=vs.length:=Paired.length r
end
theorem kV_is{P:Program}{w:World}{k:Key}(r:RelV (kV k) u):(zf9 P w).is k u=true:=by
 cases k with
 | inl i=>obtain⟨t,e⟩:=(show ∃ t,u=Value.int i t from r);subst e;exact zar0 P w i t
 | inr x=>obtain⟨t,e⟩:=(show ∃ t,u=Value.str x t from r);subst e;exact zap0 P w x t
theorem zak6{P:Program}{w:World}:∀ {ks:List Key}{us:List Value},Vals (ks.map kV) us->ItemsAre (zf9 P w) ks us
 | [],_,r=>by rw[List.map_nil] at r;cases r;exact .nil
 | k :: ks,_,r=>by
  rw[zci1] at r
  cases r with
  | cons h t=>exact .cons (kV_is h) (zak6 t)
abbrev KT(H:Hp):List (List Key×V)->List (List Key×Addr×Value)->Prop:=Paired fun p q=>p.1=q.1/\H q.2.1=some (.tup (p.1.map kV))/\RelV p.2 q.2.2
theorem KT.val{kvs:List (List Key×V)}{xs:List (List Key×Addr×Value)}(r:KT H kvs xs)(k:List Key):RelO (valV kvs k) ((atKey xs k).map (·.2)):=by
 induction r with
 | nil=>exact True.intro
 | @cons p q ps qs h t ih=>
  obtain⟨h1,_,h2⟩:=h
  by_cases e:p.1=k
  ·have e':q.1=k:=h1.symm.trans e
   have b:atKey (q :: qs) k=some q.2:=by simp[atKey,zcm1,e']
   rw[zt0 e,b];exact h2
  ·have e':¬ q.1=k:=fun z=>e (h1.trans z)
   have b:atKey (q :: qs) k=atKey qs k:=by simp[atKey,zcm1,e']
   rw[zs9 e,b];exact ih
theorem KT.repl{kvs:List (List Key×V)}{xs:List (List Key×Addr×Value)}(r:KT H kvs xs)(k:List Key){y:V}(ry:RelV y u) :
  KT H (kvs.map fun kv=>if kv.1=k then (kv.1,y) else kv) (xs.map (putAt k u)):=by
 induction r with
 | nil=>exact .nil
 | @cons p q ps qs h t ih=>
  rw[zci1,zci1]
  refine .cons ?_ ih
  obtain⟨h1,h2,h3⟩:=h
  unfold putAt
  by_cases e:p.1=k
  ·rw[if_pos e,if_pos (h1.symm.trans e)];exact⟨h1,h2,ry⟩
  ·rw[if_neg e,if_neg (fun z=>e (h1.trans z))];exact⟨h1,h2,h3⟩
theorem KT.put{kvs:List (List Key×V)}{xs:List (List Key×Addr×Value)}(r:KT H kvs xs)(k:List Key){b:Addr}{y:V}(hb:H b=some (.tup (k.map kV)))(ry:RelV y u) :
  KT H (putK kvs k y) (storedH xs k b u):=by
 have e:(kvs.any fun kv=>decide (kv.1=k))=(atKey xs k).isSome:=by
  rw[zat4,(r.val k).isSome_eq,Option.isSome_map]
 unfold putK storedH
 rw[e]
 by_cases q:(atKey xs k).isSome=true
 ·rw[if_pos q,if_pos q];exact r.repl k ry
 ·rw[if_neg q,if_neg q];exact Paired.snoc r ⟨rfl,hb,ry⟩
theorem KT.keeps{kvs:List (List Key×V)}{xs:List (List Key×Addr×Value)}(r:KT H kvs xs)(ht:∀ b ys,H b=some (.tup ys)->H' b=some (.tup ys)):KT H' kvs xs:=
 Paired.mapP r fun _ _ z=>⟨z.1,ht _ _ z.2.1,z.2.2⟩
section
variable {P:Program}{w:World}{H:Hp}{h:Heap}{a:Addr}
theorem rd_of{u:HO}(ok:HOk P w H h)(e:Rd H a u):ze9 P w H h a u:=e.ok ok
theorem zbi5{kvs:List (Key×V)}(ok:HOk P w H h)(e:Rd H a (.dK kvs)):kvs.length<=sizeLine/\(a==sysModules)=false/\∃ vs,KV kvs vs/\h.DictOf (zf9 P w) a vs:=
 show ze9 P w H h a (.dK kvs) from rd_of ok e
theorem zax5{kvs:List (Key×V)}(ok:HOk P w H h)(e:H a=some (.dK kvs)):kvs.length<=sizeLine/\(a==sysModules)=false/\∃ vs,KV kvs vs/\h.DictOf (zf9 P w) a vs:=zbi5 ok (.inl e)
theorem zas7{ks:List Key}(ok:HOk P w H h)(e:H a=some (.tup (ks.map kV))):(tupleKind (zf9 P w)).is h ks a:=by
 obtain⟨_,its,r,o,h1,h2,n,h3⟩:=(show ze9 P w H h a (.tup (ks.map kV)) from ok a _ e)
 exact⟨o,its.toArray,n,h1,h2,h3,by simpa using zak6 r⟩
theorem zbg7{kvs:List (List Key×V)}(ok:HOk P w H h)(e:Rd H a (.dT kvs)):kvs.length<=sizeLine/\(a==sysModules)=false /\
  ∃ xs,KT H kvs xs/\h.DictOfH (tupleKind (zf9 P w)) a xs:=by
 obtain⟨z,y,xs,r,o,es,ep,h1,h2,h3,h4,h5⟩:=(show ze9 P w H h a (.dT kvs) from rd_of ok e)
 refine⟨z,y,xs,r,o,es,ep,h1,h2,h3,h4,fun x hx=>?_,h5⟩
 have all:∀ {l:List (List Key×V)}{m:List (List Key×Addr×Value)},KT H l m->∀ x∈m,(tupleKind (zf9 P w)).is h x.1 x.2.1:=by
  intro l m q
  induction q with
  | nil=>intro x hx;exact nomatch hx
  | @cons p q ps qs hq t ih=>
   intro x hx
   rcases zcg6.mp hx with e|hx
   ·subst e
    exact zas7 ok (by rw[← hq.1];exact hq.2.1)
   ·exact ih x hx
 exact all r x hx
theorem dt_of{kvs:List (List Key×V)}(ok:HOk P w H h)(e:H a=some (.dT kvs)):kvs.length<=sizeLine/\(a==sysModules)=false /\
  ∃ xs,KT H kvs xs/\h.DictOfH (tupleKind (zf9 P w)) a xs:=zbg7 ok (.inl e)
end
def DGet(H:Hp)(a:Addr)(y:V)(r:Option V):Prop:=
 (∃ kvs k,Rd H a (.dK kvs)/\y=kV k/\r=valV kvs k)∨∃ kvs k b,Rd H a (.dT kvs)/\y=.ref b/\H b=some (.tup (k.map kV))/\r=valV kvs k
def DPut(H:Hp)(a:Addr)(y v:V)(H':Hp):Prop:=
 (∃ kvs k,H a=some (.dK kvs)/\y=kV k/\kvs.length<sizeLine/\H'=upd H a (.dK (putK kvs k v))) ∨
 ∃ kvs k b,H a=some (.dT kvs)/\y=.ref b/\H b=some (.tup (k.map kV))/\kvs.length<sizeLine/\H'=upd H a (.dT (putK kvs k v))
theorem DGet.k{H:Hp}{a:Addr}{kvs:List (Key×V)}{k:Key}(e:H a=some (.dK kvs)):DGet H a (kV k) (valV kvs k):=.inl ⟨kvs,k,.inl e,rfl,rfl⟩
theorem DGet.t{a b:Addr}{kvs:List (List Key×V)}{k:List Key}(e:H a=some (.dT kvs))(eb:H b=some (.tup (k.map kV))):DGet H a (.ref b) (valV kvs k):=.inr ⟨kvs,k,b,.inl e,rfl,eb,rfl⟩
theorem DPut.k{H:Hp}{a:Addr}{kvs:List (Key×V)}{k:Key}{v:V}(e:H a=some (.dK kvs))(hl:kvs.length<sizeLine):DPut H a (kV k) v (upd H a (.dK (putK kvs k v))):=.inl ⟨kvs,k,e,rfl,hl,rfl⟩
theorem DPut.t{a b:Addr}{kvs:List (List Key×V)}{k:List Key}{v:V}(e:H a=some (.dT kvs))(eb:H b=some (.tup (k.map kV)))(hl:kvs.length<sizeLine) :
  DPut H a (.ref b) v (upd H a (.dT (putK kvs k v))):=.inr ⟨kvs,k,b,e,rfl,eb,hl,rfl⟩
section
variable {X:Cx}{pins:List (Addr×Obj)}{σ:St}{H:Hp}{s:Shared}{a:Addr}{y v:V}{u r:Value}{o:Option V}{A:Around}{E:Value->Shared->Prop}
theorem Inv.big(I:Inv X pins σ H s):sysModules<s.heap.objs.size:=by
 have h:zcq2<s.heap.objs.size:=(I.mod.glob.keeps I.bk).lt
 exact Nat.lt_trans (by decide) h
theorem zbi4(hu:A.units+1<cLine)(I:Inv X pins σ H s)(g:DGet H a y (some v))(ry:RelV y u)(h:∀ w' s',Inv X pins σ H s'->RelV v w'->Q w' s') :
  wpAny (model X.prog X.w) A (getItem (.ref a) u) Q E s:=by
 rcases g with ⟨kvs,k,e,ey,l⟩|⟨kvs,k,b,e,ey,eb,l⟩
 ·subst ey
  obtain⟨z,hd,vs,rel,dd⟩:=zbi5 I.hok e
  obtain⟨w',hw,rw'⟩:=RelO.some_of (v:=v) (o:=valueAt vs k) (by rw[l];exact rel.val k)
  exact wpAny_getItem_of (kV_is ry) dd.mapOf hw (h w' _ (I.tok _) rw')
 ·subst ey
  cases (show u=Value.ref b from ry)
  obtain⟨z,hd,xs,rel,dd⟩:=zbg7 I.hok e
  obtain⟨w',hw,rw'⟩:=RelO.some_of (v:=v) (o:=(atKey xs k).map (·.2)) (by rw[l];exact rel.val k)
  obtain⟨p,hp,hp2⟩:=zcg5.mp hw
  refine wpAny_getItem_heap (tupleKind_room_in1 hu) (zas7 I.hok eb) dd hp ?_
  rw[hp2]
  exact h w' _ (I.tok _) rw'
theorem zbc9{t':Nat}{ob:HO}(I:Inv X pins σ H s)(mu:Mut (H a))(hs:Heap.SameBut a s.heap h')(he:∃ q,h'.get? a=some q)(new:ze9 X.prog X.w (upd H a ob) h' a ob) :
  Inv X pins σ (upd H a ob) { s with heap:=h',toks:=t' }:=
 I.write (x:=a) (e:=a) mu (.inl rfl) (fun b q hb z=>(hs.2 b hb).trans z) he new
theorem dk_new{P:Program}{w:World}{kvs:List (Key×V)}{vs:List (Key×Value)}(z:kvs.length<=sizeLine)(hd:(a==sysModules)=false)(rel:KV kvs vs)(dd:h'.DictOf (zf9 P w) a vs) :
  ze9 P w H' h' a (.dK kvs):=⟨z,hd,vs,rel,dd⟩
theorem zbl3{Q:Unit->Shared->Prop}(hu:A.units+1<cLine)(I:Inv X pins σ H s)(g:DPut H a y v H')(ry:RelV y u)(rv:RelV v r)(h:∀ s',Inv X pins σ H' s'->Q () s') :
  wpAny (model X.prog X.w) A (setItem (.ref a) u r) Q E s:=by
 rcases g with ⟨kvs,k,e,ey,l,eH⟩|⟨kvs,k,b,e,ey,eb,l,eH⟩
 ·subst ey eH
  obtain⟨z,hd,vs,rel,dd⟩:=zax5 I.hok e
  have hz:vs.length<=sizeLine:=by rw[← rel.length];exact z
  have hl:(putK kvs k v).length<=sizeLine:=by have:=zaa3 kvs k v;omega
  refine wpAny_setItem_pairs (hsz:=hz) (kV_is ry) dd fun h' dd' hs=>h _ ?_
  have he:∃ q,h'.get? a=some q:=let ⟨q,_,_,hq,_⟩:=dd';⟨q,hq⟩
  exact zbc9 I (by rw[e];exact True.intro) hs he (dk_new hl hd (rel.put k rv) dd')
 ·subst ey eH
  cases (show u=Value.ref b from ry)
  obtain⟨z,hd,xs,rel,dd⟩:=dt_of I.hok e
  have hz:xs.length<=sizeLine:=by rw[← Paired.length rel];exact z
  have hl:(putK kvs k v).length<=sizeLine:=by have:=zaa3 kvs k v;omega
  refine wpAny_setItem_heap (hsz:=hz) (tupleKind_room_in1 hu) (zas7 I.hok eb) dd fun h' dd' hs=>h _ ?_
  obtain⟨q,es,ep,hq,h2,h3,h4,_,h5⟩:=dd'
  refine zbc9 I (by rw[e];exact True.intro) hs ⟨q,hq⟩ ⟨hl,hd,_,(rel.put k eb rv).keeps fun c ys ec=>?_,q,es,ep,hq,h2,h3,h4,h5⟩
  rw[zb4 (ne_of ec e (fun z=>nomatch z))]
  exact ec
end
def NoSl(i:Expr):Prop:=∀ ov iv,subscripted i false ov iv=operate [ov,iv] (getItem ov iv)
theorem zbv4{prog:Program}{w:World}{A:Around}{env:Env}{value slice:Expr}{pos:Pos}{T id:String}(hl:typeLookup (.type T) "__getitem__"=pure (some (.builtin id)))(hs:NoSl slice)(h:wpAny (model prog w) A (eval value env) (fun o s₁=>wpAny (model prog w) A (eval slice env) (fun i s₂=>s₂.TypeIs o T/\wpAny (model prog w) A (getItem o i) Q E s₂) E s₁) E s) :
  wpAny (model prog w) A (eval (.Subscript value slice pos) env) Q E s:=by
 refine Subscript_ (wpAny_mono h (fun o s₁ h₁=>wpAny_mono h₁ (fun i s₂ h₂=>?_) fun _ _ x=>x) fun _ _ x=>x)
 obtain⟨hT,h₂⟩:=h₂
 unfold subscriptTail
 refine zcp6 ?_
 rw[getitemInPython_of_ne hT.not_modules]
 refine zcp6 (wpAny_specialOf hT hl ?_)
 have fin:wpAny (model prog w) A (subscripted slice false o i) (fun r s₃=>wpAny (model prog w) A (letTemporaryGo value o r >>= fun _=>pure r) Q E s₃) E s₂:=by
  rw[hs o i]
  exact wpAny_operating (wpAny_mono h₂ (fun r s₃ h₃=>zcp6 (wpAny_letTemporaryGo (zcp7 h₃))) fun _ _ x=>x)
 first
  | exact zcp7 (zcp6 fin)
  | exact zcp6 (zcp7 (zcp6 fin))
  | exact zcp6 fin
theorem zap5{X:Cx}{pins:List (Addr×Obj)}{σ:St}{a:Addr}{y:V}{o:Option V}(I:Inv X pins σ H s)(g:DGet H a y o):s.TypeIs (.ref a) "dict":=by
 rcases g with ⟨kvs,k,e,_,_⟩|⟨kvs,k,b,e,_,_,_⟩
 ·obtain⟨_,_,vs,_,dd⟩:=zbi5 I.hok e
  exact dd.typeIs
 ·obtain⟨_,_,xs,_,dd⟩:=zbg7 I.hok e
  exact dd.typeIs
def tDGet(td ty:TE):TE:=fun σ H Q=>td σ H fun x H1=>ty σ H1 fun y H2=>∃ a v,x=.ref a/\DGet H2 a y (some v)/\Q v H2
def sDPut(td ty tv:TE):TS:=fun D σ H=>tv σ H fun v H1=>td σ H1 fun x H2=>ty σ H2 fun y H3=>∃ a H4,x=.ref a/\DPut H3 a y v H4/\D.nx σ H4
section
variable {X:Cx}{o i e value:Expr}{pos pos' tpos:Pos}{td ty tv:TE}
theorem zby4(hu:X.A.units+1<cLine)(ho:PE X o td)(hi:PE X i ty)(hs:NoSl i):PE X (.Subscript o i pos) (tDGet td ty):=by
 intro pins s σ H Q I h
 refine zbv4 PySem.F.slot_dict_getitem.lookup hs (thn (ho pins s σ H _ I h) fun u s1 ⟨x,H1,I1,rx,q1⟩=>thn (hi pins s1 σ H1 _ I1 q1) fun iv s2 ⟨y,H2,I2,ry,a,v,ex,g,q2⟩=>?_)
 subst ex
 obtain rfl:u=Value.ref a:=rx
 exact⟨zap5 I2 g,zbi4 hu I2 g ry fun w' s3 I3 rw'=>⟨v,H2,I3,rw',q2⟩⟩
theorem zbv0(hu:X.A.units+1<cLine)(ho:PE X o td)(hi:PE X i ty)(hv:PE X value tv)(hs:swapsWith value (some (.Subscript o i pos')) pos.line X.env=pure false) :
  PS X (.Assign [.Subscript o i pos'] value pos) (sDPut td ty tv):=by
 intro pins s σ H D I h
 refine wpAny_Assign_Subscript (thn (hv pins s σ H _ I h) fun r s1 ⟨v,H1,I1,rv,q1⟩=>thn (ho pins s1 σ H1 _ I1 q1) fun u s2 ⟨x,H2,I2,rx,q2⟩=>thn (hi pins s2 σ H2 _ I2 q2) fun iv s3 ⟨y,H3,I3,ry,a,H4,ex,g,q3⟩=>?_) hs
 subst ex
 obtain rfl:u=Value.ref a:=rx
 exact zbl3 hu I3 g ry rv fun s4 I4=>⟨σ,H4,I4,q3⟩
end
theorem zbn5{P:Program}{w:World}(h:Heap)(hb:sysModules<h.objs.size):ze9 P w H (h.push { cls:=.type "dict",data:=.dict #[] }) h.objs.size (.dK []):=
 ⟨zci0 _,beq_eq_false_iff_ne.mpr (Ne.symm (zci2 hb)),[],.nil,Heap.DictOf.new h⟩
theorem zbp0{P:Program}{w:World}(h:Heap)(hb:sysModules<h.objs.size):ze9 P w H (h.push { cls:=.type "dict",data:=.dict #[] }) h.objs.size (.dT []):=
 ⟨zci0 _,beq_eq_false_iff_ne.mpr (Ne.symm (zci2 hb)),[],.nil,_,#[],0,zch5 _ rfl,⟨rfl,rfl,rfl⟩,rfl,rfl,List.nodup_nil⟩
def tDNewK:TE:=fun _ H Q=>∀ p,H p=none->Q (.ref p) (upd H p (.dK []))
def tDNewT:TE:=fun _ H Q=>∀ p,H p=none->Q (.ref p) (upd H p (.dT []))
section
variable {X:Cx}{pos:Pos}
theorem zbq5:PE X (.Dict [] [] pos) tDNewK:=fun pins s σ H Q I h=>
 wpAny_Dict_empty ⟨.ref s.heap.objs.size,_,I.laid (a:=s.heap.objs.size) (o:=.dK []) (t':=s.toks) (fun _ _ q=>zcf7 _ q) (zcg9 _) (zbn5 s.heap I.big),rfl,h _ (I.hok.fresh (zcg9 _))⟩
theorem zbm9:PE X (.Dict [] [] pos) tDNewT:=fun pins s σ H Q I h=>
 wpAny_Dict_empty ⟨.ref s.heap.objs.size,_,I.laid (a:=s.heap.objs.size) (o:=.dT []) (t':=s.toks) (fun _ _ q=>zcf7 _ q) (zcg9 _) (zbp0 s.heap I.big),rfl,h _ (I.hok.fresh (zcg9 _))⟩
end
structure M1(X:Cx)(o:Expr)(m:Str)(apos:Pos)(e:Expr)(cpos:Pos):Prop where
 base:attributeBase o m X.env (eval o X.env)=eval o X.env
 few:((backTo cpos (starEach [e] X.env)).all (fun x=>!x.1)&&(backToKw cpos (keywordEach [] X.env)).all (fun x=>x.1.isSome)
  && decide (([e]:List Expr).length+([]:List Keyword).length+(if ([]:List Keyword).isEmpty then 0 else 1)<30))=true
 line:(apos.endLine==cpos.line)=true
 trees:backTo cpos (starEach [e] X.env)=[(false,eval e X.env)]
structure M2(X:Cx)(o:Expr)(m:Str)(apos:Pos)(e f:Expr)(cpos:Pos):Prop where
 base:attributeBase o m X.env (eval o X.env)=eval o X.env
 few:((backTo cpos (starEach [e,f] X.env)).all (fun x=>!x.1)&&(backToKw cpos (keywordEach [] X.env)).all (fun x=>x.1.isSome)
  && decide (([e,f]:List Expr).length+([]:List Keyword).length+(if ([]:List Keyword).isEmpty then 0 else 1)<30))=true
 line:(apos.endLine==cpos.line)=true
 trees:backTo cpos (starEach [e,f] X.env)=[(false,eval e X.env),(false,eval f X.env)]
def IsD(H:Hp)(a:Addr):Prop:=(∃ kvs,Rd H a (.dK kvs))∨∃ kvs,Rd H a (.dT kvs)
theorem isD_at{X:Cx}{pins:List (Addr×Obj)}{σ:St}{a:Addr}(I:Inv X pins σ H s)(d:IsD H a) :
  s.TypeIs (.ref a) "dict"/\(∀ b,Value.ref a=.ref b->∃ ob,s.heap.get? b=some ob/\ob.dict=none)/\(a==sysModules)=false:=by
 rcases d with ⟨kvs,e⟩|⟨kvs,e⟩
 ·obtain⟨_,hd,vs,_,dd⟩:=zbi5 I.hok e
  refine⟨dd.typeIs,fun b q=>?_,hd⟩
  cases q
  obtain⟨ob,_,_,h1,h2,_⟩:=dd
  exact⟨ob,h1,h2.2.1⟩
 ·obtain⟨_,hd,xs,_,dd⟩:=zbg7 I.hok e
  refine⟨dd.typeIs,fun b q=>?_,hd⟩
  cases q
  obtain⟨ob,_,_,h1,h2,_⟩:=dd
  exact⟨ob,h1,h2.2.1⟩
section
variable {X:Cx}{pins:List (Addr×Obj)}{σ:St}{H:Hp}{s:Shared}{a:Addr}{y d:V}{u r:Value}{o:Option V}{A:Around}{E:Value->Shared->Prop}
theorem d_get2(hu:A.units+1<cLine)(I:Inv X pins σ H s)(g:DGet H a y o)(ry:RelV y u)(rd:RelV d r)(h:∀ w' s',Inv X pins σ H s'->RelV (o.getD d) w'->Q w' s') :
  wpAny (model X.prog X.w) A (call (.builtin "dict.get") [.ref a,u,r]) Q E s:=by
 rcases g with ⟨kvs,k,e,ey,l⟩|⟨kvs,k,b,e,ey,eb,l⟩
 ·subst ey
  obtain⟨z,hd,vs,rel,dd⟩:=zbi5 I.hok e
  refine call_meetsIn PySem.F.slot_dict_get dd.typeIs PySem.F.entry_dict_get (PySem.F.args_dict_get_3 _ _ _) (meets_dict_get_default (zf9 X.prog X.w) a (kV_is ry) hd r) ⟨_,dd.mapOf,h _ _ (I.tok _) ?_⟩
  rw[l]
  exact (rel.val k).getD rd
 ·subst ey
  cases (show u=Value.ref b from ry)
  obtain⟨z,hd,xs,rel,dd⟩:=zbg7 I.hok e
  refine call_meetsIn PySem.F.slot_dict_get dd.typeIs PySem.F.entry_dict_get (PySem.F.args_dict_get_3 _ _ _) (meetsH_dict_get_default (tupleKind (zf9 X.prog X.w)) a b hd r) ⟨tupleKind_room_in1 hu,k,xs,zas7 I.hok eb,dd,h _ _ (I.tok _) ?_⟩
  rw[l]
  exact (rel.val k).getD rd
end
def zbf2(td ty tx:TE):TE:=fun σ H Q=>td σ H fun x H1=>∃ a,x=.ref a/\IsD H1 a/\ty σ H1 fun y H2=>tx σ H2 fun z H3=>∃ o,DGet H3 a y o/\Q (o.getD z) H3
section
variable {X:Cx}{o e f:Expr}{apos cpos:Pos}{td ty tx:TE}
theorem zbo2(hu:X.A.units+1<cLine)(ho:PE X o td)(he:PE X e ty)(hf:PE X f tx)(m:M2 X o "get" apos e f cpos):PE X (.Call (.Attribute o "get" apos) [e,f] [] cpos) (zbf2 td ty tx):=by
 intro pins s σ H Q I h
 refine wpAny_Call_method m.base m.few m.line PySem.F.plainAttrs_dict PySem.F.slot_dict_get PySem.F.type_dict_get (thn (ho pins s σ H _ I h) fun u s1 ⟨x,H1,I1,rx,a,ex,d,q1⟩=>?_)
 subst ex
 obtain rfl:u=Value.ref a:=rx
 obtain⟨t1,t2,_⟩:=isD_at I1 d
 refine⟨t1,t2,?_⟩
 rw[m.trees]
 refine Calls.callWith_builtin rfl (Calls.evalArgs_plain (Calls.spliced_cons (thn (he pins s1 σ H1 _ I1 q1) fun iv s2 ⟨y,H2,I2,ry,q2⟩=>
  Calls.spliced_cons (thn (hf pins s2 σ H2 _ I2 q2) fun fv s3 ⟨z,H3,I3,rz,ov,g,q3⟩=>Calls.spliced_nil ?_))))
 exact d_get2 hu I3 g ry rz fun w' s4 I4 rw'=>⟨_,H3,I4,rw',q3⟩
end
set_option maxHeartbeats 2000000
def RawD(h:Heap)(d:Addr)(es:Array DictEntry)(ep:Nat):Prop:=∃ o,h.get? d=some o/\o.ExactDict/\o.data=.dict es ep
theorem RawD.is{d:Addr}{es:Array DictEntry}(x:RawD s.heap d es ep):s.TypeIs (.ref d) "dict":=let ⟨o,a,b,_⟩:=x;⟨o,a,b.1⟩
theorem RawD.lt{d:Addr}{es:Array DictEntry}(x:RawD h d es ep):d<h.objs.size:=let ⟨_,a,_⟩:=x;zch1 a
theorem RawD.to{d:Addr}{es:Array DictEntry}(x:RawD h d es ep)(k:∀ o,h.get? d=some o->h'.get? d=some o):RawD h' d es ep:=let ⟨o,a,r⟩:=x;⟨o,k _ a,r⟩
section
variable {prog:Program}{w:World}{A:Around}{E:Value->Shared->Prop}{s:Shared}{d it:Addr}{es:Array DictEntry}{ep:Nat}
theorem zbp2(lo:(d==sysModules)=false)(x:RawD s.heap d es ep)(q:Q (.ref s.heap.objs.size) { s with heap:=s.heap.push { cls:=.type "dict_keyiterator",data:=.fields #[.ref d,.int 0 0,.int es.size 0,.int ep 0] } }) :
  wpAny (model prog w) A (pyIter (.ref d)) Q E s:=by
 obtain⟨o,x1,x2,x3⟩:=id x
 have tt:=x.is
 refine wpAny_pyIter_slot tt F.slot_dict_iter (wpAny_call_entry F.slot_dict_iter tt F.entry_dict_iter ?_ (F.args_dict_iter_1 _))
 unfold Builtin.«dict.__iter__» Builtin.Dict.dictSlotNone
 refine zcp6 (zcp6 (wpAny_notOrdered_dict tt ?_))
 show wpAny (model prog w) _ (pure (Value.ref d)) _ _ s
 refine zcp7 (?_:_)
 show wpAny (model prog w) _ (Builtin.Dict.showsAll d >>= _) _ _ s
 unfold Builtin.Dict.showsAll
 rw[if_neg (fun z=>zcg3 (lo.symm.trans z))]
 refine zcp6 (zcp7 (zcp6 (wpAny_dictEntries x1 x3 (zcp6 (wpAny_dictEpoch x1 x3 ?_)))))
 exact zcp6 (wpAny_newObj_type (zcp7 ⟨_,rfl,"dict_keyiterator",_,⟨_,zch5 _ rfl,rfl⟩,F.slot_dict_keyiterator_next.lookup,by simpa [rawInt] using q⟩))
theorem zbm3{Q:Option Value->Shared->Prop}(y:s.heap.IsKeyIter it d i es.size ep)(x:RawD s.heap d es ep)(hi:i<es.size)(q:∀ h',h'.IsKeyIter it d (i+1) es.size ep->Heap.SameBut it s.heap h'->Q (some es[i].key) { s with heap:=h' }) :
  wpAny (model prog w) A (pyNext (.ref it)) Q E s:=by
 obtain⟨o,y1,y2,y3⟩:=id y
 obtain⟨od,x1,x2,x3⟩:=id x
 have own:Builtin.Dict_items.ownsTuple "dict_keyiterator"=false:=by decide
 unfold pyNext
 refine zcp6 (wpAny_attempt (wpAny_callSpecial?_slot (name:=Str.ofString "__next__") y.typeIs F.slot_dict_keyiterator_next (wpAny_call_entry F.slot_dict_keyiterator_next y.typeIs F.entry_dict_keyiterator_next ?_ (F.args_dict_keyiterator_next_1 _))))
 refine zcp6 (zcp7 (zcp6 (zcp6 ?_)))
 first|refine zcp6 (wpAny_typeNameOfWhole_keyiter y.typeIs (zcp7 ?_))|refine zcp6 (wpAny_typeNameOf_keyiter y.typeIs (zcp7 ?_))
 refine zcp6 (wpAny_fieldsOf y1 y3 ?_)
 simp only[own,zcn1,if_false]
 show wpAny (model prog w) _ (if (Value.ref d==Value.none)=true then _ else _) _ _ s
 rw[if_neg (show ¬ (Value.ref d==Value.none)=true from zcg3)]
 refine zcp6 (zcp7 (zcp6 (wpAny_dictEntries x1 x3 ?_)))
 rw[if_neg (by simp)]
 refine zcp6 (zcp7 (zcp6 (wpAny_dictEpoch x1 x3 ?_)))
 rw[if_neg (by simp)]
 refine zcp7 (?_:_)
 simp only[show ¬ ((i:Int)<0) from by omega,if_false,Int.toNat_natCast,zcl4 hi]
 refine zcp6 (?_:_)
 first|refine zcp6 (wpAny_typeNameOfWhole_keyiter y.typeIs (zcp7 ?_))|refine zcp6 (wpAny_typeNameOf_keyiter y.typeIs (zcp7 ?_))
 refine zcp6 (wpAny_isOneOf_keyiter y.typeIs ?_)
 show wpAny (model prog w) _ (setField (.ref it) 1 (rawInt ((i:Int)+1)) >>= _) _ _ s
 refine zcp6 (wpAny_setField y1 y3 (by simp) ?_)
 have y':(s.heap.update it (Obj.mapFields (·.setIfInBounds 1 (rawInt ((i:Int)+1))))).IsKeyIter it d (i+1) es.size ep:=
  ⟨_,zcl7 _ y1 (Obj.isFreed_of_fields (Obj.data_mapFields y3 _)),(Obj.cls_mapFields ..).trans y2,by rw[Obj.data_mapFields y3];simp[rawInt]⟩
 refine zcp6 (zcq1 (zcp6 (wpAny_isOneOf_keyiter (s:={ s with heap:=s.heap.update it (Obj.mapFields (·.setIfInBounds 1 (rawInt ((i:Int)+1)))) }) y'.typeIs ?_)))
 show wpAny (model prog w) _ (pure es[i].key) _ _ _
 exact zcp7 (zcp7 ⟨_,rfl,zcp7 (q _ y' (Heap.SameBut.update ..))⟩)
theorem zby2{Q:Option Value->Shared->Prop}(hh:A.handled=none)(y:s.heap.IsKeyIter it d i es.size ep)(x:RawD s.heap d es ep)(hi:es.size<=i)(q:∀ h',Heap.ExtBut it s.heap h'->Q none { s with heap:=h' }) :
  wpAny (model prog w) A (pyNext (.ref it)) Q E s:=by
 obtain⟨o,y1,y2,y3⟩:=id y
 obtain⟨od,x1,x2,x3⟩:=id x
 have own:Builtin.Dict_items.ownsTuple "dict_keyiterator"=false:=by decide
 unfold pyNext
 refine zcp6 (wpAny_attempt (wpAny_callSpecial?_slot (name:=Str.ofString "__next__") y.typeIs F.slot_dict_keyiterator_next (wpAny_call_entry F.slot_dict_keyiterator_next y.typeIs F.entry_dict_keyiterator_next ?_ (F.args_dict_keyiterator_next_1 _))))
 refine zcp6 (zcp7 (zcp6 (zcp6 ?_)))
 first|refine zcp6 (wpAny_typeNameOfWhole_keyiter y.typeIs (zcp7 ?_))|refine zcp6 (wpAny_typeNameOf_keyiter y.typeIs (zcp7 ?_))
 refine zcp6 (wpAny_fieldsOf y1 y3 ?_)
 simp only[own,zcn1,if_false]
 show wpAny (model prog w) _ (if (Value.ref d==Value.none)=true then _ else _) _ _ s
 rw[if_neg (show ¬ (Value.ref d==Value.none)=true from zcg3)]
 refine zcp6 (zcp7 (zcp6 (wpAny_dictEntries x1 x3 ?_)))
 rw[if_neg (by simp)]
 refine zcp6 (zcp7 (zcp6 (wpAny_dictEpoch x1 x3 ?_)))
 rw[if_neg (by simp)]
 refine zcp7 (?_:_)
 simp only[show ¬ ((i:Int)<0) from by omega,if_false,Int.toNat_natCast,Array.getElem?_eq_none hi]
 refine zcp6 (?_:_)
 first|refine zcp6 (wpAny_typeNameOfWhole_keyiter y.typeIs (zcp7 ?_))|refine zcp6 (wpAny_typeNameOf_keyiter y.typeIs (zcp7 ?_))
 show wpAny (model prog w) _ (setField (.ref it) 0 .none >>= _) _ _ s
 refine zcp6 (wpAny_setField y1 y3 (by simp) ?_)
 show wpAny (model prog w) _ (newExc (.type "StopIteration") [] >>= _) _ _ _
 refine zcp6 (?_:_)
 unfold newExc newTuple
 refine zcp6 (wpAny_newObj_type ?_ (zci0 _))
 refine zcp6 (m:=firstArgMember _ _) (wpAny_of_eq (a:=Value.none) (by first|rfl|(unfold firstArgMember;rfl)) ?_)
 refine wpAny_newObj_type ?_ (by size_fits)
 unfold raiseNew
 refine zcp6 (wpAny_handled ?_)
 have hn:A.in1.handled=none:=hh
 rw[hn]
 refine zcp6 (zcp7 (wpAny_throw (?_:_)))
 refine zcp6 (wpAny_isInstance (b:=true) (T:="StopIteration") ⟨_,zch5 _ rfl,rfl⟩ isSubtype_stop ?_)
 exact zcp7 (q _ (((Heap.SameBut.update ..).extBut.push _).push _))
theorem zbp8(hh:A.handled=none)(I:Addr)(ne:d≠I) :
  Walks prog w A I [I,d] [I] es.size (fun i v=>∃ e,es[i]?=some e/\v=e.key) (fun i h=>h.IsKeyIter I d i es.size ep/\RawD h d es ep) where
 sub:=by intro b z;simp at z;simp[z]
 frame:=fun i h h' st k=>⟨st.1.at (k I (by simp)),st.2.to (k d (by simp))⟩
 item:=fun i s Q E hi st q=>zbm3 st.1 st.2 hi fun h' y' hs=>q _ h' s.toks ⟨es[i],by simp[hi],rfl⟩ ⟨y',st.2.to fun o e=>hs.extBut d o ne e⟩ fun b o hb e=>hs.extBut b o (fun z=>hb (by simp[z])) e
 done:=fun s Q E st q=>zby2 hh st.1 st.2 (zcg9 _) fun h' he=>q h' s.toks fun b o hb e=>he b o (fun z=>hb (by simp[z])) e
 self:=fun i s Q E st q=>wpAny_pyIter_keyiter st.1 q
theorem zbe0(lo:(d==sysModules)=false):PySem.W.KdlSrc prog w "dict" d d es.size (fun i v=>∃ e,es[i]?=some e/\v=e.key) (fun h=>RawD h d es ep) where
 type:=fun s x=>x.is
 there:=fun h x=>⟨x.lt,x.lt⟩
 keep:=fun h h' x k=>x.to fun o e=>k d (Or.inl rfl) o e
 notList:=rfl
 notTuple:=rfl
 hint:=fun A E s Q x q=>PySem.W.kdl_hint_dict x.is q
 iter:=fun A s hh x=>⟨_,_,(fun E Q q=>zbp2 lo x q),zbp8 hh _ (zci2 x.lt),⟨⟨_,zch5 _ rfl,rfl,rfl⟩,x.to fun o e=>zcf7 _ e⟩⟩
end
open PySem.W
section
variable {lt:Nat->Nat->Bool}{n:Nat}
def KW{α:Type}(lt:Nat->Nat->Bool)(n:Nat)(Q:α->Prop):KasT α->Prop
 | .ret a=>Q a
 | .ask i j k=>i<n/\j<n/\KW lt n Q (k (lt i j))
theorem KW.bd{α β:Type}{f:α->KasT β}{Q:β->Prop}:∀ {t:KasT α},KW lt n (fun a=>KW lt n Q (f a)) t->KW lt n Q (t.bind f)
 | .ret _,h=>h
 | .ask _ _ k,⟨h1,h2,h3⟩=>⟨h1,h2,KW.bd (t:=k _) h3⟩
theorem KW.mono{α:Type}{Q Q':α->Prop}(hq:∀ a,Q a->Q' a):∀ {t:KasT α},KW lt n Q t->KW lt n Q' t
 | .ret a,h=>hq a h
 | .ask _ _ k,⟨h1,h2,h3⟩=>⟨h1,h2,KW.mono hq (t:=k _) h3⟩
theorem KW.wp{α:Type}{cmp:Nat->Nat->(Bool->Shared->Prop)->Shared->Prop}{s:Shared}{Q:α->Prop}(hc:∀ i j C,i<n->j<n->C (lt i j) s->cmp i j C s):∀ {t:KasT α},KW lt n Q t->t.kasWp cmp (fun a s'=>s'=s/\Q a) s
 | .ret a,h=>⟨rfl,h⟩
 | .ask i j k,⟨h1,h2,h3⟩=>hc i j _ h1 h2 (KW.wp hc (t:=k _) h3)
def Pm(n:Nat)(p:Array Nat):Prop:=p.toList.Perm (List.range n)
theorem Pm.low{p:Array Nat}(h:Pm n p)(hn:0<n)(i:Nat):p.getD i 0<n:=by
 unfold Array.getD
 split
 ·rename_i hi
  exact zci3.mp (h.mem_iff.mp (Array.getElem_mem_toList hi))
 ·exact hn
theorem Pm.rev{p:Array Nat}(h:Pm n p)(i j:Nat):Pm n (kas_rev p i j):=(Array.perm_iff_toList_perm.mp (mirror_perm p i j _)).trans h
theorem Pm.bub{p:Array Nat}(h:Pm n p)(i j:Nat):Pm n (bubble p i j):=(Array.perm_iff_toList_perm.mp (bubble_perm p i j)).trans h
end
section
variable {prog:Program}{w:World}{A:Around}{E:Value->Shared->Prop}{s:Shared}
def midH(h:Heap)(a:Addr)(vs:List Value):Heap:=((h.update a (Obj.mapSeq fun _=>#[])).push (seqObj "tuple" vs.toArray 0)).push (seqObj "list" #[] 0)
theorem zbd0{a b:Addr}(ne:b≠a)(e:h.get? b=some o):(midH h a vs).get? b=some o:=
 zcf7 _ (zcf7 _ ((Heap.get?_update_ne _ _ _ _ ne).trans e))
theorem zq9{a b:Addr}{out:Array Value}(ne:b≠a)(e:h.get? b=some o):(sortedHeap h a vs out).get? b=some o:=
 (Heap.get?_update_ne _ _ _ _ ne).trans (zbd0 ne e)
theorem zbh9{a:Addr}{xs:List Value}{n:Nat}(e:h.get? a=some (seqObj "list" xs.toArray n)):∃ c,(midH h a vs).get? a=some (seqObj "list" #[] c)/\(h.update a (Obj.mapSeq fun _=>#[])).get? a=some (seqObj "list" #[] c):=
 ⟨_,zcf7 _ (zcf7 _ (get?_update_seq e fun _=>#[])),get?_update_seq e fun _=>#[]⟩
theorem zv1{a:Addr}{xs:List Value}{n:Nat}{out:Array Value}(e:h.get? a=some (seqObj "list" xs.toArray n)):∃ c,(sortedHeap h a vs out).get? a=some (seqObj "list" out c):=by
 obtain⟨c,h1,_⟩:=zbh9 (vs:=vs) e
 exact⟨_,get?_update_seq h1 fun _=>out⟩
theorem zbb2{a:Addr}{n:Nat}{κ:SortKind}{lt:Nat->Nat->Bool}{R:Array Nat->Prop}{P:PySem.Fin->Shared->Prop}(ho:s.heap.get? a=some (seqObj "list" vs.toArray n))(h2:2<=vs.length)(h64:vs.length<64)(hk:∀ Q:SortKind->Shared->Prop,Q κ { s with heap:=midH s.heap a vs }->wpAny (model prog w) A (keyKind' vs.toArray) Q E { s with heap:=midH s.heap a vs })(hc:∀ i j (C:Bool->Shared->Prop),i<vs.length->j<vs.length->C (lt i j) { s with heap:=midH s.heap a vs }->wpAny (model prog w) A (keyLt' κ (vs.getD i Value.none) (vs.getD j Value.none)) C (fun _ _=>False) { s with heap:=midH s.heap a vs })(kw:KW lt vs.length R (kas_sort vs.length))(h:∀ p:Array Nat,p.size=vs.length->R p->P (.done (.ret .none)) { s with heap:=sortedHeap s.heap a vs (zco2 (p.toList.map fun i=>vs.getD i Value.none)) }) :
  wpAny (model prog w) A (Builtin.«list.sort» ⟨[.ref a],[]⟩) P E s:=by
 obtain⟨c,m1,m2⟩:=zbh9 (vs:=vs) ho
 have zs:¬ vs.toArray.size<2:=by rw[zcg1];omega
 have zl:vs.length<=sizeLine:=by rw[zcp8];omega
 rw[list_sort_plain]
 refine zcp6 (listItems_at ho rfl (zcp6 (listUpdate_at ho rfl ?_ (by rw[zcg1];exact zl) (zci0 _))))
 refine zcp6 (seqEpoch_at m2 rfl (zcp6 (wpAny_newTuple ?_ zl)))
 refine zcp6 (wpAny_newList ?_ (zci0 _))
 refine zcq1 (?_:_)
 show wpAny (model prog w) A _ P E { s with heap:=midH s.heap a vs }
 dsimp only
 rw[if_neg zs,if_neg zs]
 refine zcp6 (hk _ ?_)
 have run:=kat_run (prog:=prog) (w:=w) (A:=A) (E:=E) (κ:=κ) (ks:=vs) (vs:=vs) (s:={ s with heap:=midH s.heap a vs }) (Q:=fun st' s'=>s'={ s with heap:=midH s.heap a vs }/\∃ p:Array Nat,p.size=vs.length/\R p/\arrOf st'=p.map (kas_item (vs.toArray.zip vs.toArray))/\failedOf st'=none)
  rfl h2 h64 (fun p st' s' b1 b2 b3 b4=>⟨b4.1,p,b1,b4.2,b2,b3⟩) (KW.wp (cmp:=kas_ask prog w A κ vs) (fun i j C li lj hC=>hc i j C li lj hC) kw)
 refine zcp6 (wpAny_mono run ?_ fun _ _ e=>e)
 rintro⟨⟨⟩,st'⟩ s' ⟨rfl,p,pz,pR,har,hf⟩
 have out:=kat_snds rfl har
 dsimp only
 rw[out]
 refine zcp6 (seqEpoch_at m1 rfl (zcp6 (listUpdate_at m1 rfl ?_ (zci0 _) ?_)))
 ·rw[hf]
  simp only[bne_self_eq_false,zcn1,if_false]
  exact zcp7 (h p pz pR)
 ·rw[zcg1,zcf4,zcg7,pz]
  omega
theorem zau6{a:Addr}{n:Nat}{P:PySem.Fin->Shared->Prop}(ho:s.heap.get? a=some (seqObj "list" vs.toArray n))(h2:vs.length<2)(h:P (.done (.ret .none)) { s with heap:=sortedHeap s.heap a vs vs.toArray }):wpAny (model prog w) A (Builtin.«list.sort» ⟨[.ref a],[]⟩) P E s:=by
 obtain⟨c,m1,m2⟩:=zbh9 (vs:=vs) ho
 have zs:vs.toArray.size<2:=by rw[zcg1];omega
 have zl:vs.length<=sizeLine:=by rw[zcp8];omega
 rw[list_sort_plain]
 refine zcp6 (listItems_at ho rfl (zcp6 (listUpdate_at ho rfl ?_ (by rw[zcg1];exact zl) (zci0 _))))
 refine zcp6 (seqEpoch_at m2 rfl (zcp6 (wpAny_newTuple ?_ zl)))
 refine zcp6 (wpAny_newList ?_ (zci0 _))
 refine zcq1 (?_:_)
 show wpAny (model prog w) A _ P E { s with heap:=midH s.heap a vs }
 dsimp only
 rw[if_pos zs,if_pos zs]
 refine zcp6 (zcp7 (?_:_))
 rw[StateT.run_pure]
 refine zcp6 (zcp7 (?_:_))
 dsimp only
 have e:(vs.toArray.zip vs.toArray).map (·.2)=vs.toArray:=by
  apply Array.toList_inj.mp
  simp[List.map_snd_zip]
 show wpAny (model prog w) A (seqEpoch a >>= _) P E _
 refine zcp6 (seqEpoch_at m1 rfl (zcp6 (listUpdate_at m1 rfl ?_ (zci0 _) ?_)))
 ·simp only[bne_self_eq_false,zcn1,if_false]
  show wpAny (model prog w) A (ret Value.none) P E { s with heap:=sortedHeap s.heap a vs ((vs.toArray.zip vs.toArray).map (·.2)) }
  rw[e]
  exact zcp7 h
 ·show ((vs.toArray.zip vs.toArray).map (·.2)).size<=_
  rw[e,zcg1];omega
end
def ltP(x y:Int×Int):Bool:=if (x.1==y.1)=true then (if (x.2==y.2)=true then false else decide (x.2<y.2)) else decide (x.1<y.1)
def TupI(h:Heap)(v:Value)(x:Int×Int):Prop:=∃ a o t u n,v=.ref a/\h.get? a=some o/\o.cls=.type "tuple"/\o.data=.seq #[.int x.1 t,.int x.2 u] n
theorem TupI.to{v:Value}{x:Int×Int}(z:TupI h v x)(k:∀ b o,h.get? b=some o->h'.get? b=some o):TupI h' v x:=
 let ⟨a,o,t,u,n,e,e1,r⟩:=z;⟨a,o,t,u,n,e,k _ _ e1,r⟩
section
variable {prog:Program}{w:World}{A:Around}{E:Value->Shared->Prop}{s:Shared}
theorem zbw7{v v':Value}{x y:Int×Int}{C:Bool->Shared->Prop}(hv:TupI s.heap v x)(hv':TupI s.heap v' y)(h:C (ltP x y) s):wpAny (model prog w) A (keyLt' (tuples' true) v v') C E s:=by
 obtain⟨a,o,t,u,n,rfl,a1,a2,a3⟩:=hv
 obtain⟨b,o',t',u',n',rfl,b1,b2,b3⟩:=hv'
 refine kat_lt a1 a3 b1 b3 ?_
 show KatLex prog w A true false C [(.int x.1 t,.int y.1 t'),(.int x.2 u,.int y.2 u')] 0 s
 unfold ltP at h
 refine kat_cons (wpAny_eqBool_int (kat_go (fun e=>?_) fun e=>?_))
 ·rw[if_pos e] at h
  refine kat_yes (kat_cons (wpAny_eqBool_int (kat_go (fun e2=>?_) fun e2=>?_)))
  ·rw[if_pos e2] at h
   exact kat_yes (kat_nil h)
  ·rw[if_neg (by rw[e2];exact zcg3)] at h
   exact kat_no (kat_one _ _ (wpAny_lt_int h))
 ·rw[if_neg (by rw[e];exact zcg3)] at h
  exact kat_no (oneLt_int h)
theorem zbh5{h:Heap}:∀ {vs:List Value},(∀ v∈vs,∃ x,TupI h v x)->∃ fs,KatTups h vs fs/\fs.length=vs.length/\∀ f∈fs,∃ n t,f=Value.int n t
 | [],_=>⟨[],.nil,rfl,fun _ z=>nomatch z⟩
 | v :: vs,H=>by
  obtain⟨fs,a1,a2,a3⟩:=zbh5 (vs:=vs) fun u hu=>H u (.tail _ hu)
  obtain⟨x,a,o,t,u,n,rfl,b1,b2,b3⟩:=H v (.head _)
  refine⟨.int x.1 t :: fs,KatTups.cons b1 b2 b3 rfl a1,congrArg (·+1) a2,fun f hf=>?_⟩
  rcases zcg6.mp hf with rfl|hf
  ·exact⟨_,_,rfl⟩
  ·exact a3 f hf
theorem zbd4{Q:SortKind->Shared->Prop}(H:∀ v∈vs,∃ x,TupI s.heap v x)(h2:2<=vs.length)(h:Q (tuples' true) s):wpAny (model prog w) A (keyKind' vs.toArray) Q E s:=by
 obtain⟨fs,a1,a2,a3⟩:=zbh5 H
 refine kat_kind (T:=.type "int") a1 (by omega) (fun v hv=>?_) rfl h
 obtain⟨n,t,rfl⟩:=a3 v hv
 exact Looks.of_pure rfl
end
section
variable {X:Cx}{K:zcf5}
@[irreducible] def rDG(a:Addr)(y:V)(H:Hp)(Q:VK):Prop:=∃ v,DGet H a y (some v)/\Q v H
def rDGV(x y:V)(H:Hp)(Q:VK):Prop:=match x with
 | .ref a=>rDG a y H Q
 | _=>False
def tDG(td ty:TE):TE:=fun σ H Q=>td σ H fun x H1=>ty σ H1 fun y H2=>rDGV x y H2 Q
theorem tDG_eq(td ty:TE):tDG td ty=tDGet td ty:=by
 funext σ H Q
 unfold tDG tDGet
 congr 1;funext x H1;congr 1;funext y H2
 unfold rDGV
 apply propext
 cases x<;>first
  | (simp only[V.ref.injEq];unfold rDG;exact⟨fun ⟨v,g,q⟩=>⟨_,v,rfl,g,q⟩,fun ⟨a,v,e,g,q⟩=>⟨v,e▸g,q⟩⟩)
  | exact⟨fun z=>z.elim,fun ⟨a,v,e,_⟩=>nomatch e⟩
theorem peDGet{o i:Expr}{td ty:TE}{pos:Pos}(hu:X.A.units+40<cLine)(ho:PE X o td)(hi:PE X i ty)(hs:NoSl i:=by exact fun _ _=>rfl):PE X (.Subscript o i pos) (tDG td ty):=tDG_eq td ty▸zby4 (by omega) ho hi hs
theorem dgT_rd{a b:Addr}{Q:VK}{kvs:List (List Key×V)}{k:List Key}{v:V}(e:H a=some (.dT kvs))(eb:H b=some (.tup (k.map kV)))(ev:valV kvs k=some v)(q:Q v H):rDG a (.ref b) H Q:=by
 unfold rDG
 exact⟨v,ev▸DGet.t e eb,q⟩
@[irreducible] def rIsD(a:Addr)(H:Hp)(P:Prop):Prop:=IsD H a/\P
@[irreducible] def rDG2(a:Addr)(y z:V)(H:Hp)(Q:VK):Prop:=∃ o,DGet H a y o/\Q (o.getD z) H
def rDG2V(x:V)(H:Hp)(P:Addr->Prop):Prop:=match x with
 | .ref a=>rIsD a H (P a)
 | _=>False
def tDG2(td ty tx:TE):TE:=fun σ H Q=>td σ H fun x H1=>rDG2V x H1 fun a=>ty σ H1 fun y H2=>tx σ H2 fun z H3=>rDG2 a y z H3 Q
theorem zbv7(td ty tx:TE):tDG2 td ty tx=zbf2 td ty tx:=by
 funext σ H Q
 unfold tDG2 zbf2
 congr 1;funext x H1
 unfold rDG2V rIsD rDG2
 apply propext
 cases x<;>first
  | (simp only[V.ref.injEq];exact⟨fun z=>⟨_,rfl,z⟩,fun ⟨a,e,z⟩=>e▸z⟩)
  | exact⟨fun z=>z.elim,fun ⟨a,e,_⟩=>nomatch e⟩
theorem zt6{o e f:Expr}{td ty tx:TE}{apos cpos:Pos}(hu:X.A.units+40<cLine)(ho:PE X o td)(he:PE X e ty)(hf:PE X f tx)(m1:attributeBase o "get" X.env (eval o X.env)=eval o X.env:=by rfl)(m2:((backTo cpos (starEach [e,f] X.env)).all (fun x=>!x.1)&&(backToKw cpos (keywordEach [] X.env)).all (fun x=>x.1.isSome)&&decide (([e,f]:List Expr).length+([]:List Keyword).length+(if ([]:List Keyword).isEmpty then 0 else 1)<30))=true:=by rfl)(m3:(apos.endLine==cpos.line)=true:=by rfl)(m4:backTo cpos (starEach [e,f] X.env)=[(false,eval e X.env),(false,eval f X.env)]:=by rfl):PE X (.Call (.Attribute o "get" apos) [e,f] [] cpos) (tDG2 td ty tx):=
 zbv7 td ty tx▸zbo2 (by omega) ho he hf ⟨m1,m2,m3,m4⟩
theorem zbh6{a:Addr}{P:Prop}{kvs:List (List Key×V)}(e:H a=some (.dT kvs))(p:P):rIsD a H P:=by unfold rIsD;exact⟨.inr ⟨kvs,.inl e⟩,p⟩
theorem zbb9{a b:Addr}{z:V}{Q:VK}{kvs:List (List Key×V)}{k:List Key}(e:H a=some (.dT kvs))(eb:H b=some (.tup (k.map kV)))(q:Q ((valV kvs k).getD z) H):rDG2 a (.ref b) z H Q:=by
 unfold rDG2
 exact⟨_,DGet.t e eb,q⟩
@[irreducible] def rDP(a:Addr)(y v:V)(H:Hp)(N:Hp->Prop):Prop:=∃ H',DPut H a y v H'/\N H'
def rDPV(x y v:V)(H:Hp)(N:Hp->Prop):Prop:=match x with
 | .ref a=>rDP a y v H N
 | _=>False
def sDP(td ty tv:TE):TS:=fun D σ H=>tv σ H fun v H1=>td σ H1 fun x H2=>ty σ H2 fun y H3=>rDPV x y v H3 (D.nx σ)
theorem sDP_eq(td ty tv:TE):sDP td ty tv=sDPut td ty tv:=by
 funext D σ H
 unfold sDP sDPut
 congr 1;funext v H1;congr 1;funext x H2;congr 1;funext y H3
 unfold rDPV
 apply propext
 cases x<;>first
  | (simp only[V.ref.injEq];unfold rDP;exact⟨fun ⟨H',g,q⟩=>⟨_,H',rfl,g,q⟩,fun ⟨a,H',e,g,q⟩=>⟨H',e▸g,q⟩⟩)
  | exact⟨fun z=>z.elim,fun ⟨a,v,e,_⟩=>nomatch e⟩
theorem zar8{o i value:Expr}{td ty tv:TE}{pos pos':Pos}(hu:X.A.units+40<cLine)(ho:PE X o td)(hi:PE X i ty)(hv:PE X value tv)(hs:swapsWith value (some (.Subscript o i pos')) pos.line X.env=pure false:=by rfl) :
  PS X (.Assign [.Subscript o i pos'] value pos) (sDP td ty tv):=sDP_eq td ty tv▸zbv0 (by omega) ho hi hv hs
theorem zbr3{a b:Addr}{v:V}{N:Hp->Prop}{kvs:List (List Key×V)}{k:List Key}(e:H a=some (.dT kvs))(eb:H b=some (.tup (k.map kV)))(hl:kvs.length<sizeLine)(q:∀ H',Chg a H H'->H' a=some (.dT (putK kvs k v))->N H'):rDP a (.ref b) v H N:=by
 unfold rDP
 exact⟨_,DPut.t e eb hl,q _ Chg.upd zb1⟩
def pK(x:Int×Int):List Key:=[.inl x.1,.inl x.2]
theorem zn3{α β:Type}{R:α->β->Prop}:∀ {as:List α}{bs:List β},Paired R as bs->∀ (i:Nat) (a:α) (b:β),as[i]?=some a->bs[i]?=some b->R a b:=by
 intro as bs h
 induction h with
 | nil=>intro i a b e;simp at e
 | cons h1 _ ih=>
  intro i a b e1 e2
  cases i with
  | zero=>simp at e1 e2;subst e1;subst e2;exact h1
  | succ j=>simp at e1 e2;exact ih j a b e1 e2
theorem zu7{α β:Type}{R:α->β->Prop}:∀ {as:List α}{bs:List β},as.length=bs.length->(∀ (i:Nat) (a:α) (b:β),as[i]?=some a->bs[i]?=some b->R a b)->Paired R as bs
 | [],[],_,_=>.nil
 | a :: as,b :: bs,hl,h=>.cons (h 0 a b rfl rfl) (zu7 (Nat.succ.inj hl) fun i x y e1 e2=>h (i+1) x y (by simpa using e1) (by simpa using e2))
end
structure Ord(lt:Nat->Nat->Bool):Prop where
 as:∀ i j,lt i j=true->lt j i=false
 tr:∀ i j k,lt j i=false->lt k j=false->lt k i=false
section
variable {lt:Nat->Nat->Bool}{n:Nat}
def gp(p:Array Nat)(i:Nat):Nat:=p.getD i 0
theorem zbd9{p q:Array Nat}(h:p[i]?=q[j]?):gp p i=gp q j:=by
 unfold gp
 rw[zcj1,zcj1,h]
theorem zr5{p:Array Nat}(hj:j<=p.size)(k:Nat):gp (kas_rev p i j) k=if i<=k/\k<j then gp p (i+j - 1 - k) else gp p k:=by
 have h:=getElem?_mirror_all (xs:=p) (i:=i) hj k
 split
 ·rename_i c;rw[if_pos c] at h;exact zbd9 h
 ·rename_i c;rw[if_neg c] at h;exact zbd9 h
theorem zbt2{p:Array Nat}{k l:Nat}(hk:k<p.size)(hl:l<=k)(i:Nat):gp (bubble p k (k - l)) i=if i=l then gp p k else if l<i/\i<=k then gp p (i - 1) else gp p i:=by
 have h:=getElem?_bubble hk (k - l) (by omega) i
 rw[show k - (k - l)=l by omega] at h
 split
 ·rename_i c;rw[if_pos c] at h;exact zbd9 h
 ·rename_i c
  rw[if_neg c] at h
  split
  ·rename_i c2;rw[if_pos c2] at h;exact zbd9 h
  ·rename_i c2;rw[if_neg c2] at h;exact zbd9 h
def Up(lt:Nat->Nat->Bool)(p:Array Nat)(k:Nat):Prop:=∀ i j,i<=j->j<k->lt (gp p j) (gp p i)=false
def Dn(lt:Nat->Nat->Bool)(p:Array Nat)(k:Nat):Prop:=∀ i j,i<=j->j<k->lt (gp p i) (gp p j)=false
theorem Ord.rf(O:Ord lt)(i:Nat):lt i i=false:=by
 cases h:lt i i with
 | false=>rfl
 | true=>exact absurd (O.as _ _ h) (by rw[h];exact fun w=>nomatch w)
theorem Up.snoc(O:Ord lt){p:Array Nat}{k:Nat}(u:Up lt p k)(hk:1<=k)(h:lt (gp p k) (gp p (k - 1))=false):Up lt p (k+1):=fun i j hij hj=>by
 by_cases e:j=k
 ·subst e
  by_cases e2:i=j
  ·subst e2;exact O.rf _
  ·exact O.tr _ _ _ (u i (j - 1) (by omega) (by omega)) h
 ·exact u i j hij (by omega)
theorem Dn.snoc(O:Ord lt){p:Array Nat}{k:Nat}(u:Dn lt p k)(hk:1<=k)(h:lt (gp p (k - 1)) (gp p k)=false):Dn lt p (k+1):=fun i j hij hj=>by
 by_cases e:j=k
 ·subst e
  by_cases e2:i=j
  ·subst e2;exact O.rf _
  ·exact O.tr _ _ _ h (u i (j - 1) (by omega) (by omega))
 ·exact u i j hij (by omega)
theorem Pm.size{p:Array Nat}(h:Pm n p):p.size=n:=by have:=h.length_eq;rw[zcg7,zcl8] at this;exact this
theorem zbg8(O:Ord lt)(hn:0<n){p:Array Nat}(h:Pm n p):∀ f m,1<=m->Up lt p m->KW lt n (fun r=>m<=r/\r<=m+f/\Up lt p r/\(r<m+f->lt (gp p r) (gp p (r - 1))=true)) (kas_asc p f m)
 | 0,m,_,u=>⟨zcg9 _,zcg9 _,u,fun z=>absurd z (zcm3 _)⟩
 | f+1,m,hm,u=>by
  refine⟨h.low hn _,h.low hn _,?_⟩
  dsimp only
  cases e:lt (p.getD m 0) (p.getD (m - 1) 0) with
  | true=>rw[if_pos rfl];exact⟨zcg9 _,zco1 _ _,u,fun _=>e⟩
  | false=>
   rw[if_neg (by decide)]
   exact KW.mono (fun r hr=>⟨by omega,by omega,hr.2.2.1,fun z=>hr.2.2.2 (by omega)⟩) (zbg8 O hn h f (m+1) (by omega) (u.snoc O hm e))
def Al(lt:Nat->Nat->Bool)(p:Array Nat)(m q:Nat):Prop:=∀ i j,m - (q+1)<=i->i<=j->j<m->lt (gp p j) (gp p i)=false
theorem Dn.al_rev(O:Ord lt){p:Array Nat}{q:Nat}(hm:m<=p.size)(hq:q+1<=m)(d:Dn lt p m)(al:Al lt p m q):Dn lt (kas_rev p (m - (q+1)) m) m:=fun i j hij hj=>by
 rw[zr5 hm,zr5 hm]
 by_cases ci:m - (q+1)<=i/\i<m
 ·rw[if_pos ci,if_pos ⟨by omega,hj⟩]
  exact al _ _ (by omega) (by omega) (by omega)
 ·rw[if_neg ci]
  split
  ·exact d i _ (by omega) (by omega)
  ·exact d i j hij hj
theorem zah0(O:Ord lt)(hn:0<n):∀ f (p:Array Nat) m q,Pm n p->m+f<=n->q+1<=m->Dn lt p m->Al lt p m q->KW lt n (fun r=>Pm n r.1/\m<=r.2.1/\r.2.1<=m+f/\r.2.2+1<=r.2.1/\Dn lt r.1 r.2.1/\Al lt r.1 r.2.1 r.2.2) (kas_desc f p m q)
 | 0,p,m,q,h,hf,hq,d,al=>⟨h,zcg9 _,zcg9 _,hq,d,al⟩
 | f+1,p,m,q,h,hf,hq,d,al=>by
  have hz:=h.size
  refine⟨h.low hn _,h.low hn _,?_⟩
  dsimp only
  cases e:lt (p.getD m 0) (p.getD (m - 1) 0) with
  | true=>
   rw[if_pos rfl]
   have al0:∀ p':Array Nat,Al lt p' (m+1) 0:=fun p' i j h1 h2 h3=>by
    have:i=j:=by omega
    subst this;exact O.rf _
   split
   ·rename_i q0
    refine KW.mono (fun r hr=>⟨hr.1,by omega,by omega,hr.2.2.2⟩) (zah0 O hn f _ (m+1) 0 (h.rev _ _) (by omega) (by omega) ?_ (al0 _))
    refine (d.al_rev O (by omega) hq al).snoc O (by omega) ?_
    rw[zr5 (by omega),zr5 (by omega),if_pos (by omega),if_neg (by omega),show m - (q+1)+m - 1 - (m - 1)=m - (q+1) by omega]
    exact O.tr _ _ _ (O.as _ _ e) (d _ _ (by omega) (by omega))
   ·exact KW.mono (fun r hr=>⟨hr.1,by omega,by omega,hr.2.2.2⟩) (zah0 O hn f p (m+1) 0 h (by omega) (by omega) (d.snoc O (by omega) (O.as _ _ e)) (al0 _))
  | false=>
   rw[if_neg (by decide)]
   refine⟨h.low hn _,h.low hn _,?_⟩
   dsimp only
   cases e2:lt (p.getD (m - 1) 0) (p.getD m 0) with
   | true=>rw[if_pos rfl];exact⟨h,zcg9 _,zco1 _ _,hq,d,al⟩
   | false=>
    rw[if_neg (by decide)]
    refine KW.mono (fun r hr=>⟨hr.1,by omega,by omega,hr.2.2.2⟩) (zah0 O hn f p (m+1) (q+1) h (by omega) (by omega) (d.snoc O (by omega) e2) ?_)
    intro i j h1 h2 h3
    by_cases ej:j=m
    ·subst ej
     by_cases ei:i=j
     ·subst ei;exact O.rf _
     ·exact O.tr _ _ _ (al i (j - 1) (by omega) (by omega) (by omega)) e
    ·exact al i j (by omega) h2 (by omega)
theorem Dn.rev{p:Array Nat}(hm:m<=p.size)(d:Dn lt p m):Up lt (kas_rev p 0 m) m:=fun i j hij hj=>by
 rw[zr5 hm,zr5 hm,if_pos (by omega),if_pos (by omega)]
 exact d _ _ (by omega) (by omega)
theorem zbk8(O:Ord lt)(hn:0<n){p:Array Nat}(h:Pm n p)(hm:m<=n)(m1:1<=m)(d:Dn lt p m):KW lt n (fun x=>Pm n x.2/\1<=x.1/\x.1<=n/\Up lt x.2 x.1) (kas_tail3 m n p):=
 KW.bd (KW.mono (fun r hr=>⟨h.rev 0 m,by omega,by omega,hr.2.2.1⟩) (zbg8 O hn (h.rev 0 m) (n - m) m m1 (d.rev (by rw[h.size];exact hm))))
theorem zbk1(O:Ord lt)(hn:0<n){p:Array Nat}(h:Pm n p)(hm:m+1<=n)(d:Dn lt p (m+1)):KW lt n (fun x=>Pm n x.2/\1<=x.1/\x.1<=n/\Up lt x.2 x.1) (kas_descPart m n p):=by
 refine KW.bd (KW.mono (fun r hr=>?_) (zah0 O hn (n - (m+1)) p (m+1) 0 h (by omega) (by omega) d fun i j h1 h2 h3=>?_))
 ·obtain⟨r1,r2,r3,r4,r5,r6⟩:=hr
  split
  ·exact zbk8 O hn (r1.rev _ _) (by omega) (by omega) (r5.al_rev O (by rw[Pm.size r1];omega) r4 r6)
  ·exact zbk8 O hn r1 (by omega) (by omega) r5
 ·have:i=j:=by omega
  subst this;exact O.rf _
theorem zbp5(O:Ord lt)(hn:0<n){p:Array Nat}(h:Pm n p):KW lt n (fun x=>Pm n x.2/\1<=x.1/\x.1<=n/\Up lt x.2 x.1) (kas_count n p):=by
 have u1:Up lt p 1:=fun i j h1 h2=>by
  have:i=j:=by omega
  subst this;exact O.rf _
 refine KW.bd (KW.mono (fun r hr=>?_) (zbg8 O hn h (n - 1) 1 (zcg9 _) u1))
 obtain⟨r1,r2,r3,r4⟩:=hr
 by_cases c:(r==n)=true
 ·rw[if_pos c]
  exact⟨h,r1,by omega,r3⟩
 ·rw[if_neg c]
  have rn:r<n:=by
   have:r≠n:=fun z=>c (by rw[z];exact beq_self_eq_true n)
   omega
  by_cases c2:r>1
  ·rw[if_pos c2]
   refine⟨h.low hn _,h.low hn _,?_⟩
   dsimp only
   cases e:lt (p.getD 0 0) (p.getD (r - 1) 0) with
   | true=>rw[if_pos rfl];exact⟨h,r1,by omega,r3⟩
   | false=>
    rw[if_neg (by decide)]
    have hz:r<=p.size:=by rw[Pm.size h];omega
    have st:=r4 (by omega)
    refine zbk1 O hn (h.rev 0 r) (by omega) (Dn.snoc O (fun i j hij hj=>?_) (by omega) ?_)
    ·rw[zr5 hz,zr5 hz,if_pos (by omega),if_pos (by omega)]
     exact r3 _ _ (by omega) (by omega)
    ·rw[zr5 hz,zr5 hz,if_pos (by omega),if_neg (by omega),show 0+r - 1 - (r - 1)=0 by omega]
     exact O.tr _ _ _ (O.as _ _ st) e
  ·rw[if_neg c2]
   have r0:r=1:=by omega
   subst r0
   have st:=r4 (by omega)
   exact zbk1 O hn h (by omega) (Dn.snoc O (fun i j hij hj=>by
    have:i=j:=by omega
    subst this;exact O.rf _) (zcg9 _) (O.as _ _ st))
theorem zag0(O:Ord lt)(hn:0<n){p:Array Nat}(h:Pm n p)(k:Nat)(u:Up lt p k):∀ f l r,l<=r->r<=k->r<=l+f->(∀ i,i<l->lt (gp p k) (gp p i)=false)->(∀ i,r<=i->i<k->lt (gp p k) (gp p i)=true) ->
  KW lt n (fun x=>x<=k/\(∀ i,i<x->lt (gp p k) (gp p i)=false)/\∀ i,x<=i->i<k->lt (gp p k) (gp p i)=true) (kas_place p k f l r)
 | 0,l,r,h1,h2,h3,a,b=>by
  have:r=l:=by omega
  subst this
  exact⟨h2,a,b⟩
 | f+1,l,r,h1,h2,h3,a,b=>by
  unfold kas_place
  by_cases c:l≥r
  ·rw[if_pos c]
   have:r=l:=by omega
   subst this
   exact⟨h2,a,b⟩
  ·rw[if_neg c]
   refine⟨h.low hn _,h.low hn _,?_⟩
   dsimp only
   cases e:lt (p.getD k 0) (p.getD ((l+r) / 2) 0) with
   | true=>
    rw[if_pos rfl]
    refine zag0 O hn h k u f l ((l+r) / 2) (by omega) (by omega) (by omega) a fun i hi hk=>?_
    cases e2:lt (gp p k) (gp p i) with
    | true=>rfl
    | false=>
     have:=O.tr _ _ _ (u ((l+r) / 2) i hi hk) (show lt (gp p k) (gp p i)=false from e2)
     rw[show lt (gp p k) (gp p ((l+r) / 2))=true from e] at this
     cases this
   | false=>
    rw[if_neg (by decide)]
    refine zag0 O hn h k u f ((l+r) / 2+1) r (by omega) h2 (by omega) (fun i hi=>?_) b
    exact O.tr _ _ _ (u i ((l+r) / 2) (by omega) (by omega)) e
theorem up_bub(O:Ord lt){p:Array Nat}{k l:Nat}(hk:k<p.size)(u:Up lt p k)(hl:l<=k)(a:∀ i,i<l->lt (gp p k) (gp p i)=false)(b:∀ i,l<=i->i<k->lt (gp p k) (gp p i)=true):Up lt (bubble p k (k - l)) (k+1):=fun i j hij hj=>by
 rw[zbt2 hk hl,zbt2 hk hl]
 by_cases ci:i=l
 ·rw[if_pos ci]
  by_cases cj:j=l
  ·rw[if_pos cj];exact O.rf _
  ·rw[if_neg cj,if_pos (by omega)]
   exact O.as _ _ (b (j - 1) (by omega) (by omega))
 ·rw[if_neg ci]
  by_cases cj:j=l
  ·rw[if_pos cj,if_neg (by omega)]
   exact a i (by omega)
  ·rw[if_neg cj]
   by_cases di:l<i/\i<=k
   ·rw[if_pos di,if_pos (by omega)]
    exact u _ _ (by omega) (by omega)
   ·rw[if_neg di]
    by_cases dj:l<j/\j<=k
    ·rw[if_pos dj]
     exact u _ _ (by omega) (by omega)
    ·rw[if_neg dj]
     exact u _ _ hij (by omega)
theorem zbt4(O:Ord lt)(hn:0<n):∀ f (p:Array Nat) k,Pm n p->k+f=n->Up lt p k->KW lt n (fun p'=>Pm n p'/\Up lt p' n) (kas_bin f p k)
 | 0,p,k,h,e,u=>by
  have:k=n:=by omega
  subst this
  exact⟨h,u⟩
 | f+1,p,k,h,e,u=>by
  refine KW.bd (KW.mono (fun l hl=>?_) (zag0 O hn h k u k 0 k (zci0 _) (zcg9 _) (by omega) (fun i hi=>absurd hi (Nat.not_lt_zero _)) fun i h1 h2=>absurd h2 (by omega)))
  exact zbt4 O hn f _ (k+1) (h.bub _ _) (by omega) (up_bub O (by rw[Pm.size h];omega) u hl.1 hl.2.1 hl.2.2)
theorem zbi3(O:Ord lt)(hn:0<n):KW lt n (fun p=>Pm n p/\Up lt p n) (kas_sort n):=by
 have h0:Pm n (zco2 (List.range n)):=List.Perm.refl _
 refine KW.bd (KW.mono (fun r hr=>?_) (zbp5 O hn h0))
 obtain⟨r1,r2,r3,r4⟩:=hr
 by_cases c:r.1<n
 ·rw[if_pos c,show max r.1 1=r.1 by omega]
  exact zbt4 O hn _ _ _ r1 (by omega) r4
 ·rw[if_neg c]
  have e:r.1=n:=by omega
  exact⟨r1,e▸r4⟩
end
theorem zn1{x y:Int×Int}:ltP x y=true↔x.1<y.1∨(x.1=y.1/\x.2<y.2):=by
 unfold ltP
 by_cases e:x.1=y.1
 ·rw[if_pos (beq_iff_eq.mpr e)]
  by_cases e2:x.2=y.2
  ·rw[if_pos (beq_iff_eq.mpr e2)]
   exact⟨(fun h=>by cases h),fun h=>by omega⟩
  ·rw[if_neg (fun h=>e2 (beq_iff_eq.mp h)),decide_eq_true_iff]
   exact⟨fun h=>.inr ⟨e,h⟩,fun h=>by omega⟩
 ·rw[if_neg (fun h=>e (beq_iff_eq.mp h)),decide_eq_true_iff]
  exact⟨fun h=>.inl h,fun h=>by omega⟩
theorem zaa4{x y:Int×Int}:ltP x y=false↔¬ (x.1<y.1∨(x.1=y.1/\x.2<y.2)):=by
 rw[← zn1]
 cases ltP x y<;>simp
theorem ord_P(xs:Nat->Int×Int):Ord (fun i j=>ltP (xs i) (xs j)) where
 as:=fun i j h=>by
  have h:=zn1.mp h
  exact zaa4.mpr (by omega)
 tr:=fun i j k h1 h2=>by
  have h1:=zaa4.mp h1
  have h2:=zaa4.mp h2
  exact zaa4.mpr (by omega)
section
variable {prog:Program}{w:World}{A:Around}{E:Value->Shared->Prop}{s:Shared}
theorem zan8{xs:Nat->Int×Int}{P:PySem.Fin->Shared->Prop}(ho:s.heap.get? D=some (seqObj "list" vs.toArray 0))(h64:vs.length<64)(H:∀ i,i<vs.length->TupI s.heap (vs.getD i Value.none) (xs i))(h:∀ (p:List Nat) (c:Nat) (hF:Heap),p.Perm (List.range vs.length)->p.Pairwise (fun i j=>ltP (xs j) (xs i)=false)->(∀ b o,b≠D->s.heap.get? b=some o->hF.get? b=some o)->hF.get? D=some (seqObj "list" (zco2 (p.map fun i=>vs.getD i Value.none)) c)->P (.done (.ret .none)) { s with heap:=hF }) :
  wpAny (model prog w) A (Builtin.«list.sort» ⟨[.ref D],[]⟩) P E s:=by
 by_cases h2:vs.length<2
 ·refine zau6 ho h2 ?_
  obtain⟨c,hc⟩:=zv1 (vs:=vs) (out:=vs.toArray) ho
  refine h (List.range vs.length) c _ (List.Perm.refl _) ?_ (fun b o ne e=>zq9 ne e) ?_
  ·have:vs.length=0∨vs.length=1:=by omega
   rcases this with e|e<;>rw[e]
   ·exact List.Pairwise.nil
   ·exact List.pairwise_singleton _ _
  ·rw[hc]
   have e:(List.range vs.length).map (fun i=>vs.getD i Value.none)=vs:=by
    apply zcl5 (by simp)
    intro i h1 h2
    simp at h1 h2
    simp[h2]
   rw[e]
 ·have old:∀ v,v∈vs->∃ i,i<vs.length/\vs.getD i Value.none=v:=fun v hv=>by
   obtain⟨i,hi,e⟩:=List.mem_iff_getElem.mp hv
   exact⟨i,hi,by simp[hi,e]⟩
  have nD:∀ {v:Value}{x:Int×Int},TupI s.heap v x->TupI (midH s.heap D vs) v x:=fun {v x} z=>by
   obtain⟨a,o,t,u,n,e,e1,e2,e3⟩:=z
   refine⟨a,o,t,u,n,e,zbd0 (fun q=>?_) e1,e2,e3⟩
   rw[q,ho] at e1
   cases e1
   have e2':Value.type "list"=Value.type "tuple":=e2
   exact absurd e2' (by decide)
  refine zbb2 (κ:=tuples' true) (lt:=fun i j=>ltP (xs i) (xs j)) ho (by omega) h64 (fun Q q=>zbd4 (s:={ s with heap:=midH s.heap D vs }) (fun v hv=>?_) (by omega) q) (fun i j C li lj q=>zbw7 (s:={ s with heap:=midH s.heap D vs }) (nD (H i li)) (nD (H j lj)) q) (zbi3 (ord_P xs) (by omega)) fun p pz pR=>?_
  ·obtain⟨i,hi,rfl⟩:=old v hv
   exact⟨_,nD (H i hi)⟩
  ·obtain⟨c,hc⟩:=zv1 (vs:=vs) (out:=zco2 (p.toList.map fun i=>vs.getD i Value.none)) ho
   refine h p.toList c _ pR.1 ?_ (fun b o ne e=>zq9 ne e) hc
   rw[zck6]
   intro i j hi hj hij
   rw[zcg7] at hi hj
   have:=pR.2 i j (Nat.le_of_lt hij) (by omega)
   unfold gp at this
   simpa [Array.getD,hi,hj] using this
theorem zaq2{d:Addr}{es:Array DictEntry}{xs:Nat->Int×Int}(lo:(d==sysModules)=false)(hh:A.handled=none)(x:RawD s.heap d es ep)(h64:es.size<64)(H:∀ i e,es[i]?=some e->TupI s.heap e.key (xs i))(h:∀ (h1 hF:Heap) (tk c:Nat) (p:List Nat) (vs:List Value),(∀ b o,s.heap.get? b=some o->h1.get? b=some o)->(∀ b o,h1.get? b=some o->hF.get? b=some o)->p.Perm (List.range es.size)->p.Pairwise (fun i j=>ltP (xs j) (xs i)=false)->vs=es.toList.map (·.key) ->
   hF.get? h1.objs.size=some (seqObj "list" (zco2 (p.map fun i=>vs.getD i Value.none)) c)->Q (.ref h1.objs.size) { s with heap:=hF,toks:=tk }) :
  wpAny (model prog w) A (call (.builtin "sorted") [.ref d]) Q E s:=by
 have zl:es.size<=sizeLine:=by rw[zcp8];omega
 refine Calls.call_function_entry kind_sorted plain_sorted entry_sorted (args_sorted1 _) ?_
 unfold Builtin.«sorted»
 refine zcp6 (m:=checkCount "sorted" 1 1 _) (zcp7 (zcp6 (kdu_collect (A:=A.in1) (zbe0 lo) hh x zl fun h1 tk acc k1 it=>?_)))
 have len:acc.toList.length=es.size:=by rw[zcg7];exact it.1
 have ev:acc.toList=es.toList.map (·.key):=by
  apply zcl5 (by rw[len,zcf4,zcg7])
  intro i a1 a2
  rw[zcg7] at a1
  obtain⟨e,e1,e2⟩:=it.2 i acc[i] (by simp[a1])
  simp only[Array.getElem_toList,List.getElem_map]
  rw[e2]
  obtain⟨q1,q2⟩:=zcm2.mp e1
  rw[← q2]
 refine zcp6 (wpAny_newList ?_ (by rw[len];exact zl))
 have hD:(h1.push (seqObj "list" acc.toList.toArray 0)).get? h1.objs.size=some (seqObj "list" acc.toList.toArray 0):=zch5 _ rfl
 show wpAny (model prog w) _ _ _ _ { s with heap:=h1.push (seqObj "list" acc.toList.toArray 0),toks:=tk }
 refine zcp6 (zcq1 (wpAny_call_entry slot_list_sort ⟨_,hD,rfl⟩ entry_list_sort (zan8 (xs:=xs) (s:={ s with heap:=h1.push (seqObj "list" acc.toList.toArray 0),toks:=tk }) hD (by rw[len];exact h64) (fun i hi=>?_) fun p c hF pp po kF eF=>⟨_,rfl,?_⟩) (args_list_sort _)))
 ·rw[len] at hi
  have z:=(H i es[i] (by simp[hi])).to k1
  have e:acc.toList.getD i Value.none=es[i].key:=by rw[ev];simp[hi]
  rw[e]
  exact z.to fun b o q=>zcf7 _ q
 ·refine zcp7 ⟨_,rfl,h h1 hF tk c p acc.toList k1 (fun b o e=>kF b o (zci2 (zch1 e)) (zcf7 _ e)) (by rw[← len];exact pp) po ev eF⟩
end
section
variable {X:Cx}{K:zcf5}
def OrdK(ks:List (Int×Int)):Prop:=ks.Nodup/\ks.Pairwise (fun x y=>ltP x y=true)
@[irreducible] def rSoO(a:Addr)(H:Hp)(Q:VK):Prop:=∃ kvs:List ((Int×Int)×V),H a=some (.dT (kvs.map fun z=>(pK z.1,z.2)))/\kvs.length<64 /\
 ∀ p H' (bs:List Addr) (ks:List (Int×Int)),H p=none->Same H H'->ks.Perm (kvs.map (·.1))->OrdK ks->Paired (fun b x=>H' b=some (.tup [.int x.1,.int x.2])) bs ks->H' p=some (.lst (bs.map V.ref))->Q (.ref p) H'
def rSoOM:List V->Hp->VK->Prop:=fun xs H Q=>match xs with
 | [.ref p]=>rSoO p H Q
 | _=>False
theorem soO_rd{a:Addr}{Q:VK}{kvs:List ((Int×Int)×V)}(h:H a=some (.dT (kvs.map fun z=>(pK z.1,z.2))))(hl:kvs.length<64)(q:∀ p H' (bs:List Addr) (ks:List (Int×Int)),H p=none->Same H H'->ks.Perm (kvs.map (·.1))->OrdK ks->Paired (fun b x=>H' b=some (.tup [.int x.1,.int x.2])) bs ks->H' p=some (.lst (bs.map V.ref))->Q (.ref p) H'):rSoO a H Q:=by unfold rSoO;exact⟨kvs,h,hl,q⟩
theorem zaq4{ks:List (Int×Int)}(nd:ks.Nodup)(h:ks.Pairwise (fun x y=>ltP y x=false)):OrdK ks:=by
 refine⟨nd,?_⟩
 refine List.Pairwise.imp (fun {x y} z=>?_) (List.Pairwise.and nd h)
 have z2:=zaa4.mp z.2
 refine zn1.mpr ?_
 have ne:¬ (x.1=y.1/\x.2=y.2):=fun w=>z.1 (Prod.ext w.1 w.2)
 omega
theorem cSortO(hc:X.calm=true):zi8 X (.builtin "sorted") rSoOM:=fun pins s σ H xs us Q I r h=>by
 unfold rSoOM at h
 split at h
 ·rename_i p
  unfold rSoO at h
  obtain⟨kvs,h1,h2,h3⟩:=h
  obtain⟨u1,rfl,rx⟩:=zv7 r
  cases rx
  obtain⟨zl,lo,ys,kt,o,es,ep,e1,e2,e3,e4,e5⟩:=dt_of I.hok h1
  have lk:ys.length=kvs.length:=by have:=Paired.length kt;rw[zcf4] at this;exact this.symm
  have le:es.size=kvs.length:=by rw[← zcg7,e4,zcf4,lk]
  have at_:∀ i,(hi:i<kvs.length)->∃ b v,ys[i]?=some (pK kvs[i].1,b,v)/\H b=some (.tup [.int kvs[i].1.1,.int kvs[i].1.2]):=fun i hi=>by
   have hy:i<ys.length:=lk▸hi
   have z:=zn3 kt i (pK kvs[i].1,kvs[i].2) ys[i] (by simp[hi]) (by simp[hy])
   refine⟨ys[i].2.1,ys[i].2.2,?_,z.2.1⟩
   rw[zcf3 hy]
   have z1:pK kvs[i].1=ys[i].1:=z.1
   rw[z1]
  have ke:∀ i e,es[i]?=some e->∃ hi:i<kvs.length,∃ b v,ys[i]?=some (pK kvs[i].1,b,v)/\e.key=.ref b/\H b=some (.tup [.int kvs[i].1.1,.int kvs[i].1.2]):=fun i e q=>by
   obtain⟨q1,q2⟩:=zcm2.mp q
   have hi:i<kvs.length:=le▸q1
   obtain⟨b,v,y1,y2⟩:=at_ i hi
   refine⟨hi,b,v,y1,?_,y2⟩
   rw[← zch4,e4,zcf9,y1] at q
   simp only[Option.map_some,Option.some.injEq] at q
   rw[← q];rfl
  refine zaq2 (xs:=fun i=>((kvs.map (·.1))[i]?).getD (0,0)) lo (I.ok.hd hc) (d:=p) (es:=es) (ep:=ep) ⟨o,e1,e2,e3⟩ (by omega) (fun i e q=>?_) fun h' hF tk c pm vs k1 kF pp po ev eF=>?_
  ·obtain⟨hi,b,v,_,q2,q3⟩:=ke i e q
   obtain⟨_,its,rv,ob,b1,b2,n,b3⟩:=(show ze9 X.prog X.w H s.heap b (.tup [.int kvs[i].1.1,.int kvs[i].1.2]) from I.hok b _ q3)
   obtain⟨v1,v2,rfl,w1,w2⟩:=zao9 rv
   obtain⟨t1,rfl⟩:=w1
   obtain⟨t2,rfl⟩:=w2
   have ex:((kvs.map (·.1))[i]?).getD (0,0)=kvs[i].1:=by simp[hi]
   rw[ex,q2]
   exact⟨b,ob,t1,t2,n,rfl,b1,b2,b3⟩
  ·have hp:p<s.heap.objs.size:=zch1 e1
   have I1:Inv X pins σ H { s with heap:=h',toks:=tk }:=I.kept k1
   have fr:H h'.objs.size=none:=I1.fresh
   let as:List Addr:=pm.map fun i=>((ys[i]?).map (·.2.1)).getD 0
   have mem:∀ i,i∈pm->i<kvs.length:=fun i hi=>by have:=zci3.mp (pp.mem_iff.mp hi);omega
   have vals:(pm.map fun i=>vs.getD i Value.none)=as.map Value.ref:=by
    rw[zch6]
    refine zcj8 fun i hi=>?_
    have hi':=mem i hi
    have hes:i<es.size:=by omega
    obtain⟨_,b,v,y1,y2,_⟩:=ke i es[i] (by simp[hes])
    rw[ev]
    simp[hes,y1,y2]
   have rl:Vals (as.map V.ref) (as.map Value.ref):=by
    generalize as=l
    induction l with
    | nil=>exact .nil
    | cons a l ih=>exact .cons rfl ih
   have lz:as.length<=sizeLine:=by
    show (pm.map _).length<=_
    rw[zcf4,pp.length_eq,zcl8,zcp8];omega
   refine⟨.ref _,_,I1.laid (h':=hF) (t':=tk) (o:=.lst (as.map V.ref)) kF (zcg9 _) ?_,rfl,h3 _ _ as (pm.map fun i=>((kvs.map (·.1))[i]?).getD (0,0)) fr (Same.upd fr) ?_ (zaq4 ?_ ?_) ?_ zb1⟩
   ·exact⟨by rw[zcf4];exact lz,as.map Value.ref,c,rl,by rw[eF,vals]⟩
   ·have e:(List.range kvs.length).map (fun i=>((kvs.map (·.1))[i]?).getD (0,0))=kvs.map (·.1):=by
     apply zcl5 (by simp)
     intro i a1 a2
     simp at a1
     simp[a1]
    have q:=(show pm.Perm (List.range kvs.length) from le▸pp).map fun i=>((kvs.map (·.1))[i]?).getD (0,0)
    rw[e] at q
    exact q
   ·have e:(List.range kvs.length).map (fun i=>((kvs.map (·.1))[i]?).getD (0,0))=kvs.map (·.1):=by
     apply zcl5 (by simp)
     intro i a1 a2
     simp at a1
     simp[a1]
    have q:=(show pm.Perm (List.range kvs.length) from le▸pp).map fun i=>((kvs.map (·.1))[i]?).getD (0,0)
    rw[e] at q
    refine q.nodup_iff.mpr ?_
    have nk:((kvs.map fun z=>(pK z.1,z.2)).map (·.1)).Nodup:=by
     have:(kvs.map fun z=>(pK z.1,z.2)).map (·.1)=ys.map (·.1):=by
      apply zcl5 (by rw[zcf4,zcf4,zcf4,lk])
      intro i a1 a2
      rw[zcf4,zcf4] at a1
      obtain⟨b,v,y1,_⟩:=at_ i a1
      have hy:i<ys.length:=lk▸a1
      rw[zcf3 hy] at y1
      simp only[List.getElem_map]
      rw[Option.some.inj y1]
     rw[this];exact e5.2
    rw[zch6] at nk
    have:(kvs.map (Prod.fst∘fun z=>(pK z.1,z.2)))=(kvs.map (·.1)).map pK:=by rw[zch6];rfl
    rw[this] at nk
    exact List.Pairwise.of_map pK (fun a b h e=>h (by rw[e])) nk
   ·rw[zco9]
    exact po
   ·refine zu7 (by rw[zcf4,zcf4]) fun i a x q1 q2=>?_
    rw[zcf9] at q1 q2
    obtain⟨j,j1,j2⟩:=zcg5.mp q1
    rw[j1] at q2
    have hj:=mem j (zcf8 j1)
    obtain⟨b,v,y1,y2⟩:=at_ j hj
    rw[y1] at j2
    have j3:b=a:=j2
    have ex:kvs[j].1=x:=by simpa [hj] using q2
    rw[← j3,← ex]
    exact (Same.upd fr) b _ y2
 ·exact h.elim
end
set_option maxHeartbeats 4000000
section
variable {X:Cx}{K:zcf5}{H:Hp}{Q:VK}
def ExA(H:Hp)(e D:Addr):Prop:=H e=some (excO e (.ref D) none)∨∃ d fs,H e=some (excO e (.ref D) (some d))/\H d=some (.xd fs)
@[irreducible] def rIsiC(K:zcf5)(x c:V)(H:Hp)(Q:VK):Prop:=∃ (ea D p:Addr) (cs:List Addr) (b:Bool),x=.ref ea/\c=.ref p/\H p=some (.tup (cs.map V.ref))/\ExA H ea D/\ExcK K D/\(zcl3 K D).isSome=true/\PySem.W.kitAny K (.ref D) (cs.map Value.ref)=some b/\Q (.bl b) H
def zbr6(K:zcf5):List V->Hp->VK->Prop:=fun xs H Q=>match xs with
 | [x,c]=>rIsiC K x c H Q
 | _=>False
theorem zas4:∀ {ns:List Addr}{us:List Value},Vals (ns.map V.ref) us->us=ns.map Value.ref
 | [],_,.nil=>rfl
 | n :: ns,_,.cons r t=>by rw[show _=Value.ref n from r,zas4 t];rfl
theorem cIsiC(hK:X.K=K):zi8 X (.builtin "isinstance") (zbr6 K):=by
 subst hK
 intro pins s σ H xs us Q I r h
 unfold zbr6 at h
 split at h
 ·unfold rIsiC at h
  obtain⟨ea,D,p,cs,b,rfl,rfl,h1,h2,h3,h4,h5,h6⟩:=h
  obtain⟨u,w,rfl,r1,r2⟩:=zao9 r
  cases r1
  cases r2
  obtain⟨_,its,r3,o,e1,e2,n,e3⟩:=(show ze9 X.prog X.w H s.heap p (.tup (cs.map V.ref)) from I.hok p _ h1)
  have ei:=zas4 r3
  subst ei
  obtain⟨oc,od,odt,osl⟩:=o
  cases e2
  cases e3
  rcases h2 with h2|⟨d,fs,h2,h0⟩
  ·obtain⟨q,_⟩:=I.hok ea _ h2
   exact PySem.W.kia_tup (zat2 h3 h4) I.kIn q e1 h5 (fun z=>nomatch z) fun tk=>⟨.bl b,H,I.tok _,rfl,h6⟩
  ·obtain⟨q,_⟩:=I.hok ea _ h2
   obtain⟨_,⟨od',_,_,e0,_⟩,_⟩:=(show ze9 X.prog X.w H s.heap d (.xd fs) from I.hok d _ h0)
   exact PySem.W.kia_tup (zbf3 h3 h4) I.kIn ⟨q,od',e0⟩ e1 h5 (fun z=>nomatch z) fun tk=>⟨.bl b,H,I.tok _,rfl,h6⟩
 ·exact h.elim
theorem zaj3{t:Value}:∀ {cs:List Addr},(∀ c∈cs,zch8 K t (.ref c)=some false)->PySem.W.kitAny K t (cs.map Value.ref)=some false
 | [],_=>rfl
 | c :: cs,h=>by
  rw[zci1]
  unfold PySem.W.kitAny
  rw[h c (.head _)]
  exact zaj3 fun x hx=>h x (.tail _ hx)
theorem zba5{ea p:Addr}{cs:List Addr}(h1:H p=some (.tup (cs.map V.ref)))(h2:ExA H ea D)(h3:ExcK K D)(h4:(zcl3 K D).isSome=true)(h5:∀ c∈cs,zch8 K (.ref D) (.ref c)=some false)(q:Q (.bl false) H):rIsiC K (.ref ea) (.ref p) H Q:=by
 unfold rIsiC;exact⟨ea,D,p,cs,false,rfl,rfl,h1,h2,h3,h4,zaj3 h5,q⟩
end
mutual
inductive ShV(H:Hp):V->PyData->Prop
 | non:ShV H .non .none
 | bl (b:Bool):ShV H (.bl b) (.bool b)
 | int (i:Int):ShV H (.int i) (.int i)
 | str (x:Str):ShV H (.str x) (.str x)
 | lst {a:Addr}{xs:List V}{ds:List PyData}:H a=some (.lst xs)->ShL H xs ds->ShV H (.ref a) (.list ds)
 | tup {a:Addr}{xs:List V}{ds:List PyData}:H a=some (.tup xs)->ShL H xs ds->ShV H (.ref a) (.tuple ds)
inductive ShL(H:Hp):List V->List PyData->Prop
 | nil:ShL H [] []
 | cons {x:V}{d:PyData}{xs:List V}{ds:List PyData}:ShV H x d->ShL H xs ds->ShL H (x :: xs) (d :: ds)
end
section
variable {X:Cx}{pins:List (Addr×Obj)}{σ:St}{H H':Hp}{s:Shared}{Q:VK}
mutual
theorem ShV.same{v:V}{d:PyData}(h:ShV H v d)(k:Same H H'):ShV H' v d:=match h with
 | .non=>.non
 | .bl b=>.bl b
 | .int i=>.int i
 | .str x=>.str x
 | .lst e l=>.lst (k _ _ e) (l.same k)
 | .tup e l=>.tup (k _ _ e) (l.same k)
theorem ShL.same{xs:List V}{ds:List PyData}(h:ShL H xs ds)(k:Same H H'):ShL H' xs ds:=match h with
 | .nil=>.nil
 | .cons a b=>.cons (a.same k) (b.same k)
end
theorem ShL.len{xs:List V}{ds:List PyData}(h:ShL H xs ds):xs.length=ds.length:=match h with
 | .nil=>rfl
 | .cons _ b=>by rw[zch0,zch0,b.len]
mutual
theorem ShV.reads(I:Inv X pins σ H s){v:V}{d:PyData}{u:Value}(h:ShV H v d)(r:RelV v u):∃ as,Reads s.heap u d as:=match h with
 | .non=>by cases (show u=Value.none from r);exact⟨_,.none⟩
 | .bl b=>by cases (show u=Value.bool b from r);exact⟨_,.bool b⟩
 | .int i=>by obtain⟨t,q⟩:=(show ∃ t,u=Value.int i t from r);cases q;exact⟨_,.int i t⟩
 | .str x=>by obtain⟨t,q⟩:=(show ∃ t,u=Value.str x t from r);cases q;exact⟨_,.str x t⟩
 | .lst (a:=a) (xs:=xs) e l=>by
  cases (show u=Value.ref a from r)
  obtain⟨_,us,n,rv,h1⟩:=(show ze9 X.prog X.w H s.heap a (.lst xs) from I.hok a _ e)
  obtain⟨as,ra⟩:=l.reads I rv
  exact⟨_,.list h1 rfl rfl (by simpa using ra)⟩
 | .tup (a:=a) (xs:=xs) e l=>by
  cases (show u=Value.ref a from r)
  obtain⟨_,us,rv,o,h1,h2,n,h3⟩:=(show ze9 X.prog X.w H s.heap a (.tup xs) from I.hok a _ e)
  obtain⟨as,ra⟩:=l.reads I rv
  exact⟨_,.tuple h1 h2 h3 (by simpa using ra)⟩
theorem ShL.reads(I:Inv X pins σ H s){xs:List V}{ds:List PyData}{us:List Value}(h:ShL H xs ds)(r:Vals xs us):∃ as,ReadsAll s.heap us ds as:=match h,r with
 | .nil,.nil=>⟨_,.nil⟩
 | .cons a b,.cons r1 r2=>by
  obtain⟨as,ra⟩:=a.reads I r1
  obtain⟨bs,rb⟩:=b.reads I r2
  exact⟨_,.cons ra rb⟩
end
structure zo5(d:PyData)(k m:Nat):Prop where
 ok:d.showable=true
 nd:d.hasDict=false
 dp:d.depth<=k
 ln:d.shown.length<=m
theorem zo5.up{d:PyData}{k k' m':Nat}(h:zo5 d k m)(h1:k<=k')(h2:m<=m'):zo5 d k' m':=⟨h.ok,h.nd,zcj5 h.dp h1,zcj5 h.ln h2⟩
theorem zav6{k m:Nat}:∀ {ds:List PyData},(∀ d∈ds,zo5 d k m)->PyData.showableAll ds=true/\PyData.hasDictAll ds=false/\PyData.depthAll ds<=k/\piled (PyData.shownAll ds)<=ds.length*(m+2)
 | [],_=>⟨rfl,rfl,zci0 _,by simp[PyData.shownAll,piled]⟩
 | d :: ds,h=>by
  have h0:=h d (.head _)
  obtain⟨a1,a2,a3,a4⟩:=zav6 (ds:=ds) fun x hx=>h x (.tail _ hx)
  refine⟨by simp[PyData.showableAll,h0.ok,a1],by simp[PyData.hasDictAll,h0.nd,a2],?_,?_⟩
  ·have:=h0.dp
   simp only[PyData.depthAll]
   omega
  ·have:=h0.ln
   simp only[PyData.shownAll,piled_cons,zch0,Nat.succ_mul]
   omega
theorem zaa2:∀ (ts:List Str) (k:Nat) (acc:Str),(textFrom k acc ts).length<=acc.length+piled ts
 | [],_,acc=>by simp[textFrom,piled]
 | t :: ts,k,acc=>by
  have ih:=zaa2 ts (k+1) (acc++(if k>0 then ", " else "":String)++t)
  have e:(acc++(if k>0 then ", " else "":String)++t).length=acc.length+(if k>0 then 2 else 0)+t.length:=by
   rw[strLen_append,strLen_append]
   congr 2
   split<;>rfl
  rw[piled_cons]
  show (textFrom (k+1) _ ts).length<=_
  rw[e] at ih
  have e2:(if k>0 then 2 else 0)<=2:=by split<;>omega
  omega
theorem zo5.list{ds:List PyData}{k m:Nat}(h:∀ d∈ds,zo5 d k m):zo5 (.list ds) (k+1) (ds.length*(m+2)+2):=by
 obtain⟨a1,a2,a3,a4⟩:=zav6 h
 refine⟨by simpa [PyData.showable] using a1,by simpa [PyData.hasDict] using a2,by simp only[PyData.depth];omega,?_⟩
 have:=zaa2 (PyData.shownAll ds) 0 "["
 have e1:((("[":String):Str)).length=1:=rfl
 have e2:((("]":String):Str)).length=1:=rfl
 simp only[PyData.shown,listText,strLen_append]
 omega
theorem zo5.int{i:Int}(h:-(10 ^ 100)<=i)(h':i<=10 ^ 100):zo5 (.int i) 0 1921:=by
 have hl:i.natAbs.log2<1920:=by
  by_cases z:i.natAbs=0
  ·rw[z];decide
  ·rw[Nat.log2_lt z]
   have h1:i.natAbs<=10 ^ 100:=by omega
   exact Nat.lt_of_le_of_lt h1 (by decide +kernel)
 exact⟨by simpa [PyData.showable] using hl,rfl,by simp[PyData.depth],by simpa only [PyData.shown] using PyProof.Rows.int_text_len_1921 hl⟩
theorem zo5.non:zo5 .none 0 4:=⟨rfl,rfl,by simp[PyData.depth],by decide⟩
theorem zo5.bl{b:Bool}:zo5 (.bool b) 0 5:=by cases b<;>exact⟨rfl,rfl,by simp[PyData.depth],by decide⟩
theorem ShL.of{xs:List V}(f:V->PyData)(h:∀ x∈xs,ShV H x (f x)):ShL H xs (xs.map f):=by
 induction xs with
 | nil=>exact .nil
 | cons x xs ih=>exact .cons (h x (.head _)) (ih fun y hy=>h y (.tail _ hy))
end
mutual
def sml:PyData->Bool
 | .none | .bool _ | .int _ | .str _=>true
 | .list xs | .tuple xs=>decide (xs.length<=1000)&&zae5 xs
 | .dict _=>false
def zae5:List PyData->Bool
 | []=>true
 | x :: xs=>sml x&&zae5 xs
end
theorem zu3:∀ {ds:List PyData},(∀ d∈ds,sml d=true)->zae5 ds=true
 | [],_=>rfl
 | d :: ds,h=>by simp[zae5,h d (.head _),zu3 fun x hx=>h x (.tail _ hx)]
theorem zaf3:∀ {ds:List PyData},zae5 ds=true->∀ d∈ds,sml d=true
 | [],_,d,h=>by cases h
 | x :: ds,h,d,hd=>by
  simp only[zae5,zcg4] at h
  rcases zcg6.mp hd with rfl|hd
  ·exact h.1
  ·exact zaf3 h.2 d hd
section
variable {H H':Hp}{K:zcf5}{Q:VK}
theorem ShL.get:∀ {xs:List V}{ds:List PyData}(_:ShL H xs ds) (i:Nat) (x:V),xs[i]?=some x->∃ d,ds[i]?=some d/\ShV H x d
 | _,_,.nil,i,x,e=>by simp at e
 | _,_,.cons a b,0,x,e=>by cases (show some _=some x from e);exact⟨_,rfl,a⟩
 | _,_,.cons a b,i+1,x,e=>by
  obtain⟨d,e1,e2⟩:=ShL.get b i x (by simpa using e)
  exact⟨d,by simpa using e1,e2⟩
theorem ShL.ex{P:PyData->Prop}:∀ {xs:List V},(∀ x∈xs,∃ d,ShV H x d/\P d)->∃ ds,ShL H xs ds/\∀ d∈ds,P d
 | [],_=>⟨[],.nil,fun _ h=>by cases h⟩
 | x :: xs,h=>by
  obtain⟨d,h1,h2⟩:=h x (.head _)
  obtain⟨ds,h3,h4⟩:=ShL.ex (xs:=xs) fun y hy=>h y (.tail _ hy)
  refine⟨d :: ds,.cons h1 h3,fun e he=>?_⟩
  rcases zcg6.mp he with rfl|he
  ·exact h2
  ·exact h4 e he
def Rda(H:Hp)(v:V)(k m:Nat):Prop:=∃ d,ShV H v d/\sml d=true/\zo5 d k m
theorem Rda.up{v:V}{k m k' m':Nat}(h:Rda H v k m)(h1:k<=k':=by omega)(h2:m<=m':=by omega):Rda H v k' m':=by obtain⟨d,a,b,c⟩:=h;exact⟨d,a,b,c.up h1 h2⟩
theorem Rda.int{i:Int}(h:-(10 ^ 100)<=i)(h':i<=10 ^ 100):Rda H (.int i) 0 1921:=⟨_,.int i,rfl,zo5.int h h'⟩
theorem Rda.non:Rda H .non 0 1921:=⟨_,.non,rfl,zo5.non.up (by omega) (by omega)⟩
theorem Rda.bl{b:Bool}:Rda H (.bl b) 0 1921:=⟨_,.bl b,rfl,zo5.bl.up (by omega) (by omega)⟩
theorem Rda.lst{a:Addr}{xs:List V}{k m:Nat}(e:H a=some (.lst xs))(l:xs.length<=1000)(h:∀ x∈xs,Rda H x k m):Rda H (.ref a) (k+1) (xs.length*(m+2)+4):=by
 obtain⟨ds,h1,h2⟩:=ShL.ex (P:=fun d=>sml d=true/\zo5 d k m) h
 have hl:=h1.len
 refine⟨.list ds,.lst e h1,?_,?_⟩
 ·simp only[sml,zcg4,decide_eq_true_eq]
  exact⟨by omega,zu3 fun d hd=>(h2 d hd).1⟩
 ·have:=zo5.list (ds:=ds) (k:=k) (m:=m) fun d hd=>(h2 d hd).2
  rw[hl]
  exact this.up (zcg9 _) (by omega)
def isD(n:String):PyData->Bool
 | .none=>false
 | .bool _=>n=="bool" || n=="int"
 | .int _=>n=="int"
 | .str _=>n=="str"
 | .list _=>n=="list"
 | .tuple _=>n=="tuple"
 | .dict _=>n=="dict"
theorem zi2{v:V}{d:PyData}{n:String}(h:ShV H v d)(hn:n="int"∨n="bool"∨n="list"∨n="tuple")(q:Q (.bl (isD n d)) H):zr4 K v (.ty n) H Q:=by
 rcases hn with rfl|rfl|rfl|rfl<;>cases h
 all_goals first
  | exact zbz6 q (by rfl)
  | exact zah7 q (by rfl)
  | exact zai5 q (by rfl)
  | exact zbv6 q (by rfl)
  | (rename_i e l;exact zbg1 e q (by rfl))
  | (rename_i e l;exact zbb3 e q (by rfl))
end
theorem zb8{X:Cx}{e:Expr}{te:TE}(h:PE X e te):PEI X e te:=by unfold PEI;exact h
section
variable {X:Cx}{K:zcf5}{H:Hp}{Q:VK}
end
section
variable {X:Cx}{K:zcf5}{H:Hp}{Q:VK}
@[irreducible] def rDNE(H:Hp)(Q:VK):Prop:=(∀ p H',H p=none->Same H H'->H' p=some (.dT [])->Q (.ref p) H')∨∀ p H',H p=none->Same H H'->H' p=some (.dK [])->Q (.ref p) H'
def tDNE:TE:=fun _ H Q=>rDNE H Q
theorem zz3{pos:Pos}:PE X (.Dict [] [] pos) tDNE:=fun pins s σ H Q I h=>by
 unfold tDNE rDNE at h
 rcases h with h|h
 ·exact zbm9 (pos:=pos) pins s σ H Q I fun p hp=>h p _ hp (Same.upd hp) zb1
 ·exact zbq5 (pos:=pos) pins s σ H Q I fun p hp=>h p _ hp (Same.upd hp) zb1
theorem zbs9(q:∀ p H',H p=none->Same H H'->H' p=some (.dT [])->Q (.ref p) H'):rDNE H Q:=by unfold rDNE;exact .inl q
theorem zaw2(q:∀ p H',H p=none->Same H H'->H' p=some (.dK [])->Q (.ref p) H'):rDNE H Q:=by unfold rDNE;exact .inr q
theorem zah8{a:Addr}{P:Prop}{kvs:List (Key×V)}(e:H a=some (.dK kvs))(p:P):rIsD a H P:=by unfold rIsD;exact⟨.inl ⟨kvs,.inl e⟩,p⟩
theorem zah3{a:Addr}{i:Int}{z:V}{kvs:List (Key×V)}(e:H a=some (.dK kvs))(q:Q ((valV kvs (.inl i)).getD z) H):rDG2 a (.int i) z H Q:=by
 unfold rDG2
 exact⟨_,DGet.k (k:=.inl i) e,q⟩
theorem zbi2{a:Addr}{i:Int}{v:V}{N:Hp->Prop}{kvs:List (Key×V)}(e:H a=some (.dK kvs))(hl:kvs.length<sizeLine)(q:∀ H',Chg a H H'->H' a=some (.dK (putK kvs (.inl i) v))->N H'):rDP a (.int i) v H N:=by
 unfold rDP
 exact⟨_,DPut.k (k:=.inl i) e hl,q _ Chg.upd zb1⟩
def dI(kv:List (Int×Int)):List (Key×V):=kv.map fun z=>(.inl z.1,.int z.2)
def valI(kv:List (Int×Int))(i:Int):Option Int:=(kv.find? fun z=>decide (z.1=i)).map (·.2)
theorem zbh0(i:Int):∀ kv:List (Int×Int),valV (dI kv) (.inl i)=(valI kv i).map V.int
 | []=>rfl
 | z :: kv=>by
  by_cases e:z.1=i
  ·show valV (((.inl z.1:Key),V.int z.2) :: dI kv) (.inl i)=_
   rw[zt0 (by exact congrArg Sum.inl e)]
   unfold valI
   rw[zcm1,decide_eq_true e];rfl
  ·show valV (((.inl z.1:Key),V.int z.2) :: dI kv) (.inl i)=_
   rw[zs9 (by exact fun q=>e (Sum.inl.inj q)),zbh0 i kv]
   unfold valI
   rw[zcm1,decide_eq_false e]
def eqDI(ka kb:List (Int×Int)):Bool:=ka.length==kb.length&&ka.all fun z=>valI kb z.1==some z.2
theorem zap1{A:Around}{s:Shared}{kb:List (Int×Int)}{ws:List (Key×Value)}(rb:KV (dI kb) ws):∀ {ka:List (Int×Int)}{vs:List (Key×Value)},KV (dI ka) vs->KeqHits A s ws vs (ka.all fun z=>valI kb z.1==some z.2)
 | [],vs,r=>by
  unfold KV dI at r
  cases r
  exact .nil
 | z :: ka,vs,r=>by
  unfold KV dI at r
  rw[zci1] at r
  cases r with
  | @cons p q ps qs h t=>
   obtain⟨h1,h2⟩:=h
   obtain⟨k,v⟩:=q
   cases (show (Sum.inl z.1:Key)=k from h1)
   have val:=rb.val (.inl z.1)
   rw[zbh0] at val
   rw[List.all_cons]
   cases e:valI kb z.1 with
   | none=>
    rw[e] at val
    have:valueAt ws (.inl z.1)=none:=by
     cases w:valueAt ws (.inl z.1) with
     | none=>rfl
     | some y=>rw[w] at val;exact val.elim
    have f:((none:Option Int)==some z.2)=false:=rfl
    rw[f,Bool.false_and]
    exact .miss this
   | some n=>
    rw[e] at val
    obtain⟨y,ey,ry⟩:∃ y,valueAt ws (.inl z.1)=some y/\RelV (.int n) y:=by
     cases w:valueAt ws (.inl z.1) with
     | none=>rw[w] at val;exact val.elim
     | some y=>rw[w] at val;exact⟨y,rfl,val⟩
    have q:=zbs6 (A:=A) (s:=s) (show RelV (.int z.2) v from h2) ry rfl rfl
    have e2:eqV (.int z.2) (.int n)=(some n==some z.2):=by
     by_cases d:z.2=n
     ·subst d;simp[eqV]
     ·have d':¬ n=z.2:=fun x=>d x.symm
      show (z.2==n)=(some n==some z.2)
      rw[beq_eq_false_iff_ne.mpr d]
      exact (beq_eq_false_iff_ne.mpr fun x=>d' (Option.some.inj x)).symm
    rw[e2] at q
    exact .hit ey q (zap1 rb t)
@[irreducible] def rEqX(K:zcf5)(x y:V)(H:Hp)(Q:VK):Prop:=
 (∃ a b n c,x=.ref a/\y=.ref b/\n<=40/\EqR K H n (.ref a) (.ref b) c/\Q (.bl c) H) ∨
 (∃ a b ka kb,x=.ref a/\y=.ref b/\H a=some (.dK (dI ka))/\H b=some (.dK (dI kb))/\Q (.bl (eqDI ka kb)) H) ∨
 ∃ d e,ShV H x d/\ShV H y e/\d.canLay0=true/\e.canLay0=true/\d.depth<=40/\Q (.bl (PyData.eqv d e)) H
def zaw6(K:zcf5):R2:=fun x y H Q=>match x,y with
 | .int i,.int j=>Q (.bl (decide (i=j))) H
 | .bl i,.bl j=>Q (.bl (decide (i=j))) H
 | .str i,.str j=>Q (.bl (decide (i=j))) H
 | x,y=>rEqX K x y H Q
def zak8(K:zcf5):R2:=fun x y H Q=>zaw6 K x y H fun v H'=>match v with
 | .bl b=>Q (.bl (!b)) H'
 | _=>False
theorem oEqX(hu:X.A.units+40<cLine):OpR X (compareOp .Eq) (zaw6 X.K):=by
 intro pins s σ H x y v u Q I rx ry h
 unfold zaw6 at h
 split at h
 ·exact op_eq pins s σ H _ _ v u Q I rx ry ⟨rfl,by rw[zv4 (f:=V.int) fun a b e=>V.int.inj e];exact h⟩
 ·exact op_eq pins s σ H _ _ v u Q I rx ry ⟨rfl,by rw[zv4 (f:=V.bl) fun a b e=>V.bl.inj e];exact h⟩
 ·exact op_eq pins s σ H _ _ v u Q I rx ry ⟨rfl,by rw[zv4 (f:=V.str) fun a b e=>V.str.inj e];exact h⟩
 ·unfold rEqX at h
  rcases h with ⟨a,b,n,c,rfl,rfl,hn,h1,h2⟩|⟨a,b,ka,kb,rfl,rfl,ea,eb,h⟩|⟨d,e,hd,he,cd,ce,dd,h⟩
  ·cases rx
   cases ry
   exact EqR.rc I h1 (A:=X.A) (by omega) _ _ _ _ ⟨.bl c,H,I,rfl,h2⟩
  ·cases rx
   cases ry
   obtain⟨_,sa,vs,ra,da⟩:=zax5 I.hok ea
   obtain⟨_,sb,ws,rb,db⟩:=zax5 I.hok eb
   refine keq_eq sa sb da db (by omega) (fun _=>zap1 rb ra) ⟨.bl (eqDI ka kb),H,I,?_,h⟩
   have la:vs.length=ka.length:=by rw[← ra.length];unfold dI;rw[zcf4]
   have lb:ws.length=kb.length:=by rw[← rb.length];unfold dI;rw[zcf4]
   rw[la,lb]
   rfl
  ·obtain⟨as,r1⟩:=hd.reads I rx
   obtain⟨bs,r2⟩:=he.reads I ry
   exact SeqAt.compareEq_reads r1 r2 cd ce (by have:=Nat.min_le_left d.depth e.depth;omega) ⟨.bl (PyData.eqv d e),H,I,rfl,h⟩
theorem oNeX(hu:X.A.units+40<cLine):OpR X (compareOp .NotEq) (zak8 X.K):=by
 intro pins s σ H x y v u Q I rx ry h
 unfold zak8 zaw6 at h
 split at h
 ·exact op_ne pins s σ H _ _ v u Q I rx ry ⟨rfl,by rw[zv4 (f:=V.int) fun a b e=>V.int.inj e];exact h⟩
 ·exact op_ne pins s σ H _ _ v u Q I rx ry ⟨rfl,by rw[zv4 (f:=V.bl) fun a b e=>V.bl.inj e];exact h⟩
 ·exact op_ne pins s σ H _ _ v u Q I rx ry ⟨rfl,by rw[zv4 (f:=V.str) fun a b e=>V.str.inj e];exact h⟩
 ·unfold rEqX at h
  rcases h with ⟨a,b,n,c,rfl,rfl,hn,h1,h2⟩|⟨a,b,ka,kb,rfl,rfl,ea,eb,h⟩|⟨d,e,hd,he,cd,ce,dd,h⟩
  ·cases rx
   cases ry
   exact EqR.rcNe I h1 (A:=X.A) (by omega) _ _ _ _ ⟨.bl (!c),H,I,rfl,h2⟩
  ·cases rx
   cases ry
   obtain⟨_,sa,vs,ra,da⟩:=zax5 I.hok ea
   obtain⟨_,sb,ws,rb,db⟩:=zax5 I.hok eb
   refine keq_ne sa sb da db (by omega) (fun _=>zap1 rb ra) ⟨.bl (!eqDI ka kb),H,I,?_,h⟩
   have la:vs.length=ka.length:=by rw[← ra.length];unfold dI;rw[zcf4]
   have lb:ws.length=kb.length:=by rw[← rb.length];unfold dI;rw[zcf4]
   rw[la,lb]
   rfl
  ·obtain⟨as,r1⟩:=hd.reads I rx
   obtain⟨bs,r2⟩:=he.reads I ry
   exact SeqAt.compareNe_reads r1 r2 cd ce (by have:=Nat.min_le_left d.depth e.depth;omega) ⟨.bl (!PyData.eqv d e),H,I,rfl,h⟩
theorem zbk0{a b:Addr}{n:Nat}{c:Bool}(h:EqR K H n (.ref a) (.ref b) c)(q:Q (.bl c) H)(hn:n<=40:=by decide):rEqX K (.ref a) (.ref b) H Q:=by unfold rEqX;exact .inl ⟨a,b,n,c,rfl,rfl,hn,h,q⟩
theorem zbs3{a b:Addr}{ka kb:List (Int×Int)}(ea:H a=some (.dK (dI ka)))(eb:H b=some (.dK (dI kb)))(q:Q (.bl (eqDI ka kb)) H):rEqX K (.ref a) (.ref b) H Q:=by unfold rEqX;exact .inr (.inl ⟨a,b,ka,kb,rfl,rfl,ea,eb,q⟩)
theorem eqS_rd{x y:V}{d e:PyData}(hd:ShV H x d)(he:ShV H y e)(cd:d.canLay0=true)(ce:e.canLay0=true)(dd:d.depth<=40)(q:Q (.bl (PyData.eqv d e)) H):rEqX K x y H Q:=by unfold rEqX;exact .inr (.inr ⟨d,e,hd,he,cd,ce,dd,q⟩)
end
theorem zbk2(l b:Addr)(x y:Int×Int)(t u t' u':Tok)(n n2:Nat)(dd dd2:Option Addr)(sl sl2:Array (Option Value)) :
  Meets (Builtin.«tuple.__lt__» ⟨[.ref l,.ref b],[]⟩)
   (fun A R s=>s.heap.get? l=some { cls:=.type "tuple",dict:=dd,data:=.seq #[.int x.1 t,.int x.2 u] n,slots:=sl }/\s.heap.get? b=some { cls:=.type "tuple",dict:=dd2,data:=.seq #[.int y.1 t',.int y.2 u'] n2,slots:=sl2 } /\
    R (.ok (.ret (.bool (ltP x y)))) s):=
 .of_wp fun prog w A R s h=>by
  obtain⟨hp,g,d,tk,os⟩:=s;obtain⟨hl,hb,h⟩:=h
  have f2:=AutoSeq1.sub_tuple_tuple
  wp_walk using wpAny_loadPart' hl,wpAny_loadPart' hb,wpAny_forIn_list _ (fun rest b s'=>b.1=none/\s'=⟨hp,g,d,tk,os⟩/\(rest=[(.int x.1 t,.int y.1 t'),(.int x.2 u,.int y.2 u')]∨(x.1=y.1/\rest=[(.int x.2 u,.int y.2 u')])∨(x.1=y.1/\x.2=y.2/\rest=[]))) _
  case turn=>
   rintro⟨p,q⟩ rest b s' ⟨hb',rfl,hz⟩
   rcases hz with hz|⟨e0,hz⟩|⟨_,_,hz⟩
   ·cases hz
    refine zcp6 (wpAny_eqBool_int ?_)
    cases e:(x.1==y.1)
    ·have h':R (Except.ok (Flow.ret (Value.bool (decide (x.1<y.1))))) ⟨hp,g,d,tk,os⟩:=by
      unfold ltP at h
      rw[if_neg (by rw[e];exact zcg3)] at h
      exact h
     simp only[Bool.not_false,if_true]
     refine zcp6 (wpAny_rule ?_)
     refine zcp6 ((lt_int (Q:=_) ?_:wpAny _ _ (compareOp .Lt _ _) _ _ _))
     wp_walk
     exact⟨_,rfl,h'⟩
    ·wp_walk
     exact⟨rfl,rfl,.inr (.inl ⟨by simpa using e,rfl⟩)⟩
   ·cases hz
    refine zcp6 (wpAny_eqBool_int ?_)
    cases e:(x.2==y.2)
    ·have h':R (Except.ok (Flow.ret (Value.bool (decide (x.2<y.2))))) ⟨hp,g,d,tk,os⟩:=by
      unfold ltP at h
      rw[if_pos (by rw[e0];exact beq_self_eq_true _),if_neg (by rw[e];exact zcg3)] at h
      exact h
     simp only[Bool.not_false,if_true]
     refine zcp6 (wpAny_rule ?_)
     refine zcp6 ((lt_int (Q:=_) ?_:wpAny _ _ (compareOp .Lt _ _) _ _ _))
     wp_walk
     exact⟨_,rfl,h'⟩
    ·wp_walk
     exact⟨rfl,rfl,.inr (.inr ⟨e0,by simpa using e,rfl⟩)⟩
   ·cases hz
  case fin=>
   rintro⟨b1,b2⟩ s' ⟨hb',rfl,hz⟩
   simp only at hb'
   subst hb'
   rcases hz with hz|⟨e0,hz⟩|⟨e0,e1,hz⟩
   ·cases hz
   ·cases hz
   ·have h':R (Except.ok (Flow.ret (Value.bool false))) ⟨hp,g,d,tk,os⟩:=by
     unfold ltP at h
     rw[if_pos (by rw[e0];exact beq_self_eq_true _),if_pos (by rw[e1];exact beq_self_eq_true _)] at h
     exact h
    wp_walk
    exact⟨_,rfl,h'⟩
  exact⟨rfl,rfl,.inl rfl⟩
section
variable {prog:Program}{w:World}{A:Around}{E:Value->Shared->Prop}{s:Shared}
theorem zbp7{v v':Value}{x y:Int×Int}(ha:TupI s.heap v x)(hb:TupI s.heap v' y)(hu:A.units<cLine)(h:Q (.bool (ltP x y)) s):wpAny (model prog w) A (compareOp .Lt v v') Q E s:=by
 obtain⟨a,⟨cls,dd,data,sl⟩,t,u,n,rfl,ho,hc,hd⟩:=ha
 obtain⟨b,⟨cls2,dd2,data2,sl2⟩,t',u',n2,rfl,ho2,hc2,hd2⟩:=hb
 simp only at hc hd hc2 hd2
 subst hc hd hc2 hd2
 exact richCompare_meets_room (op:=.Lt) ⟨_,ho,rfl⟩ ⟨_,ho2,rfl⟩ F.slot_tuple_lt F.entry_tuple_lt (F.args_tuple_lt_2 _ _) (zbk2 a b x y t u t' u' n n2 dd dd2 sl sl2)
  ⟨ho,ho2,show Value.bool (ltP x y)≠Value.notImplemented/\Q (.bool (ltP x y)) s from ⟨(fun x=>nomatch x),h⟩⟩ hu
end
section
variable {X:Cx}{K:zcf5}{H:Hp}{Q:VK}
def pV(x:Int×Int):List V:=[.int x.1,.int x.2]
@[irreducible] def rLtA(a b:Addr)(H:Hp)(Q:VK):Prop:=∃ x y:Int×Int,H a=some (.tup (pV x))/\H b=some (.tup (pV y))/\Q (.bl (ltP x y)) H
def rLtXM:R2:=fun x y H Q=>match x,y with
 | .int i,.int j=>Q (.bl (decide (i<j))) H
 | .ref a,.ref b=>rLtA a b H Q
 | _,_=>False
theorem zbb0{pins:List (Addr×Obj)}{σ:St}{a:Addr}{x:Int×Int}(I:Inv X pins σ H s)(h:H a=some (.tup (pV x))):TupI s.heap (.ref a) x:=by
 obtain⟨_,its,rv,o,h1,h2,n,h3⟩:=(show ze9 X.prog X.w H s.heap a (.tup (pV x)) from I.hok a _ h)
 unfold pV at rv
 cases rv with
 | cons r1 rv=>
  cases rv with
  | cons r2 rv=>
   cases rv
   obtain⟨t,rfl⟩:=r1
   obtain⟨u,rfl⟩:=r2
   exact⟨a,o,t,u,n,rfl,h1,h2,h3⟩
theorem oLtX(hu:X.A.units+40<cLine):OpR X (compareOp .Lt) rLtXM:=by
 intro pins s σ H x y v u Q I rx ry h
 unfold rLtXM at h
 split at h
 ·exact op_lt pins s σ H _ _ v u Q I rx ry ⟨_,_,rfl,rfl,h⟩
 ·unfold rLtA at h
  obtain⟨x,y,ea,eb,h⟩:=h
  cases rx
  cases ry
  exact zbp7 (zbb0 I ea) (zbb0 I eb) (by omega) ⟨.bl (ltP x y),H,I,rfl,h⟩
 ·exact h.elim
theorem ltP_rd{a b:Addr}{x y:Int×Int}(ha:H a=some (.tup (pV x)))(hb:H b=some (.tup (pV y)))(q:Q (.bl (ltP x y)) H):rLtA a b H Q:=by unfold rLtA;exact⟨x,y,ha,hb,q⟩
@[irreducible] def rSlX(K:zcf5)(a:Addr)(lo hi:Option Int)(H:Hp)(Q:VK):Prop:=(∃ xs,SqL K H a xs/\∀ p H',H p=none->Same H H'->H' p=some (.lst (cutV xs lo hi))->Q (.ref p) H') ∨
 ∃ xs,SqT K H a xs/\¬ (HT.sIx xs.length 0 lo=0/\HT.sIx xs.length xs.length hi=xs.length)/\∀ p H',H p=none->Same H H'->H' p=some (.tup (cutV xs lo hi))->Q (.ref p) H'
def rSlXM(K:zcf5):V->Option Int->Option Int->Hp->VK->Prop:=fun x lo hi H Q=>match x with
 | .ref a=>rSlX K a lo hi H Q
 | _=>False
theorem slX:SlR X (rSlXM X.K):=by
 intro pins s σ H x v vl vu lo hi sl Q I rx hs pl pu h
 unfold rSlXM at h
 split at h
 ·unfold rSlX at h
  rcases h with ⟨xs,h1,q⟩|⟨xs,h1,h2,q⟩
  ·exact zbu6 pins s σ H _ v vl vu lo hi sl Q I rx hs pl pu ⟨_,xs,rfl,h1,fun p hp=>q p _ hp (Same.upd hp) zb1⟩
  ·exact sl_tup pins s σ H _ v vl vu lo hi sl Q I rx hs pl pu ⟨_,xs,rfl,h1,h2,fun p hp=>q p _ hp (Same.upd hp) zb1⟩
 ·exact h.elim
theorem zk3{a:Addr}{lo hi:Option Int}(h:SqL K H a xs)(q:∀ p H',H p=none->Same H H'->H' p=some (.lst (cutV xs lo hi))->Q (.ref p) H'):rSlX K a lo hi H Q:=by unfold rSlX;exact .inl ⟨xs,h,q⟩
theorem zbi6{a:Addr}{x y z:V}(h:H a=some (.tup [x,y,z]))(q:∀ p H',H p=none->Same H H'->H' p=some (.tup [x,y])->Q (.ref p) H'):rSlX K a none (some 2) H Q:=by
 unfold rSlX
 exact .inr ⟨[x,y,z],SqT.of h,(by decide:¬ (HT.sIx 3 0 none=0/\HT.sIx 3 3 (some 2)=3)),q⟩
theorem zq1(hK:X.K=K)(hu:X.A.units+40<cLine):OpR X (compareOp .Eq) (zaw6 K):=by subst hK;exact oEqX hu
theorem zal1(hK:X.K=K)(hu:X.A.units+40<cLine):OpR X (compareOp .NotEq) (zak8 K):=by subst hK;exact oNeX hu
theorem slXK(hK:X.K=K):SlR X (rSlXM K):=by subst hK;exact slX
def rIsXM:R2:=fun x y H Q=>match x,y with
 | .bl i,.bl j=>Q (.bl (decide (i=j))) H
 | x,.non=>Q (.bl (decide (x=.non))) H
 | _,_=>False
theorem zaw8(i j:Bool):isSame (.bool i) (.bool j)=pure (decide (i=j)):=by cases i<;>cases j<;>rfl
theorem oIsX:OpR X (compareOp .Is) rIsXM:=by
 intro pins s σ H x y v u Q I rx ry h
 unfold rIsXM at h
 split at h
 ·rename_i i j
  cases (show v=Value.bool i from rx)
  cases (show u=Value.bool j from ry)
  show wpAny _ _ (isSame (.bool i) (.bool j) >>= fun b=>pure (Value.bool b)) _ _ s
  rw[zaw8]
  exact zcp6 (zcp7 (zcp7 ⟨.bl (decide (i=j)),H,I,rfl,h⟩))
 ·exact op_isN pins s σ H _ _ v u Q I rx ry ⟨rfl,h⟩
 ·exact h.elim
theorem Wk.zipN{a b:Addr}{ys:List V}{n:Nat}{H1:Hp}(h:SqL K H1 a xs)(h':SqL K H1 b ys)(hx:n<=xs.length)(hy:n<=ys.length)(hn:xs.length=n∨ys.length=n):Wk (Itz K a b) n H1 fun i v H=>∃ p x y,v=.ref p/\H p=some (.tup [x,y])/\xs[i]?=some x/\ys[i]?=some y:=
 ⟨fun i H s hi=>⟨xs,ys,xs[i],ys[i],s.seq h,s.seq h',by simp,by simp⟩,fun H s=>⟨xs,ys,s.seq h,s.seq h',by omega⟩,fun i H v H' s _ y=>by
  obtain⟨p,x,y,rfl,y1,y2,y3,y4,y5⟩:=y
  exact⟨y2,p,x,y,rfl,y3,y4 xs (s.seq h),y5 ys (s.seq h')⟩⟩
end
set_option maxHeartbeats 2000000
set_option maxHeartbeats 4000000
set_option maxHeartbeats 2000000
section
variable {X:Cx}{K:zcf5}
end
section
variable {X:Cx}{K:zcf5}
end
set_option maxHeartbeats 4000000
section
variable {X:Cx}{K:zcf5}{H:Hp}{Q:VK}
theorem zz5:∀ {rs:List Addr}{us:List Value},Vals (rs.map V.ref) us->us=rs.map Value.ref
 | [],us,h=>by cases h;rfl
 | r :: rs,us,h=>by
  cases h with
  | cons h1 h2=>
   have h1:_=Value.ref r:=h1
   rw[zci1,← zz5 h2,h1]
end
abbrev Pb:=SetTable.Probe
def advM(mask:Nat)(p:Pb):Pb:=
 if p.more>0 then { j:=p.j+1,more:=p.more - 1,i:=p.i,perturb:=p.perturb,dummy:=p.dummy }
 else { j:=(SetTable.leap mask p.i p.perturb).1,more:=SetTable.runEnd mask (SetTable.leap mask p.i p.perturb).1 - (SetTable.leap mask p.i p.perturb).1,i:=(SetTable.leap mask p.i p.perturb).1,perturb:=(SetTable.leap mask p.i p.perturb).2,dummy:=p.dummy }
def runS(mask:Nat)(a:Nat×Nat):Pb:={ j:=a.1,more:=SetTable.runEnd mask a.1 - a.1,i:=a.1,perturb:=a.2,dummy:=none }
def stp(mask:Nat)(h:Int):Nat->Pb
 | 0=>runS mask (SetTable.bits h % (mask+1),SetTable.bits h)
 | k+1=>advM mask (stp mask h k)
def wk(mask:Nat)(h:Int)(k:Nat):Nat:=(stp mask h k).j
def lps(mask:Nat)(h:Int):Nat->Nat×Nat
 | 0=>(SetTable.bits h % (mask+1),SetTable.bits h)
 | n+1=>SetTable.leap mask (lps mask h n).1 (lps mask h n).2
def runL(mask:Nat)(h:Int)(n:Nat):Nat:=SetTable.runEnd mask (lps mask h n).1 - (lps mask h n).1
def runA(mask:Nat)(h:Int):Nat->Nat
 | 0=>0
 | n+1=>runA mask h n+runL mask h n+1
theorem zal2(mask:Nat)(h:Int):∀ k,(stp mask h k).dummy=none
 | 0=>rfl
 | k+1=>by
  show (advM mask (stp mask h k)).dummy=none
  unfold advM
  split<;>exact zal2 mask h k
theorem zbi8{mask:Nat}{h:Int}{n:Nat}(hn:stp mask h (runA mask h n)=runS mask (lps mask h n)):∀ r,r<=runL mask h n->stp mask h (runA mask h n+r)={ j:=(lps mask h n).1+r,more:=runL mask h n - r,i:=(lps mask h n).1,perturb:=(lps mask h n).2,dummy:=none }
 | 0,_=>hn
 | r+1,hr=>by
  have ih:=zbi8 hn r (by omega)
  show advM mask (stp mask h (runA mask h n+r))=_
  rw[ih]
  unfold advM
  rw[if_pos (show runL mask h n - r>0 by omega)]
  rw[show runL mask h n - r - 1=runL mask h n - (r+1) by omega]
  rfl
theorem zbt9(mask:Nat)(h:Int):∀ n,stp mask h (runA mask h n)=runS mask (lps mask h n)
 | 0=>rfl
 | n+1=>by
  have ih:=zbi8 (zbt9 mask h n) (runL mask h n) (zcg9 _)
  show advM mask (stp mask h (runA mask h n+runL mask h n))=_
  rw[ih]
  unfold advM
  rw[if_neg (by show ¬ runL mask h n - runL mask h n>0;omega)]
  rfl
theorem zaf5{mask:Nat}{h:Int}{n r:Nat}(hr:r<=runL mask h n):wk mask h (runA mask h n+r)=(lps mask h n).1+r:=by
 unfold wk
 rw[zbi8 (zbt9 mask h n) r hr]
theorem zbz2(mask:Nat)(h:Int)(n:Nat):runL mask h n<=9:=by
 unfold runL SetTable.runEnd
 split<;>omega
theorem zbc6(mask:Nat)(h:Int):∀ n,runA mask h n<=10*n
 | 0=>zcg9 _
 | n+1=>by
  have:=zbc6 mask h n
  have:=zbz2 mask h n
  show runA mask h n+runL mask h n+1<=_
  omega
theorem zat6(mask:Nat)(h:Int):∀ n,(lps mask h n).2=SetTable.bits h / 32 ^ n
 | 0=>by show SetTable.bits h=_;rw[Nat.pow_zero,Nat.div_one]
 | n+1=>by
  show (lps mask h n).2 / 32=_
  rw[zat6 mask h n,Nat.div_div_eq_div_mul,Nat.pow_succ]
theorem zbt1{mask:Nat}(h:Int)(n:Nat):(lps mask h n).1<mask+1:=by
 cases n with
 | zero=>exact Nat.mod_lt _ (Nat.succ_pos _)
 | succ n=>exact Nat.mod_lt _ (Nat.succ_pos _)
theorem zbv2(h:Int):SetTable.bits h<2 ^ 64:=by
 unfold SetTable.bits
 have h1:=Int.emod_lt_of_pos h (show (0:Int)<2 ^ 64 by decide)
 have h0:=Int.emod_nonneg h (show ((2:Int) ^ 64)≠0 by decide)
 omega
def itN(mask:Nat)(c:Nat):Nat->Nat
 | 0=>c
 | n+1=>(itN mask c n*5+1) % (mask+1)
theorem zav1(mask:Nat)(h:Int):∀ n,(lps mask h (13+n)).1=itN mask (lps mask h 13).1 n
 | 0=>rfl
 | n+1=>by
  have ih:=zav1 mask h n
  have p:(lps mask h (13+n)).2=0:=by
   rw[zat6]
   exact Nat.div_eq_of_lt (zch3 (zbv2 h) (by
    rw[Nat.pow_add]
    exact zcj5 (show 2 ^ 64<=32 ^ 13 by decide) (Nat.le_mul_of_pos_right _ (Nat.pow_pos (by decide)))))
  show ((lps mask h (13+n)).1*5+1+(lps mask h (13+n)).2 / 32) % (mask+1)=(itN mask (lps mask h 13).1 n*5+1) % (mask+1)
  rw[p,ih]
def covB(mask:Nat):Bool:=(List.range (mask+1)).all fun c=>(List.range (mask+1)).all fun j=>(List.range (mask+1)).any fun n=>decide (itN mask c n=j)
theorem cov7:covB 7=true:=by decide +kernel
theorem cov31:covB 31=true:=by decide +kernel
abbrev Msk(mask:Nat):Prop:=mask=7∨mask=31
theorem cov{mask:Nat}(hm:Msk mask)(h:Int)(hj:j<=mask):∃ n,n<mask+14/\(lps mask h n).1=j:=by
 have c:covB mask=true:=by rcases hm with rfl|rfl;exact cov7;exact cov31
 unfold covB at c
 rw[zcg8] at c
 have c1:=c (lps mask h 13).1 (zci3.mpr (zbt1 h 13))
 rw[zcg8] at c1
 have c2:=c1 j (zci3.mpr (by omega))
 rw[List.any_eq_true] at c2
 obtain⟨n,hn,e⟩:=c2
 have hn:=zci3.mp hn
 exact⟨13+n,by omega,by rw[zav1];exact of_decide_eq_true e⟩
theorem least{P:Nat->Prop}[DecidablePred P]:∀ {N:Nat},(∃ k,k<N/\P k)->∃ k,k<N/\P k/\∀ k',k'<k->¬ P k'
 | 0,h=>by obtain⟨k,hk,_⟩:=h;omega
 | N+1,h=>by
  by_cases e:∃ k,k<N/\P k
  ·obtain⟨k,hk,p,q⟩:=least e
   exact⟨k,by omega,p,q⟩
  ·obtain⟨k,hk,p⟩:=h
   have:k=N:=by
    by_cases z:k<N
    ·exact absurd ⟨k,z,p⟩ e
    ·omega
   subst this
   exact⟨k,hk,p,fun k' hk' p'=>e ⟨k',hk',p'⟩⟩
theorem zas5:∀ {xs ys:List Nat},xs.Nodup->(∀ x∈xs,x∈ys)->xs.length<=ys.length
 | [],ys,_,_=>zci0 _
 | x :: xs,ys,nd,h=>by
  have nd:=zcl1.mp nd
  have hx:=h x (.head _)
  have:=zas5 (xs:=xs) (ys:=ys.erase x) nd.2 (fun y hy=>(List.mem_erase_of_ne (fun (e:y=x)=>nd.1 (e▸hy))).mpr (h y (.tail _ hy)))
  rw[List.length_erase_of_mem hx] at this
  have:=List.length_pos_of_mem hx
  show xs.length+1<=_
  omega
theorem zbj5{mask:Nat}(hm:Msk mask)(h:Int){ps:List Nat}(hl:ps.length<mask+1):∃ k,k<10*(mask+14)/\wk mask h k ∉ ps/\∀ k',k'<k->wk mask h k'∈ps:=by
 have:∃ j,j<=mask/\j ∉ ps:=by
  by_cases e:∃ j,j<=mask/\j ∉ ps
  ·exact e
  ·exfalso
   have:=zas5 (xs:=List.range (mask+1)) (ys:=ps) List.nodup_range (fun x hx=>by
    by_cases z:x∈ps
    ·exact z
    ·exact absurd ⟨x,by have:=zci3.mp hx;omega,z⟩ e)
   rw[zcl8] at this
   omega
 obtain⟨j,hj,nj⟩:=this
 obtain⟨n,hn,en⟩:=cov hm h hj
 have ew:wk mask h (runA mask h n)=j:=by
  have:=zaf5 (mask:=mask) (h:=h) (n:=n) (r:=0) (zci0 _)
  rw[Nat.add_zero,Nat.add_zero] at this
  rw[this,en]
 obtain⟨k,hk,p,q⟩:=least (P:=fun k=>wk mask h k ∉ ps) (N:=10*(mask+14)) ⟨runA mask h n,by have:=zbc6 mask h n;omega,by rw[ew];exact nj⟩
 exact⟨k,hk,p,fun k' hk'=>Classical.not_not.mp (q k' hk')⟩
theorem zah1{xs:Array Nat}{j:Nat}(srt:xs.toList.Pairwise (· < ·)):∀ (fuel lo hi:Nat),lo<=hi->hi<=xs.size->hi - lo<=fuel->(∀ (i:Nat) x,i<lo->xs[i]?=some x->x<j)->(∀ (i:Nat) x,hi<=i->xs[i]?=some x->j<=x) ->
  (SetTable.below.go xs j fuel lo hi<=xs.size/\(∀ (i:Nat) x,i<SetTable.below.go xs j fuel lo hi->xs[i]?=some x->x<j)/\∀ (i:Nat) x,SetTable.below.go xs j fuel lo hi<=i->xs[i]?=some x->j<=x)
 | 0,lo,hi,h1,h2,h3,a,b=>by
  rw[SetTable.below.go.eq_1]
  have:lo=hi:=by omega
  subst this
  exact⟨h2,a,b⟩
 | fuel+1,lo,hi,h1,h2,h3,a,b=>by
  have mono:∀ {i k:Nat}{x y:Nat},i<k->xs[i]?=some x->xs[k]?=some y->x<y:=fun {i k x y} hik e1 e2=>by
   rw[← zch4] at e1 e2
   obtain⟨l1,g1⟩:=zcf6.mp e1
   obtain⟨l2,g2⟩:=zcf6.mp e2
   have:=zck6.mp srt i k l1 l2 hik
   rw[g1,g2] at this
   exact this
  rw[SetTable.below.go.eq_2]
  by_cases c:lo<hi
  ·rw[if_pos c]
   have hm:(lo+hi) / 2<xs.size:=by omega
   have em:xs[(lo+hi) / 2]?=some xs[(lo+hi) / 2]:=zcl4 hm
   have eg:xs.getD ((lo+hi) / 2) j=xs[(lo+hi) / 2]:=by rw[zcj1,em];rfl
   show _/\_
   by_cases d:xs.getD ((lo+hi) / 2) j<j
   ·rw[if_pos d]
    rw[eg] at d
    refine zah1 srt fuel _ hi (by omega) h2 (by omega) (fun i x hi' e=>?_) b
    by_cases z:i=(lo+hi) / 2
    ·subst z;rw[em] at e;cases e;exact d
    ·exact Nat.lt_trans (mono (by omega) e em) d
   ·rw[if_neg d]
    rw[eg] at d
    refine zah1 srt fuel lo _ (by omega) (by omega) (by omega) a (fun i x hi' e=>?_)
    by_cases z:i=(lo+hi) / 2
    ·subst z;rw[em] at e;cases e;omega
    ·have:=mono (show (lo+hi) / 2<i by omega) em e
     omega
  ·rw[if_neg c]
   have:lo=hi:=by omega
   subst this
   exact⟨h2,a,b⟩
theorem zav5{xs:Array Nat}(srt:xs.toList.Pairwise (· < ·))(j:Nat):SetTable.below xs j<=xs.size/\(∀ (i:Nat) x,i<SetTable.below xs j->xs[i]?=some x->x<j)/\∀ (i:Nat) x,SetTable.below xs j<=i->xs[i]?=some x->j<=x:=
 zah1 srt _ 0 xs.size (zci0 _) (zcg9 _) (by omega) (fun i x h=>by omega) (fun i x h e=>by
  have:=(zcm2.mp e).1
  omega)
theorem zu1{xs:Array Nat}(srt:xs.toList.Pairwise (· < ·))(e:xs[i]?=some j):SetTable.below xs j=i:=by
 obtain⟨a,b,c⟩:=zav5 srt j
 by_cases h1:i<SetTable.below xs j
 ·have:=b i j h1 e;omega
 ·by_cases h2:SetTable.below xs j<i
  ·have hs:SetTable.below xs j<xs.size:=by have:=(zcm2.mp e).1;omega
   have er:xs[SetTable.below xs j]?=some xs[SetTable.below xs j]:=zcl4 hs
   have:=c _ _ (zcg9 _) er
   rw[← zch4] at e er
   obtain⟨l1,g1⟩:=zcf6.mp e
   obtain⟨l2,g2⟩:=zcf6.mp er
   have:=zck6.mp srt _ _ l2 l1 h2
   rw[g1,g2] at this
   omega
  ·omega
theorem zbi7(j:Nat):SetTable.has #[] j=false:=rfl
theorem zab6{t:SetTable}(srt:t.place.toList.Pairwise (· < ·))(e:t.place[i]?=some j):t.slot j=.live i:=by
 unfold SetTable.slot
 show (if (t.place[SetTable.below t.place j]?==some j)=true then _ else _)=_
 rw[zu1 srt e,e,if_pos (beq_self_eq_true _)]
theorem zaz9{t:SetTable}(dum:t.dummies=#[])(e:j ∉ t.place.toList):t.slot j=.empty:=by
 unfold SetTable.slot
 show (if (t.place[SetTable.below t.place j]?==some j)=true then _ else if SetTable.has t.dummies j=true then _ else _)=_
 have:¬ (t.place[SetTable.below t.place j]?==some j)=true:=fun h=>by
  have h:=eq_of_beq h
  rw[← zch4] at h
  exact e (zcf8 h)
 rw[if_neg this,dum,zbi7,if_neg zcg3]
structure TOk(t:SetTable)(hs:List Int):Prop where
 msk:Msk t.mask
 dum:t.dummies=#[]
 len:t.place.toList.length=hs.length
 srt:t.place.toList.Pairwise (· < ·)
 bnd:∀ j∈t.place.toList,j<=t.mask
 rch:∀ (i:Nat) h,hs[i]?=some h->∃ k,t.place.toList[i]?=some (wk t.mask h k)/\∀ k',k'<k->wk t.mask h k'∈t.place.toList
theorem zau7{t:SetTable}{hs:List Int}(T:TOk t hs){hashAt:Nat->Int}{h:Int}{k0:Nat}(free:wk t.mask h k0 ∉ t.place.toList)(full:∀ k',k'<k0->wk t.mask h k'∈t.place.toList):∀ (fuel k:Nat),k<=k0->k0 - k<fuel ->
  (∃ k1 i,k<=k1/\k1<k0/\t.place.toList[i]?=some (wk t.mask h k1)/\hashAt i=h/\SetTable.probe.go t hashAt h fuel (stp t.mask h k)=some (.candidate (wk t.mask h k1) i (stp t.mask h (k1+1)))/\∀ k',k<=k'->k'<k1->∀ i',t.place.toList[i']?=some (wk t.mask h k')->hashAt i'≠h) ∨
  (SetTable.probe.go t hashAt h fuel (stp t.mask h k)=some (.empty (wk t.mask h k0) none)/\∀ k',k<=k'->k'<k0->∀ i',t.place.toList[i']?=some (wk t.mask h k')->hashAt i'≠h)
 | 0,k,h1,h2=>by omega
 | fuel+1,k,h1,h2=>by
  rw[SetTable.probe.go.eq_2]
  by_cases e:k=k0
  ·subst e
   right
   rw[show t.slot (stp t.mask h k).j=.empty from zaz9 T.dum free]
   refine⟨?_,fun k' a b=>by omega⟩
   show some (SetTable.Met.empty (wk t.mask h k) (stp t.mask h k).dummy)=_
   rw[zal2]
  ·obtain⟨i,ei⟩:=zci9 (full k (by omega))
   have ei':t.place[i]?=some (wk t.mask h k):=by rw[← zch4];exact ei
   rw[show t.slot (stp t.mask h k).j=.live i from zab6 T.srt ei']
   show (∃ k1 i1,_/\_/\_/\_/\(if (hashAt i==h)=true then some (SetTable.Met.candidate (wk t.mask h k) i (stp t.mask h (k+1))) else SetTable.probe.go t hashAt h fuel (stp t.mask h (k+1)))=_/\_)∨((if (hashAt i==h)=true then some (SetTable.Met.candidate (wk t.mask h k) i (stp t.mask h (k+1))) else SetTable.probe.go t hashAt h fuel (stp t.mask h (k+1)))=_/\_)
   by_cases c:hashAt i=h
   ·left
    exact⟨k,i,zcg9 _,by omega,ei,c,by rw[if_pos (by rw[c];exact beq_self_eq_true _)],fun k' a b=>by omega⟩
   ·have nc:¬ (hashAt i==h)=true:=fun z=>c (eq_of_beq z)
    rw[if_neg nc]
    have here:∀ i',t.place.toList[i']?=some (wk t.mask h k)->hashAt i'≠h:=fun i' e'=>by
     have:i'=i:=by
      have b1:=zu1 T.srt (i:=i') (j:=wk t.mask h k) (by rw[← zch4];exact e')
      have b2:=zu1 T.srt ei'
      omega
     rw[this];exact c
    rcases zau7 T free full fuel (k+1) (by omega) (by omega) with ⟨k1,i1,a1,a2,a3,a4,a5,a6⟩|⟨a1,a2⟩
    ·left
     refine⟨k1,i1,by omega,a2,a3,a4,a5,fun k' b1 b2 i' e'=>?_⟩
     by_cases z:k'=k
     ·subst z;exact here i' e'
     ·exact a6 k' (by omega) b2 i' e'
    ·right
     refine⟨a1,fun k' b1 b2 i' e'=>?_⟩
     by_cases z:k'=k
     ·subst z;exact here i' e'
     ·exact a2 k' (by omega) b2 i' e'
theorem TOk.of{t t2:SetTable}{hs:List Int}(T:TOk t hs)(e1:t2.mask=t.mask)(e2:t2.place=t.place)(e3:t2.dummies=t.dummies):TOk t2 hs:=
 ⟨by rw[e1];exact T.msk,by rw[e3];exact T.dum,by rw[e2];exact T.len,by rw[e2];exact T.srt,by rw[e1,e2];exact T.bnd,by rw[e1,e2];exact T.rch⟩
theorem stp_j{mask:Nat}(h:Int)(k:Nat):∃ n r,k=runA mask h n+r/\r<=runL mask h n:=by
 induction k with
 | zero=>exact⟨0,0,rfl,zci0 _⟩
 | succ k ih=>
  obtain⟨n,r,e,hr⟩:=ih
  by_cases z:r<runL mask h n
  ·exact⟨n,r+1,by omega,by omega⟩
  ·exact⟨n+1,0,by show k+1=runA mask h n+runL mask h n+1+0;omega,zci0 _⟩
theorem zaz6{mask:Nat}(h:Int)(k:Nat):wk mask h k<=mask:=by
 obtain⟨n,r,rfl,hr⟩:=stp_j (mask:=mask) h k
 rw[zaf5 hr]
 have:=zbt1 (mask:=mask) h n
 unfold runL SetTable.runEnd at hr
 split at hr<;>omega
theorem zab3{α:Type}{xs:List α}{p:Nat}{x:α}(hp:p<=xs.length):(xs.take p++x :: xs.drop p).length=xs.length+1:=by
 rw[zcg2,zch0,zcj3,zck7]
 omega
theorem zan6{α:Type}{xs:List α}{p:Nat}{x:α}(hp:p<=xs.length)(i:Nat):(xs.take p++x :: xs.drop p)[i]?=if i<p then xs[i]? else if i=p then some x else xs[i - 1]?:=by
 by_cases h1:i<p
 ·rw[if_pos h1,zck3 (by rw[zcj3];omega),List.getElem?_take,if_pos h1]
 ·rw[if_neg h1,zcj6 (by rw[zcj3];omega),zcj3,Nat.min_eq_left hp]
  by_cases h2:i=p
  ·rw[if_pos h2,h2,Nat.sub_self];rfl
  ·rw[if_neg h2]
   obtain⟨d,rfl⟩:∃ d,i=p+d+1:=⟨i - p - 1,by omega⟩
   rw[show p+d+1 - p=d+1 by omega,List.getElem?_cons_succ,List.getElem?_drop]
   rfl
theorem TOk.put{t:SetTable}{hs:List Int}(T:TOk t hs){h:Int}{k0:Nat}(free:wk t.mask h k0 ∉ t.place.toList)(full:∀ k',k'<k0->wk t.mask h k'∈t.place.toList):SetTable.below t.place (wk t.mask h k0)<=hs.length/\TOk (t.put (wk t.mask h k0)).1 (hs.take (SetTable.below t.place (wk t.mask h k0))++h :: hs.drop (SetTable.below t.place (wk t.mask h k0)))/\(t.put (wk t.mask h k0)).2=SetTable.below t.place (wk t.mask h k0)/\(t.put (wk t.mask h k0)).1.mask=t.mask:=by
 obtain⟨b1,b2,b3⟩:=zav5 T.srt (wk t.mask h k0)
 have tl:=T.len
 generalize hj:wk t.mask h k0=j at *
 generalize hp:SetTable.below t.place j=p at *
 have hpl:p<=t.place.toList.length:=by rw[zcg7];exact b1
 have pl:((t.put j).1.place).toList=t.place.toList.take p++j :: t.place.toList.drop p:=by
  show (SetTable.insertAt t.place (SetTable.below t.place j) j).toList=_
  rw[hp,SetTable.toList_insertAt]
 have sup:∀ x∈t.place.toList,x∈t.place.toList.take p++j :: t.place.toList.drop p:=fun x hx=>by
  rw[← List.take_append_drop p t.place.toList] at hx
  rcases zch7.mp hx with hx|hx
  ·exact zch7.mpr (.inl hx)
  ·exact zch7.mpr (.inr (.tail _ hx))
 refine⟨by omega,⟨T.msk,?_,?_,?_,?_,?_⟩,hp▸rfl,rfl⟩
 ·show (if SetTable.has t.dummies j=true then _ else t.dummies)=#[]
  rw[T.dum,zbi7,if_neg zcg3]
 ·rw[pl,zab3 hpl,zab3 (by omega),tl]
 ·rw[pl,List.pairwise_append]
  have lo:∀ a∈t.place.toList.take p,a<j:=fun a ha=>by
   obtain⟨i,ei⟩:=zci9 ha
   rw[List.getElem?_take] at ei
   split at ei
   ·rename_i hi
    exact b2 i a hi (by rw[← zch4];exact ei)
   ·cases ei
  have hi:∀ b∈t.place.toList.drop p,j<b:=fun b hb=>by
   obtain⟨i,ei⟩:=zci9 hb
   rw[List.getElem?_drop] at ei
   have:=b3 (p+i) b (by omega) (by rw[← zch4];exact ei)
   have ne:j≠b:=fun z=>free (z▸zcf8 ei)
   omega
  refine⟨T.srt.sublist (List.take_sublist _ _),List.pairwise_cons.mpr ⟨hi,T.srt.sublist (List.drop_sublist _ _)⟩,fun a ha b hb=>?_⟩
  rcases zcg6.mp hb with rfl|hb
  ·exact lo a ha
  ·exact Nat.lt_trans (lo a ha) (hi b hb)
 ·rw[pl]
  intro x hx
  show x<=t.mask
  rcases zch7.mp hx with hx|hx
  ·exact T.bnd x (zcm9 hx)
  ·rcases zcg6.mp hx with rfl|hx
   ·rw[← hj];exact zaz6 h k0
   ·exact T.bnd x (zcm0 hx)
 ·intro i h' e
  show ∃ k,((t.put j).1.place).toList[i]?=some (wk t.mask h' k)/\∀ k',k'<k->wk t.mask h' k'∈((t.put j).1.place).toList
  rw[pl,zan6 hpl]
  rw[zan6 (by omega)] at e
  by_cases h1:i<p
  ·rw[if_pos h1] at e ⊢
   obtain⟨k,q1,q2⟩:=T.rch i h' e
   exact⟨k,q1,fun k' hk'=>sup _ (q2 k' hk')⟩
  ·rw[if_neg h1] at e ⊢
   by_cases h2:i=p
   ·rw[if_pos h2] at e ⊢
    cases e
    exact⟨k0,by rw[hj],fun k' hk'=>sup _ (full k' hk')⟩
   ·rw[if_neg h2] at e ⊢
    obtain⟨k,q1,q2⟩:=T.rch (i - 1) h' e
    exact⟨k,q1,fun k' hk'=>sup _ (q2 k' hk')⟩
theorem zbj8{mask:Nat}{h:Int}{n:Nat}(hm:n<=m):runA mask h n<=runA mask h m:=by
 induction m with
 | zero=>
  have:n=0:=by omega
  subst this;exact zcg9 _
 | succ m ih=>
  by_cases e:n=m+1
  ·subst e;exact zcg9 _
  ·have:=ih (by omega)
   show runA mask h n<=runA mask h m+runL mask h m+1
   omega
theorem zat1{mask:Nat}{owner:Array (Option Nat)}{h:Int}{k0:Nat}(free:(owner.getD (wk mask h k0) (some 0)).isNone=true)(full:∀ k',k'<k0->(owner.getD (wk mask h k') (some 0)).isNone=false):∀ fuel n,runA mask h n<=k0->k0<runA mask h (n+fuel)->SetTable.layClean.free mask owner fuel (lps mask h n).1 (lps mask h n).2=some (wk mask h k0)
 | 0,n,h1,h2=>by rw[Nat.add_zero] at h2;omega
 | fuel+1,n,h1,h2=>by
  rw[SetTable.layClean.free.eq_2]
  have el:SetTable.runEnd mask (lps mask h n).1+1 - (lps mask h n).1=runL mask h n+1:=by
   unfold runL SetTable.runEnd
   split<;>omega
  rw[el]
  by_cases c:k0<runA mask h (n+1)
  ·have hr:k0 - runA mask h n<=runL mask h n:=by
    have:k0<runA mask h n+runL mask h n+1:=c
    omega
   have ew:(lps mask h n).1+(k0 - runA mask h n)=wk mask h k0:=by
    rw[← zaf5 hr]
    congr 1
    omega
   have:List.find? (fun k=>(owner.getD ((lps mask h n).1+k) (some 0)).isNone) (List.range (runL mask h n+1))=some (k0 - runA mask h n):=by
    rw[List.find?_range_eq_some]
    refine⟨by rw[ew];exact free,zci3.mpr (by omega),fun r hr'=>?_⟩
    rw[← zaf5 (show r<=runL mask h n by omega),full _ (by omega)]
    rfl
   rw[this]
   show some _=_
   rw[ew]
  ·have:List.find? (fun k=>(owner.getD ((lps mask h n).1+k) (some 0)).isNone) (List.range (runL mask h n+1))=none:=by
    rw[List.find?_range_eq_none]
    intro r hr'
    rw[← zaf5 (show r<=runL mask h n by omega),full _ (by
     have c:¬ k0<runA mask h n+runL mask h n+1:=c
     omega)]
    rfl
   rw[this]
   exact zat1 free full fuel (n+1) (by omega) (by rw[show n+1+fuel=n+(fuel+1) by omega];exact h2)
def zk2(mask:Nat)(owner:Array (Option Nat)):List (Nat×Nat):=(List.range (mask+1)).filterMap fun j=>(owner.getD j none).map fun x=>(j,x)
theorem zat9{mask:Nat}{owner:Array (Option Nat)}{x:Nat}:(j,x)∈zk2 mask owner↔j<=mask/\owner.getD j none=some x:=by
 unfold zk2
 rw[zco4]
 constructor
 ·rintro⟨a,ha,e⟩
  obtain⟨y,ey,e⟩:=zcg5.mp e
  cases e
  exact⟨by have:=zci3.mp ha;omega,ey⟩
 ·rintro⟨h1,h2⟩
  exact⟨j,zci3.mpr (by omega),by rw[h2];rfl⟩
theorem zs8{mask:Nat}{owner:Array (Option Nat)}:j∈(zk2 mask owner).map (·.1)↔j<=mask/\(owner.getD j none).isSome=true:=by
 rw[zch2]
 constructor
 ·rintro⟨⟨a,x⟩,hx,rfl⟩
  obtain⟨h1,h2⟩:=zat9.mp hx
  exact⟨h1,by rw[h2];rfl⟩
 ·rintro⟨h1,h2⟩
  obtain⟨x,ex⟩:=zck8.mp h2
  exact⟨(j,x),zat9.mpr ⟨h1,ex⟩,rfl⟩
theorem zbd7{α:Type}{f:Nat->Option α}:∀ L:List Nat,(L.filterMap fun j=>(f j).map fun x=>(j,x)).map (·.1)=L.filter fun j=>(f j).isSome
 | []=>rfl
 | x :: xs=>by
  cases e:f x with
  | none=>
   rw[zcl6 (by rw[e];rfl),List.filter_cons_of_neg (by rw[e];exact zcg3)]
   exact zbd7 xs
  | some y=>
   rw[zck9 (b:=(x,y)) (by rw[e];rfl),List.filter_cons_of_pos (by rw[e];rfl),zci1,zbd7 xs]
theorem zbm8(mask:Nat)(owner:Array (Option Nat)):((zk2 mask owner).map (·.1)).Pairwise (· < ·):=by
 unfold zk2
 rw[zbd7]
 exact List.Pairwise.filter _ List.pairwise_lt_range
theorem zaa9{β:Type}{f g:Nat->Option β}:∀ {L:List Nat},(∀ y∈L,g y=f y)->L.filterMap g=L.filterMap f
 | [],_=>rfl
 | x :: xs,h=>by
  have ih:=zaa9 (L:=xs) fun y hy=>h y (.tail _ hy)
  have e:=h x (.head _)
  cases ef:f x with
  | none=>rw[zcl6 (by rw[e,ef]),zcl6 ef,ih]
  | some y=>rw[zck9 (b:=y) (by rw[e,ef]),zck9 ef,ih]
theorem zbl2{β:Type}{f g:Nat->Option β}{j0:Nat}{v:β}(h0:f j0=none)(h1:g j0=some v)(h2:∀ j,j≠j0->g j=f j):∀ {L:List Nat},L.Nodup->j0∈L->(L.filterMap g).Perm (v :: L.filterMap f)
 | x :: xs,nd,hj=>by
  have nd:=zcl1.mp nd
  by_cases e:x=j0
  ·subst e
   have:xs.filterMap g=xs.filterMap f:=zaa9 fun y hy=>h2 y fun (z:y=x)=>nd.1 (z▸hy)
   rw[zck9 h1,zcl6 h0,this]
  ·have hj':j0∈xs:=by
    rcases zcg6.mp hj with rfl|hj
    ·exact absurd rfl e
    ·exact hj
   have ih:=zbl2 h0 h1 h2 nd.2 hj'
   cases ef:f x with
   | none=>rw[zcl6 (by rw[h2 x e,ef]),zcl6 ef];exact ih
   | some y=>
    rw[zck9 (b:=y) (by rw[h2 x e,ef]),zck9 ef]
    exact (ih.cons y).trans (List.Perm.swap _ _ _)
structure zaz4(mask:Nat)(hs:List Int)(owner:Array (Option Nat))(js:List Nat):Prop where
 sz:owner.size=mask+1
 len:js.length=hs.length
 prm:(zk2 mask owner).Perm (js.zip (List.range js.length))
 rch:∀ (i:Nat) j h,js[i]?=some j->hs[i]?=some h->∃ k,j=wk mask h k/\∀ k',k'<k->(owner.getD (wk mask h k') none).isSome=true
def layF(mask:Nat):Option (Array (Option Nat)×Nat)->Int->Option (Array (Option Nat)×Nat):=fun acc h=>do
 let x ← acc
 match x with
 | (owner,k)=>do
  let j ← SetTable.layClean.free mask owner (SetTable.turns mask) (SetTable.bits h % (mask+1)) (SetTable.bits h)
  pure (owner.setIfInBounds j (some k),k+1)
theorem zbl9{mask:Nat}(hm:Msk mask){hs:List Int}{owner:Array (Option Nat)}{js:List Nat}(L:zaz4 mask hs owner js)(hl:hs.length<mask+1)(h:Int):∃ owner' j,layF mask (some (owner,hs.length)) h=some (owner',hs.length+1)/\zaz4 mask (hs++[h]) owner' (js++[j]):=by
 have pl:(zk2 mask owner).length=hs.length:=by rw[L.prm.length_eq,List.length_zip,zcl8,Nat.min_self,L.len]
 obtain⟨k0,hk,fr,fu⟩:=zbj5 hm h (ps:=(zk2 mask owner).map (·.1)) (by rw[zcf4,pl];exact hl)
 have lt:∀ k,wk mask h k<owner.size:=fun k=>by have:=zaz6 (mask:=mask) h k;rw[L.sz];omega
 have gd:∀ (k:Nat) (d:Option Nat),owner.getD (wk mask h k) d=owner[wk mask h k]'(lt k):=fun k d=>by rw[zcj1,zcl4 (lt k)];rfl
 have free:(owner.getD (wk mask h k0) (some 0)).isNone=true:=by
  rw[zs8] at fr
  rw[gd k0 (some 0),← gd k0 none]
  cases e:owner.getD (wk mask h k0) none with
  | none=>rfl
  | some x=>exact absurd ⟨zaz6 h k0,by rw[e];rfl⟩ fr
 have full:∀ k',k'<k0->(owner.getD (wk mask h k') (some 0)).isNone=false:=fun k' hk'=>by
  obtain⟨_,e⟩:=zs8.mp (fu k' hk')
  rw[gd k' (some 0),← gd k' none]
  obtain⟨x,ex⟩:=zck8.mp e
  rw[ex];rfl
 have fnd:=zat1 free full (mask+15) 0 (zci0 _) (by
  have e:∃ n,n<mask+14/\(lps mask h n).1=wk mask h k0:=cov hm h (zaz6 h k0)
  obtain⟨n,hn,en⟩:=e
  have ew:wk mask h (runA mask h n)=wk mask h k0:=by
   have:=zaf5 (mask:=mask) (h:=h) (n:=n) (r:=0) (zci0 _)
   rw[Nat.add_zero,Nat.add_zero] at this
   rw[this,en]
  have le:k0<=runA mask h n:=by
   by_cases z:runA mask h n<k0
   ·have:=fu _ z
    rw[ew] at this
    exact absurd this fr
   ·omega
  have:=zbj8 (mask:=mask) (h:=h) (show n+1<=0+(mask+15) by omega)
  have:runA mask h n+runL mask h n+1<=runA mask h (0+(mask+15)):=this
  omega)
 have fnd:SetTable.layClean.free mask owner (SetTable.turns mask) (SetTable.bits h % (mask+1)) (SetTable.bits h)=some (wk mask h k0):=fnd
 refine⟨owner.setIfInBounds (wk mask h k0) (some hs.length),wk mask h k0,?_,?_⟩
 ·show (SetTable.layClean.free mask owner (SetTable.turns mask) (SetTable.bits h % (mask+1)) (SetTable.bits h)).bind _=_
  rw[fnd];rfl
 ·have at0:owner.getD (wk mask h k0) none=none:=by
   rw[gd k0 none,← gd k0 (some 0)]
   exact Option.isNone_iff_eq_none.mp free
  have g1:(owner.setIfInBounds (wk mask h k0) (some hs.length)).getD (wk mask h k0) none=some hs.length:=by
   rw[zcj1,Array.getElem?_setIfInBounds,if_pos rfl,if_pos (lt k0)];rfl
  have g2:∀ j,j≠wk mask h k0->(owner.setIfInBounds (wk mask h k0) (some hs.length)).getD j none=owner.getD j none:=fun j hj=>by
   rw[zcj1,zcj1,Array.getElem?_setIfInBounds,if_neg (Ne.symm hj)]
  refine⟨by rw[Array.size_setIfInBounds];exact L.sz,by rw[zcg2,zcg2,L.len];rfl,?_,fun i j h' e1 e2=>?_⟩
  ·have p1:(zk2 mask (owner.setIfInBounds (wk mask h k0) (some hs.length))).Perm ((wk mask h k0,hs.length) :: zk2 mask owner):=zbl2 (f:=fun j=>(owner.getD j none).map fun x=>(j,x)) (g:=fun j=>((owner.setIfInBounds (wk mask h k0) (some hs.length)).getD j none).map fun x=>(j,x)) (by rw[at0];rfl) (by rw[g1];rfl) (fun j hj=>by rw[g2 j hj]) List.nodup_range (zci3.mpr (by have:=zaz6 (mask:=mask) h k0;omega))
   have e:(js++[wk mask h k0]).zip (List.range (js++[wk mask h k0]).length)=js.zip (List.range js.length)++[(wk mask h k0,hs.length)]:=by
    rw[zcg2,zcj0,List.range_succ,List.zip_append (by rw[zcl8]),L.len]
    rfl
   rw[e]
   exact (p1.trans (L.prm.cons _)).trans (List.perm_append_comm (l₁:=[_]))
  ·have up:∀ j,(owner.getD j none).isSome=true->((owner.setIfInBounds (wk mask h k0) (some hs.length)).getD j none).isSome=true:=fun j hj=>by
    by_cases z:j=wk mask h k0
    ·rw[z,g1];rfl
    ·rw[g2 j z];exact hj
   by_cases hi:i<js.length
   ·rw[zck3 hi] at e1
    rw[zck3 (by rw[← L.len];exact hi)] at e2
    obtain⟨k,q1,q2⟩:=L.rch i j h' e1 e2
    exact⟨k,q1,fun k' hk'=>up _ (q2 k' hk')⟩
   ·rw[zcj6 (by omega)] at e1
    rw[zcj6 (by rw[← L.len];omega)] at e2
    have hi0:i - js.length=0:=by
     have:=(zcf6.mp e1).1
     simp at this;omega
    rw[hi0] at e1
    rw[← L.len,hi0] at e2
    cases e1
    cases e2
    exact⟨k0,rfl,fun k' hk'=>up _ (zs8.mp (fu k' hk')).2⟩
theorem zbh2{mask:Nat}(hm:Msk mask):∀ {xs hs:List Int}{owner:Array (Option Nat)}{js:List Nat},zaz4 mask hs owner js->hs.length+xs.length<mask+2->∃ owner' js',xs.foldl (layF mask) (some (owner,hs.length))=some (owner',(hs++xs).length)/\zaz4 mask (hs++xs) owner' js'
 | [],hs,owner,js,L,_=>⟨owner,js,by rw[zcn4];rfl,by rw[zcn4];exact L⟩
 | x :: xs,hs,owner,js,L,hl=>by
  rw[zch0] at hl
  obtain⟨o1,j1,e1,L1⟩:=zbl9 hm L (by omega) x
  obtain⟨o2,j2,e2,L2⟩:=zbh2 hm L1 (xs:=xs) (by rw[zcg2,zcj0];omega)
  rw[zco7] at L2 e2
  refine⟨o2,j2,?_,L2⟩
  rw[List.foldl_cons,e1]
  rw[zcg2,zcj0] at e2
  exact e2
theorem zbk3{mask:Nat}(hm:Msk mask){hs:Array Int}(hl:hs.size<mask+2):∃ owner js,SetTable.layClean mask hs=some owner/\zaz4 mask hs.toList owner js:=by
 have L0:zaz4 mask [] (Array.replicate (mask+1) none) []:=by
  refine⟨Array.size_replicate,rfl,?_,fun i j h e=>by simp at e⟩
  have:zk2 mask (Array.replicate (mask+1) none)=[]:=by
   unfold zk2
   rw[List.filterMap_eq_nil_iff]
   intro j _
   rw[zcj1,Array.getElem?_replicate]
   split<;>rfl
  rw[this]
  exact .nil
 obtain⟨o,js,e,L⟩:=zbh2 hm L0 (xs:=hs.toList) (by rw[zcg7];simp;omega)
 refine⟨o,js,?_,by simpa using L⟩
 show Option.map (fun x=>x.fst) (Array.foldl (layF mask) (some (Array.replicate (mask+1) none,0)) hs)=some o
 rw[← Array.foldl_toList]
 have e:List.foldl (layF mask) (some (Array.replicate (mask+1) none,0)) hs.toList=_:=e
 rw[e]
 rfl
theorem zbz1{mask finger moves:Nat}{led plain:Bool}(hm:Msk mask)(hl:es.size<mask+2):∃ t2 order,SetTable.laid mask finger moves led plain (es.map fun x=>x.fst)=some (t2,order)/\t2.mask=mask/\(zcm7 (fun x=>es[x]?) order).size=es.size/\(zcm7 (fun x=>es[x]?) order).toList.Perm es.toList/\TOk t2 ((zcm7 (fun x=>es[x]?) order).toList.map (·.1)):=by
 obtain⟨owner,js,e,L⟩:=zbk3 hm (hs:=es.map fun x=>x.fst) (by rw[Array.size_map];exact hl)
 have jl:js.length=es.size:=by rw[L.len,zcg7,Array.size_map]
 refine⟨_,_,by
  show (SetTable.layClean mask (es.map fun x=>x.fst)).bind _=_
  rw[e]
  rfl,rfl,?_⟩
 have ord:(zcm7 (fun x=>es[x]?) (List.map (fun x=>x.snd) (zk2 mask owner)).toArray).toList=(zk2 mask owner).filterMap fun x=>es[x.2]?:=by
  rw[Array.toList_filterMap,List.filterMap_map]
  rfl
 have small:∀ z∈zk2 mask owner,∃ h,js[z.2]?=some z.1/\es[z.2]?=some h:=fun z hz=>by
  have:=L.prm.mem_iff.mp hz
  obtain⟨i,ei⟩:=zci9 this
  rw[List.getElem?_zip_eq_some] at ei
  obtain⟨e1,e2⟩:=ei
  have hi:=(zcf6.mp e1).1
  rw[zcn8 hi] at e2
  have e2:=Option.some.inj e2
  rw[← e2]
  exact⟨_,e1,zcl4 (by omega)⟩
 have fmap:∀ (l:List (Nat×Nat)),(∀ z∈l,∃ h,es[z.2]?=some h)->(l.filterMap fun x=>es[x.2]?)=l.map fun x=>es.getD x.2 (0,.none):=fun l=>by
  induction l with
  | nil=>intro _;rfl
  | cons z l ih=>
   intro hz
   obtain⟨h,eh⟩:=hz z (.head _)
   rw[zck9 (f:=fun x:Nat×Nat=>es[x.2]?) (a:=z) (b:=h) eh,zci1,ih fun y hy=>hz y (.tail _ hy),zcj1,eh]
   rfl
 have em:=fmap (zk2 mask owner) (fun z hz=>by obtain⟨h,_,e⟩:=small z hz;exact⟨h,e⟩)
 have all:((js.zip (List.range js.length)).filterMap fun x=>es[x.2]?)=es.toList:=by
  have h1:((js.zip (List.range js.length)).filterMap fun x=>es[x.2]?)=((js.zip (List.range js.length)).map (·.2)).filterMap fun i=>es[i]?:=by rw[List.filterMap_map];rfl
  rw[h1,List.map_snd_zip (by rw[zcl8];exact zcg9 _),jl,← zcg7]
  refine Eq.trans ?_ (PySem.List.filterMap_getElem?_range_length es.toList)
  refine zaa9 fun y _=>?_
  rw[zch4]
 have prm:((zk2 mask owner).filterMap fun x=>es[x.2]?).Perm es.toList:=by
  rw[← all]
  exact L.prm.filterMap _
 show (zcm7 (fun x=>es[x]?) (List.map (fun x=>x.snd) (zk2 mask owner)).toArray).size=es.size/\(zcm7 (fun x=>es[x]?) (List.map (fun x=>x.snd) (zk2 mask owner)).toArray).toList.Perm es.toList/\TOk _ ((zcm7 (fun x=>es[x]?) (List.map (fun x=>x.snd) (zk2 mask owner)).toArray).toList.map (·.1))
 refine⟨?_,by rw[ord];exact prm,?_⟩
 ·rw[← zcg7,ord,prm.length_eq,zcg7]
 ·rw[ord,em,zch6]
  have pl:((List.map (fun x=>x.fst) (zk2 mask owner)).toArray).toList=(zk2 mask owner).map (·.1):=rfl
  refine⟨hm,rfl,?_,?_,?_,fun i h eh=>?_⟩
  ·show ((List.map (fun x=>x.fst) (zk2 mask owner)).toArray).toList.length=_
   rw[pl,zcf4,zcf4]
  ·exact zbm8 mask owner
  ·intro j hj
   exact (zs8.mp hj).1
  ·rw[zcf9] at eh
   obtain⟨z,ez,rfl⟩:=zcg5.mp eh
   obtain⟨y,e1,e2⟩:=small z (zcf8 ez)
   have eh:es.getD z.2 (0,.none)=y:=by rw[zcj1,e2];rfl
   obtain⟨k,q1,q2⟩:=L.rch z.2 z.1 y.1 e1 (by rw[zch4,Array.getElem?_map,e2];rfl)
   refine⟨k,?_,fun k' hk'=>?_⟩
   ·show ((zk2 mask owner).map (·.1))[i]?=some (wk mask (es.getD z.2 (0,.none)).1 k)
    rw[eh,zcf9,ez,← q1]
    rfl
   ·show wk mask (es.getD z.2 (0,.none)).1 k'∈(zk2 mask owner).map (·.1)
    rw[eh]
    exact zs8.mpr ⟨zaz6 _ _,q2 k' hk'⟩
section
variable {prog:Program}{w:World}{A:Around}{E:Value->Shared->Prop}{s:Shared}
theorem zt5{M:Model}{α β:Type}(f:α->β->Sem (ForInStep β))(I:List α->β->Shared->Prop)(Q:β->Shared->Prop)(hs:∀ (x:α) (rest:List α) (b:β) (s:Shared),I (x :: rest) b s->wpAny M A (f x b) (fun r s'=>match r with|ForInStep.yield b'=>I rest b' s' | ForInStep.done b'=>Q b' s') E s)(hd:∀ (b:β) (s:Shared),I [] b s->Q b s):∀ (xs:List α) (b:β) (s:Shared),I xs b s->wpAny M A (forIn xs b f) Q E s
 | [],b,s,h=>by rw[List.forIn_nil];exact zcp7 (hd b s h)
 | x :: xs,b,s,h=>by
  rw[List.forIn_cons]
  refine zcp6 ?_
  have:=hs x xs b s h
  revert this
  generalize f x b=m
  intro this
  refine wpAny_mono this (fun r s' hr=>?_) (fun _ _ h=>h)
  cases r with
  | done b'=>exact zcp7 hr
  | yield b'=>exact zt5 f I Q hs hd xs b' s' hr
theorem zaj5{ks:List Int}(h:PySem.ItemsAre (intKind prog w) ks vs):∀ v∈vs,carriedByValue v=true:=by
 induction h with
 | nil=>intro v hv;cases hv
 | cons h1 h2 ih=>
  intro v hv
  rcases zcg6.mp hv with rfl|hv
  ·exact (intKind prog w).byValue _ _ h1
  ·exact ih v hv
theorem noref{v:Value}(h:carriedByValue v=true):∀ a,v=Value.ref a->False:=fun a e=>by subst e;cases h
theorem zbb1{k:List Int}{p:Addr}{Q:Bool->Shared->Prop}(h:IsTupleKey (intKind prog w) s.heap k p)(q:Q false s):wpAny (model prog w) A (ofAClassStatement 8 (.ref p)) Q E s:=by
 show wpAny (model prog w) A (ofAClassStatement (7+1) (.ref p)) Q E s
 rw[ofAClassStatement.eq_2]
 refine zcp6 (wpAny_typeOf h.typeIs ?_)
 obtain⟨o,items,n,ho,hc,hd,hi⟩:=h
 show wpAny (model prog w) A (if ("tuple"=="tuple")=true then _ else _) Q E s
 refine wpAny_ite_true rfl ?_
 refine zcp6 (zcp7 ?_)
 refine zcp9 rfl ?_
 refine zcp6 (wpAny_seqItems ho hd ?_)
 refine zcp6 ?_
 refine wpAny_forIn_array' _ (fun rest b s'=>s'=s/\b=(none,())/\∀ v∈rest,carriedByValue v=true) _ ?_ ?_ items _ ⟨rfl,rfl,zaj5 hi⟩
 ·rintro x rest b s' ⟨rfl,rfl,hv⟩
  rw[ofAClassStatement.eq_3 _ _ (noref (hv x (.head _)))]
  refine zcp6 (zcp7 ?_)
  refine zcp9 rfl (zcp7 ?_)
  exact⟨rfl,rfl,fun v h=>hv v (.tail _ h)⟩
 ·rintro b s' ⟨rfl,rfl,_⟩
  exact zcp7 q
theorem zbc5:typeLookup (Value.type "tuple") (Str.ofString "__hash__")=pure (some (.builtin "tuple.__hash__")):=by kernel_rfl
theorem zbz3{v:Value}{n:Nat}(h:carriedByValue v=true):∃ b,hashByValue n v=pure b:=by
 cases v with
 | none=>exact⟨_,hashByValue.eq_1 _⟩
 | bool b=>exact⟨_,hashByValue.eq_2 _ _⟩
 | int i t=>exact⟨_,hashByValue.eq_3 _ _ _⟩
 | float b t=>exact⟨_,hashByValue.eq_4 _ _ _⟩
 | str x t=>exact⟨_,hashByValue.eq_5 _ _ _⟩
 | bytes b t=>exact⟨_,hashByValue.eq_6 _ _ _⟩
 | ellipsis=>exact⟨_,hashByValue.eq_7 _⟩
 | notImplemented=>exact⟨_,hashByValue.eq_8 _⟩
 | type n=>exact⟨_,hashByValue.eq_9 _ _⟩
 | builtin id=>exact⟨_,hashByValue.eq_10 _ _⟩
 | ref a=>cases h
theorem zbx0{k:List Int}{p:Addr}{Q:Bool->Shared->Prop}(h:IsTupleKey (intKind prog w) s.heap k p)(q:∀ b,Q b s):wpAny (model prog w) A (hashByValue 8 (.ref p)) Q E s:=by
 show wpAny (model prog w) A (hashByValue (7+1) (.ref p)) Q E s
 rw[hashByValue.eq_12]
 refine zcp6 (wpAny_specialOf h.typeIs zbc5 ?_)
 obtain⟨o,items,n,ho,hc,hd,hi⟩:=h
 refine zcp6 (wpAny_seqItems ho hd ?_)
 refine zcp6 ?_
 refine wpAny_forIn_array' _ (fun rest b s'=>s'=s/\∀ v∈rest,carriedByValue v=true) _ ?_ ?_ items _ ⟨rfl,zaj5 hi⟩
 ·rintro x rest b s' ⟨rfl,hv⟩
  obtain⟨b,eb⟩:=zbz3 (n:=7) (hv x (.head _))
  rw[eb]
  refine zcp6 (zcp7 ?_)
  cases b
  ·refine wpAny_ite_true rfl (zcp7 ?_)
   exact zcp7 (q _)
  ·refine zcp9 rfl (zcp7 ?_)
   exact⟨rfl,fun v h=>hv v (.tail _ h)⟩
 ·rintro⟨b,u⟩ s' ⟨rfl,_⟩
  cases b with
  | none=>exact zcp7 (q _)
  | some r=>exact zcp7 (q _)
theorem zbw3{k:List Int}{Q:Bool->Shared->Prop}(hk:IsTupleKey (intKind prog w) s.heap k q)(hv:∀ v∈vs,∃ p k',v=.ref p/\IsTupleKey (intKind prog w) s.heap k' p)(hQ:Q false s):wpAny (model prog w) A (searchCouldBeSeen (.ref q) vs) Q E s:=by
 unfold searchCouldBeSeen
 refine zcp6 ?_
 refine zt5 _ (fun rest b s'=>s'=s/\b=(none,())/\∀ v∈rest,∃ p k',v=.ref p/\IsTupleKey (intKind prog w) s.heap k' p) _ ?_ ?_ vs _ _ ⟨rfl,rfl,hv⟩
 ·rintro x rest b s' ⟨rfl,rfl,hv⟩
  obtain⟨p,k',rfl,hp⟩:=hv x (.head _)
  have hr:∀ v∈rest,∃ p k',v=.ref p/\IsTupleKey (intKind prog w) s'.heap k' p:=fun v h=>hv v (.tail _ h)
  show wpAny (model prog w) A (if ((q==p) || carriedByValue (Value.ref q)&&carriedByValue (Value.ref p))=true then _ else _) _ E s'
  by_cases c:((q==p) || carriedByValue (Value.ref q)&&carriedByValue (Value.ref p))=true
  ·rw[if_pos c]
   exact zcp7 ⟨rfl,rfl,hr⟩
  ·rw[if_neg c]
   refine zcp6 (wpAny_eqIsQuiet_tuple hk ?_)
   refine zcp9 rfl ?_
   refine zcp6 (wpAny_eqIsQuiet_tuple hp ?_)
   refine zcp9 rfl ?_
   refine zcp6 (zbb1 hk ?_)
   refine zcp9 rfl ?_
   refine zcp6 (zbb1 hp ?_)
   refine zcp9 rfl ?_
   exact zcp7 ⟨rfl,rfl,hr⟩
 ·rintro b s' ⟨rfl,rfl,_⟩
  exact zcp7 hQ
structure SetE(prog:Program)(w:World)(h:Heap)(a:Addr)(o:Obj)(es:Array (Int×Value))(ep:Nat)(t:SetTable)(keys:List (List Int)):Prop where
 at_:h.get? a=some o
 ex:o.ExactSet
 dat:o.data=Data.set es ep t
 tab:TOk t (es.toList.map (·.1))
 few:es.size*5<t.mask*3
 sz:es.size=keys.length
 el:∀ e∈es.toList,∃ p k,k∈keys/\e=(zcq0 (intKind prog w) k,.ref p)/\IsTupleKey (intKind prog w) h k p
 all:∀ k∈keys,∃ e∈es.toList,∃ p,e=(zcq0 (intKind prog w) k,.ref p)/\IsTupleKey (intKind prog w) h k p
theorem SetE.mask{h:Heap}{a:Addr}{o:Obj}{es:Array (Int×Value)}{ep:Nat}{t:SetTable}{keys:List (List Int)}(S:SetE prog w h a o es ep t keys):Msk t.mask:=S.tab.msk
theorem TOk.fits{t:SetTable}{es:Array (Int×Value)}(T:TOk t (es.toList.map (·.1)))(few:es.size<=t.mask):t.fits es.size=true:=by
 have l:=T.len
 rw[zcf4,zcg7,zcg7] at l
 unfold SetTable.fits SetTable.fill
 rw[T.dum,l]
 simp
 exact few
theorem SetE.fits{h:Heap}{a:Addr}{o:Obj}{es:Array (Int×Value)}{ep:Nat}{t:SetTable}{keys:List (List Int)}(S:SetE prog w h a o es ep t keys):t.fits es.size=true:=S.tab.fits (by have:=S.few;omega)
theorem SetE.gave{a:Addr}{t:SetTable}(S:SetE prog w h a o es ep t keys):t.gaveWay=false:=by
 unfold SetTable.gaveWay
 rcases S.mask with e|e<;>rw[e]<;>rfl
theorem zau2(p:Addr):isSame (.ref p) (.ref p)=pure true:=by
 show (if (p==p)=true then pure true else _)=_
 rw[if_pos (beq_self_eq_true p)]
theorem zar6(t:SetTable):t.sameMemory t.moves t.mask=some true:=by
 unfold SetTable.sameMemory
 rw[if_pos (beq_self_eq_true _)]
theorem zbi1{a:Addr}{o:Obj}{es:Array (Int×Value)}{ep:Nat}{t:SetTable}{keys:List (List Int)}(S:SetE prog w s.heap a o es ep t keys)(hA:A.units<cLine){k:List Int}{q:Addr}(hk:IsTupleKey (intKind prog w) s.heap k q){k0:Nat}(free:wk t.mask (zcq0 (intKind prog w) k) k0 ∉ t.place.toList)(full:∀ k',k'<k0->wk t.mask (zcq0 (intKind prog w) k) k'∈t.place.toList)(hk0:k0<10*(t.mask+14)){Q:SetFound->Shared->Prop}(q1:k∈keys->Q (.there none) s)(q2:k ∉ keys->Q (.free (wk t.mask (zcq0 (intKind prog w) k) k0) false) s) :
  ∀ (fuel n:Nat) (stand:Option SetTable.Probe),n<=k0->k0 - n<fuel->stand.getD (t.probeStart (zcq0 (intKind prog w) k))=stp t.mask (zcq0 (intKind prog w) k) n->(∀ k',k'<n->∀ (i:Nat) p,t.place.toList[i]?=some (wk t.mask (zcq0 (intKind prog w) k) k')->es.toList[i]?=some (zcq0 (intKind prog w) k,.ref p)->¬ IsTupleKey (intKind prog w) s.heap k p)->wpAny (model prog w) A (setSearchFrom a (.ref q) (zcq0 (intKind prog w) k) true fuel stand) Q E s
 | 0,n,stand,h1,h2,h3,h4=>by omega
 | fuel+1,n,stand,h1,h2,h3,h4=>by
  rw[setSearchFrom.eq_2]
  refine zcp6 (wpAny_setState_of S.at_ S.dat S.fits ?_)
  show wpAny (model prog w) A (if t.gaveWay=true then _ else _) Q E s
  rw[S.gave]
  refine zcp9 rfl ?_
  rw[h3]
  have hl:=S.tab.len
  rw[zcf4] at hl
  rcases zau7 S.tab (hashAt:=fun i=>(Option.map (fun x=>x.fst) es[i]?).getD 0) free full (10*(t.mask+15)) n h1 (by omega) with ⟨k1,i,b1,b2,b3,b4,b5,b6⟩|⟨b1,b2⟩
  ·have b5:t.probe (fun i=>(Option.map (fun x=>x.fst) es[i]?).getD 0) (zcq0 (intKind prog w) k) (stp t.mask (zcq0 (intKind prog w) k) n)=_:=b5
   show wpAny (model prog w) A (match t.probe (fun i=>(Option.map (fun x=>x.fst) es[i]?).getD 0) (zcq0 (intKind prog w) k) (stp t.mask (zcq0 (intKind prog w) k) n) with|some met=>_|_=>_) Q E s
   rw[b5]
   have hi:i<es.size:=by
    have:=(zcf6.mp b3).1
    rw[hl,zcg7] at this
    exact this
   have ei:es[i]?=some es[i]:=zcl4 hi
   have em:es[i]∈es.toList:=by rw[zcp2];exact Array.getElem_mem hi
   obtain⟨p,k',hk',eq,hp⟩:=S.el _ em
   rw[eq] at ei em
   have hh:zcq0 (intKind prog w) k'=zcq0 (intKind prog w) k:=by
    rw[ei] at b4
    exact b4
   have inv:¬ k'=k->∀ k'',k''<k1+1->∀ (i':Nat) p',t.place.toList[i']?=some (wk t.mask (zcq0 (intKind prog w) k) k'')->es.toList[i']?=some (zcq0 (intKind prog w) k,.ref p')->¬ IsTupleKey (intKind prog w) s.heap k p':=fun ne k'' hk'' i' p' e1 e2 hp'=>by
    by_cases c1:k''<n
    ·exact h4 k'' c1 i' p' e1 e2 hp'
    ·by_cases c2:k''<k1
     ·have:=b6 k'' (by omega) c2 i' e1
      rw[← zch4,e2] at this
      exact this rfl
     ·have:k''=k1:=by omega
      subst this
      have x1:=zu1 S.tab.srt (i:=i') (by rw[← zch4];exact e1)
      have x2:=zu1 S.tab.srt (i:=i) (by rw[← zch4];exact b3)
      have:i'=i:=by omega
      subst this
      rw[zch4,ei] at e2
      have:=(Prod.mk.inj (Option.some.inj e2)).2
      cases this
      exact ne (IsTupleKey.inj hp hp')
   refine wpAny_ite ?_
   split
   ·refine zcp6 (zbw3 hk (fun v hv=>?_) ?_)
    ·obtain⟨z,hz,rfl⟩:=zch2.mp hv
     obtain⟨hz,_⟩:=Array.mem_filter.mp (zcp2.mp hz)
     obtain⟨p2,k2,_,e2,h2⟩:=S.el z (zcp2.mpr hz)
     exact⟨p2,k2,by rw[e2],h2⟩
    refine zcp9 rfl ?_
    rw[ei]
    refine zcp6 (zcq1 (wpAny_eqBool_tuple hA hp hk ?_))
    refine zcp6 (wpAny_setState_of S.at_ S.dat S.fits ?_)
    by_cases e:k'=k
    ·rw[decide_eq_true e]
     exact wpAny_ite_true rfl (zcp7 (q1 (e▸hk')))
    ·rw[decide_eq_false e]
     refine zcp9 rfl ?_
     rw[zar6]
     show wpAny (model prog w) A (match t.slot (wk t.mask (zcq0 (intKind prog w) k) k1) with|SetTable.Slot.live i'=>_|x=>_) Q E s
     rw[zab6 S.tab.srt (i:=i) (by rw[← zch4];exact b3)]
     show wpAny (model prog w) A (match es[i]? with|some (fst,y')=>_|none=>_) Q E s
     rw[ei]
     refine zcp6 (wpAny_of_eq (zau2 p) ?_)
     refine zcp6 (zcp7 ?_)
     refine zcp9 rfl ?_
     exact zbi1 S hA hk free full hk0 q1 q2 fuel (k1+1) (some _) (by omega) (by omega) rfl (inv e)
   ·rw[ei]
    refine zcp6 (zcq1 (wpAny_eqBool_tuple hA hp hk ?_))
    refine zcp6 (wpAny_setState_of S.at_ S.dat S.fits ?_)
    by_cases e:k'=k
    ·rw[decide_eq_true e]
     exact wpAny_ite_true rfl (zcp7 (q1 (e▸hk')))
    ·rw[decide_eq_false e]
     refine zcp9 rfl ?_
     rw[zar6]
     show wpAny (model prog w) A (match t.slot (wk t.mask (zcq0 (intKind prog w) k) k1) with|SetTable.Slot.live i'=>_|x=>_) Q E s
     rw[zab6 S.tab.srt (i:=i) (by rw[← zch4];exact b3)]
     show wpAny (model prog w) A (match es[i]? with|some (fst,y')=>_|none=>_) Q E s
     rw[ei]
     refine zcp6 (wpAny_of_eq (zau2 p) ?_)
     refine zcp6 (zcp7 ?_)
     refine zcp9 rfl ?_
     exact zbi1 S hA hk free full hk0 q1 q2 fuel (k1+1) (some _) (by omega) (by omega) rfl (inv e)
  ·have b1:t.probe (fun i=>(Option.map (fun x=>x.fst) es[i]?).getD 0) (zcq0 (intKind prog w) k) (stp t.mask (zcq0 (intKind prog w) k) n)=_:=b1
   show wpAny (model prog w) A (match t.probe (fun i=>(Option.map (fun x=>x.fst) es[i]?).getD 0) (zcq0 (intKind prog w) k) (stp t.mask (zcq0 (intKind prog w) k) n) with|some met=>_|_=>_) Q E s
   rw[b1]
   refine zcp7 (q2 fun hin=>?_)
   obtain⟨e,he,p,rfl,hp⟩:=S.all k hin
   obtain⟨i,ei⟩:=zci9 he
   obtain⟨kx,r1,r2⟩:=S.tab.rch i (zcq0 (intKind prog w) k) (by rw[zcf9,ei];rfl)
   have lt:kx<k0:=by
    by_cases z:kx<k0
    ·exact z
    ·exfalso
     by_cases z2:kx=k0
     ·subst z2
      exact free (zcf8 r1)
     ·exact free (r2 k0 (by omega))
   by_cases c:kx<n
   ·exact h4 kx c i p r1 ei hp
   ·have:=b2 kx (by omega) lt i r1
    rw[← zch4,ei] at this
    exact this rfl
theorem zbc8{a:Addr}{t:SetTable}(ho:h.get? a=some o)(ex:o.ExactSet)(dat:o.data=Data.set es ep t)(es':Array (Int×Value))(t':SetTable):∃ o',(h.update a (Obj.putSet es' t')).get? a=some o'/\o'.ExactSet/\o'.data=Data.set es' (ep+1) t'/\Heap.SameBut a h (h.update a (Obj.putSet es' t')):=by
 have e:=putSet_of es' t' dat
 have g:=zcl7 (Obj.putSet es' t') ho (by rw[e];rfl)
 rw[e] at g
 exact⟨_,g,ex,rfl,Heap.size_update _ _ _,fun b hb=>zci7 h _ (Ne.symm hb)⟩
theorem zau8{a p:Addr}{k:List Int}(hk:IsTupleKey (intKind prog w) h k p)(ho:h.get? a=some o)(ex:o.ExactSet)(sb:Heap.SameBut a h h'):IsTupleKey (intKind prog w) h' k p:=by
 obtain⟨o2,items,n,g,c,d,i⟩:=hk
 have ne:p≠a:=fun e=>by
  subst e
  rw[ho] at g
  cases g
  rw[ex.1] at c
  exact absurd (Value.type.inj c) (by decide)
 exact⟨o2,items,n,by rw[sb.2 p ne];exact g,c,d,i⟩
theorem zbx6{α:Type}{xs:List α}{p:Nat}{x y:α}:y∈xs.take p++x :: xs.drop p↔y=x∨y∈xs:=by
 rw[zch7,zcg6]
 constructor
 ·rintro (h|h|h)
  ·exact .inr (zcm9 h)
  ·exact .inl h
  ·exact .inr (zcm0 h)
 ·rintro (h|h)
  ·exact .inr (.inl h)
  ·rw[← List.take_append_drop p xs] at h
   rcases zch7.mp h with h|h
   ·exact .inl h
   ·exact .inr (.inr h)
theorem zbw2(q:Addr)(es:Array (Int×Value)):byScan (.ref q) es=false:=by
 unfold byScan
 show ((false&&_)&&_)=false
 rw[Bool.false_and,Bool.false_and]
theorem SetE.put{a:Addr}{o':Obj}{es':Array (Int×Value)}{ep':Nat}{t t':SetTable}(S:SetE prog w h a o es ep t keys){k:List Int}(hk:IsTupleKey (intKind prog w) h k q)(g:h'.get? a=some o')(ex:o'.ExactSet)(dat:o'.data=Data.set es' ep' t')(sb:Heap.SameBut a h h')(T:TOk t' (es'.toList.map (·.1)))(few:es'.size*5<t'.mask*3)(sz:es'.size=es.size+1)(mem:∀ e,e∈es'.toList↔e=(zcq0 (intKind prog w) k,.ref q)∨e∈es.toList):SetE prog w h' a o' es' ep' t' (k :: keys):=by
 refine⟨g,ex,dat,T,few,by rw[sz,S.sz];rfl,fun e he=>?_,fun k' hk'=>?_⟩
 ·rcases (mem e).mp he with rfl|he
  ·exact⟨q,k,.head _,rfl,zau8 hk S.at_ S.ex sb⟩
  ·obtain⟨p,k',h1,h2,h3⟩:=S.el e he
   exact⟨p,k',.tail _ h1,h2,zau8 h3 S.at_ S.ex sb⟩
 ·rcases zcg6.mp hk' with rfl|hk'
  ·exact⟨_,(mem _).mpr (.inl rfl),q,rfl,zau8 hk S.at_ S.ex sb⟩
  ·obtain⟨e,he,p,h2,h3⟩:=S.all k' hk'
   exact⟨e,(mem e).mpr (.inr he),p,h2,zau8 h3 S.at_ S.ex sb⟩
theorem zbg5:SetTable.sizeAbove 20=32:=by decide +kernel
set_option maxHeartbeats 0 in
theorem zbz9{a:Addr}{t:SetTable}(S:SetE prog w s.heap a o es ep t keys)(hA:A.units<cLine){k:List Int}(hk:IsTupleKey (intKind prog w) s.heap k q)(hn:keys.length<18){Q:Bool->Shared->Prop}(q1:k∈keys->Q false s)(q2:k ∉ keys->∀ h' o' es' ep' t',SetE prog w h' a o' es' ep' t' (k :: keys)->Heap.SameBut a s.heap h'->Q true { s with heap:=h' }):wpAny (model prog w) A (setAddHashed a (.ref q) (zcq0 (intKind prog w) k)) Q E s:=by
 unfold setAddHashed
 refine zcq1 ?_
 show wpAny (model prog w) A (setAddHashedIn a (.ref q) (zcq0 (intKind prog w) k) (99999+1)) Q E s
 rw[setAddHashedIn.eq_2]
 refine zcp6 (wpAny_setState_of S.at_ S.dat S.fits ?_)
 show wpAny (model prog w) A (if byScan (.ref q) es=true then _ else _) Q E s
 rw[zbw2]
 refine zcp9 rfl ?_
 have sz:=S.sz
 have few:=S.few
 have pl:t.place.toList.length=es.size:=by rw[S.tab.len,zcf4,zcg7]
 obtain⟨k0,hk0,free,full⟩:=zbj5 S.mask (zcq0 (intKind prog w) k) (ps:=t.place.toList) (by rw[pl];omega)
 refine zcp6 ?_
 unfold setSearch
 refine zbi1 S hA hk free full hk0 (fun hin=>?_) (fun hout=>?_) 100000 0 none (zci0 _) (by rcases S.mask with e|e<;>rw[e] at hk0<;>omega) rfl (fun k' h=>by omega)
 ·exact zcp7 (q1 hin)
 ·refine zcp6 (wpAny_setState_of S.at_ S.dat S.fits ?_)
  obtain⟨p1,p2,p3,p4⟩:=S.tab.put free full
  have p3:(t.put (wk t.mask (zcq0 (intKind prog w) k) k0)).2=SetTable.below t.place (wk t.mask (zcq0 (intKind prog w) k) k0):=p3
  obtain⟨t2,et2⟩:∃ t2,(t.put (wk t.mask (zcq0 (intKind prog w) k) k0)).1=t2:=⟨_,rfl⟩
  obtain⟨p,ep2⟩:∃ p,SetTable.below t.place (wk t.mask (zcq0 (intKind prog w) k) k0)=p:=⟨_,rfl⟩
  have eput:t.put (wk t.mask (zcq0 (intKind prog w) k) k0)=(t2,p):=by rw[← et2,← ep2,← p3]
  rw[et2,ep2] at p2
  rw[et2] at p4
  rw[ep2,zcf4,zcg7] at p1
  have next:∀ (b:Bool) (J:Bool->Sem Bool),(∀ b,J b=(do
    storeSet a (SetTable.insertAt es p (zcq0 (intKind prog w) k,.ref q)) (if b=true then t2 else { mask:=t2.mask,place:=t2.place,dummies:=t2.dummies,finger:=t2.finger,led:=t2.led,moves:=t2.moves,plain:=false })
    if (!false&&(if b=true then t2 else { mask:=t2.mask,place:=t2.place,dummies:=t2.dummies,finger:=t2.finger,led:=t2.led,moves:=t2.moves,plain:=false }).tooFull)=true then do
      setRelay a (SetTable.grown (es.size+1))
      pure true
     else pure true))->wpAny (model prog w) A (J b) Q E s:=fun b J hJ=>by
   rw[hJ]
   obtain⟨t3,et3⟩:∃ t3,(if b=true then t2 else { mask:=t2.mask,place:=t2.place,dummies:=t2.dummies,finger:=t2.finger,led:=t2.led,moves:=t2.moves,plain:=false })=t3:=⟨_,rfl⟩
   have e1:t3.mask=t2.mask/\t3.place=t2.place/\t3.dummies=t2.dummies:=by rw[← et3];cases b<;>exact⟨rfl,rfl,rfl⟩
   rw[et3]
   obtain⟨es2,ees2⟩:∃ es2,SetTable.insertAt es p (zcq0 (intKind prog w) k,Value.ref q)=es2:=⟨_,rfl⟩
   have el2:es2.toList=es.toList.take p++(zcq0 (intKind prog w) k,Value.ref q) :: es.toList.drop p:=by rw[← ees2,SetTable.toList_insertAt]
   have sz2:es2.size=es.size+1:=by rw[← zcg7,el2,zab3 (by rw[zcg7];exact p1),zcg7]
   have T3:TOk t3 (es2.toList.map (·.1)):=by
    rw[el2,zci6,zci1,List.map_take,List.map_drop]
    exact p2.of e1.1 e1.2.1 e1.2.2
   have mem2:∀ e,e∈es2.toList↔e=(zcq0 (intKind prog w) k,Value.ref q)∨e∈es.toList:=fun e=>by rw[el2];exact zbx6
   rw[ees2]
   obtain⟨o2,g2,ex2,dat2,sb2⟩:=zbc8 S.at_ S.ex S.dat es2 t3
   refine zcp6 (wpAny_storeSet_of S.at_ S.dat ?_ (by rw[sz2];exact zcj5 (show es.size+1<=18 by omega) (by decide)))
   have full3:t3.fill=es.size+1:=by
    unfold SetTable.fill
    rw[T3.dum]
    have:=T3.len
    rw[zcf4,zcg7,zcg7] at this
    rw[this,sz2]
    rfl
   by_cases c:(es.size+1)*5≥t.mask*3
   ·have m7:t.mask=7:=by
     rcases S.mask with e|e
     ·exact e
     ·rw[e] at c;omega
    have e4:es.size=4:=by rw[m7] at c few;omega
    have m3:t3.mask=7:=by rw[e1.1,p4,m7]
    have tf:(!false&&t3.tooFull)=true:=by
     unfold SetTable.tooFull
     rw[full3,m3,e4]
     rfl
    rw[tf]
    refine wpAny_ite_true rfl ?_
    rw[e4]
    refine zcp6 ?_
    unfold setRelay
    refine zcp6 (wpAny_setState_of g2 dat2 (T3.fits (by rw[m3,sz2,e4];decide)) ?_)
    show wpAny (model prog w) A (if SetTable.sizeAbove 20>sizeLine then _ else _) _ E _
    rw[zbg5]
    refine zcp9 (by decide) ?_
    obtain⟨t4,order,l1,l2,l3,l4,l5⟩:=zbz1 (mask:=31) (finger:=t3.finger) (moves:=t3.movedTo 31) (led:=t3.led) (plain:=t3.plain) (.inr rfl) (es:=es2) (by omega)
    have rel:t3.relaid (Array.map (fun x=>x.fst) es2) 20=some (t4,order):=by
     show SetTable.laid (SetTable.sizeAbove 20 - 1) t3.finger (t3.movedTo (SetTable.sizeAbove 20 - 1)) t3.led t3.plain (Array.map (fun x=>x.fst) es2)=_
     rw[zbg5]
     exact l1
    refine zcp6 ?_
    show wpAny (model prog w) A (match t3.relaid (Array.map (fun x=>x.fst) es2) 20 with|some (t,order)=>_|x=>_) _ E _
    rw[rel]
    show wpAny (model prog w) A (if ((zcm7 (fun x=>es2[x]?) order).size != es2.size)=true then _ else _) _ E _
    rw[l3]
    refine zcp9 (by simp) (zcp7 ?_)
    obtain⟨o5,g5,ex5,dat5,sb5⟩:=zbc8 g2 ex2 dat2 (zcm7 (fun x=>es2[x]?) order) t4
    refine wpAny_storeSet_of g2 dat2 ?_ (by rw[l3,sz2];exact zcj5 (show es.size+1<=18 by omega) (by decide))
    refine zcp7 (q2 hout _ o5 _ _ t4 (S.put hk g5 ex5 dat5 ⟨sb5.1.trans sb2.1,fun b hb=>(sb5.2 b hb).trans (sb2.2 b hb)⟩ l5 (by rw[l3,l2,sz2,e4];decide) (by rw[l3,sz2]) (fun e=>?_)) ⟨sb5.1.trans sb2.1,fun b hb=>(sb5.2 b hb).trans (sb2.2 b hb)⟩)
    rw[l4.mem_iff]
    exact mem2 e
   ·have tf:(!false&&t3.tooFull)=false:=by
     unfold SetTable.tooFull
     rw[full3,e1.1,p4]
     exact decide_eq_false c
    rw[tf]
    refine zcp9 rfl ?_
    exact zcp7 (q2 hout _ o2 _ _ t3 (S.put hk g2 ex2 dat2 sb2 T3 (by rw[sz2,e1.1,p4];omega) sz2 mem2) sb2)
  subst et2
  subst ep2
  show wpAny (model prog w) A (if (t.put (wk t.mask (zcq0 (intKind prog w) k) k0)).1.plain=true then _ else _) Q E s
  refine wpAny_ite ?_
  split
  ·refine zcp6 (zbx0 hk fun b=>?_)
   exact next b _ fun b=>rfl
  ·refine zcp6 (zcp7 ?_)
   exact next true _ fun b=>rfl
end
def ddK:List (List Int)->List (List Int)->List (List Int)
 | acc,[]=>acc
 | acc,k :: ks=>ddK (if k∈acc then acc else k :: acc) ks
section
variable {prog:Program}{w:World}{A:Around}{E:Value->Shared->Prop}{s:Shared}
theorem zaj0{k:List Int}{p:Addr}(hk:IsTupleKey (intKind prog w) h k p)(m:∀ o,h.get? p=some o->h'.get? p=some o):IsTupleKey (intKind prog w) h' k p:=by
 obtain⟨o,i,n,g,c,d,x⟩:=hk
 exact⟨o,i,n,m o g,c,d,x⟩
theorem SetE.moved{a I:Addr}{t:SetTable}(S:SetE prog w h a o es ep t keys)(hI:∃ oI,h.get? I=some oI/\oI.cls=.type "list_iterator")(m:∀ b o,¬ b∈[I]->h.get? b=some o->h'.get? b=some o):SetE prog w h' a o es ep t keys:=by
 obtain⟨oI,gI,cI⟩:=hI
 have tk:∀ {k:List Int}{p:Addr},IsTupleKey (intKind prog w) h k p->IsTupleKey (intKind prog w) h' k p:=fun {k p} hk=>by
  refine zaj0 hk fun o g=>m _ o (fun hm=>?_) g
  have e:=zci4.mp hm
  subst e
  obtain⟨o2,i,n,g2,c2,_⟩:=hk
  rw[gI] at g2
  cases g2
  rw[cI] at c2
  exact absurd (Value.type.inj c2) (by decide)
 refine⟨m _ _ (fun hm=>?_) S.at_,S.ex,S.dat,S.tab,S.few,S.sz,fun e he=>?_,fun k hk=>?_⟩
 ·have e:=zci4.mp hm
  have g:=S.at_
  rw[e,gI] at g
  cases g
  have c:=S.ex.1
  rw[cI] at c
  exact absurd (Value.type.inj c) (by decide)
 ·obtain⟨p,k,h1,h2,h3⟩:=S.el e he
  exact⟨p,k,h1,h2,tk h3⟩
 ·obtain⟨e,he,p,h2,h3⟩:=S.all k hk
  exact⟨e,he,p,h2,tk h3⟩
theorem zaq9:∀ (acc ks:List (List Int)),(ddK acc ks).length<=acc.length+ks.length
 | acc,[]=>zcg9 _
 | acc,k :: ks=>by
  have:=zaq9 (if k∈acc then acc else k :: acc) ks
  have h2:(if k∈acc then acc else k :: acc).length<=acc.length+1:=by split<;>simp
  show (ddK (if k∈acc then acc else k :: acc) ks).length<=acc.length+(ks.length+1)
  omega
theorem zp5{I l:Addr}(hi:h.IsListIter I l i):∃ oI,h.get? I=some oI/\oI.cls=.type "list_iterator":=by
 obtain⟨o,g,c,_⟩:=hi
 exact⟨o,g,c⟩
set_option maxHeartbeats 0 in
theorem zau4{R:Result->Shared->Prop}{I l:Addr}{items:Array Value}(hA:A.units+5<cLine)(W:WalksS prog w A.in1 I [I,l] [I] (fun a b=>b=a) items.size (fun i v=>items[i]?=some v) (fun i s=>s.heap.IsListIter I l i/\s.heap.IsList l items)){S:Addr}(hS:S ∉ [I,l]){ps:List Addr}{kss:List (List Int)}(hi:items.toList=ps.map Value.ref)(hl:ps.length=kss.length)(h18:kss.length<=18) :
  ∀ (n i:Nat) (s:Shared) (acc:List (List Int)),items.size - i=n->i<=items.size->(s.heap.IsListIter I l i/\s.heap.IsList l items)->(∃ o es ep t,SetE prog w s.heap S o es ep t acc)->acc.length<=i->(∀ (j:Nat) p k,ps[j]?=some p->kss[j]?=some k->IsTupleKey (intKind prog w) s.heap k p) ->
   (∀ s' o es ep t,Moved [S,I] (fun a b=>b=a) s s'->SetE prog w s'.heap S o es ep t (ddK acc (kss.drop i))->R (.ok (.ret .none)) s')->codeAny (model prog w) A (.builtin "set.update.loop" ⟨[.ref S,.ref I],[]⟩) R s
 | 0,i,s,acc,h1,h2,h3,⟨o,es,ep,t,hE⟩,h5,h6,h7=>by
  have e:i=items.size:=by omega
  have sz:items.size=kss.length:=by rw[← zcg7,hi,zcf4,hl]
  subst e
  refine codeAny_builtin F.entry_set_update_loop ?_
  rw[Around.under_plainId F.plain_set_update_loop]
  refine zcp6 (W.done s _ _ h3 fun s' hm=>?_)
  refine zcp7 (h7 s' o es ep t ⟨fun b o hb g=>hm.heap b o (fun z=>hb (.tail _ z)) g,hm.gens,hm.drawn,hm.os,hm.toks⟩ ?_)
  rw[zco0 (by omega)]
  exact hE.moved (zp5 h3.1) hm.heap
 | n+1,i,s,acc,h1,h2,h3,⟨o,es,ep,t,hE⟩,h5,h6,h7=>by
  have sz:items.size=kss.length:=by rw[← zcg7,hi,zcf4,hl]
  refine codeAny_builtin F.entry_set_update_loop ?_
  rw[Around.under_plainId F.plain_set_update_loop]
  refine zcp6 (W.item i s _ _ (by omega) h3 fun v s' hP hst hm=>?_)
  have hP':items.toList[i]?=some v:=by rw[zch4];exact hP
  rw[hi,zcf9] at hP'
  obtain⟨p,ep1,rfl⟩:=zcg5.mp hP'
  obtain⟨k,ek⟩:∃ k,kss[i]?=some k:=⟨_,zcf3 (by omega)⟩
  have hE':=hE.moved (zp5 h3.1) hm.heap
  have tk':∀ (j:Nat) p k,ps[j]?=some p->kss[j]?=some k->IsTupleKey (intKind prog w) s'.heap k p:=fun j p k e1 e2=>by
   have hk:=h6 j p k e1 e2
   obtain⟨oI,gI,cI⟩:=zp5 h3.1
   refine zaj0 hk fun o g=>hm.heap _ o (fun hm'=>?_) g
   have e:=zci4.mp hm'
   subst e
   obtain⟨o2,i2,n2,g2,c2,_⟩:=hk
   rw[gI] at g2
   cases g2
   rw[cI] at c2
   exact absurd (Value.type.inj c2) (by decide)
  have hk:=tk' i p k ep1 ek
  refine zcp6 (zcq1 ?_)
  unfold setAdd
  refine zcq1 (zcp6 (wpAny_pyHash_tuple (by show A.in1.units<cLine;rw[zj5];omega) hk ?_))
  have fin:∀ (tk:Nat) (h':Heap) (acc':List (List Int)) (o':Obj) (es':Array (Int×Value)) (ep':Nat) (t':SetTable),s'.toks<=tk->acc'=(if k∈acc then acc else k :: acc)->SetE prog w h' S o' es' ep' t' acc'->(∀ b o,b≠S->s'.heap.get? b=some o->h'.get? b=some o)->wpAny (model prog w) A.in1 (again (Code.builtin "set.update.loop" ⟨[.ref S,.ref I],[]⟩)) (fun fin s'=>match fin with|.done f=>R (.ok f) s' | .again c'=>c'.quiet=true/\codeAny (model prog w) A c' R s') (fun e s'=>R (.error e) s') { s' with heap:=h',toks:=tk }:=fun tk h' acc' o' es' ep' t' htk eacc hE2 hk2=>by
   have nI:I≠S:=fun z=>hS (z▸.head _)
   have nl:l≠S:=fun z=>hS (z▸.tail _ (.head _))
   refine zcp7 ⟨plainId_quiet F.plain_set_update_loop _,zau4 hA W hS hi hl h18 n (i+1) _ acc' (by omega) (by omega) ⟨hst.1.at fun o g=>hk2 _ o nI g,hst.2.at fun o g=>hk2 _ o nl g⟩ ⟨o',es',ep',t',hE2⟩ ?_ (fun j p k e1 e2=>?_) (fun s'' o3 es3 ep3 t3 hm3 hE3=>?_)⟩
   ·rw[eacc]
    split
    ·omega
    ·rw[zch0];omega
   ·have hk:=tk' j p k e1 e2
    refine zaj0 hk fun o g=>hk2 _ o (fun z=>?_) g
    subst z
    obtain⟨o2,i2,n2,g2,c2,_⟩:=hk
    rw[hE'.at_] at g2
    cases g2
    have:=hE'.ex.1
    rw[c2] at this
    exact absurd (Value.type.inj this) (by decide)
   ·refine h7 s'' o3 es3 ep3 t3 ⟨fun b o hb g=>?_,hm3.gens.trans hm.gens,hm3.drawn.trans hm.drawn,hm3.os.trans hm.os,zcj5 hm.toks (zcj5 htk hm3.toks)⟩ ?_
    ·have b1:b≠S:=fun z=>hb (z▸.head _)
     exact hm3.heap b o hb (hk2 b o b1 (hm.heap b o (fun z=>hb (.tail _ z)) g))
    ·rw[zcm6 (show i<kss.length by omega),(zcf6.mp ek).2]
     show SetE prog w s''.heap S o3 es3 ep3 t3 (ddK (if k∈acc then acc else k :: acc) (kss.drop (i+1)))
     rw[← eacc]
     exact hE3
  refine zbz9 (s:={ s' with toks:=s'.toks+(k.length+1) }) hE' (by show A.in1.units<cLine;rw[zj5];omega) hk (by omega) (fun hin=>?_) (fun hout h' o' es' ep' t' hE2 sb=>?_)
  ·exact fin _ s'.heap acc o es ep t (by omega) (by rw[if_pos hin]) hE' (fun b o _ g=>g)
  ·exact fin _ h' (k :: acc) o' es' ep' t' (by show s'.toks<=s'.toks+(k.length+1);omega) (by rw[if_neg hout]) hE2 (fun b o hb g=>by rw[sb.2 b hb];exact g)
set_option maxHeartbeats 0 in
theorem zab1{l:Addr}{items:Array Value}{ps:List Addr}{kss:List (List Int)}(hh:A.handled=none)(hA:A.units+40<cLine)(hl:s.heap.IsList l items)(hi:items.toList=ps.map Value.ref)(hn:ps.length=kss.length)(h18:kss.length<=18)(hk:∀ (j:Nat) p k,ps[j]?=some p->kss[j]?=some k->IsTupleKey (intKind prog w) s.heap k p)(h:∀ h' tk o es ep t,SetE prog w h' s.heap.objs.size o es ep t (ddK [] kss)->(∀ b o,s.heap.get? b=some o->h'.get? b=some o)->Q (.ref s.heap.objs.size) { s with heap:=h',toks:=tk }):wpAny (model prog w) A (call (.type "set") [.ref l]) Q E s:=by
 obtain⟨c,tl,hmro⟩:=F.called_set.mro
 have hmade:=F.called_set.made
 have hsub:=F.called_set.sub
 refine wpAny_call (codeAny_of_tree ?_)
 refine zcp7 ⟨Code.quiet_builtin _ (by decide +kernel),codeAny_builtin F.entry_type_call ?_⟩
 rw[Around.under_plain (weight_type_call_type "set" [Value.ref l] []) rfl]
 have h1:=F.called_set.notType
 have h2:=F.called_set.canCreate
 have hct:=F.typeCall_set_1 (Value.ref l)
 unfold Builtin.«type.__call__»
 refine zcp9 (by decide) ?_
 refine zcp9 (by kernel_rfl) ?_
 refine zcp6 (wpAny_of_eq hct ?_)
 refine zcp6 (wpAny_of_eq hmro ?_)
 refine zcp9 rfl ?_
 refine zcp6 (wpAny_of_eq hmade ?_)
 refine zcp6 (zcp7 ?_)
 refine zcp6 (zcq1 (wpAny_call (codeAny_mono (code_set_new_1 (E:=E) (Q₁:=fun obj s₁=>∃ led,obj=Value.ref s.heap.objs.size/\s₁={ s with heap:=s.heap.push { cls:=.type "set",data:=.set #[] 0 (SetTable.fresh 0 0 led) } }) (.ref l) fun led=>⟨led,rfl,rfl⟩) fun r s₁ hr=>?_)))
 match r,hr with
 | .error e,hr=>exact hr
 | .ok (.ret v),⟨led,e1,e2⟩=>
  subst e1
  subst e2
  have hS:(s.heap.push { cls:=.type "set",data:=.set #[] 0 (SetTable.fresh 0 0 led) }).get? s.heap.objs.size=some { cls:=.type "set",data:=.set #[] 0 (SetTable.fresh 0 0 led) }:=zch5 _ rfl
  have hT:({ s with heap:=s.heap.push { cls:=.type "set",data:=.set #[] 0 (SetTable.fresh 0 0 led) } }:Shared).TypeIs (.ref s.heap.objs.size) "set":=⟨_,hS,rfl⟩
  have hli:=F.called_set.init.lookup
  have hbi:=F.called_set.init.bind (Value.ref s.heap.objs.size)
  refine zcp6 (wpAny_isInstance hT hsub ?_)
  refine zcp9 rfl ?_
  refine zcp6 (zcq1 ?_)
  refine zcp6 (wpAny_specialOf hT hli ?_)
  refine zcq1 ?_
  refine zcp6 (wpAny_of_eq hbi ?_)
  refine zcp6 (wpAny_call (codeAny_mono (R:=wants (fun r s₂=>r=Value.none/\Q (.ref s.heap.objs.size) s₂) E) (codeAny_call_builtin F.called_set.init.plain F.entry_set_init (check_set_init_1 hT ?_)) fun r s₂ hr=>?_))
  ·obtain⟨ol,hol,hcl,nl,hdl⟩:=id hl
   have hol':=zcf7 { cls:=.type "set",data:=.set #[] 0 (SetTable.fresh 0 0 led) } hol
   unfold Builtin.«set.__init__»
   refine zcp6 (wpAny_ite_true rfl (zcp7 ?_))
   unfold typeNameOfCut shownTypeOf
   refine zcp6 ?_
   refine zcp6 (zcp6 (wpAny_typeOf hT (zcp9 (by decide) (zcp7 ?_))))
   refine zcp7 ?_
   refine zcp6 ?_
   unfold checkCount
   refine zcp9 rfl ?_
   refine zcp9 rfl ?_
   refine zcp9 rfl (zcp7 ?_)
   refine zcp6 (zcp7 ?_)
   have fits0:(SetTable.fresh 0 0 led).fits (#[]:Array (Int×Value)).size=true:=rfl
   unfold setUsed
   refine zcp6 (zcp6 (wpAny_setState_of hS rfl fits0 (zcp7 ?_)))
   refine zcp9 rfl ?_
   refine zcp6 ?_
   unfold Builtin.Frozenset.updateFrom Builtin.Frozenset.isAnySet
   have hTl:({ s with heap:=s.heap.push { cls:=.type "set",data:=.set #[] 0 (SetTable.fresh 0 0 led) } }:Shared).TypeIs (.ref l) "list":=⟨_,hol',hcl⟩
   refine zcp6 (zcp6 (wpAny_isInstance hTl F.sub_list_set ?_))
   refine wpAny_isInstance hTl F.sub_list_frozenset ?_
   refine zcp9 rfl ?_
   refine zcp6 (wpAny_typeOf hTl ?_)
   refine zcp9 (by decide) ?_
   have hl1:(s.heap.push { cls:=.type "set",data:=.set #[] 0 (SetTable.fresh 0 0 led) }).IsList l items:=⟨ol,hol',hcl,nl,hdl⟩
   refine zcp6 (wpAny_pyIter_list hl1 ?_)
   refine zcp6 (wpAny_runValue ?_)
   have lt:@LT.lt Nat _ l s.heap.objs.size:=zch1 hol
   have psz:(s.heap.push { cls:=.type "set",data:=.set #[] 0 (SetTable.fresh 0 0 led) }).objs.size=s.heap.objs.size+1:=Array.size_push _
   have neI:l≠(s.heap.push { cls:=.type "set",data:=.set #[] 0 (SetTable.fresh 0 0 led) }).objs.size:=zci2 (by rw[psz];exact Nat.lt_succ_of_lt lt)
   have neS:s.heap.objs.size ∉ [(s.heap.push { cls:=.type "set",data:=.set #[] 0 (SetTable.fresh 0 0 led) }).objs.size,l]:=fun z=>by
    rcases zcg6.mp z with z|z
    ·rw[psz] at z;exact absurd z (zci2 (Nat.lt_succ_self _))
    ·exact absurd (zci4.mp z).symm (zci2 lt)
   have up:∀ b o,s.heap.get? b=some o->((s.heap.push { cls:=.type "set",data:=.set #[] 0 (SetTable.fresh 0 0 led) }).push { cls:=.type "list_iterator",data:=.fields #[.ref l,.int 0 0] }).get? b=some o:=fun b o g=>zcf7 _ (zcf7 _ g)
   refine zau4 (A:=A.in1.in1) (by rw[zj5,zj5];omega) (Walks.list (by exact hh) _ l neI items).toS neS hi hn h18 (items.size - 0) 0 _ [] rfl (zci0 _) ⟨⟨_,zch5 _ rfl,rfl,rfl⟩,hl1.at fun o g=>zcf7 _ g⟩ ⟨{ cls:=.type "set",data:=.set #[] 0 (SetTable.fresh 0 0 led) },#[],0,SetTable.fresh 0 0 led,?_⟩ (zci0 _) (fun j p k e1 e2=>zaj0 (hk j p k e1 e2) fun o g=>up p o g) (fun s' o es ep t hm hE=>?_)
   ·refine⟨zcf7 _ hS,⟨rfl,rfl,rfl⟩,rfl,⟨.inl rfl,rfl,rfl,List.Pairwise.nil,(fun j hj=>by cases hj),(fun i h e=>by simp at e)⟩,(show 0*5<7*3 by decide),rfl,(fun e he=>by cases he),(fun k hk=>by cases hk)⟩
   ·refine zcp7 (zcp7 ⟨rfl,?_⟩)
    rw[Moved.eq_with hm]
    refine h s'.heap s'.toks o es ep t hE fun b o g=>hm.heap b o (fun z=>?_) (up b o g)
    have lb:@LT.lt Nat _ b s.heap.objs.size:=zch1 g
    rcases zcg6.mp z with z|z
    ·exact absurd z (zci2 lb)
    ·have z:=zci4.mp z
     rw[psz] at z
     exact absurd z (zci2 (Nat.lt_succ_of_lt lb))
  ·match r,hr with
   | .error e,hr=>exact hr
   | .ok .next,hr=>exact hr
   | .ok .brk,hr=>exact hr
   | .ok .cont,hr=>exact hr
   | .ok (.ret v),⟨e1,hq⟩=>
    subst e1
    refine zcp7 ?_
    refine zcp9 rfl ?_
    exact zcp7 hq
 | .ok .next,hr=>exact hr
 | .ok .brk,hr=>exact hr
 | .ok .cont,hr=>exact hr
end
theorem bt_set:bootBuiltins "set"=some (.type "set"):=by decide +kernel
def zac5(k:Int×Int):List Int:=[k.1,k.2]
section
variable {X:Cx}{K:zcf5}
@[irreducible] def rLenS(K:zcf5)(a:Addr)(H:Hp)(Q:VK):Prop:=∃ (ps:List Addr) (ks:List (Int×Int)),SqL K H a (ps.map V.ref)/\ps.length=ks.length/\ks.length<=18/\(∀ (i:Nat) p k,ps[i]?=some p->ks[i]?=some k->H p=some (.tup [.int k.1,.int k.2]))/\Q (.int (ddK [] (ks.map zac5)).length) H
def qLenS(K:zcf5)(ta:TA):TE:=fun σ H Q=>ta σ H fun vs H1=>match vs with
 | [.ref a]=>rLenS K a H1 Q
 | _=>False
theorem key2{P:Program}{w:World}{pins:List (Addr×Obj)}{σ:St}(I:Inv X pins σ H s){p:Addr}{a b:Int}(h:H p=some (.tup [.int a,.int b])):IsTupleKey (intKind P w) s.heap [a,b] p:=by
 obtain⟨its,r,pl,hz⟩:=I.tuple (SqT.of (K:=X.K) h)
 cases r with
 | cons h1 r=>
  cases r with
  | cons h2 r=>
   cases r
   obtain⟨t1,rfl⟩:=h1
   obtain⟨t2,rfl⟩:=h2
   obtain⟨o,g,c,n,d⟩:=pl
   exact⟨o,_,n,g,c,d,.cons (intKind_is P w a t1) (.cons (intKind_is P w b t2) .nil)⟩
theorem peLenS{e:Expr}{ta:TA}{p p2 pos pos2:Pos}(hK:X.K=K)(hu:X.A.units+40<cLine)(hl:X.mg "len"=none)(hm:X.mg "set"=none)(ha:PA X [e] ta)(hc:X.calm=true:=by rfl)(hg:Gl X "set":=by rfl)(hg2:Gl X "len":=by rfl)(hs:starEach [e] X.env=[(false,eval e X.env)]:=by rfl)(he:starEach [.Call (.Name "set" p2) [e] [] pos2] X.env=[(false,eval (.Call (.Name "set" p2) [e] [] pos2) X.env)]:=by rfl) :
  PE X (.Call (.Name "len" p) [.Call (.Name "set" p2) [e] [] pos2] [] pos) (qLenS K ta):=by
 subst hK
 intro pins s σ H Q I h
 refine wpAny_Call_Name_kw (zx4 I hg2 hl zi3 ?_)
 refine PyProof.Rows.callWith_builtin1 ?_ (by rw[he];rfl) rfl
 rw[he]
 show wpAny _ _ (spliced ((false,eval (.Call (.Name "set" p2) [e] [] pos2) X.env) :: [])) _ _ s
 refine Calls.spliced_cons ?_
 refine Call_ (zx4 I hg hm bt_set (PyProof.Rows.callWith_type1 (thn (ha pos2 pins s σ H _ I h) fun us s1 ⟨vs,H1,I1,r1,q1⟩=>?_) hs rfl))
 dsimp only at q1
 split at q1
 ·rename_i a
  unfold rLenS at q1
  obtain⟨ps,ks,hq,hn,h18,hp,q⟩:=q1
  obtain⟨u,rfl,rx⟩:=zv7 r1
  cases rx
  obtain⟨its,rv,pl,hz⟩:=I1.list hq
  have e:=zz5 rv
  subst e
  refine zab1 (ps:=ps) (kss:=ks.map zac5) (I1.ok.hd hc) hu pl.isList rfl (by rw[zcf4];exact hn) (by rw[zcf4];exact h18) (fun j p k e1 e2=>?_) (fun h' tk o es ep t hE hkeep=>Calls.spliced_nil ?_)
  ·rw[zcf9] at e2
   obtain⟨k',ek,rfl⟩:=zcg5.mp e2
   exact key2 I1 (hp j p k' e1 ek)
  ·have sz:=hE.sz
   have dl:=zaq9 [] (ks.map zac5)
   rw[zcf4] at dl
   have small:(es.size:Int)<2 ^ 63:=by
    have:es.size<=18:=by rw[sz];simp at dl;omega
    omega
   refine call_len_set hE.at_ hE.ex hE.dat hE.fits small ?_
   rw[sz]
   exact⟨.int _,H1,I1.kept hkeep,⟨_,rfl⟩,q⟩
 ·exact q1.elim
theorem zby9{a:Addr}{ps:List Addr}{ks:List (Int×Int)}{Q:VK}(h:H a=some (.lst (ps.map V.ref)))(hn:ps.length=ks.length)(h18:ks.length<=18)(hp:∀ (i:Nat) p k,ps[i]?=some p->ks[i]?=some k->H p=some (.tup [.int k.1,.int k.2]))(q:Q (.int (ddK [] (ks.map zac5)).length) H):rLenS K a H Q:=by unfold rLenS;exact⟨ps,ks,SqL.of h,hn,h18,hp,q⟩
theorem zbr5:∀ (acc ks:List (List Int)),(ddK acc ks).length=acc.length+ks.length↔ks.Nodup/\∀ k∈ks,k ∉ acc
 | acc,[]=>⟨fun _=>⟨List.nodup_nil,fun k hk=>by cases hk⟩,fun _=>rfl⟩
 | acc,k :: ks=>by
  show (ddK (if k∈acc then acc else k :: acc) ks).length=acc.length+(ks.length+1)↔_
  by_cases c:k∈acc
  ·rw[if_pos c]
   have:=zaq9 acc ks
   exact⟨fun e=>by omega,fun h=>absurd c (h.2 k (.head _))⟩
  ·rw[if_neg c]
   have ih:=zbr5 (k :: acc) ks
   rw[zch0] at ih
   rw[show acc.length+(ks.length+1)=acc.length+1+ks.length by omega,ih,zcl1]
   constructor
   ·rintro⟨h1,h2⟩
    refine⟨⟨fun hk=>h2 k hk (.head _),h1⟩,fun y hy=>?_⟩
    rcases zcg6.mp hy with rfl|hy
    ·exact c
    ·exact fun z=>h2 y hy (.tail _ z)
   ·rintro⟨⟨h1,h2⟩,h3⟩
    refine⟨h2,fun y hy z=>?_⟩
    rcases zcg6.mp z with rfl|z
    ·exact h1 hy
    ·exact h3 y (.tail _ hy) z
theorem dd_len{ks:List (Int×Int)}:((ks.length:Int)=((ddK [] (ks.map zac5)).length:Int))↔ks.Nodup:=by
 have h:=zbr5 [] (ks.map zac5)
 rw[zcf4] at h
 have inj:(ks.map zac5).Nodup↔ks.Nodup:=by
  constructor
  ·intro h
   exact List.Pairwise.of_map zac5 (fun a b hab e=>hab (by rw[e])) h
  ·intro h
   exact List.Pairwise.map zac5 (fun a b hab e=>hab (by
    unfold zac5 at e
    injection e with e1 e2
    injection e2 with e2 _
    exact Prod.ext e1 e2)) h
 rw[inj] at h
 constructor
 ·intro e
  exact (h.mp (by rw[zch9];omega)).1
 ·intro nd
  have:=h.mpr ⟨nd,fun k _ hk=>by cases hk⟩
  rw[zch9] at this
  omega
end
theorem ord_I(xs:Nat->Int):Ord (fun i j=>decide (xs i<xs j)) where
 as:=fun i j h=>by
  have h:=of_decide_eq_true h
  exact decide_eq_false (by omega)
 tr:=fun i j k h1 h2=>by
  have h1:=of_decide_eq_false h1
  have h2:=of_decide_eq_false h2
  exact decide_eq_false (by omega)
theorem zas2{xs:Nat->Int}:∀ {vs:List Value}{k:Nat},(∀ i,i<vs.length->∃ t,vs.getD i Value.none=.int (xs (k+i)) t)->IntsAre vs ((List.range vs.length).map fun i=>xs (k+i))
 | [],k,_=>.nil
 | v :: vs,k,h=>by
  obtain⟨t,e⟩:=h 0 (by simp)
  have e:v=.int (xs (k+0)) t:=by simpa using e
  rw[zch0,List.range_succ_eq_map,zci1,zch6,e]
  refine .cons _ t ?_
  have:=zas2 (xs:=xs) (vs:=vs) (k:=k+1) (fun i hi=>by
   obtain⟨t,e⟩:=h (i+1) (by simpa using hi)
   exact⟨t,by rw[show k+1+i=k+(i+1) by omega];simpa using e⟩)
  have ef:(fun i=>xs (k+1+i))=((fun i=>xs (k+i))∘Nat.succ):=by
   funext i
   show xs (k+1+i)=xs (k+(i+1))
   rw[show k+1+i=k+(i+1) by omega]
  rw[ef] at this
  exact this
section
variable {prog:Program}{w:World}{A:Around}{E:Value->Shared->Prop}{s:Shared}
theorem zbl5{xs:Nat->Int}{P:PySem.Fin->Shared->Prop}(ho:s.heap.get? D=some (seqObj "list" vs.toArray 0))(h64:vs.length<64)(H:∀ i,i<vs.length->∃ t,vs.getD i Value.none=.int (xs i) t)(h:∀ (p:List Nat) (c:Nat) (hF:Heap),p.Perm (List.range vs.length)->p.Pairwise (fun i j=>decide (xs j<xs i)=false)->(∀ b o,b≠D->s.heap.get? b=some o->hF.get? b=some o)->hF.get? D=some (seqObj "list" (zco2 (p.map fun i=>vs.getD i Value.none)) c)->P (.done (.ret .none)) { s with heap:=hF }) :
  wpAny (model prog w) A (Builtin.«list.sort» ⟨[.ref D],[]⟩) P E s:=by
 by_cases h2:vs.length<2
 ·refine zau6 ho h2 ?_
  obtain⟨c,hc⟩:=zv1 (vs:=vs) (out:=vs.toArray) ho
  refine h (List.range vs.length) c _ (List.Perm.refl _) ?_ (fun b o ne e=>zq9 ne e) ?_
  ·have:vs.length=0∨vs.length=1:=by omega
   rcases this with e|e<;>rw[e]
   ·exact List.Pairwise.nil
   ·exact List.pairwise_singleton _ _
  ·rw[hc]
   have e:(List.range vs.length).map (fun i=>vs.getD i Value.none)=vs:=by
    apply zcl5 (by simp)
    intro i h1 h2
    simp at h1 h2
    simp[h2]
   rw[e]
 ·have ia:=zas2 (xs:=xs) (vs:=vs) (k:=0) (fun i hi=>by rw[Nat.zero_add];exact H i hi)
  refine zbb2 (κ:=oneType') (lt:=fun i j=>decide (xs i<xs j)) ho (by omega) h64 (fun Q q=>wpAny_of_eq (ksk_kind (keys:=vs.toArray) ia (by rw[zcg1];omega)) q) (fun i j C li lj q=>?_) (zbi3 (ord_I xs) (by omega)) fun p pz pR=>?_
  ·obtain⟨t,e1⟩:=H i li
   obtain⟨u,e2⟩:=H j lj
   rw[e1,e2,keyLt'_oneType]
   exact oneLt_int q
  ·obtain⟨c,hc⟩:=zv1 (vs:=vs) (out:=zco2 (p.toList.map fun i=>vs.getD i Value.none)) ho
   refine h p.toList c _ pR.1 ?_ (fun b o ne e=>zq9 ne e) hc
   rw[zck6]
   intro i j hi hj hij
   rw[zcg7] at hi hj
   have:=pR.2 i j (Nat.le_of_lt hij) (by omega)
   unfold gp at this
   simpa [Array.getD,hi,hj] using this
theorem zao7{d:Addr}{es:Array DictEntry}{xs:Nat->Int}(lo:(d==sysModules)=false)(hh:A.handled=none)(x:RawD s.heap d es ep)(h64:es.size<64)(H:∀ (i:Nat) (e:DictEntry),es[i]?=some e->∃ t,e.key=Value.int (xs i) t)(h:∀ (h1 hF:Heap) (tk c:Nat) (p:List Nat) (vs:List Value),(∀ b o,s.heap.get? b=some o->h1.get? b=some o)->(∀ b o,h1.get? b=some o->hF.get? b=some o)->p.Perm (List.range es.size)->p.Pairwise (fun i j=>decide (xs j<xs i)=false)->vs=es.toList.map (·.key) ->
   hF.get? h1.objs.size=some (seqObj "list" (zco2 (p.map fun i=>vs.getD i Value.none)) c)->Q (.ref h1.objs.size) { s with heap:=hF,toks:=tk }) :
  wpAny (model prog w) A (call (.builtin "sorted") [.ref d]) Q E s:=by
 have zl:es.size<=sizeLine:=by rw[zcp8];omega
 refine Calls.call_function_entry kind_sorted plain_sorted entry_sorted (args_sorted1 _) ?_
 unfold Builtin.«sorted»
 refine zcp6 (m:=checkCount "sorted" 1 1 _) (zcp7 (zcp6 (kdu_collect (A:=A.in1) (zbe0 lo) hh x zl fun h1 tk acc k1 it=>?_)))
 have len:acc.toList.length=es.size:=by rw[zcg7];exact it.1
 have ev:acc.toList=es.toList.map (·.key):=by
  apply zcl5 (by rw[len,zcf4,zcg7])
  intro i a1 a2
  rw[zcg7] at a1
  obtain⟨e,e1,e2⟩:=it.2 i acc[i] (by simp[a1])
  simp only[Array.getElem_toList,List.getElem_map]
  rw[e2]
  obtain⟨q1,q2⟩:=zcm2.mp e1
  rw[← q2]
 refine zcp6 (wpAny_newList ?_ (by rw[len];exact zl))
 have hD:(h1.push (seqObj "list" acc.toList.toArray 0)).get? h1.objs.size=some (seqObj "list" acc.toList.toArray 0):=zch5 _ rfl
 show wpAny (model prog w) _ _ _ _ { s with heap:=h1.push (seqObj "list" acc.toList.toArray 0),toks:=tk }
 refine zcp6 (zcq1 (wpAny_call_entry slot_list_sort ⟨_,hD,rfl⟩ entry_list_sort (zbl5 (xs:=xs) (s:={ s with heap:=h1.push (seqObj "list" acc.toList.toArray 0),toks:=tk }) hD (by rw[len];exact h64) (fun i hi=>?_) fun p c hF pp po kF eF=>⟨_,rfl,?_⟩) (args_list_sort _)))
 ·rw[len] at hi
  have e:acc.toList.getD i Value.none=es[i].key:=by rw[ev];simp[hi]
  rw[e]
  exact H i es[i] (by simp[hi])
 ·refine zcp7 ⟨_,rfl,h h1 hF tk c p acc.toList k1 (fun b o e=>kF b o (zci2 (zch1 e)) (zcf7 _ e)) (by rw[← len];exact pp) po ev eF⟩
theorem zay8{l:Addr}{us:List Value}{xs:Nat->Int×Int}(hl:s.heap.IsList l us.toArray)(h64:us.length<64)(H:∀ i,i<us.length->TupI s.heap (us.getD i Value.none) (xs i))(h:∀ (h1 hF:Heap) (c:Nat) (p:List Nat),(∀ b o,s.heap.get? b=some o->h1.get? b=some o)->(∀ b o,h1.get? b=some o->hF.get? b=some o)->s.heap.objs.size<=h1.objs.size->p.Perm (List.range us.length)->p.Pairwise (fun i j=>ltP (xs j) (xs i)=false) ->
   hF.get? h1.objs.size=some (seqObj "list" (zco2 (p.map fun i=>us.getD i Value.none)) c)->Q (.ref h1.objs.size) { s with heap:=hF }) :
  wpAny (model prog w) A (call (.builtin "sorted") [.ref l]) Q E s:=by
 have zl:us.length<=sizeLine:=by rw[zcp8];omega
 refine Calls.call_function_entry kind_sorted plain_sorted entry_sorted (args_sorted1 _) ?_
 unfold Builtin.«sorted»
 refine zcp6 (m:=checkCount "sorted" 1 1 _) (zcp7 (zcp6 (collect_list (A:=A.in1) hl ?_ zl)))
 obtain⟨h1,eh1⟩:∃ h1,(s.heap.push (seqObj "list" #[] 0)).update s.heap.objs.size (Obj.mapSeq fun x=>x++us.toArray)=h1:=⟨_,rfl⟩
 have k1:∀ b o,s.heap.get? b=some o->h1.get? b=some o:=fun b o e=>by
  rw[← eh1]
  exact (Heap.get?_update_ne _ _ _ _ (zci2 (zch1 e))).trans (zcf7 _ e)
 have sz:s.heap.objs.size<=h1.objs.size:=by
  rw[← eh1,Heap.size_update]
  show s.heap.objs.size<=(s.heap.objs.push _).size
  rw[Array.size_push];omega
 rw[eh1]
 refine zcp6 (wpAny_newList ?_ zl)
 have hD:(h1.push (seqObj "list" us.toArray 0)).get? h1.objs.size=some (seqObj "list" us.toArray 0):=zch5 _ rfl
 show wpAny (model prog w) _ _ _ _ { s with heap:=h1.push (seqObj "list" us.toArray 0) }
 refine zcp6 (zcq1 (wpAny_call_entry slot_list_sort ⟨_,hD,rfl⟩ entry_list_sort (zan8 (xs:=xs) (s:={ s with heap:=h1.push (seqObj "list" us.toArray 0) }) hD h64 (fun i hi=>?_) fun p c hF pp po kF eF=>⟨_,rfl,?_⟩) (args_list_sort _)))
 ·exact ((H i hi).to k1).to fun b o q=>zcf7 _ q
 ·refine zcp7 ⟨_,rfl,h h1 hF c p k1 (fun b o e=>kF b o (zci2 (zch1 e)) (zcf7 _ e)) sz pp po eF⟩
end
section
variable {X:Cx}{K:zcf5}
@[irreducible] def rSoX(K:zcf5)(a:Addr)(H:Hp)(Q:VK):Prop:=
 (∃ (ps:List Addr) (ks:List (Int×Int)),SqL K H a (ps.map V.ref)/\ps.length<64/\Paired (fun b x=>H b=some (.tup [.int x.1,.int x.2])) ps ks /\
  ∀ p H' (bs:List Addr) (ls:List (Int×Int)),H p=none->Same H H'->ls.Perm ks->ls.Pairwise (fun x y=>ltP y x=false)->Paired (fun b x=>H' b=some (.tup [.int x.1,.int x.2])) bs ls->H' p=some (.lst (bs.map V.ref))->Q (.ref p) H') ∨
 ∃ kv:List (Int×Int),H a=some (.dK (dI kv))/\kv.length<64/\∀ p H' (ms:List Int),H p=none->Same H H'->ms.Perm (kv.map (·.1))->ms.Pairwise (·<=·)->H' p=some (.lst (ms.map V.int))->Q (.ref p) H'
def rSoXM(K:zcf5):List V->Hp->VK->Prop:=fun xs H Q=>match xs with
 | [.ref p]=>rSoX K p H Q
 | _=>False
theorem zbu9{as:List Addr}:Vals (as.map V.ref) (as.map Value.ref):=by
 induction as with
 | nil=>exact .nil
 | cons a l ih=>exact .cons rfl ih
theorem zaq3{ns:List (Int×Tok)}:Vals (ns.map fun n=>V.int n.1) (ns.map fun n=>Value.int n.1 n.2):=by
 induction ns with
 | nil=>exact .nil
 | cons a l ih=>exact .cons ⟨_,rfl⟩ ih
theorem zak1{P:Program}{w:World}:∀ {kv:List (Int×Int)}{vs:List (Key×Value)}{es:List DictEntry},KV (dI kv) vs->Pairs (zf9 P w) es vs->es.length=kv.length/\∀ (i:Nat) (e:DictEntry),es[i]?=some e->∃ t,e.key=Value.int ((kv.map (·.1)).getD i 0) t
 | [],vs,es,h1,h2=>by
  cases h1
  cases h2
  exact⟨rfl,fun i e h=>by simp at h⟩
 | z :: kv,vs,es,h1,h2=>by
  cases h1 with
  | cons a b=>
   cases h2 with
   | @cons e0 _ es0 _ c d e=>
    obtain⟨l,r⟩:=zak1 b e
    refine⟨by rw[zch0,zch0,l],fun i x h=>?_⟩
    cases i with
    | zero=>
     cases h
     have a1:(Sum.inl z.1:Key)=_:=a.1
     rw[← a1] at c
     have c:Value.isInt z.1 e0.key=true:=c
     cases hk:e0.key with
     | int n t=>
      rw[hk] at c
      have:n=z.1:=by
       have c:(n==z.1)=true∨(z.1==n)=true:=by first|exact .inl c|exact .inr c
       rcases c with c|c
       ·exact eq_of_beq c
       ·exact (eq_of_beq c).symm
      subst this
      exact⟨t,rfl⟩
     | _=>rw[hk] at c;cases c
    | succ i=>exact r i x h
theorem zbf4(hK:X.K=K)(hc:X.calm=true):zi8 X (.builtin "sorted") (rSoXM K):=fun pins s σ H xs us Q I r h=>by
 subst hK
 unfold rSoXM at h
 split at h
 ·rename_i a
  unfold rSoX at h
  obtain⟨u1,rfl,rx⟩:=zv7 r
  cases rx
  rcases h with ⟨ps,ks,h1,h2,h3,h4⟩|⟨kv,h1,h2,h3⟩
  ·obtain⟨its,rv,pl,hz⟩:=I.list h1
   have e:=zz5 rv
   subst e
   have pl':=h3.length
   have at_:∀ i,(hi:i<ps.length)->H ps[i]=some (.tup [.int (ks.getD i (0,0)).1,.int (ks.getD i (0,0)).2]):=fun i hi=>by
    have hk:i<ks.length:=pl'▸hi
    have:=zn3 h3 i ps[i] ks[i] (zcf3 hi) (zcf3 hk)
    rw[zcg0,zcf3 hk]
    exact this
   refine zay8 (xs:=fun i=>ks.getD i (0,0)) pl.isList (by rw[zcf4];exact h2) (fun i hi=>?_) fun h1' hF c pm k1 kF sz pp po eF=>?_
   ·rw[zcf4] at hi
    obtain⟨_,its',rv',ob,b1,b2,n,b3⟩:=(show ze9 X.prog X.w H s.heap ps[i] (.tup [.int (ks.getD i (0,0)).1,.int (ks.getD i (0,0)).2]) from I.hok _ _ (at_ i hi))
    obtain⟨v1,v2,rfl,w1,w2⟩:=zao9 rv'
    obtain⟨t1,rfl⟩:=w1
    obtain⟨t2,rfl⟩:=w2
    have eg:(ps.map Value.ref).getD i Value.none=.ref ps[i]:=by rw[zcg0,zcf9,zcf3 hi];rfl
    rw[eg]
    exact⟨ps[i],ob,t1,t2,n,rfl,b1,b2,b3⟩
   ·rw[zcf4] at pp
    have I1:Inv X pins σ H { s with heap:=h1' }:=I.kept (t':=s.toks) k1
    have fr:H h1'.objs.size=none:=I1.fresh
    have mem:∀ i,i∈pm->i<ps.length:=fun i hi=>zci3.mp (pp.mem_iff.mp hi)
    have vals:(pm.map fun i=>(ps.map Value.ref).getD i Value.none)=(pm.map fun i=>ps.getD i 0).map Value.ref:=by
     rw[zch6]
     refine zcj8 fun i hi=>?_
     have hi':=mem i hi
     show (ps.map Value.ref).getD i Value.none=Value.ref (ps.getD i 0)
     rw[zcg0,zcg0,zcf9,zcf3 hi']
     rfl
    have ek:(List.range ps.length).map (fun i=>ks.getD i (0,0))=ks:=by
     rw[pl']
     apply zcl5 (by simp)
     intro i a1 a2
     simp at a1
     simp[a1]
    have lz:(pm.map fun i=>ps.getD i 0).length<=sizeLine:=by rw[zcf4,pp.length_eq,zcl8,zcp8];omega
    refine⟨.ref _,_,I1.laid (h':=hF) (t':=s.toks) (o:=.lst ((pm.map fun i=>ps.getD i 0).map V.ref)) kF (zcg9 _) ?_,rfl,h4 _ _ (pm.map fun i=>ps.getD i 0) (pm.map fun i=>ks.getD i (0,0)) fr (Same.upd fr) ?_ ?_ ?_ zb1⟩
    ·exact⟨by rw[zcf4];exact lz,_,c,zbu9,by rw[eF,vals]⟩
    ·have q:=pp.map fun i=>ks.getD i (0,0)
     rw[ek] at q
     exact q
    ·rw[zco9]
     exact po
    ·refine zu7 (by rw[zcf4,zcf4]) fun i b x q1 q2=>?_
     rw[zcf9] at q1 q2
     obtain⟨j,j1,j2⟩:=zcg5.mp q1
     rw[j1] at q2
     have hj:=mem j (zcf8 j1)
     have q2:ks.getD j (0,0)=x:=Option.some.inj q2
     have j2:ps.getD j 0=b:=j2
     rw[← j2,← q2,zcg0,zcf3 hj]
     exact (Same.upd fr) _ _ (at_ j hj)
  ·obtain⟨zl,lo,vs,kvr,o,es,ep,e1,e2,e3,e4,e5,e6⟩:=zax5 I.hok h1
   obtain⟨el,ek⟩:=zak1 kvr e5
   rw[zcg7] at el
   refine zao7 (xs:=fun i=>(kv.map (·.1)).getD i 0) lo (I.ok.hd hc) (d:=a) (es:=es) (ep:=ep) ⟨o,e1,e2,e3⟩ (by omega) (fun i e q=>ek i e (by rw[zch4];exact q)) fun h' hF tk c pm vs' k1 kF pp po ev eF=>?_
   have I1:Inv X pins σ H { s with heap:=h',toks:=tk }:=I.kept k1
   have fr:H h'.objs.size=none:=I1.fresh
   have mem:∀ i,i∈pm->i<kv.length:=fun i hi=>by have:=zci3.mp (pp.mem_iff.mp hi);omega
   have km:(List.range kv.length).map (fun i=>(kv.map (·.1)).getD i 0)=kv.map (·.1):=by
    apply zcl5 (by simp)
    intro i a1 a2
    simp at a1
    simp[a1]
   have tok:∀ i,∃ t,i<kv.length->vs'.getD i Value.none=Value.int ((kv.map (·.1)).getD i 0) t:=fun i=>by
    by_cases hi:i<kv.length
    ·have hes:i<es.size:=by omega
     obtain⟨t,et⟩:=ek i es[i] (by rw[zch4];simp[hes])
     exact⟨t,fun _=>by rw[ev];simp[hes,et]⟩
    ·exact⟨default,fun z=>absurd z hi⟩
   obtain⟨tk',htk⟩:=Classical.axiomOfChoice tok
   have vals:(pm.map fun i=>vs'.getD i Value.none)=(pm.map fun i=>((kv.map (·.1)).getD i 0,tk' i)).map fun n=>Value.int n.1 n.2:=by
    rw[zch6]
    exact zcj8 fun i hi=>htk i (mem i hi)
   refine⟨.ref _,_,I1.laid (h':=hF) (t':=tk) (o:=.lst ((pm.map fun i=>(kv.map (·.1)).getD i 0).map V.int)) kF (zcg9 _) ?_,rfl,h3 _ _ (pm.map fun i=>(kv.map (·.1)).getD i 0) fr (Same.upd fr) ?_ ?_ zb1⟩
   ·refine⟨by rw[zcf4,zcf4,pp.length_eq,zcl8,zcp8];omega,_,c,?_,by rw[eF,vals]⟩
    have:=zaq3 (ns:=pm.map fun i=>((kv.map (·.1)).getD i 0,tk' i))
    rw[zch6] at this
    rw[zch6]
    exact this
   ·have q:=(show pm.Perm (List.range kv.length) from el▸pp).map fun i=>(kv.map (·.1)).getD i 0
    rw[km] at q
    exact q
   ·rw[zco9]
    exact po.imp fun {i j} h=>by have:=of_decide_eq_false h;omega
 ·exact h.elim
theorem soL_rd{a:Addr}{Q:VK}{ps:List Addr}{ks:List (Int×Int)}(h:H a=some (.lst (ps.map V.ref)))(hl:ps.length<64)(pr:Paired (fun b x=>H b=some (.tup [.int x.1,.int x.2])) ps ks)(q:∀ p H' (bs:List Addr) (ls:List (Int×Int)),H p=none->Same H H'->ls.Perm ks->ls.Pairwise (fun x y=>ltP y x=false)->Paired (fun b x=>H' b=some (.tup [.int x.1,.int x.2])) bs ls->H' p=some (.lst (bs.map V.ref))->Q (.ref p) H'):rSoX K a H Q:=by unfold rSoX;exact .inl ⟨ps,ks,SqL.of h,hl,pr,q⟩
theorem zaf1{a:Addr}{Q:VK}{kv:List (Int×Int)}(h:H a=some (.dK (dI kv)))(hl:kv.length<64)(q:∀ p H' (ms:List Int),H p=none->Same H H'->ms.Perm (kv.map (·.1))->ms.Pairwise (·<=·)->H' p=some (.lst (ms.map V.int))->Q (.ref p) H'):rSoX K a H Q:=by unfold rSoX;exact .inr ⟨kv,h,hl,q⟩
end
set_option maxHeartbeats 2000000
section
variable {X:Cx}{K:zcf5}
end
section
variable {X:Cx}{K:zcf5}
end
section
variable {X:Cx}{K:zcf5}
end
set_option maxHeartbeats 4000000
open PySem.Calls PySem.NumText
set_option maxHeartbeats 2000000
set_option maxHeartbeats 4000000
set_option maxHeartbeats 1000000
set_option maxHeartbeats 2000000
theorem ze9.there{P:Program}{w:World}{a:Addr}{o:HO}(x:ze9 P w H h a o):∃ u,h.get? a=some u:=by
 cases o with
 | lst xs=>obtain⟨_,_,_,_,e⟩:=x;exact⟨_,e⟩
 | tup xs=>obtain⟨_,_,_,o,e,_⟩:=x;exact⟨_,e⟩
 | dK kvs=>obtain⟨_,_,_,_,o,_,_,e,_⟩:=x;exact⟨_,e⟩
 | dT kvs=>obtain⟨_,_,_,_,o,_,_,e,_⟩:=x;exact⟨_,e⟩
 | set S n=>obtain⟨o,_,_,_,e,_⟩:=x;exact⟨_,e⟩
 | ins C dx fs=>obtain⟨_,_,_,e,_⟩:=x;exact⟨_,e⟩
 | own y=>obtain⟨_,e⟩:=x;exact⟨_,e⟩
 | xd fs=>obtain⟨_,⟨_,_,_,e,_⟩,_⟩:=x;exact⟨_,e⟩
 | rng lo hi=>obtain⟨_,_,_,e⟩:=x;exact⟨_,e⟩
 | frz ob u=>obtain⟨e,_⟩:=x;exact⟨_,e⟩
 | tbl ps=>exact⟨_,show h.get? a=some _ from x⟩
 | met f y=>exact⟨_,show h.get? a=some _ from x⟩
 | ext φ=>obtain⟨_,⟨_,e⟩,_⟩:=x;exact⟨_,e⟩
def zj7(T:Addr)(ln co:Nat)(qual:Str)(H:Hp):Prop:=∃ tab,H T=some (.tbl tab) /\
 (tab=#[]∨∃ c oc vs t,tab=#[rawInt ln,rawInt co,.ref c]/\H c=some (.frz oc (.own c))/\oc.data=.fields vs/\vs[1]?=some (.str qual t))
theorem zj7.same{ln co:Nat}(x:zj7 T ln co qual H)(s:Same H H'):zj7 T ln co qual H':=by
 obtain⟨tab,e,r⟩:=x
 refine⟨tab,s _ _ e,?_⟩
 rcases r with r|⟨c,oc,vs,t,e1,e2,r⟩
 ·exact .inl r
 ·exact .inr ⟨c,oc,vs,t,e1,s _ _ e2,r⟩
theorem zj7.chg{a:Addr}{ln co:Nat}(x:zj7 T ln co qual H)(ha:H a=some (.lst xs))(s:Chg a H H'):zj7 T ln co qual H':=by
 obtain⟨tab,e,r⟩:=x
 refine⟨tab,s _ _ (fun z=>by rw[z,ha] at e;cases e) e,?_⟩
 rcases r with r|⟨c,oc,vs,t,e1,e2,r⟩
 ·exact .inl r
 ·exact .inr ⟨c,oc,vs,t,e1,s _ _ (fun z=>by rw[z,ha] at e2;cases e2) e2,r⟩
def Bm(mg:Str->Option Value)(base:Heap):Prop:=∃ bm ob,mg "__builtins__"=some (.ref bm)/\bm≠builtinsNs/\base.get? bm=some ob/\ob.cls=.type "module"/\ob.dict=some builtinsNs/\ob.data=.plain
section
variable {prog:Program}{w:World}{A:Around}{E:Value->Shared->Prop}{s:Shared}{env:Env}{m mg mb:Str->Option Value}{b l cA:Addr}{hv:Int}{th:Tok}{its ws:List Value}{ns:List Int}{p1 p2 p3 p4 p5 p6 p7:Pos}
theorem zbl7(hh:A.handled=none)(hk:env.scope.kind=.function)(k1:env.kindOf "hosts"=some .free)(k2:env.kindOf "part"=some .local)(k3:env.kindOf "sum"=some .globalImplicit)(hc:env.cells.lookup ("hosts":Str)=some cA)(hcell:s.heap.IsCell cA (some (.int hv th)))(hn:s.heap.Ns env.locals m)(hp:m "part"=some (.ref b))(hg:s.heap.Ns env.globals mg)(hm:mg "sum"=none)(hb:s.heap.Ns env.builtins mb)(hbs:mb "sum"=some (.builtin "sum"))(ht:IsTup s.heap b its.toArray)(h0:its[0]?=some (.ref l))(hl:s.heap.IsList l ws.toArray)(hi:IntsAre ws ns) :
  wpAny (model prog w) A (eval (.BinOp (.Name "hosts" p1) .Sub (.Call (.Name "sum" p2) [.Subscript (.Name "part" p3) (.Constant (.int 0) 0 p4) p5] [] p6) p7) env)
   (fun v s'=>∃ h' tk t,s'={ s with heap:=h',toks:=tk }/\v=.int (hv - ns.sum) t/\∀ b o,s.heap.get? b=some o->h'.get? b=some o) E s:=by
 refine wpAny_BinOp (wpAny_Name (wpAny_loadName_free hk k1 hc hcell ?_) (by decide))
 refine wpAny_Call_Name_kw (Calls.Name_function_global hk k3 (Calls.loadGlobal_builtin hg hm hb hbs ?_) (by decide))
 refine PyProof.Rows.callWith_builtin1 ?_ rfl rfl
 show wpAny _ _ (spliced ((false,eval _ env) :: [])) _ _ s
 refine Calls.spliced_cons ?_
 refine Subscript_ (wpAny_Name (wpAny_loadName_local hk k2 hn hp ?_) (by decide))
 refine wpAny_Constant_int ?_
 refine subscriptTail_builtinR (x:=.ref l) (s:={ s with toks:=s.toks+1 }) (T:="tuple") ht.typeIs slot_tuple_getitem.lookup
  (PyProof.Rows.getItem_tuple (j:=0) (x:=.ref l) ht (by decide) (by decide) ?_ (by simpa using h0) ⟨rfl,?_⟩) (by with_unfolding_all rfl)
 ·have:0<its.length:=(zcf6.mp h0).1
  rw[zcg1,seqIndex_of (by decide) (by omega)]
  rfl
 ·refine Calls.spliced_nil ?_
  obtain⟨ys,hx⟩:=hi.allInts.items
  have hl':s.heap.IsList l (intItems ys):=hx▸hl
  refine sum_intListG (s:={ s with toks:=s.toks+1 }) hh hl' fun h' tk t' hk'=>?_
  have e1:ns=ys.toList.map (·.1):=by
   rw[← nums_intItems,← hx]
   exact (show numsOf ws.toArray.toList=ns from hi.numsOf).symm
  have e2:preSum (numAt ys) ys.size=ns.sum:=by
   rw[preSum_eq,zcl2 (by simp),e1]
  rw[e2]
  exact PyProof.Rows.sub_int ⟨h',_,_,rfl,rfl,hk'⟩
end
section
variable {X:Cx}{K:zcf5}{pins:List (Addr×Obj)}{σ:St}{H:Hp}{s:Shared}
theorem Inv.tab{T c':Addr}{tab more:Array Value}{oc:Obj}{h':Heap}{tk:Nat}(I:Inv X pins σ H s)(hT:H T=some (.tbl tab))(hx:Heap.ExtBut T s.heap h')(hge:s.heap.objs.size<=c')(hc:h'.get? c'=some oc)(ht:h'.get? T=some (PySem.W.tabObj (tab++more))):Inv X pins σ (upd (upd H T (.tbl (tab++more))) c' (.frz oc (.own c'))) { s with heap:=h',toks:=tk }:=by
 have fc:H c'=none:=I.hok.fresh hge
 have nT:c'≠T:=fun z=>by rw[z,hT] at fc;cases fc
 have at1:∀ b o,b≠T->H b=some o->upd (upd H T (.tbl (tab++more))) c' (.frz oc (.own c')) b=some o:=fun b o n e=>by rw[zb4 (za5 e fc),zb4 n];exact e
 have at0:∀ b o,s.heap.get? b=some o->H b=none->upd (upd H T (.tbl (tab++more))) c' (.frz oc (.own c')) b=none:=fun b o e n=>by
  rw[zb4 (zci2 (zch3 (zch1 e) hge)),zb4 (fun z=>by rw[z,hT] at n;cases n)];exact n
 have kp:∀ b o,s.heap.get? b=some o->H b=none->h'.get? b=some o:=fun b o e n=>hx b o (fun z=>by rw[z,hT] at n;cases n) e
 refine I.un ⟨fun b o e n _ _=>kp b o e n,fun b o e n _ _=>⟨o.slots,kp b o e n⟩,fun b o e n _=>at0 b o e n,fun b o e _=>?_,fun b xs e=>at1 b _ (fun z=>by rw[z,hT] at e;cases e) e,fun b o u e=>at1 b _ (fun z=>by rw[z,hT] at e;cases e) e,fun b ps e=>?_⟩ fun b u e=>?_
 ·by_cases z:b=T
  ·exact⟨_,z▸ht⟩
  ·exact⟨o,hx b o z e⟩
 ·by_cases z:b=T
  ·subst z
   rw[hT] at e;cases e
   exact⟨more,by rw[zb4 nT.symm,zb1]⟩
  ·exact⟨#[],by rw[Array.append_empty];exact at1 b _ z e⟩
 ·by_cases z:b=c'
  ·subst z
   rw[zb1] at e;cases e
   exact⟨hc,oc,hc⟩
  ·rw[zb4 z] at e
   by_cases z2:b=T
   ·subst z2
    rw[zb1] at e;cases e
    exact ht
   ·rw[zb4 z2] at e
    refine (I.hok b u e).stay (fun d v hd q=>hx d v (fun z3=>?_) q) (fun d q=>at1 d _ (fun z3=>by rw[z3,hT] at q;cases q) q) fun d xs q=>at1 d _ (fun z3=>by rw[z3,hT] at q;cases q) q
    rcases hd with hd|hd
    ·exact z2 (hd.symm.trans z3)
    ·rw[z3,hT] at hd;cases hd
@[irreducible] def rSoK(K:zcf5)(T:Addr)(ln co:Nat)(qual:Str)(hv:Int)(a:Addr)(H:Hp)(Q:VK):Prop:=∃ (bs:List Addr) (kz:List Int),SqL K H a (bs.map V.ref)/\bs.length<64/\kz.length=bs.length /\
 (∀ (i:Nat) b k,bs[i]?=some b->kz[i]?=some k->∃ l v ns,H b=some (.tup [.ref l,v])/\H l=some (.lst (List.map V.int ns))/\k=hv - ns.sum)/\zj7 T ln co qual H /\
 ∀ p H' (ps:List (Int×Addr)),H p=none->Chg T H H'->zj7 T ln co qual H'->ps.Perm (kz.zip bs)->ps.Pairwise (fun x y=>x.1<=y.1)->H' p=some (.lst (ps.map fun x=>V.ref x.2))->Q (.ref p) H'
def qSoK(K:zcf5)(T:Addr)(ln co:Nat)(qual:Str)(i:Nat)(t:TA):TE:=fun σ H Q=>t σ H fun xs H1=>match xs with
 | [.ref a]=>(match σ[i]? with
  | some (some (.int hv))=>rSoK K T ln co qual hv a H1 Q
  | _=>False)
 | _=>False
theorem zbc1:∀ {bs:List Addr}{us:List Value},Vals (bs.map V.ref) us->us=bs.map Value.ref
 | [],us,r=>by rw[List.map_nil] at r;cases r;rfl
 | b :: bs,us,r=>by
  rw[zci1] at r
  cases r with
  | cons r1 r2=>cases r1;rw[zbc1 r2];rfl
theorem zav4{c' a cA:Addr}{la:Arguments}{lsc:Scope}{pm ctv:Value}{hv:Int}{th:Tok}{bs:List Addr}{kz:List Int}{Q:VK}{p1 p2 p3 p4 p5 p6 p7:Pos}(hr:Room 3 X.A)(I:Inv X pins σ H s)(hq:s.heap.get? q=some (PySem.W.kla_obj "<lambda>" qual la (.BinOp (.Name "hosts" p1) .Sub (.Call (.Name "sum" p2) [.Subscript (.Name "part" p3) (.Constant (.int 0) 0 p4) p5] [] p6) p7) lsc [("hosts",cA)] pm c' ctv))(hcr:s.heap.CodeRec (.ref c') qual)(hb:∀ u:Value,bindArgs (PySem.W.kla_fn "<lambda>" qual la (.BinOp (.Name "hosts" p1) .Sub (.Call (.Name "sum" p2) [.Subscript (.Name "part" p3) (.Constant (.int 0) 0 p4) p5] [] p6) p7) lsc [("hosts",cA)] pm (.ref c') ctv) ⟨[u],[]⟩=pure [(("part":Str),u)])(s1:lsc.kind=.function)(s2:lsc.isCoroutine=false)(s3:lsc.isGenerator=false)(s4:lsc.names.lookup ("hosts":Str)=some .free)(s5:lsc.names.lookup ("part":Str)=some .local)(s6:lsc.names.lookup ("sum":Str)=some .globalImplicit)(s7:∀ x∈lsc.names,x.2≠.cell)(hm:X.mg "sum"=none)(hcell:s.heap.IsCell cA (some (.int hv th)))(hcL:cA≠X.env.locals)(h1:SqL X.K H a (bs.map V.ref))(h2:bs.length<64)(h3:kz.length=bs.length)(h4:∀ (i:Nat) b k,bs[i]?=some b->kz[i]?=some k->∃ l v ns,H b=some (.tup [.ref l,v])/\H l=some (.lst (List.map V.int ns))/\k=hv - ns.sum)(h5:∀ p H' (ps:List (Int×Addr)),H p=none->Same H H'->ps.Perm (kz.zip bs)->ps.Pairwise (fun x y=>x.1<=y.1)->H' p=some (.lst (ps.map fun x=>V.ref x.2))->Q (.ref p) H') :
  wpAny (model X.prog X.w) X.A (call (.builtin "sorted") [.ref a] [(Str.ofString "key",.ref q)]) (EP X pins σ Q) E s:=by
 obtain⟨m,hn,hl⟩:=id I.loc
 obtain⟨its,r',pl,hz⟩:=I.list h1
 have eits:=zbc1 r'
 have hqL:q≠X.env.locals:=fun z=>by
  obtain⟨o,es,ep,e,d,_⟩:=hn
  rw[← z,hq] at e;cases e;cases d
 have hcrL:∀ b,Value.ref c'=.ref b->b≠X.env.locals:=fun b eb z=>by
  obtain⟨o,es,ep,e,d,_⟩:=hn
  obtain⟨c2,oc,vs,t,e1,e2,e3,_⟩:=hcr
  cases e1;cases eb
  rw[z,e] at e2;cases e2;rw[d] at e3;cases e3
 have old:∀ {h:Heap}{own:List (Addr×Obj)},News (Att.noObjs s.heap) X.env.locals h (Att.ledger s.heap X.env.locals X.env.locals++own)->∀ b o,b≠X.env.locals->s.heap.get? b=some o->h.get? b=some o:=
  fun N b o nb e=>(N (b,o) (zcp0 _ (Att.mem_ledger.mpr ⟨nb,nb,e⟩))).1
 have tracked:∀ {b:Addr}{o:HO},H b=some o->b≠X.env.locals:=fun e z=>by rw[z,I.free] at e;cases e
 refine ksk_sorted (h₀:=Att.noObjs s.heap) (L:=X.env.locals) (m:=m) (news:=Att.ledger s.heap X.env.locals X.env.locals) (kz:=kz) (f:=.ref q) (b:=false) (vs:=its) (Att.fr_all hn) (fun p hp=>by
   obtain⟨n1,_,e⟩:=Att.mem_ledger.mp hp
   exact⟨e,n1,Att.noObjs_get _ _⟩) pl.isList (by rw[eits,zcf4];exact h3) (by rw[eits,zcf4];exact h2) (ksk_s1 _ _) (fun x=>ksk_l1 _ _) (fun x=>ksk_t1 _ _) (fun i v k hv' hk h tk own F N=>?_) fun D h' tk out c F N lt ko=>?_
 ·rw[eits,zcf9] at hv'
  obtain⟨b,eb,rfl⟩:=zcg5.mp hv'
  obtain⟨l,v,ns,e1,e2,rfl⟩:=h4 i b k eb hk
  have kp:=old N
  have ks:∀ b o,X.base.get? b=some o->h.get? b=some o:=fun b o e=>kp b o (fun z=>by
   have:=zch1 e
   rw[z] at this
   exact absurd (zch3 this (zcj5 I.ok.bsz I.ok.above)) (zcm3 _)) (I.bk b o e)
  refine wpAny_call (PySem.W.kla_callFunE (o:=PySem.W.kla_obj "<lambda>" qual la _ lsc [("hosts",cA)] pm c' ctv) (by have:=hr.dp;show X.A.depth<_;omega) (kp q _ hqL hq) rfl s2 s3 rfl ?_ ?_)
  ·obtain⟨c2,oc,vs,t,e1,e2,e3⟩:=hcr
   cases e1
   exact⟨c',oc,vs,t,rfl,kp c' _ (hcrL c' rfl) e2,e3⟩
  ·rw[hb]
   refine zcp7 (wpAny_newFunctionEnv s7 (fun x hx=>by rw[zci4.mp hx];exact s5) (fun h₁ hns hsb=>?_) s1)
   have hk₁:∀ b o,h.get? b=some o->h₁.get? b=some o:=fun b o e=>hsb.extBut b o (zci2 (zch1 e)) (zcf7 _ e)
   refine⟨(I.mod.nolimit.keeps ks).keeps hk₁,?_⟩
   show codeAny _ _ (.expr _ (PySem.W.envX qual lsc h.objs.size q (.ref c') [("hosts",cA)])) _ _
   obtain⟨mb,b1,b2⟩:=I.mod.blt
   obtain⟨zt,itt,rt,tt⟩:=I.hok b _ e1
   obtain⟨zl,itl,nl,rl,el⟩:=I.hok l _ e2
   have rt0:∃ u,itt=[.ref l,u]:=by
    cases rt with
    | cons r1 r2=>cases r1;cases r2 with
     | cons r3 r4=>cases r4;exact⟨_,rfl⟩
   obtain⟨u0,rfl⟩:=rt0
   have ht:IsTup h₁ b ([.ref l,u0]:List Value).toArray:=by
    obtain⟨o,e,c⟩:=tt
    exact⟨o,hk₁ _ _ (kp _ _ (tracked e1) e),c⟩
   have hll:h₁.get? l=some { cls:=.type "list",data:=.seq itl.toArray nl }:=hk₁ _ _ (kp _ _ (tracked e2) el)
   refine PySem.W.kla_codeExpr (wpAny_mono (zbl7 (s:={ s with heap:=h₁,toks:=tk+1 }) (cA:=cA) (m:=fun y=>[(("part":Str),Value.ref b)].reverse.lookup y) (mg:=X.mg) (mb:=mb) (by exact hr.hd) s1 s4 s5 s6 rfl
    (by obtain⟨oc,q1,q2⟩:=hcell;exact⟨oc,hk₁ _ _ (kp _ _ hcL q1),q2⟩) hns rfl ((I.mod.glob.keeps ks).keeps hk₁) hm ((b1.keeps ks).keeps hk₁) ((b2 "sum" (by decide)).trans zbj0) ht rfl ⟨_,hll,rfl,_,rfl⟩ (zw2 rl)) (fun v s' hv=>?_) fun _ _ hF=>hF)
   obtain⟨h2',tk2,t2,rfl,rfl,kp2⟩:=hv
   exact KskEnd.intro (s₁:={ s with heap:=h,toks:=tk }) ((F.kept hk₁).kept kp2) ((N.grown hk₁).grown kp2) fun _ hp=>hp
 ·have ND:=N (D,seqObj "list" out c) zck4
  have kp:∀ b o,b≠X.env.locals->s.heap.get? b=some o->h'.get? b=some o:=fun b o nb e=>(N (b,o) (zcj9 _ (Att.mem_ledger.mpr ⟨nb,nb,e⟩))).1
  have nD:∀ b o,s.heap.get? b=some o->b≠D:=fun b o e z=>by
   by_cases nb:b=X.env.locals
   ·exact ND.2.1 (z.symm.trans nb)
   ·have q':b<D:=lt (b,o) (Att.mem_ledger.mpr ⟨nb,nb,e⟩)
    rw[z] at q'
    exact absurd q' (zcm3 _)
  have fD:H D=none:=by
   cases e:H D with
   | none=>rfl
   | some u=>obtain⟨o,ho⟩:=(I.hok D u e).there;exact absurd rfl (nD D o ho)
  obtain⟨ps,hp,ho,hs⟩:=ko
  have ez:kz.zip its=(kz.zip bs).map fun x=>(x.1,Value.ref x.2):=by
   rw[eits,List.zip_map_right]
   rfl
  rw[ez] at hp
  obtain⟨g,hg⟩:∃ g:Value->Addr,∀ b,g (.ref b)=b:=⟨fun v=>match v with|.ref b=>b|_=>0,fun _=>rfl⟩
  have hp':(ps.map fun x=>(x.1,g x.2)).Perm (kz.zip bs):=by
   have:=hp.map fun x:Int×Value=>(x.1,g x.2)
   rw[zch6] at this
   have e2:(kz.zip bs).map ((fun x:Int×Value=>(x.1,g x.2))∘fun x=>(x.1,Value.ref x.2))=kz.zip bs:=by
    conv=>rhs;rw[← List.map_id (kz.zip bs)]
    exact zcj8 fun x _=>by show (x.1,g (.ref x.2))=x;rw[hg]
   rw[e2] at this
   exact this
  have ho':out.toList=((ps.map fun x=>(x.1,g x.2)).map fun x=>x.2).map Value.ref:=by
   rw[ho,zch6,zch6]
   refine zcj8 fun x hx=>?_
   obtain⟨y,_,rfl⟩:=zch2.mp (hp.mem_iff.mp hx)
   show Value.ref y.2=Value.ref (g (.ref y.2))
   rw[hg]
  have hs':(ps.map fun x=>(x.1,g x.2)).Pairwise (fun x y=>x.1<=y.1):=by
   rw[zco9]
   exact hs.imp fun hr=>by simpa using hr
  generalize (ps.map fun x=>(x.1,g x.2))=ps' at hp' ho' hs'
  have lenO:ps'.length<64:=by
   have:=hp'.length_eq
   rw[List.length_zip] at this
   omega
  have vl:∀ l:List (Int×Addr),Vals (l.map fun x=>V.ref x.2) ((l.map fun x=>x.2).map Value.ref):=by
   intro l
   induction l with
   | nil=>exact .nil
   | cons x l ih=>exact .cons rfl ih
  have hD:h'.get? D=some { cls:=.type "list",data:=.seq ((ps'.map fun x=>x.2).map Value.ref).toArray c }:=by
   have:=ND.1
   rw[← ho',Array.toArray_toList]
   exact this
  have at1:∀ b o,H b=some o->upd H D (.lst (ps'.map fun x=>V.ref x.2)) b=some o:=fun b o e=>by rw[zb4 (za5 e fD)];exact e
  refine⟨.ref D,upd H D (.lst (ps'.map fun x=>V.ref x.2)),?_,rfl,h5 D _ ps' fD (Same.upd fD) hp' hs' zb1⟩
  refine I.step (h':=h') (t':=tk) (g':=s.gens) (d':=s.drawn) (ch:=[]) (fun _ z=>nomatch z) (fun b o n1 _ _ e _=>kp b o n1 e) (fun b o n1 _ _ e _=>⟨o.slots,kp b o n1 e⟩) (fun b o _ e n=>by rw[zb4 (nD b o e)];exact n) (fun b o _ e=>?_)
   (fun b xs e=>at1 b _ e) (fun b o u e=>at1 b _ e) (fun b ps e=>⟨#[],by rw[Array.append_empty];exact at1 b _ e⟩) (fun m' hm'=>?_) (fun b u e=>?_) I.bare
  ·by_cases z:b=X.env.locals
   ·obtain⟨o',_,_,e',_⟩:=F.ns
    exact⟨o',z▸e'⟩
   ·exact⟨o,kp b o z e⟩
  ·have:m'=m:=funext fun x=>hm'.agree hn x
   rw[this]
   exact F.ns
  ·by_cases z:b=D
   ·subst z
    rw[zb1] at e;cases e
    refine⟨by rw[zcf4];exact zcj5 (Nat.le_of_lt lenO) (by decide),_,c,vl ps',hD⟩
   ·rw[zb4 z] at e
    refine (I.hok b u e).stay (fun d v hd q=>kp d v (fun z3=>?_) q) (fun d q=>at1 d _ q) fun d xs q=>at1 d _ q
    rcases hd with hd|hd
    ·exact tracked e (hd.symm.trans z3)
    ·exact tracked hd z3
end
section
variable {X:Cx}{K:zcf5}
theorem peSoK{c cA:Addr}{ln co:Nat}{la:Arguments}{lsc:Scope}{p p1 p2 p3 p4 p5 p6 p7 kp pos lpos:Pos}{e:Expr}{t:TA}(hK:X.K=K)(hr:Room 3 X.A)(hm:X.mg "sorted"=none)(hms:X.mg "sum"=none)(hC:PySem.W.CodeHd X.base c T)(hB:Bm X.mg X.base)(ha:PA X [e] t)(hcode:X.env.code=.ref c)(hN:X.N[i]?=some ("hosts":Str))(hkd:X.env.kindOf ("hosts":Str)=some .cell)(hcA:X.env.cells.lookup ("hosts":Str)=some cA)(hcl:closureFor lsc X.env=pure [(("hosts":Str),cA)])(hql:X.env.qual++"<lambda>"=qual)(hln:lpos.line=ln)(hco:lpos.col=co)(hb:∀ (pm cv ctv u:Value),bindArgs (PySem.W.kla_fn "<lambda>" qual la (.BinOp (.Name "hosts" p1) .Sub (.Call (.Name "sum" p2) [.Subscript (.Name "part" p3) (.Constant (.int 0) 0 p4) p5] [] p6) p7) lsc [("hosts",cA)] pm cv ctv) ⟨[u],[]⟩=pure [(("part":Str),u)])(s1:lsc.kind=.function:=by rfl)(s2:lsc.isCoroutine=false:=by rfl)(s3:lsc.isGenerator=false:=by rfl)(s4:lsc.names.lookup ("hosts":Str)=some .free:=by rfl)(s5:lsc.names.lookup ("part":Str)=some .local:=by rfl)(s6:lsc.names.lookup ("sum":Str)=some .globalImplicit:=by rfl)(s7:∀ x∈lsc.names,x.2≠.cell:=by decide)(hdf:defaultsOf la X.env=([],[]):=by rfl)(hg:Gl X "sorted":=by rfl)(he:backTo pos (starEach [e] X.env)=(false,eval e X.env) :: backTo pos (starEach [] X.env):=by rfl)(hpl:(backTo pos (starEach [e] X.env)).any (·.1)=false:=by rfl) :
  PE X (.Call (.Name "sorted" p) [e] [⟨some "key",.Lambda la (.BinOp (.Name "hosts" p1) .Sub (.Call (.Name "sum" p2) [.Subscript (.Name "part" p3) (.Constant (.int 0) 0 p4) p5] [] p6) p7) lsc lpos,kp⟩] pos) (qSoK K T ln co qual i t):=by
 subst hK hql hln hco
 intro pins s σ H Q I h
 refine wpAny_Call_Name_kw (zx4 I hg hm zp8 ?_ (by decide) (by decide))
 refine callWith_kw (thn (ha pos pins s σ H _ I h) fun us s1' ⟨vs,H1,I1,r,q⟩=>?_) he hpl
 dsimp only at q
 split at q
 case h_2=>exact q.elim
 rename_i a
 split at q
 case h_2=>exact q.elim
 rename_i hv ei
 unfold rSoK at q
 obtain⟨bs,kz,h1,h2,h3,h4,⟨tab,hT,htab⟩,h5⟩:=q
 obtain⟨u1,rfl,rx⟩:=zv7 r
 cases rx
 have hTs:s1'.heap.get? T=some (PySem.W.tabObj tab):=I1.hok T _ hT
 obtain⟨m1,hn1,hl1⟩:=id I1.loc
 obtain⟨u,ru,lk⟩:=hl1 i _ _ hN ei (.inr (.inl hkd))
 obtain⟨th,rfl⟩:=ru
 have hcell:s1'.heap.IsCell cA (some (.int hv th)):=by
  rcases lk with ⟨k,_⟩|⟨_,c2,e2,hc2⟩
  ·rw[hkd] at k;cases k
  ·rw[hcA] at e2;cases e2;exact hc2
 have hcL:=I1.cne _ _ hcA
 have gl:=I1.mod.glob.keeps I1.bk
 have hbT:∀ b o,X.base.get? b=some o->b≠T:=fun b o e z=>by
  have:=(I1.bs b o e).2
  rw[z,hT] at this;cases this
 have hgT:zcq2≠T:=by
  obtain⟨o,_,_,e,_⟩:=I1.mod.glob
  exact hbT _ _ e
 have hBT:s1'.heap.BuiltinsAt X.mg T:=by
  obtain⟨bm,ob,b1,b2,b3,b4,b5,b6⟩:=hB
  refine⟨bm,ob,b1,b2,fun z=>?_,hbT _ _ b3,I1.bk _ _ b3,b4,b5,b6⟩
  obtain⟨o,_,_,e,d,_⟩:=I1.mod.glob
  rw[z,e] at b3;cases b3;rw[d] at b6;cases b6
 have hCs:=hC.keeps I1.bk
 refine kws_cons (PySem.W.kla_eval hdf ?_)
 rcases htab with rfl|⟨c0,oc,vs,t0,rfl,ec,ed,ev⟩
 ·refine PySem.W.kla_makeFunction (mg:=X.mg) hcl I1.ok.glob gl hcode hCs hTs trivial rfl hgT hBT fun c' ctv h' tk hx hge hlt hrec htb=>?_
  obtain⟨c2,oc,vs,t0,e2,hoc,ed,ev⟩:=hrec
  cases e2
  have I2:=I1.tab (tk:=tk) (more:=#[rawInt lpos.line,rawInt lpos.col,.ref c']) hT hx hge hoc htb
  have fc:H1 c'=none:=I1.hok.fresh hge
  have nT:c'≠T:=fun z=>by rw[z,hT] at fc;cases fc
  generalize hF:PySem.W.kla_obj "<lambda>" (X.env.qual++"<lambda>") la _ lsc [(("hosts":Str),cA)] ((X.mg "__name__").getD .none) c' ctv=fo
  have I3:=I2.kept (t':=tk) (h':=h'.push fo) (fun b o e=>zcf7 _ e)
  generalize hH3:upd (upd H1 T (.tbl (#[]++#[rawInt lpos.line,rawInt lpos.col,.ref c']))) c' (.frz oc (.own c'))=H3 at I3
  have at1:∀ b o,b≠T->H1 b=some o->H3 b=some o:=fun b o n e=>by rw[← hH3,zb4 (za5 e fc),zb4 n];exact e
  have none1:∀ b,H3 b=none->H1 b=none:=fun b e=>by
   by_cases z:b=T
   ·subst z;rw[← hH3,zb4 nT.symm,zb1] at e;cases e
   ·cases e1:H1 b with
    | none=>rfl
    | some o=>rw[at1 b o z e1] at e;cases e
  have tb3:zj7 T lpos.line lpos.col (X.env.qual++"<lambda>") H3:=⟨_,by rw[← hH3,zb4 nT.symm,zb1,Array.empty_append],.inr ⟨c',oc,vs,t0,rfl,by rw[← hH3,zb1],ed,ev⟩⟩
  have sq3:SqL X.K H3 a (bs.map V.ref):=by
   rcases h1 with h1|h1
   ·rcases h1 with h1|⟨o,h1⟩
    ·exact .inl (.inl (at1 _ _ (fun z=>by rw[z,hT] at h1;cases h1) h1))
    ·exact .inl (.inr ⟨o,at1 _ _ (fun z=>by rw[z,hT] at h1;cases h1) h1⟩)
   ·exact .inr h1
  refine kws_nil ?_
  subst hF
  refine zav4 (c':=c') (cA:=cA) (hv:=hv) (th:=th) hr I3 (zch5 _ rfl) ⟨c',oc,vs,t0,rfl,zcf7 _ hoc,ed,ev⟩ (fun u=>hb _ _ _ u) s1 s2 s3 s4 s5 s6 s7 hms ?_ hcL sq3 h2 h3 (fun j b k e1 e2=>?_) fun p H' ps n1 n2 n3 n4 n5=>?_
  ·obtain⟨o,q1,q2⟩:=hcell
   exact⟨o,zcf7 _ (hx _ _ (fun z=>by rw[z,hTs] at q1;cases q1;cases q2) q1),q2⟩
  ·obtain⟨l,v,ns,a1,a2,a3⟩:=h4 j b k e1 e2
   exact⟨l,v,ns,at1 _ _ (fun z=>by rw[z,hT] at a1;cases a1) a1,at1 _ _ (fun z=>by rw[z,hT] at a2;cases a2) a2,a3⟩
  ·exact h5 p H' ps (none1 p n1) (fun b o nb e=>n2 b o (at1 b o nb e)) (tb3.same n2) n3 n4 n5
 ·have hcs:s1'.heap.get? c0=some oc:=(I1.hok c0 _ ec).1
  refine PySem.W.kla_makeFunctionHit (mg:=X.mg) (cv:=.ref c0) hcl I1.ok.glob gl hcode hCs hTs ?_ ?_ hBT fun ctv h' tk hk hsz=>?_
  ·simp[TriplesOk,rawInt]
  ·simp[codeAmong,rawInt]
  ·generalize hF:({ cls:=.type "function",data:=.func (PySem.W.kla_fn "<lambda>" (X.env.qual++"<lambda>") la _ lsc [(("hosts":Str),cA)] ((X.mg "__name__").getD .none) (.ref c0) ctv) }:Obj)=fo
   have I3:=I1.kept (t':=tk) (h':=h'.push fo) (fun b o e=>zcf7 _ (hk b o e))
   refine kws_nil ?_
   subst hF
   refine zav4 (c':=c0) (cA:=cA) (hv:=hv) (th:=th) hr I3 (zch5 _ rfl) ⟨c0,oc,vs,t0,rfl,zcf7 _ (hk _ _ hcs),ed,ev⟩ (fun u=>hb _ _ _ u) s1 s2 s3 s4 s5 s6 s7 hms ?_ hcL h1 h2 h3 h4 fun p H' ps n1 n2 n3 n4 n5=>?_
   ·obtain⟨o,q1,q2⟩:=hcell
    exact⟨o,zcf7 _ (hk _ _ q1),q2⟩
   ·have tb:zj7 T lpos.line lpos.col (X.env.qual++"<lambda>") H1:=⟨_,hT,.inr ⟨c0,oc,vs,t0,rfl,ec,ed,ev⟩⟩
    exact h5 p H' ps n1 (fun b o _ e=>n2 b o e) (tb.same n2) n3 n4 n5
theorem soK_rd{ln co:Nat}{hv:Int}{a:Addr}{Q:VK}{bs:List Addr}{kz:List Int}(h1:H a=some (.lst (bs.map V.ref)))(h2:bs.length<64)(h3:kz.length=bs.length)(h4:∀ (i:Nat) b k,bs[i]?=some b->kz[i]?=some k->∃ l v ns,H b=some (.tup [.ref l,v])/\H l=some (.lst (List.map V.int ns))/\k=hv - ns.sum)(h5:zj7 T ln co qual H)(q:∀ p H' (ps:List (Int×Addr)),H p=none->Chg T H H'->zj7 T ln co qual H'->ps.Perm (kz.zip bs)->ps.Pairwise (fun x y=>x.1<=y.1)->H' p=some (.lst (ps.map fun x=>V.ref x.2))->Q (.ref p) H') :
  rSoK K T ln co qual hv a H Q:=by unfold rSoK;exact⟨bs,kz,SqL.of h1,h2,h3,h4,h5,q⟩
end
section
variable {P:Program}{w:World}{K:zcf5}{mg:Str->Option Value}{base:Heap}
theorem Fun.okRC{x:Str}{st:Stmt}{f c:Addr}{fd:FuncData}{N ps:List Str}{k:Nat}{sp:Sp}(F:Fun K x qual st f fd)(hc:fd.code=.ref c)(S:zb7 N ps (za7 st))(len:∀ vs H Q E,sp vs H Q E->vs.length=ps.length)(hbody:∀ (A:Around) (outer:List Env) (s:Shared) (H:Hp) (vs:List V) (Q:VK) (E:XK),Room k (A.deeper (envOfC qual (za7 st) s.heap.objs.size f (.ref c)))->XOut (cxOf (CXR P w) P w K mg base N qual (za7 st) f (.ref c) A outer s H E) E->sp vs H Q E ->
   ∃ t,PSs (cxOf (CXR P w) P w K mg base N qual (za7 st) f (.ref c) A outer s H E) (zj0 st) t/\t { nx:=fun _ H'=>Q .non H',rt:=Q } (zad9 N vs) H):FnOk P w K mg base (CXR P w) (k+1) f fd ps sp:=by
 obtain⟨oc,od,kV,doc,pm,an,cdv,ct,osl,rfl,lk,hcd⟩:=F.ex
 have:cdv=.ref c:=hc
 subst this
 refine fn_of lk hcd S len fun A outer s H vs Q E hr hsp=>?_
 exact hbody A outer s H vs Q E hr xout hsp
end
theorem zbe7{P:Program}{w:World}{K:zcf5}{mg mb:Str->Option Value}{CX:CXT}{k:Nat}{fa a c:Addr}{fd:FuncData}{x:Str}{sp:Sp}{s₁:Shared}{ns:List Int}(KX:K.In s₁.heap)(hnt:PySem.W.noTabs K=true)(hns:s₁.heap.Ns zcq2 mg)(hb:s₁.heap.Ns builtinsNs mb)(hbb:∀ x:Str,x≠"__name__"->mb x=bootBuiltins x)(hlim:s₁.heap.NoLimit)(hg:s₁.gens=#[])(hC:PySem.W.CodeHd s₁.heap c T)(hT:s₁.heap.get? T=some (PySem.W.tabObj #[]))(hB:Bm mg s₁.heap)(ha:s₁.heap.get? a=some { cls:=.type "list",data:=.seq vs.toArray })(hi:IntsAre vs ns)(hl:ns.length<=sizeLine)(hr:Room k callerA)(F:∀ base:Heap,K.In base->base.Ns zcq2 mg->PySem.W.CodeHd base c T->Bm mg base->FnOk P w K mg base CX k fa fd [x] sp)(hbind:∀ (s:Shared) (u:Value),BindsTo s fd ⟨[u],[]⟩ [(x,u)])(hsp:∀ H:Hp,H T=some (.tbl #[])->SqL K H a (ns.map V.int)->sp [.ref a] H (fun v _=>v=.bl true) fun _ _ _=>False)(hCX:∀ H e s',CX [] H s₁ (fun _ _ _=>False) e s'->False) :
  codeAny (model P w) callerA (.call (.ref fa) ⟨[.ref a],[]⟩) (fun r s'=>r=.ok (.ret (.bool true))/\OldK s₁.heap s'.heap/\s'.os=s₁.os/\AllBare s'.gens) s₁:=by
 have rv:=zaj6 hi
 have lenV:=hi.length
 have hKT:K.lookup T=none:=by
  cases e:K.lookup T with
  | none=>rfl
  | some o=>
   have e1:=KX T o e
   rw[hT] at e1;cases e1
   have h2:=zcg8.mp hnt _ (PySem.W.mem_of_lookupK e)
   exact absurd (show false=true from h2) zcg3
 have haT:a≠T:=fun z=>by rw[z,hT] at ha;cases ha
 have core:∀ H:Hp,H T=some (.tbl #[])->(∀ b,b=T∨H b=none∨∃ o xs,H b=some (.frz o (.lst xs)))->SqL K H a (ns.map V.int)->HOk P w H s₁.heap->(∀ b,H b≠none->b=a∨b=T)->(H a≠none->K.lookup a=none) ->
   codeAny (model P w) callerA (.call (.ref fa) ⟨[.ref a],[]⟩) (fun r s'=>r=.ok (.ret (.bool true))/\OldK s₁.heap s'.heap/\s'.os=s₁.os/\AllBare s'.gens) s₁:=by
  intro H hHT hO hS hok hA hK
  have base_of:∀ {b:Addr}{o:Obj},s₁.heap.get? b=some o->H b=none->(hidT s₁.heap H).get? b=some o:=fun e n=>zbo3 e n
  have noF:∀ {b:Addr}{o:Obj},s₁.heap.get? b=some o->(∀ xs n,o.data≠.seq xs n)->o≠PySem.W.tabObj #[]->H b=none:=fun {b o} e d1 d2=>by
   cases q:H b with
   | none=>rfl
   | some u=>
    rcases hA b (by rw[q];simp) with e' | e'
    ·subst e'
     rw[ha] at e;cases e
     exact absurd rfl (d1 _ _)
    ·subst e'
     rw[hT] at e;cases e
     exact absurd rfl d2
  have nsK:∀ {b:Addr}{m:Str->Option Value},s₁.heap.Ns b m->(hidT s₁.heap H).Ns b m:=fun {b m} ⟨o,es,ep,e,d,r⟩=>⟨o,es,ep,base_of e (noF e (fun _ _ z=>by rw[d] at z;cases z) (fun z=>by rw[z] at d;cases d)),d,r⟩
  have hKb:K.In (hidT s₁.heap H):=fun b o e=>base_of (KX b o e) (by
   cases q:H b with
   | none=>rfl
   | some u=>
    rcases hA b (by rw[q];simp) with e' | e'
    ·subst e'
     rw[hK (by rw[q];simp)] at e;cases e
    ·subst e'
     rw[hKT] at e;cases e)
  have hM:Mod K mg (hidT s₁.heap H):=⟨hKb,nsK hns,⟨mb,nsK hb,hbb⟩,let ⟨mc,h1,h2⟩:=hlim;⟨mc,nsK h1,h2⟩⟩
  have hCb:PySem.W.CodeHd (hidT s₁.heap H) c T:=by
   obtain⟨o,vs,file,tf,flags,tg,inF,text,tt,e1,r1,r2,r⟩:=hC
   exact⟨o,vs,file,tf,flags,tg,inF,text,tt,base_of e1 (noF e1 (fun _ _ z=>by rw[r2] at z;cases z) (fun z=>by rw[z] at r1;cases r1)),r1,r2,r⟩
  have hBb:Bm mg (hidT s₁.heap H):=by
   obtain⟨bm,ob,b1,b2,b3,b4,b5,b6⟩:=hB
   exact⟨bm,ob,b1,b2,base_of b3 (noF b3 (fun _ _ z=>by rw[b6] at z;cases z) (fun z=>by rw[z] at b4;cases b4)),b4,b5,b6⟩
  have e0:Env0 P w K mg (hidT s₁.heap H) callerA [] s₁ H:=⟨rfl,hM,fun b o e=>zbv9 e,Nat.le_of_eq (zbe1 _ _),trivial,fun b hb=>absurd (show b∈([]:List Addr) from hb) (by simp),hok,.of_eq hg⟩
  refine codeAny_mono ((F _ hKb (nsK hns) hCb hBb).run callerA [] s₁ H ⟨[.ref a],[]⟩ [.ref a] [.ref a] _ _ hr e0 (hbind s₁ (.ref a)) (.cons rfl .nil) (hsp H hHT hS)) fun r s' h=>?_
  cases r with
  | error e=>exact (hCX H e s' h).elim
  | ok fl=>
   cases fl with
   | next=>exact False.elim h
   | brk=>exact False.elim h
   | cont=>exact False.elim h
   | ret u=>
    obtain⟨v,H',os,bare,un,hok',r',q⟩:=h
    have q':v=.bl true:=q
    subst q'
    obtain rfl:u=Value.bool true:=r'
    obtain⟨more,eT⟩:=un.tbls T _ hHT
    have eT2:s'.heap.get? T=some (PySem.W.tabObj (#[]++more)):=hok' T _ eT
    have keep:∀ b o,b≠T->s₁.heap.get? b=some o->s'.heap.get? b=some o:=fun b o nb e=>by
     cases q:H b with
     | none=>exact un.keep b o e q (by intro z;exact absurd (show b∈([]:List Addr) from z) (by simp)) (by simp)
     | some u=>
      rcases hO b with z|z|⟨ob,xs,z⟩
      ·exact absurd z nb
      ·rw[q] at z;cases z
      ·have z2:=un.frzs b ob _ z
       obtain⟨e1,_⟩:=hok b _ z
       obtain⟨e2,_⟩:=hok' b _ z2
       rw[e] at e1;cases e1
       exact e2
    refine⟨rfl,⟨fun b o e=>?_,fun b o e=>?_⟩,os,bare⟩
    ·by_cases hb:b=T
     ·subst hb
      rw[hT] at e;cases e
      exact .inr (.inl ⟨(hC.tab hT).isCodeTable,rfl,#[],more,rfl,eT2⟩)
     ·exact .inl (keep b o hb e)
    ·by_cases hb:b=T
     ·subst hb;exact⟨_,eT2⟩
     ·exact⟨o,keep b o hb e⟩
 cases hk:K.lookup a with
 | some o=>
  have e:=KX a o hk
  rw[ha] at e
  cases e
  refine core (fun b=>if b=T then some (.tbl #[]) else none) (if_pos rfl) (fun b=>?_) (.inr ⟨_,vs.toArray,_,hk,rfl,rfl,rfl,by rw[zcg1,lenV];exact hl,by simpa using rv⟩) (fun b u z=>?_) (fun b z=>?_) fun z=>absurd (if_neg haT) z
  ·by_cases hb:b=T
   ·exact .inl hb
   ·exact .inr (.inl (if_neg hb))
  ·by_cases hb:b=T
   ·have z':=(if_pos hb).symm.trans z
    cases z'
    subst hb
    exact hT
   ·have z':=(if_neg hb).symm.trans z
    cases z'
  ·by_cases hb:b=T
   ·exact .inr hb
   ·exact absurd (if_neg hb) z
 | none=>
  refine core (fun b=>if b=T then some (.tbl #[]) else if b=a then some (.frz { cls:=.type "list",data:=.seq vs.toArray } (.lst (ns.map V.int))) else none) (if_pos rfl) (fun b=>?_) (.inl (.inr ⟨{ cls:=.type "list",data:=.seq vs.toArray },(if_neg haT).trans (if_pos rfl)⟩)) (fun b u z=>?_) (fun b z=>?_) fun _=>hk
  ·by_cases hb:b=T
   ·exact .inl hb
   ·by_cases hb2:b=a
    ·exact .inr (.inr ⟨_,_,(if_neg hb).trans (if_pos hb2)⟩)
    ·exact .inr (.inl ((if_neg hb).trans (if_neg hb2)))
  ·by_cases hb:b=T
   ·have z':=(if_pos hb).symm.trans z
    cases z'
    subst hb
    exact hT
   ·have z':=(if_neg hb).symm.trans z
    by_cases hb2:b=a
    ·have z'':=(if_pos hb2).symm.trans z'
     cases z''
     subst hb2
     exact⟨ha,by rw[zcf4];exact hl,vs,_,rv,ha⟩
    ·have z'':=(if_neg hb2).symm.trans z'
     cases z''
  ·by_cases hb:b=T
   ·exact .inr hb
   ·by_cases hb2:b=a
    ·exact .inl hb2
    ·exact absurd ((if_neg hb).trans (if_neg hb2)) z
theorem walk_ofT{l:PySem.W.OpenLaw}{n k:Nat}{q:Program}{loose:List Str}{XP:(Str->Option Value)->Heap->Prop}{YP:World->Heap->Prop}{d d9:DefRec}{K:Params->zcf5}{CX:World->CXT}{sp:World->Addr->Sp}{x:Str}(hn:l.most=some n)(hn2:n<=sizeLine)(hdf:d.params.defaults=[])(hr:Room k callerA)(hY:∀ (w:World) (h:Heap),YP w h->(K w.params).In h)(xx:Str)(hnt:∀ w:World,PySem.W.noTabs (K w.params)=true)(hrec:(recsOf q).find? (fun e=>e.name==xx)=some d9)(F:∀ (w:World) (mg:Str->Option Value) (fa:Addr) (h:Heap),(K w.params).In h->h.Ns zcq2 mg->mg d.name=some (.ref fa) ->
   ∃ (c T:Addr) (fd:FuncData),zcp5 (K w.params) xx=some (c,T)/\(∀ (s:Shared) (u:Value),BindsTo s fd ⟨[u],[]⟩ [(x,u)]) /\
    ∀ base:Heap,(K w.params).In base->base.Ns zcq2 mg->PySem.W.CodeHd base c T->Bm mg base->FnOk l.prog w (K w.params) mg base (CX w) k fa fd [x] (sp w T))(hsp:∀ (w:World) (T:Addr) (H:Hp) (a:Addr) (ns:List Int),ns.length<=n->H T=some (.tbl #[])->SqL (K w.params) H a (ns.map V.int)->sp w T [.ref a] H (fun v _=>v=.bl true) fun _ _ _=>False)(hCX:∀ (w:World) (H:Hp) (s:Shared) (e:Value) (s':Shared),CX w [] H s (fun _ _ _=>False) e s'->False) :
  PySem.W.WalkO q loose XP YP l.row.toRowW d [] (fun f vs=>PySem.call f vs):=by
 refine Att.attach_call hn hdf fun w s₀ s₁ mg mb fa o pm cd doc a vs ns G Y ho hd hcd hmg hobj hints hlen hg=>?_
 have KX:=hY w _ Y
 obtain⟨c,T,fd,htab,hb,hF⟩:=F w mg fa _ KX G.T.g hmg
 obtain⟨hC,hT⟩:=PySem.W.tab_of G.T KX hrec htab
 exact zbe7 KX (hnt w) G.T.g G.T.b G.T.builtins G.T.nolimit hg hC hT G.T.bmain hobj hints (zcj5 hlen hn2) hr hF hb (fun H hO hS=>hsp w T H a ns hlen hO hS) fun H e s'=>hCX w H s₁ e s'
theorem zbq3{K:zcf5}{x:Str}{c f:Addr}{oc:Value}{od:Option Addr}{fd:FuncData}{sl:Array (Option Value)}(hT:zcp5 K x=some (c,T))(a:zcj4 K zcq2 x=some (some (.ref f)))(l:K.lookup f=some ⟨oc,od,.func fd,sl⟩):fd.code=.ref c:=by
 unfold zcp5 at hT
 rw[a] at hT
 dsimp only at hT
 rw[l] at hT
 dsimp only at hT
 split at hT
 ·rename_i c2 e
  split at hT
  ·split at hT
   ·cases hT;exact e
   ·cases hT
  ·cases hT
 ·cases hT
end L2
set_option maxHeartbeats 1000000
set_option maxHeartbeats 0
namespace G
local macro_rules | `(tactic| eq_refl)=>`(tactic| first|exact Or.inl rfl|exact Or.inr rfl)
local macro_rules | `(tactic| ac_rfl)=>`(tactic| exact⟨rfl,rfl,rfl,by decide +kernel,rfl,by decide +kernel,by decide +kernel⟩)
open PySem L2
variable {H H':Hp}{Q:VK}{E:XK}{T f m:Addr}{fd:FuncData}{h l:Int}{ds:List PyData}{i:Nat}{ts:List (Addr×Addr)}{ms:List (List Int×Int)}{o:HO}{xs:List (Int×Int×Int)}{rs:List (Addr×List Addr)}{xss:List (List (Int×Int×Int))}{X:Cx}
def top(i:Nat):Stmt:=PySem.Challenge.pw_hostfields_k24_streams_refused.main.body.getD i (.Pass ⟨0,0,0,0⟩)
abbrev zv9:Stmt:=top 10
theorem zao6:zb7 ["thing"] ["thing"] (za7 zv9):=by ac_rfl
abbrev zz1:Stmt:=top 11
theorem zax8:zb7 ["thing","least"] ["thing","least"] (za7 zz1):=by ac_rfl
abbrev zq2:Stmt:=top 12
theorem zai7:zb7 ["thing","least","most"] ["thing","least","most"] (za7 zq2):=by ac_rfl
abbrev zaa0:Stmt:=top 16
theorem zay6:zb7 ["hosts","fields"] ["hosts","fields"] (za7 zaa0):=by ac_rfl
abbrev zr8:Stmt:=top 18
theorem zp7:zb7 ["hosts","fields","stream","comes_full","goes_empty"] ["hosts","fields","stream"] (za7 zr8):=by ac_rfl
abbrev zag2:Stmt:=top 19
theorem zbj3:zb7 ["stream"] ["stream"] (za7 zag2):=by ac_rfl
abbrev zai4:Stmt:=top 20
theorem zbb6:zb7 ["row"] ["row"] (za7 zai4):=by ac_rfl
abbrev zaa7:Stmt:=top 21
theorem zax4:zb7 ["thing"] ["thing"] (za7 zaa7):=by ac_rfl
abbrev zar1:Stmt:=top 22
theorem zau5:zb7 ["ahead","row","leaving"] ["ahead","row"] (za7 zar1):=by ac_rfl
abbrev zag7:Stmt:=top 23
theorem zu2:zb7 ["pairs","sums","key","amount"] ["pairs"] (za7 zag7):=by ac_rfl
abbrev zw3:Stmt:=top 24
theorem zao3:zb7 ["stream"] ["stream"] (za7 zw3):=by ac_rfl
abbrev zl4:Stmt:=top 25
theorem zy4:zb7 ["stream"] ["stream"] (za7 zl4):=by ac_rfl
abbrev zo6:Stmt:=top 26
theorem zad2:zb7 ["stream"] ["stream"] (za7 zo6):=by ac_rfl
abbrev zw0:Stmt:=top 27
theorem zap3:zb7 ["stream"] ["stream"] (za7 zw0):=by ac_rfl
abbrev zn9:Stmt:=top 28
theorem zg9:zb7 ["stream","hosts","begun","row"] ["stream"] (za7 zn9):=by ac_rfl
abbrev zab9:Stmt:=top 29
theorem zd9:zb7 ["begun","row","told","place","used","plan","weight","rest","taken"] ["begun","row"] (za7 zab9):=by ac_rfl
abbrev zs6:Stmt:=top 30
theorem zan1:zb7 ["stream"] ["stream"] (za7 zs6):=by ac_rfl
abbrev zp6:Stmt:=top 31
theorem zu5:zb7 ["hosts","row","flows"] ["hosts","row"] (za7 zp6):=by ac_rfl
abbrev zx1:Stmt:=top 33
theorem zz6:zb7 ["_law_number","_law_k","_law_mixed"] ["_law_number","_law_k"] (za7 zx1):=by ac_rfl
abbrev zm9:Stmt:=top 34
theorem zab2:zb7 ["_law_script","_law_k"] ["_law_script","_law_k"] (za7 zm9):=by ac_rfl
abbrev zs5:Stmt:=top 35
theorem zy1:zb7 ["_law_script","_law_k","_law_cell"] ["_law_script","_law_k"] (za7 zs5):=by ac_rfl
abbrev zs2:Stmt:=top 36
theorem zq5:zb7 ["_law_left_here","_law_base","_law_mixed","_law_digit"] ["_law_left_here","_law_base"] (za7 zs2):=by ac_rfl
abbrev zs0:Stmt:=top 37
theorem zh6:zb7 ["_law_left_here","_law_hosts","_law_many","_law_plan_here","_law_rest","_law_k","_law_at"] ["_law_left_here","_law_hosts","_law_many"] (za7 zs0):=by ac_rfl
abbrev zv5:Stmt:=top 38
theorem zi7:zb7 ["_law_left_here","_law_most","_law_fields","_law_parts","_law_hosts","_law_many","_law_mix_here","_law_k","_law_weight"] ["_law_left_here","_law_most","_law_fields","_law_parts"] (za7 zv5):=by ac_rfl
abbrev zq3:Stmt:=top 39
theorem zg4:zb7 ["_law_mix_here","_law_flows_here","_law_plan_here","_law_weight","_law_k","_law_spot"] ["_law_mix_here"] (za7 zq3):=by ac_rfl
abbrev zq6:Stmt:=top 40
theorem zah9:zb7 ["_law_thing"] ["_law_thing"] (za7 zq6):=by ac_rfl
abbrev zo8:Stmt:=top 41
theorem zn0:zb7 ["_law_row","_law_hosts","_law_part","_law_spots"] ["_law_row","_law_hosts"] (za7 zo8):=by ac_rfl
abbrev zk1:Stmt:=top 42
theorem zc0:zb7 ["_law_hosts","_law_many","_law_stream","_law_come","_law_k","_law_taken","_law_gone","_law_rest","_law_sent","_law_flow"] ["_law_hosts","_law_many","_law_stream"] (za7 zk1):=by ac_rfl
abbrev zs1:Stmt:=top 43
theorem zan3:zb7 ["_law_stream"] ["_law_stream"] (za7 zs1):=by ac_rfl
abbrev zr9:Stmt:=top 44
theorem zc4:zb7 ["_law_left_here","_law_stream","_law_at","_law_choice","_law_k","_law_rest","_law_sent","_law_flow","_law_parts","_law_part","_law_row"] ["_law_left_here","_law_stream"] (za7 zr9):=by ac_rfl
abbrev zo7:Stmt:=top 45
theorem zad3:zb7 ["_law_stream"] ["_law_stream"] (za7 zo7):=by ac_rfl
abbrev zm8:Stmt:=top 46
theorem zl6:zb7 ["_law_stream","_law_which","_law_caught","e"] ["_law_stream","_law_which"] (za7 zm8):=by ac_rfl
abbrev zaq1:Stmt:=top 47
theorem zaf2:zb7 ["_law_script","_law_cell","_law_left_here","_law_stream","_law_handed","_law_due"] ["_law_script"] (za7 zaq1):=by ac_rfl
theorem nb_0:(["thing"]:List Str).Nodup:=by decide +kernel
theorem nb_1:(["one","other"]:List Str).Nodup:=by decide +kernel
theorem nb_2:(["left","sent","flow"]:List Str).Nodup:=by decide +kernel
theorem nb_3:(["row"]:List Str).Nodup:=by decide +kernel
theorem nb_4:(["left","sent","flow","hosts"]:List Str).Nodup:=by decide +kernel
theorem nb_5:(["left","sent","flow"]:List Str).Nodup:=by decide +kernel
theorem nb_6:(["ahead","row"]:List Str).Nodup:=by decide +kernel
theorem nb_7:(["left","sent","flow"]:List Str).Nodup:=by decide +kernel
theorem nb_8:(["left","sent","flow"]:List Str).Nodup:=by decide +kernel
theorem nb_9:(["count","flows"]:List Str).Nodup:=by decide +kernel
theorem nb_10:(["row","stream"]:List Str).Nodup:=by decide +kernel
theorem nb_11:(["_law_place"]:List Str).Nodup:=by decide +kernel
theorem nb_12:(["_law_flow"]:List Str).Nodup:=by decide +kernel
theorem nb_13:(["_law_rest","_law_sent","_law_flow"]:List Str).Nodup:=by decide +kernel
theorem nb_14:(["_law_one"]:List Str).Nodup:=by decide +kernel
theorem nb_15:(["_law_part"]:List Str).Nodup:=by decide +kernel
theorem nb_16:(["_law_row"]:List Str).Nodup:=by decide +kernel
theorem nb_17:(["_law_which","_law_handed"]:List Str).Nodup:=by decide +kernel
structure Cz(K:zcf5)(mg:Str->Option Value)(base:Heap)(zca3 zca4 zca7 zcb3 zca1 zca8 zca6 zca5:Addr):Prop where
 g_HostError:mg "HostError"=some (.ref zca3)
 g_NoBattle:mg "NoBattle"=some (.ref zca4)
 g_NoPlan:mg "NoPlan"=some (.ref zca7)
 g_NoMix:mg "NoMix"=some (.ref zcb3)
 g_NoStream:mg "NoStream"=some (.ref zca1)
 g_NoSide:mg "NoSide"=some (.ref zca8)
 g_NoAlike:mg "NoAlike"=some (.ref zca6)
 g_NoNumber:mg "NoNumber"=some (.ref zca5)
 o_NoStream:PyProof.Rows.OwnCls "NoStream" zca1 bmV newV mg base
 k_NoStream:ExcK K zca1
 c_NoStream:(zcl3 K zca1).isSome=true
 m_NoStream:PySem.W.exmOne K (.ref zca1) (.ref zca3)=some true
 v_NoStream:zch8 K (.ref zca1) (.type "ValueError")=some true
 i_NoStream_HostError:zch8 K (.ref zca1) (.ref zca3)=some true
 i_NoStream_NoBattle:zch8 K (.ref zca1) (.ref zca4)=some false
 i_NoStream_NoPlan:zch8 K (.ref zca1) (.ref zca7)=some false
 i_NoStream_NoMix:zch8 K (.ref zca1) (.ref zcb3)=some false
 i_NoStream_NoStream:zch8 K (.ref zca1) (.ref zca1)=some true
 i_NoStream_NoSide:zch8 K (.ref zca1) (.ref zca8)=some false
 i_NoStream_NoAlike:zch8 K (.ref zca1) (.ref zca6)=some false
 i_NoStream_NoNumber:zch8 K (.ref zca1) (.ref zca5)=some false
 n_HostError:zch8 K (.type "NoneType") (.ref zca3)=some false
 n_NoBattle:zch8 K (.type "NoneType") (.ref zca4)=some false
 n_NoPlan:zch8 K (.type "NoneType") (.ref zca7)=some false
 n_NoMix:zch8 K (.type "NoneType") (.ref zcb3)=some false
 n_NoStream:zch8 K (.type "NoneType") (.ref zca1)=some false
 n_NoSide:zch8 K (.type "NoneType") (.ref zca8)=some false
 n_NoAlike:zch8 K (.type "NoneType") (.ref zca6)=some false
 n_NoNumber:zch8 K (.type "NoneType") (.ref zca5)=some false
structure Nm(mg:Str->Option Value):Prop where
 ValueError_:mg "ValueError"=none
 all_:mg "all"=none
 bool_:mg "bool"=none
 int_:mg "int"=none
 isinstance_:mg "isinstance"=none
 len_:mg "len"=none
 list_:mg "list"=none
 min_:mg "min"=none
 range_:mg "range"=none
 set_:mg "set"=none
 sorted_:mg "sorted"=none
 sum_:mg "sum"=none
 tuple_:mg "tuple"=none
 zip_:mg "zip"=none
local macro_rules | `(tactic| walk_at "hp")=>`(tactic| first|assumption|(refine Same.at (H:=?H) ?s ?e;(case s=>assumption);(case e=>walk_at "hp"))|(refine Chg.at (a:=?a) (H:=?H) ?c ?e ?n;(case c=>assumption);(case n=>walk_at "ne");(case e=>walk_at "hp"))|fail "hp")
local macro_rules | `(tactic| walk_at "ne")=>`(tactic| first|assumption|(apply Ne.symm;assumption)|fail "ne")
local macro_rules | `(tactic| ac_nf)=>`(tactic| (conv=>whnf))
local macro_rules | `(tactic| walk_at "st")=>`(tactic| (conv=>whnf);first
 | refine zbz8 (by omega) (by omega) ?_
 | refine zap4 (by omega) (by omega) ?_
 | refine zaa1 (by omega) (fun r h0 h1=>?_)
 | refine div_rd (by omega) (by omega) ?_
 | (refine zbs4 ⟨by decide,by decide,by decide⟩ ?_;simp only[Int.reduceToNat,Int.reducePow])
 | (refine zj8 (xs:=?xs) (v:=?v) ?hp ?ev ?_;(case hp=>walk_at "hp");(case ev=>rfl))
 | (refine zc2 (xs:=?xs) (v:=?v) ?hp ?ev ?_;(case hp=>walk_at "hp");(case ev=>rfl))
 | refine zd0 (fun p H' hf hs ha=>?_)
 | refine zb2 (fun p H' hf hs ha=>?_)
 | refine zai5 ?_
 | (refine zbb3 (xs:=?xs) ?hp ?_;(case hp=>walk_at "hp"))
 | (refine zbg1 (xs:=?xs) ?hp ?_;(case hp=>walk_at "hp"))
 | (refine zao2 (xs:=?xs) ?hp ?_;(case hp=>walk_at "hp"))
 | (refine zf8 (xs:=?xs) ?hp ?_;(case hp=>walk_at "hp"))
 | refine zah7 ?_
 | refine br_T ?_
 | refine br_F ?_
 | refine zaj7 (by omega) ?_
 | refine zbj7 (by omega) ?_
 | fail "st")
def stp(g:Nat->Nat->Int)(c:Nat):Nat->Nat->Int
 | 0,t=>g 0 t
 | f+1,t=>g (f+1) t+if c<=t then stp g c f (t - c) else 0
def g0(f t:Nat):Int:=if f=0/\t=0 then 1 else 0
def pl(ns:List Nat):List V:=ns.map fun (n:Nat)=>V.int (n:Int)
def il(ns:List Nat):List Int:=ns.map fun (n:Nat)=>(n:Int)
local macro_rules | `(tactic| rfl')=>`(tactic| first|decide|omega)
section
variable {P:Program}{w:World}{K:zcf5}{mg:Str->Option Value}{base:Heap}{zca3:Addr}{zca4:Addr}{zca7:Addr}{zcb3:Addr}{zca1:Addr}{zca8:Addr}{zca6:Addr}{zca5:Addr}{a_tab:Addr}{a_cod:Addr}
def isW:PyData->Bool
 | .int _=>true
 | _=>false
def zm0(l:Int):PyData->Bool
 | .int i=>decide (l<=i)
 | _=>false
def zu4(l m:Int):PyData->Bool
 | .int i=>decide (l<=i/\i<=m)
 | _=>false
theorem zbp3{p q:Prop}[Decidable p][Decidable q](h:p):decide (p/\q)=decide q:=by simp[h]
theorem zbn0{p q:Prop}[Decidable p][Decidable q](h:¬ p):decide (p/\q)=false:=by simp[h]
@[irreducible] def zj2:Sp:=fun vs H Q _=>∃ (v:V) (d:PyData),vs=[v]/\ShV H v d/\Q (.bl (isW d)) H
theorem zbv8{v:V}{d:PyData}(h:ShV H v d)(q:Q (.bl (isW d)) H):zj2 [v] H Q E:=by unfold zj2;exact⟨v,d,rfl,h,q⟩
theorem zar3(F:Fun K "is_whole" "is_whole" zv9 f fd)(N:Nm mg):FnOk P w K mg base CX0 1 f fd ["thing"] zj2:=by
 refine F.ok zao6 (fun vs H Q E h=>by unfold zj2 at h;obtain⟨_,_,rfl,_⟩:=h;rfl) fun _ _ _ s H vs Q E hr h=>?_
 unfold zj2 at h
 obtain⟨v,d,rfl,h,q⟩:=h
 refine⟨_,(za6 (zb6 (zx3 (pB (zw7 (K:=K) rfl) N.isinstance_ zb3 (za0 (pq 0) (za0 (pTy N.int_ zx9) za1))) (zt2 (peNot (pB (zw7 (K:=K) rfl) N.isinstance_ zb3 (za0 (pq 0) (za0 (pTy N.bool_ zbh7) za1)))))))),?_⟩
 refine zi2 h (.inl rfl) ?_
 cases h
 case int i=>
  refine br_T ?_
  refine zai5 ?_
  ac_nf
  exact q
 case bl b=>
  refine br_T ?_
  refine zah7 ?_
  ac_nf
  exact q
 all_goals (ac_nf;refine br_F ?_;ac_nf;exact q)
@[irreducible] def zi6:Sp:=fun vs H Q _=>∃ (v:V) (d:PyData) (l:Int),vs=[v,.int l]/\ShV H v d/\Q (.bl (zm0 l d)) H
theorem zaq7{v:V}{d:PyData}(h:ShV H v d)(q:Q (.bl (zm0 l d)) H):zi6 [v,.int l] H Q E:=by unfold zi6;exact⟨v,d,l,rfl,h,q⟩
theorem zaz1(F:Fun K "is_from" "is_from" zz1 f fd)(N:Nm mg)(zcd6:Def P w K mg base CX0 1 "is_whole" ["thing"] zj2):FnOk P w K mg base CX0 2 f fd ["thing","least"] zi6:=by
 refine F.ok zax8 (fun vs H Q E h=>by unfold zi6 at h;obtain⟨_,_,_,rfl,_⟩:=h;rfl) fun _ _ _ s H vs Q E hr h=>?_
 unfold zi6 at h
 obtain⟨v,d,l,rfl,h,q⟩:=h
 refine⟨_,(za6 (zb6 (zx3 (pD zcd6 hr zc5 (za0 (pq 0) za1)) (zt2 (peC oLe (pq 1) (pq 0)))))),?_⟩
 refine zbv8 h ?_
 cases h
 case int i=>
  refine br_T ?_
  ac_nf
  exact q
 all_goals (ac_nf;refine br_F ?_;ac_nf;exact q)
@[irreducible] def ze1:Sp:=fun vs H Q _=>∃ (v:V) (d:PyData) (l m:Int),vs=[v,.int l,.int m]/\ShV H v d/\Q (.bl (zu4 l m d)) H
theorem zbc2{v:V}{d:PyData}{m:Int}(h:ShV H v d)(q:Q (.bl (zu4 l m d)) H):ze1 [v,.int l,.int m] H Q E:=by unfold ze1;exact⟨v,d,l,m,rfl,h,q⟩
theorem zbr7{i m:Int}(q:Q (.bl (decide (l<=i/\i<=m))) H):ze1 [.int i,.int l,.int m] H Q E:=zbc2 (.int i) q
theorem zah6(F:Fun K "is_between" "is_between" zq2 f fd)(N:Nm mg)(zcb5:Def P w K mg base CX0 2 "is_from" ["thing","least"] zi6):FnOk P w K mg base CX0 3 f fd ["thing","least","most"] ze1:=by
 refine F.ok zai7 (fun vs H Q E h=>by unfold ze1 at h;obtain⟨_,_,_,_,rfl,_⟩:=h;rfl) fun _ _ _ s H vs Q E hr h=>?_
 unfold ze1 at h
 obtain⟨v,d,l,m,rfl,h,q⟩:=h
 refine⟨_,(za6 (zb6 (zx3 (pD zcb5 hr zc5 (za0 (pq 0) (za0 (pq 1) za1))) (zt2 (peC oLe (pq 0) (pq 2)))))),?_⟩
 refine zaq7 h ?_
 cases h
 case int i=>
  have q:Q (.bl (decide (l<=i/\i<=m))) H:=q
  refine ze6 (fun h=>?_) (fun h=>?_)
  ·ac_nf
   rw[zbp3 h] at q
   exact q
  ·ac_nf
   rw[zbn0 h] at q
   exact q
 all_goals (ac_nf;refine br_F ?_;ac_nf;exact q)
def za8:PyData->List PyData
 | .list ds=>ds
 | _=>[]
def intD:PyData->Int
 | .int i=>i
 | _=>0
theorem zq0{d:PyData}(h:zm0 l d=true):∃ i:Int,d=.int i/\l<=i:=by
 cases d with
 | int i=>exact⟨i,rfl,of_decide_eq_true h⟩
 | _=>simp[zm0] at h
theorem zo1(h:sml (.list ds)=true):ds.length<=1000/\∀ d∈ds,sml d=true:=by
 simp only[sml,zcg4,decide_eq_true_eq] at h
 exact⟨h.1,zaf3 h.2⟩
theorem zae8(g:PyData->Bool):(List.range ds.length).map (fun i=>V.bl (g (ds.getD i .none)))=(ds.map g).map V.bl:=by
 apply zco8
 intro i
 rw[zcf9,zcf9,zcf9]
 by_cases h:i<ds.length
 ·rw[zcn8 h,zcf3 h]
  simp[h]
 ·rw[zck2 (by simp;omega),zck2 (by rfl')]
  rfl
theorem zav8(g:PyData->Bool):(ds.map g).all id=ds.all g:=by rw[zcp3];rfl
theorem zbw4{xs:List V}(l:ShL H xs ds)(e:xs.length=2):∃ x y a b,xs=[x,y]/\ds=[a,b]/\ShV H x a/\ShV H y b:=by
 cases l with
 | nil=>simp at e
 | cons h1 l=>
  cases l with
  | nil=>simp at e
  | cons h2 l=>
   cases l with
   | nil=>exact⟨_,_,_,_,rfl,rfl,h1,h2⟩
   | cons _ _=>simp at e
def zad7(h f:Int):Bool:=decide (0<=h/\h<=40)&&decide (1<=f/\f<=8)
@[irreducible] def zl1:Sp:=fun vs H Q _=>∃ i l:Int,vs=[.int i,.int l]/\Q (.bl (zad7 i l)) H
theorem zbm4{i:Int}(q:Q (.bl (zad7 i l)) H):zl1 [.int i,.int l] H Q E:=by unfold zl1;exact⟨i,l,rfl,q⟩
theorem zaz8(F:Fun K "is_size" "is_size" zaa0 f fd)(N:Nm mg){zcb7:Tok}(c_MOST_FIELDS:mg "MOST_FIELDS"=some (.int 8 zcb7)){zcc0:Tok}(c_MOST_HOSTS:mg "MOST_HOSTS"=some (.int 40 zcc0))(zcb0:Def P w K mg base CX0 3 "is_between" ["thing","least","most"] ze1):FnOk P w K mg base CX0 4 f fd ["hosts","fields"] zl1:=by
 refine F.ok zay6 (fun vs H Q E h=>by unfold zl1 at h;obtain⟨_,_,rfl,_⟩:=h;rfl) fun _ _ _ s H vs Q E hr h=>?_
 unfold zl1 at h
 obtain⟨i,l,rfl,q⟩:=h
 refine⟨_,(za6 (zb6 (zx3 (pD zcb0 hr zc5 (za0 (pq 0) (za0 za2 (za0 (zo2 (v:=.int 40) rfl c_MOST_HOSTS ⟨_,rfl⟩) za1)))) (zt2 (pD zcb0 hr zc5 (za0 (pq 1) (za0 za2 (za0 (zo2 (v:=.int 8) rfl c_MOST_FIELDS ⟨_,rfl⟩) za1)))))))),?_⟩
 refine zbr7 ?_
 ac_nf
 unfold zad7 at q
 refine ze6 (fun h=>?_) (fun h=>?_)
 ·rw[decide_eq_true h,zck0] at q
  refine zbr7 ?_
  ac_nf
  exact q
 ·rw[decide_eq_false h,Bool.false_and] at q
  ac_nf
  exact q
theorem getD_some{d:PyData}(h:ds[i]?=some d):ds.getD i .none=d:=by rw[zcg0,h];rfl
structure zg1(H:Hp)(m:Addr)(ts:List (Addr×Addr))(ms:List (List Int×Int)):Prop where
 out:H m=some (.lst (ts.map fun t=>V.ref t.1))
 len:ts.length=ms.length
 part:∀ (i:Nat) t x,ts[i]?=some t->ms[i]?=some x->H t.1=some (.tup [.ref t.2,.int x.2])/\H t.2=some (.lst (x.1.map V.int))
theorem zg1.same(M:zg1 H m ts ms)(s:Same H H'):zg1 H' m ts ms:=⟨s _ _ M.out,M.len,fun i t x h1 h2=>⟨s _ _ (M.part i t x h1 h2).1,s _ _ (M.part i t x h1 h2).2⟩⟩
theorem zg1.get(M:zg1 H m ts ms)(hi:i<ms.length):∃ t x,ts[i]?=some t/\ms[i]?=some x/\H t.1=some (.tup [.ref t.2,.int x.2])/\H t.2=some (.lst (x.1.map V.int)):=
 ⟨_,_,zcf3 (by have:=M.len;omega),zcf3 hi,M.part i _ _ (zcf3 (by have:=M.len;omega)) (zcf3 hi)⟩
theorem zg1.elt(M:zg1 H m ts ms){v:V}(e:(ts.map fun t=>V.ref t.1)[i]?=some v):∃ t x,v=.ref t.1/\ts[i]?=some t/\ms[i]?=some x/\H t.1=some (.tup [.ref t.2,.int x.2])/\H t.2=some (.lst (x.1.map V.int)):=by
 rw[zcf9] at e
 obtain⟨t,et,rfl⟩:=zcg5.mp e
 obtain⟨t',x,h1,h2,h3⟩:=M.get (i:=i) (by have:=(zcf6.mp et).1;have:=M.len;omega)
 rw[et] at h1
 cases h1
 exact⟨t,x,rfl,et,h2,h3⟩
theorem zg1.ix(M:zg1 H m ts ms){k:Nat}{x:List Int×Int}(e:ms[k]?=some x):∃ t,ts[k]?=some t/\atI (ts.map fun t=>V.ref t.1) (k:Int)=some (.ref t.1)/\H t.1=some (.tup [.ref t.2,.int x.2])/\H t.2=some (.lst (x.1.map V.int)):=by
 obtain⟨t,x',h1,h2,h3⟩:=M.get (i:=k) ((zcf6.mp e).1)
 rw[e] at h2
 cases h2
 exact⟨t,h1,zg8 (by rw[zcf9,h1];rfl),h3⟩
def rm(p:Addr)(H:Hp):Hp:=fun b=>if b=p then none else H b
def nw(H H':Hp):Hp:=fun b=>match H b with
 | none=>H' b
 | some _=>none
theorem zl7{p b:Addr}(n:b≠p)(h:H b=some o):rm p H b=some o:=by unfold rm;rw[if_neg n];exact h
theorem zal0{p b:Addr}(h:rm p H b=some o):b≠p/\H b=some o:=by
 unfold rm at h
 by_cases e:b=p
 ·rw[if_pos e] at h;cases h
 ·rw[if_neg e] at h;exact⟨e,h⟩
theorem zap2{b:Addr}(n:H b=none)(h:H' b=some o):nw H H' b=some o:=by unfold nw;rw[n];exact h
theorem zad4{b:Addr}(h:nw H H' b=some o):H b=none/\H' b=some o:=by
 unfold nw at h
 cases e:H b with
 | none=>rw[e] at h;exact⟨rfl,h⟩
 | some v=>rw[e] at h;cases h
theorem zac4(p:Addr)(H:Hp):Same (rm p H) H:=fun b o h=>(zal0 h).2
theorem zbx5(H H':Hp):Same (nw H H') H':=fun b o h=>(zad4 h).2
theorem Same.rm{p:Addr}{H H':Hp}(s:Same H H'):Same (rm p H) (G.rm p H'):=fun b o h=>zl7 (zal0 h).1 (s _ _ (zal0 h).2)
theorem Chg.rm{p:Addr}{H H':Hp}(s:Chg p H H'):Same (rm p H) (G.rm p H'):=fun b o h=>zl7 (zal0 h).1 (s _ _ (zal0 h).1 (zal0 h).2)
theorem nw_up{H'':Hp}(s:Same H' H''):Same (nw H H') (nw H H''):=fun b o h=>zap2 (zad4 h).1 (s _ _ (zad4 h).2)
theorem zbz0{H0:Hp}(s:Same H0 H):Same (nw H H') (nw H0 H'):=fun b o h=>zap2 (s.free (zad4 h).1) (zad4 h).2
theorem nw_rm{p:Addr}(hp:H p=some o):Same (nw H H') (rm p H'):=fun b o h=>zl7 (fun z=>by have:=(zad4 h).1;rw[z,hp] at this;cases this) (zad4 h).2
def zj3:PyData->Bool
 | .tuple [a,b,c]=>zm0 0 a&&zu4 0 (intD a) b&&zm0 1 c
 | _=>false
theorem zt8(h:ds.length≠3):zj3 (.tuple ds)=false:=by
 match ds,h with
 | [],_=>rfl
 | [_],_=>rfl
 | [_,_],_=>rfl
 | [_,_,_],h=>simp at h
 | _ :: _ :: _ :: _ :: _,_=>rfl
theorem zac1{xs:List V}(l:ShL H xs ds)(e:xs.length=3):∃ x y z a b c,xs=[x,y,z]/\ds=[a,b,c]/\ShV H x a/\ShV H y b/\ShV H z c:=by
 cases l with
 | nil=>simp at e
 | cons h1 l=>
  obtain⟨y,z,b,c,rfl,rfl,h2,h3⟩:=zbw4 l (by simpa using e)
  exact⟨_,_,_,_,_,_,rfl,rfl,h1,h2,h3⟩
@[irreducible] def zl2:Sp:=fun vs H Q _=>∃ (v:V) (d:PyData),vs=[v]/\ShV H v d/\Q (.bl (zj3 d)) H
theorem zbo9{v:V}{d:PyData}(h:ShV H v d)(q:Q (.bl (zj3 d)) H):zl2 [v] H Q E:=by unfold zl2;exact⟨v,d,rfl,h,q⟩
theorem zay3(F:Fun K "is_flow" "is_flow" zaa7 f fd)(N:Nm mg)(zcb0:Def P w K mg base CX0 3 "is_between" ["thing","least","most"] ze1)(zcb5:Def P w K mg base CX0 2 "is_from" ["thing","least"] zi6):FnOk P w K mg base CX0 4 f fd ["thing"] zl2:=by
 refine F.ok zax4 (fun vs H Q E h=>by unfold zl2 at h;obtain⟨_,_,rfl,_⟩:=h;rfl) fun _ _ _ s H vs Q E hr h=>?_
 unfold zl2 at h
 obtain⟨v,d,rfl,h,q⟩:=h
 have hu:=hu40 hr
 refine⟨_,(za4 (psIf (ptW (pwOr (zk0 (ptV (pB (zw7 (K:=K) rfl) N.isinstance_ zb3 (za0 (pq 0) (za0 (pTy N.tuple_ zy9) za1))))) (zo9 (ptC (zal1 (K:=K) rfl (by exact hu)) (pB (zp3 (K:=K) rfl) N.len_ zi3 (za0 (pq 0) za1)) za2)))) (za6 (zb6 zt4)) zd7)
   (za6 (zb6 (zx3 (pD zcb5 hr zc5 (za0 (zc3 (K:=K) rfl (pq 0) za2) (za0 za2 za1))) (zx3 (pD zcb0 hr zc5 (za0 (zc3 (K:=K) rfl (pq 0) za2) (za0 za2 (za0 (zc3 (K:=K) rfl (pq 0) za2) za1)))) (zt2 (pD zcb5 hr zc5 (za0 (zc3 (K:=K) rfl (pq 0) za2) (za0 za2 za1))))))))),?_⟩
 refine zi2 h (.inr (.inr (.inr rfl))) ?_
 cases h
 case tup t xs ds e l=>
  have ll:=l.len
  refine zc1 (br_T ?_)
  refine zao2 e ?_
  refine zc1 (ze6 (fun h3=>?_) (fun h3=>?_))
  ·obtain⟨x,y,z,a,b,c,rfl,rfl,ha,hb,hc⟩:=zac1 l (by rfl')
   have q:Q (.bl (zm0 0 a&&zu4 0 (intD a) b&&zm0 1 c)) H:=q
   refine zj8 (v:=x) e rfl ?_
   refine zaq7 ha ?_
   cases e1:zm0 0 a
   ·rw[e1] at q
    refine br_F ?_
    ac_nf
    exact q
   ·rw[e1,zck0] at q
    obtain⟨i,rfl,hi⟩:=zq0 e1
    cases ha
    refine br_T ?_
    refine zj8 (v:=y) e rfl ?_
    refine zj8 (v:=.int i) e rfl ?_
    refine zbc2 hb ?_
    have q:Q (.bl (zu4 0 i b&&zm0 1 c)) H:=q
    cases e2:zu4 0 i b
    ·rw[e2] at q
     refine br_F ?_
     ac_nf
     exact q
    ·rw[e2,zck0] at q
     refine br_T ?_
     refine zj8 (v:=z) e rfl ?_
     refine zaq7 hc ?_
     ac_nf
     exact q
  ·rw[zt8 (by rfl')] at q
   ac_nf
   exact q
 all_goals (ac_nf;refine zc1 (br_F ?_);ac_nf;refine br_T ?_;ac_nf;exact q)
theorem zan7{m:Int}{d:PyData}(h:zu4 l m d=true):∃ i,d=.int i/\l<=i/\i<=m:=by
 cases d with
 | int i=>have:=of_decide_eq_true h;exact⟨i,rfl,this⟩
 | _=>simp[zu4] at h
theorem zag4{v:V}{d:PyData}(h:ShV H v d)(e:zj3 d=true):∃ (t:Addr) (i j w:Int),v=.ref t/\H t=some (.tup [.int i,.int j,.int w])/\d=.tuple [.int i,.int j,.int w]/\0<=j/\j<=i/\1<=w:=by
 cases h
 case tup t xs ds e1 l=>
  have l3:ds.length=3:=Classical.byContradiction fun z=>by rw[zt8 z] at e;cases e
  obtain⟨x,y,z,a,b,c,rfl,rfl,ha,hb,hc⟩:=zac1 l (by rw[l.len];exact l3)
  have e:(zm0 0 a&&zu4 0 (intD a) b&&zm0 1 c)=true:=e
  rw[zcg4,zcg4] at e
  obtain⟨i,rfl,hi⟩:=zq0 e.1.1
  obtain⟨j,rfl,hj1,hj2⟩:=zan7 e.1.2
  obtain⟨w,rfl,hw⟩:=zq0 e.2
  cases ha
  cases hb
  cases hc
  exact⟨t,i,j,w,rfl,e1,rfl,hj1,hj2,hw⟩
 all_goals simp[zj3] at e
def keyD:PyData->Int×Int
 | .tuple (a :: b :: _)=>(intD a,intD b)
 | _=>(0,0)
def incD(ds:List PyData):Bool:=(List.range (ds.length - 1)).all fun i=>ltP (keyD (ds.getD i .none)) (keyD (ds.getD (i+1) .none))
def rowD:PyData->Bool
 | .list ds=>ds.all zj3&&incD ds
 | _=>false
@[irreducible] def zl3:Sp:=fun vs H Q _=>∃ (v:V) (d:PyData),vs=[v]/\ShV H v d/\sml d=true/\∀ H',Same H H'->Q (.bl (rowD d)) H'
theorem zbg3{v:V}{d:PyData}(h:ShV H v d)(hs:sml d=true)(q:∀ H',Same H H'->Q (.bl (rowD d)) H'):zl3 [v] H Q E:=by unfold zl3;exact⟨v,d,rfl,h,hs,q⟩
theorem zbf1(F:Fun K "is_row" "is_row" zai4 f fd)(N:Nm mg)(zcd9:Def P w K mg base CX0 4 "is_flow" ["thing"] zl2):FnOk P w K mg base CX0 5 f fd ["row"] zl3:=by
 refine F.ok zbb6 (fun vs H Q E h=>by unfold zl3 at h;obtain⟨_,_,rfl,_⟩:=h;rfl) fun _ _ _ s H vs Q E hr h=>?_
 unfold zl3 at h
 obtain⟨v,d,rfl,h,hs,q⟩:=h
 have hu:=hu40 hr
 refine⟨_,(za4 (psIf (ptW (pwOr (zk0 (ptV (pB (zw7 (K:=K) rfl) N.isinstance_ zb3 (za0 (pq 0) (za0 (pTy N.list_ zo0) za1))))) (zo9 (zk0 (ptV (pB (zax7 (K:=K) rfl rfl) N.all_ zaf4 (za0 (zk4 (N:=["thing"]) (ks:=[none]) (zg6 (K:=K) rfl (pq 0)) (fun _ _ _ _ _=>(za9 (i:=0) nb_0 rfl (by eq_refl))) (fun _ _ _ _ _=>zf6) (fun _ _ _ _ _=>(pD zcd9 hr zc5 (za0 (pq 0) za1))) (.skip .nil)) za1))))))) (za6 (zb6 zt4)) zd7)
   (za6 (zb6 (pB (zax7 (K:=K) rfl rfl) N.all_ zaf4 (za0 (zk4 (N:=["one","other"]) (ks:=[none,none]) (zbt8 (K:=K) rfl N.zip_ (za0 (pq 0) (za0 (zd2 (slXK (K:=K) rfl) (pq 0) (zi1 za2) zf1) za1))) (fun _ _ _ _ _=>(zm6 (K:=K) (n:=2) rfl rfl (zb9 (za9 (i:=0) nb_1 rfl (by eq_refl)) (zb9 (za9 (i:=1) nb_1 rfl (by eq_refl)) zm2)))) (fun _ _ _ _ _=>zf6) (fun _ _ _ _ _=>(peC (oLtX (by exact hu)) (zd2 (slXK (K:=K) rfl) (pq 0) zf1 (zi1 za2)) (zd2 (slXK (K:=K) rfl) (pq 1) zf1 (zi1 za2)))) (.skip (.skip .nil))) za1))))),?_⟩
 refine zi2 h (.inr (.inr (.inl rfl))) ?_
 cases h
 case lst a xs ds e l=>
  have ll:=l.len
  obtain⟨dl,dm⟩:=zo1 hs
  refine zc1 (br_T ?_)
  refine zc6 e ?_
  refine zu9 (Wk.list (SqL.of e)) (by rw[zcp8];omega) (fun i=>.bl (zj3 (ds.getD i .none))) (fun _=>true) (fun j σ=>∃ t:Option V,σ=[t]) ⟨none,rfl⟩ ?_ ?_
  ·rintro j x σ H1 R S hj s1 hx ⟨t,rfl⟩ k _
   obtain⟨d,ed,hd⟩:=l.get j x hx
   refine br_T ?_
   refine zbo9 (hd.same s1) ?_
   ac_nf
   rw[← getD_some ed]
   exact k rfl _ _ (Same.refl _) ⟨_,rfl⟩
  intro acc H1 f1 s1 h1
  rw[zm7,ll,zae8 zj3] at h1
  refine zaf9 h1 ?_
  rw[zav8]
  cases ea:ds.all zj3
  ·ac_nf
   refine zc1 (br_F ?_)
   ac_nf
   have q:Q (.bl (ds.all zj3&&incD ds)) H1:=q _ s1
   rw[ea] at q
   exact q
  have ea':∀ d∈ds,zj3 d=true:=zcg8.mp ea
  refine zc1 (br_T ?_)
  have e1:=s1 _ _ e
  refine zk3 (SqL.of e1) (fun p2 H2 f2 s2 h2=>?_)
  rw[zt7 (by rfl')] at h2
  refine zbt7 (SqL.of (s2 _ _ e1)) (SqL.of h2) ?_
  refine zu9 (Wk.zipN (n:=ds.length - 1) (SqL.of (s2 _ _ e1)) (SqL.of h2) (by rfl') (by rw[zck7];show _<=_ - 1;omega) (.inr (by rw[zck7,ll];rfl))) (by rw[zcp8];omega) (fun i=>.bl (ltP (keyD (ds.getD i .none)) (keyD (ds.getD (i+1) .none)))) (fun _=>true) (fun j σ=>∃ t u:Option V,σ=[t,u]) ⟨none,none,rfl⟩ ?_ ?_
  ·rintro j v σ H3 R S hj s3 ⟨p,x,y,rfl,hp,hx,hy⟩ ⟨t,u,rfl⟩ k _
   rw[List.getElem?_drop,show (1:Int).toNat+j=j+1 by show 1+j=j+1;omega] at hy
   obtain⟨d,ed,hd⟩:=l.get j x hx
   obtain⟨d',ed',hd'⟩:=l.get (j+1) y hy
   have s03:=(s1.trans s2).trans s3
   obtain⟨t1,i1,j1,w1,rfl,ht1,rfl,_⟩:=zag4 (hd.same s03) (ea' d (zcf8 ed))
   obtain⟨t2,i2,j2,w2,rfl,ht2,rfl,_⟩:=zag4 (hd'.same s03) (ea' d' (zcf8 ed'))
   rw[getD_some ed,getD_some ed'] at k
   refine zh1 hp ?_
   refine br_T ?_
   refine zbi6 ht1 (fun p4 H4 f4 s4 h4=>?_)
   refine zbi6 (s4 _ _ ht2) (fun p5 H5 f5 s5 h5=>?_)
   refine ltP_rd (x:=(i1,j1)) (y:=(i2,j2)) (s5 _ _ h4) h5 ?_
   ac_nf
   exact k rfl _ _ (s4.trans s5) ⟨_,_,rfl⟩
  intro acc2 H3 f3 s3 h3
  rw[zm7] at h3
  have h3:H3 acc2=some (.lst (((List.range (ds.length - 1)).map fun i=>ltP (keyD (ds.getD i .none)) (keyD (ds.getD (i+1) .none))).map V.bl)):=by rw[h3,zch6];rfl
  refine zaf9 h3 ?_
  have q:Q (.bl (ds.all zj3&&incD ds)) H3:=q _ ((s1.trans s2).trans s3)
  rw[ea,zck0] at q
  rw[zcp3]
  exact q
 all_goals (ac_nf;refine zc1 (br_F ?_);ac_nf;refine br_T ?_;ac_nf;exact q _ (Same.refl _))
def valG{κ:Type}[DecidableEq κ](kv:List (κ×Int))(k:κ):Option Int:=(kv.find? fun z=>decide (z.1=k)).map (·.2)
def putG{κ:Type}[DecidableEq κ](kv:List (κ×Int))(k:κ)(n:Int):List (κ×Int):=if (kv.any fun z=>decide (z.1=k))=true then kv.map (fun z=>if z.1=k then (z.1,n) else z) else kv++[(k,n)]
def addG{κ:Type}[DecidableEq κ](s:List (κ×Int))(z:κ×Int):List (κ×Int):=putG s z.1 ((valG s z.1).getD 0+z.2)
def sumG{κ:Type}[DecidableEq κ](zs:List (κ×Int)):List (κ×Int):=zs.foldl addG []
def dF{κ κ':Type}(f:κ->κ')(kv:List (κ×Int)):List (κ'×V):=kv.map fun z=>(f z.1,V.int z.2)
section
variable {κ κ':Type}[DecidableEq κ] [DecidableEq κ']
theorem zk7{z:κ×Int}{kv:List (κ×Int)}{k:κ}(e:z.1=k):valG (z :: kv) k=some z.2:=by unfold valG;rw[zcm1,decide_eq_true e];rfl
theorem zk5{z:κ×Int}{kv:List (κ×Int)}{k:κ}(e:¬ z.1=k):valG (z :: kv) k=valG kv k:=by unfold valG;rw[zcm1,decide_eq_false e]
theorem zq7{f:κ->κ'}(hf:∀ a b,f a=f b->a=b)(k:κ):∀ kv:List (κ×Int),valV (dF f kv) (f k)=(valG kv k).map V.int
 | []=>rfl
 | z :: kv=>by
  show valV ((f z.1,V.int z.2) :: dF f kv) (f k)=_
  by_cases e:z.1=k
  ·rw[zt0 (p:=(f z.1,V.int z.2)) (congrArg f e),zk7 e];rfl
  ·rw[zs9 (p:=(f z.1,V.int z.2)) (fun q=>e (hf _ _ q)),zq7 hf k kv,zk5 e]
theorem zz2{f:κ->κ'}(hf:∀ a b,f a=f b->a=b)(kv:List (κ×Int))(k:κ)(n:Int):putK (dF f kv) (f k) (.int n)=dF f (putG kv k n):=by
 unfold putK putG dF
 have e1:((kv.map fun z=>(f z.1,V.int z.2)).any fun kv=>decide (kv.1=f k))=kv.any fun z=>decide (z.1=k):=by
  rw[List.any_map]
  congr 1;funext z
  exact decide_eq_decide.mpr ⟨hf _ _,congrArg f⟩
 rw[e1]
 split
 ·rw[zch6,zch6]
  refine zcj8 fun z _=>?_
  show (if f z.1=f k then (f z.1,V.int n) else (f z.1,V.int z.2))=(f (if z.1=k then (z.1,n) else z).1,V.int (if z.1=k then (z.1,n) else z).2)
  by_cases e:z.1=k
  ·rw[if_pos (congrArg f e),if_pos e]
  ·rw[if_neg (fun q=>e (hf _ _ q)),if_neg e]
 ·rw[zci6];rfl
theorem zbp4(kv:List (κ×Int))(k:κ)(n:Int):(putG kv k n).length<=kv.length+1:=by
 unfold putG
 split
 ·rw[zcf4];omega
 ·rw[zcg2];exact zcg9 _
theorem zu8(zs:List (κ×Int))(z:κ×Int):sumG (zs++[z])=addG (sumG zs) z:=by unfold sumG;rw[List.foldl_append];rfl
theorem zm1(zs:List (κ×Int)):(sumG zs).length<=zs.length:=by
 have:∀ (zs s:List (κ×Int)),(zs.foldl addG s).length<=s.length+zs.length:=fun zs=>by
  induction zs with
  | nil=>exact fun s=>zcg9 _
  | cons z zs ih=>
   intro s
   have h1:=ih (addG s z)
   have h2:(addG s z).length<=s.length+1:=zbp4 _ _ _
   rw[List.foldl_cons,zch0]
   omega
 have:=this zs []
 unfold sumG
 simpa using this
theorem zt3{zs:List (κ×Int)}{z:κ×Int}(h:zs[i]?=some z):sumG (zs.take (i+1))=addG (sumG (zs.take i)) z:=by
 rw[List.take_succ,h];exact zu8 _ _
end
theorem zn8(a b:Int)(h:(Sum.inl a:Key)=Sum.inl b):a=b:=Sum.inl.inj h
theorem zz8(a b:Int×Int)(h:pK a=pK b):a=b:=by
 unfold pK at h
 simp only[List.cons.injEq,Sum.inl.injEq,and_true] at h
 exact Prod.ext h.1 h.2
@[irreducible] def zl8:Sp:=fun vs H Q _=>
 (∃ (p:Addr) (ts:List Addr) (zs:List (Int×Int)),vs=[.ref p]/\H p=some (.lst (ts.map V.ref))/\ts.length=zs.length/\zs.length<=2000/\(∀ (i:Nat) t z,ts[i]?=some t->zs[i]?=some z->H t=some (.tup [.int z.1,.int z.2]))/\∀ r H',H r=none->Same H H'->H' r=some (.dK (dF Sum.inl (sumG zs)))->Q (.ref r) H') ∨
 ∃ (p:Addr) (ts:List (Addr×Addr)) (zs:List ((Int×Int)×Int)),vs=[.ref p]/\H p=some (.lst (ts.map fun t=>V.ref t.1))/\ts.length=zs.length/\zs.length<=2000/\(∀ (i:Nat) t z,ts[i]?=some t->zs[i]?=some z->H t.1=some (.tup [.ref t.2,.int z.2])/\H t.2=some (.tup (pV z.1)))/\∀ r H',H r=none->Same H H'->H' r=some (.dT (dF pK (sumG zs)))->Q (.ref r) H'
theorem zv8{p:Addr}{ts:List Addr}{zs:List (Int×Int)}(hp:H p=some (.lst (ts.map V.ref)))(hl:ts.length=zs.length)(hz:zs.length<=2000)(ht:∀ (i:Nat) t z,ts[i]?=some t->zs[i]?=some z->H t=some (.tup [.int z.1,.int z.2]))(q:∀ r H',H r=none->Same H H'->H' r=some (.dK (dF Sum.inl (sumG zs)))->Q (.ref r) H'):zl8 [.ref p] H Q E:=by
 unfold zl8;exact .inl ⟨p,ts,zs,rfl,hp,hl,hz,ht,q⟩
theorem zbh4(F:Fun K "summed" "summed" zag7 f fd)(N:Nm mg):FnOk P w K mg base CX0 1 f fd ["pairs"] zl8:=by
 refine F.ok zu2 (fun vs H Q E h=>by unfold zl8 at h;rcases h with ⟨_,_,_,rfl,_⟩|⟨_,_,_,rfl,_⟩<;>rfl) fun _ _ _ s H vs Q E hr h=>?_
 unfold zl8 at h
 have hu:=hu40 hr
 refine⟨_,(za4 (psS (i:=1) zu2.nd zz3)
   (za4 (zz7 PassesOwn.never rfl (zg6 (K:=K) rfl (pq 0)) (zm6 (K:=K) (n:=2) rfl rfl (zb9 (za9 (i:=2) zu2.nd rfl (by eq_refl)) (zb9 (za9 (i:=3) zu2.nd rfl (by eq_refl)) zm2))) (za6 (zar8 (by exact hu) (pq 1) (pq 2) (zc8 oAdd (zt6 (by exact hu) (pq 1) (pq 2) za2) (pq 3)))))
   (za6 (zb6 (pq 1))))),?_⟩
 rcases h with ⟨p,ts,zs,rfl,hp,hl,hz,ht,q⟩|⟨p,ts,zs,rfl,hp,hl,hz,ht,q⟩
 ·ac_nf
  refine zaw2 (fun r H1 f1 s1 h1=>?_)
  have npr:p≠r:=za5 hp f1
  refine zc6 (s1 _ _ hp) ?_
  refine zj4 (xs:=ts.map V.ref) (fun i σ I=>∃ t u:Option V,σ=[some (.ref p),some (.ref r),t,u]/\Chg r H1 I/\I r=some (.dK (dF Sum.inl (sumG (zs.take i))))) ?_ ?_ ?_ ?_
  ·exact⟨_,_,rfl,Chg.refl _ _,h1⟩
  ·rintro i σ I _ ⟨_,_,_,c,_⟩
   exact SqL.of (c _ _ npr (s1 _ _ hp))
  ·rintro i v σ I hi ⟨t',u',rfl,c,hr'⟩
   rw[zcf9] at hi
   obtain⟨t,et,rfl⟩:=zcg5.mp hi
   obtain⟨z,ez⟩:∃ z,zs[i]?=some z:=⟨_,zcf3 (by have:=(zcf6.mp et).1;omega)⟩
   have e0:=ht i t z et ez
   have e1:=c _ _ (za5 e0 f1) (s1 _ _ e0)
   refine zh1 e1 ?_
   refine zah8 hr' ?_
   refine zah3 hr' ?_
   have ev:(valV (dF Sum.inl (sumG (zs.take i))) (Sum.inl z.1:Key)).getD (V.int 0)=.int ((valG (sumG (zs.take i)) z.1).getD 0):=by
    rw[zq7 zn8]
    cases valG (sumG (zs.take i)) z.1<;>rfl
   rw[ev]
   refine zbi2 hr' (by unfold dF;rw[zcf4,zcp8];have:=zm1 (zs.take i);rw[zcj3] at this;omega) (fun I2 c2 h2=>?_)
   rw[zz2 zn8] at h2
   ac_nf
   exact⟨_,_,rfl,c.trans c2,by rw[zt3 ez];exact h2⟩
  ·rintro σ I ⟨t',u',rfl,c,hr'⟩
   rw[zcf4,hl,zco3] at hr'
   ac_nf
   exact q r I f1 (s1.chg f1 c) hr'
 ·ac_nf
  refine zbs9 (fun r H1 f1 s1 h1=>?_)
  have npr:p≠r:=za5 hp f1
  refine zc6 (s1 _ _ hp) ?_
  refine zj4 (xs:=ts.map fun t=>V.ref t.1) (fun i σ I=>∃ t u:Option V,σ=[some (.ref p),some (.ref r),t,u]/\Chg r H1 I/\I r=some (.dT (dF pK (sumG (zs.take i))))) ?_ ?_ ?_ ?_
  ·exact⟨_,_,rfl,Chg.refl _ _,h1⟩
  ·rintro i σ I _ ⟨_,_,_,c,_⟩
   exact SqL.of (c _ _ npr (s1 _ _ hp))
  ·rintro i v σ I hi ⟨t',u',rfl,c,hr'⟩
   rw[zcf9] at hi
   obtain⟨t,et,rfl⟩:=zcg5.mp hi
   obtain⟨z,ez⟩:∃ z,zs[i]?=some z:=⟨_,zcf3 (by have:=(zcf6.mp et).1;omega)⟩
   obtain⟨e0,e0'⟩:=ht i t z et ez
   have e1:=c _ _ (za5 e0 f1) (s1 _ _ e0)
   have e2:=c _ _ (za5 e0' f1) (s1 _ _ e0')
   refine zh1 e1 ?_
   refine zbh6 hr' ?_
   refine zbb9 hr' (k:=pK z.1) e2 ?_
   have ev:(valV (dF pK (sumG (zs.take i))) (pK z.1)).getD (V.int 0)=.int ((valG (sumG (zs.take i)) z.1).getD 0):=by
    rw[zq7 zz8]
    cases valG (sumG (zs.take i)) z.1<;>rfl
   rw[ev]
   refine zbr3 hr' (k:=pK z.1) e2 (by unfold dF;rw[zcf4,zcp8];have:=zm1 (zs.take i);rw[zcj3] at this;omega) (fun I2 c2 h2=>?_)
   rw[zz2 zz8] at h2
   ac_nf
   exact⟨_,_,rfl,c.trans c2,by rw[zt3 ez];exact h2⟩
  ·rintro σ I ⟨t',u',rfl,c,hr'⟩
   rw[zcf4,hl,zco3] at hr'
   ac_nf
   exact q r I f1 (s1.chg f1 c) hr'
def triD:PyData->Int×Int×Int
 | .tuple [a,b,c]=>(intD a,intD b,intD c)
 | _=>(0,0,0)
def rowF(d:PyData):List (Int×Int×Int):=(za8 d).map triD
def zf3:PyData->Bool
 | .list ds=>decide (0<ds.length)&&rowD (ds.getD 0 .none)&&decide (0<(za8 (ds.getD 0 .none)).length)
 | _=>false
theorem zr6{v:V}{d:PyData}(h:ShV H v d)(e:rowD d=true):∃ (a:Addr) (ts:List Addr) (ds:List PyData),v=.ref a/\d=.list ds/\H a=some (.lst (ts.map V.ref))/\ts.length=ds.length/\(∀ (i:Nat) t x,ts[i]?=some t->(rowF d)[i]?=some x->H t=some (.tup [.int x.1,.int x.2.1,.int x.2.2]))/\∀ x∈rowF d,0<=x.2.1/\x.2.1<=x.1/\1<=x.2.2:=by
 cases h
 case lst a xs ds e1 l=>
  have e:(ds.all zj3&&incD ds)=true:=e
  have ea:=zcg8.mp (Bool.and_eq_true_iff.mp e).1
  have key:∀ {xs:List V}{ds:List PyData},ShL H xs ds->(∀ d∈ds,zj3 d=true)->∃ ts:List Addr,xs=ts.map V.ref/\(∀ (i:Nat) t x,ts[i]?=some t->(ds.map triD)[i]?=some x->H t=some (.tup [.int x.1,.int x.2.1,.int x.2.2]))/\∀ x∈ds.map triD,0<=x.2.1/\x.2.1<=x.1/\1<=x.2.2:=fun {xs ds} l ea=>by
   induction ds generalizing xs with
   | nil=>cases l;exact⟨[],rfl,fun i t x h=>by simp at h,fun x h=>by cases h⟩
   | cons d ds ih=>
    cases l with
    | cons h1 l=>
     obtain⟨ts,rfl,k1,k2⟩:=ih l fun d hd=>ea d (.tail _ hd)
     obtain⟨t,i,j,w,rfl,ht,rfl,hj1,hj2,hw⟩:=zag4 h1 (ea _ (.head _))
     refine⟨t :: ts,rfl,fun n t' x g1 g2=>?_,fun x hx=>?_⟩
     ·match n with
      | 0=>cases g1;cases g2;exact ht
      | n+1=>exact k1 n t' x g1 g2
     ·rcases zcg6.mp hx with rfl|hx
      ·exact⟨hj1,hj2,hw⟩
      ·exact k2 x hx
  obtain⟨ts,rfl,k1,k2⟩:=key l ea
  exact⟨a,ts,ds,rfl,rfl,e1,by have:=l.len;rwa [zcf4] at this,k1,k2⟩
 all_goals simp[rowD] at e
theorem zd3(ds:List PyData):(rowF (.list ds)).length=ds.length:=by unfold rowF;rw[zcf4];rfl
@[irreducible] def zl9:Sp:=fun vs H Q _=>∃ (v:V) (d:PyData),vs=[v]/\ShV H v d/\sml d=true/\∀ H',Same H H'->Q (.bl (zf3 d)) H'
theorem zaf6{v:V}{d:PyData}(h:ShV H v d)(hs:sml d=true)(q:∀ H',Same H H'->Q (.bl (zf3 d)) H'):zl9 [v] H Q E:=by unfold zl9;exact⟨v,d,rfl,h,hs,q⟩
theorem zba8(F:Fun K "begins" "begins" zag2 f fd)(N:Nm mg)(zcc7:Def P w K mg base CX0 5 "is_row" ["row"] zl3):FnOk P w K mg base CX0 6 f fd ["stream"] zl9:=by
 refine F.ok zbj3 (fun vs H Q E h=>by unfold zl9 at h;obtain⟨_,_,rfl,_⟩:=h;rfl) fun _ _ _ s H vs Q E hr h=>?_
 unfold zl9 at h
 obtain⟨v,d,rfl,h,hs,q⟩:=h
 have hu:=hu40 hr
 refine⟨_,(za6 (zb6 (zx3 (pB (zw7 (K:=K) rfl) N.isinstance_ zb3 (za0 (pq 0) (za0 (pTy N.list_ zo0) za1))) (zx3 (peC oGt (pB (zp3 (K:=K) rfl) N.len_ zi3 (za0 (pq 0) za1)) za2) (zx3 (pD zcc7 hr zc5 (za0 (zc3 (K:=K) rfl (pq 0) za2) za1)) (zt2 (peC oGt (pB (zp3 (K:=K) rfl) N.len_ zi3 (za0 (zc3 (K:=K) rfl (pq 0) za2) za1)) za2))))))),?_⟩
 refine zi2 h (.inr (.inr (.inl rfl))) ?_
 cases h
 case lst a xs ds e l=>
  have ll:=l.len
  obtain⟨dl,dm⟩:=zo1 hs
  have q:∀ H',Same H H'->Q (.bl (decide (0<ds.length)&&rowD (ds.getD 0 .none)&&decide (0<(za8 (ds.getD 0 .none)).length))) H':=q
  refine br_T ?_
  refine zf8 e ?_
  rw[ll]
  refine ze6 (fun h0=>?_) (fun h0=>?_)
  ·rw[decide_eq_true (show 0<ds.length by rfl'),zck0] at q
   obtain⟨x0,ex0⟩:∃ x,xs[0]?=some x:=⟨_,zcf3 (by rfl')⟩
   obtain⟨d0,ed0,hd0⟩:=l.get 0 x0 ex0
   rw[getD_some ed0] at q
   have at0:atI xs 0=some x0:=zg8 (j:=0) ex0
   refine zc2 (v:=x0) e at0 ?_
   refine zbg3 hd0 (dm d0 (zcf8 ed0)) (fun H1 s1=>?_)
   cases er:rowD d0
   ·have q:=q _ s1
    rw[er] at q
    refine br_F ?_
    ac_nf
    exact q
   ·have q:=q _ s1
    rw[er,zck0] at q
    obtain⟨b,ts,es,rfl,rfl,hb,hl,_⟩:=zr6 hd0 er
    refine br_T ?_
    refine zc2 (v:=.ref b) (s1 _ _ e) at0 ?_
    refine zf8 (s1 _ _ hb) ?_
    rw[zcf4,hl]
    ac_nf
    have ed:decide ((es.length:Int)>0)=decide (0<(za8 (.list es)).length):=decide_eq_decide.mpr (by show (es.length:Int)>0↔0<es.length;omega)
    first|(rw[← ed] at q;exact q)|exact q
  ·have q:=q _ (Same.refl _)
   rw[decide_eq_false (show ¬ 0<ds.length by rfl')] at q
   ac_nf
   exact q
 all_goals (ac_nf;refine br_F ?_;ac_nf;exact q _ (Same.refl _))
def zj6(a b:PyData):Bool:=eqDI (sumG ((rowF a).map fun z=>(z.1 - z.2.1,z.2.2))) (sumG ((rowF b).map fun z=>(z.1,z.2.2)))
@[irreducible] def zr2:Sp:=fun vs H Q _=>∃ (v u:V) (d e:PyData),vs=[v,u]/\ShV H v d/\ShV H u e/\rowD d=true/\rowD e=true/\(za8 d).length<=1000/\(za8 e).length<=1000/\∀ H',Same H H'->Q (.bl (zj6 d e)) H'
theorem zbl6{v u:V}{d e:PyData}(hv:ShV H v d)(hu:ShV H u e)(rd:rowD d=true)(re:rowD e=true)(ld:(za8 d).length<=1000)(le:(za8 e).length<=1000)(q:∀ H',Same H H'->Q (.bl (zj6 d e)) H'):zr2 [v,u] H Q E:=by unfold zr2;exact⟨v,u,d,e,rfl,hv,hu,rd,re,ld,le,q⟩
theorem zbn6(F:Fun K "meets" "meets" zar1 f fd)(N:Nm mg)(zcc1:Def P w K mg base CX0 1 "summed" ["pairs"] zl8):FnOk P w K mg base CX0 2 f fd ["ahead","row"] zr2:=by
 refine F.ok zau5 (fun vs H Q E h=>by unfold zr2 at h;obtain⟨_,_,_,_,rfl,_⟩:=h;rfl) fun _ _ _ s H vs Q E hr h=>?_
 unfold zr2 at h
 obtain⟨v,u,d,e,rfl,hv,hu',rd,re,ld,le,q⟩:=h
 have hu:=hu40 hr
 obtain⟨a,ts,ds,rfl,rfl,ha,hl,hp,_⟩:=zr6 hv rd
 obtain⟨b,us,es,rfl,rfl,hb,hl',hp',_⟩:=zr6 hu' re
 have ld:ds.length<=1000:=ld
 have le:es.length<=1000:=le
 refine⟨_,(za4 (psS (i:=2) zau5.nd (pD zcc1 hr zc5 (za0 (zk4 (N:=["left","sent","flow"]) (ks:=[none,none,none]) (zg6 (K:=K) rfl (pq 0)) (fun _ _ _ _ _=>(zm6 (K:=K) (n:=3) rfl rfl (zb9 (za9 (i:=0) nb_2 rfl (by eq_refl)) (zb9 (za9 (i:=1) nb_2 rfl (by eq_refl)) (zb9 (za9 (i:=2) nb_2 rfl (by eq_refl)) zm2))))) (fun _ _ _ _ _=>zf6) (fun _ _ _ _ _=>(zy2 (za0 (zc8 oSub (pq 0) (pq 1)) (za0 (pq 2) za1)))) (.skip (.skip (.skip .nil)))) za1)))
   (za6 (zb6 (peC (zq1 (K:=K) rfl (by exact hu)) (pq 2) (pD zcc1 hr zc5 (za0 (zk4 (N:=["left","sent","flow"]) (ks:=[none,none,none]) (zg6 (K:=K) rfl (pq 1)) (fun _ _ _ _ _=>(zm6 (K:=K) (n:=3) rfl rfl (zb9 (za9 (i:=0) nb_2 rfl (by eq_refl)) (zb9 (za9 (i:=1) nb_2 rfl (by eq_refl)) (zb9 (za9 (i:=2) nb_2 rfl (by eq_refl)) zm2))))) (fun _ _ _ _ _=>zf6) (fun _ _ _ _ _=>(zy2 (za0 (pq 0) (za0 (pq 2) za1)))) (.skip (.skip (.skip .nil)))) za1)))))),?_⟩
 refine zc6 ha ?_
 refine zaa8 (Wk.list (SqL.of ha)) (by rw[zcf4,zcp8];omega) (fun i=>.tup [.int (((rowF (.list ds)).getD i (0,0,0)).1 - ((rowF (.list ds)).getD i (0,0,0)).2.1),.int ((rowF (.list ds)).getD i (0,0,0)).2.2]) (fun j σ=>∃ t u w:Option V,σ=[t,u,w]) ⟨none,none,none,rfl⟩ ?_ ?_
 ·rintro i x σ I R S hi s1 hx ⟨_,_,_,rfl⟩ k
  rw[zcf4] at hi
  rw[zcf9] at hx
  obtain⟨t,et,rfl⟩:=zcg5.mp hx
  obtain⟨z,ez⟩:∃ z,(rowF (.list ds))[i]?=some z:=⟨_,zcf3 (by rw[zd3];omega)⟩
  rw[show (rowF (.list ds)).getD i (0,0,0)=z by rw[zcg0,ez];rfl] at k
  refine zh1 (s1 _ _ (hp i t z et ez)) ?_
  refine br_T ?_
  refine zd0 (fun p I1 f1 r1 k1=>?_)
  ac_nf
  exact k _ _ _ f1 r1 k1 ⟨_,_,_,rfl⟩
 rintro l1 ps1 H1 F1
 rw[zcf4] at F1
 refine zv8 (zs:=(rowF (.list ds)).map fun z=>(z.1 - z.2.1,z.2.2)) F1.out (by rw[F1.len,zcf4,zd3];exact hl) (by rw[zcf4,zd3];omega) (fun i t z g1 g2=>?_) (fun r2 H2 f2 s2 h2=>?_)
 ·rw[zcf9] at g2
  obtain⟨y,ey,rfl⟩:=zcg5.mp g2
  have:=(F1.row i t g1).2
  rw[show (rowF (.list ds)).getD i (0,0,0)=y by rw[zcg0,ey];rfl] at this
  exact this
 have hb2:=s2 _ _ (F1.same _ _ hb)
 refine zc6 hb2 ?_
 refine zaa8 (Wk.list (SqL.of hb2)) (by rw[zcf4,zcp8];omega) (fun i=>.tup [.int ((rowF (.list es)).getD i (0,0,0)).1,.int ((rowF (.list es)).getD i (0,0,0)).2.2]) (fun j σ=>∃ t u w:Option V,σ=[t,u,w]) ⟨none,none,none,rfl⟩ ?_ ?_
 ·rintro i x σ I R S hi s1 hx ⟨_,_,_,rfl⟩ k
  rw[zcf4] at hi
  rw[zcf9] at hx
  obtain⟨t,et,rfl⟩:=zcg5.mp hx
  obtain⟨z,ez⟩:∃ z,(rowF (.list es))[i]?=some z:=⟨_,zcf3 (by rw[zd3];omega)⟩
  rw[show (rowF (.list es)).getD i (0,0,0)=z by rw[zcg0,ez];rfl] at k
  refine zh1 (s1 _ _ (s2 _ _ (F1.same _ _ (hp' i t z et ez)))) ?_
  refine br_T ?_
  refine zd0 (fun p I1 f1 r1 k1=>?_)
  ac_nf
  exact k _ _ _ f1 r1 k1 ⟨_,_,_,rfl⟩
 rintro l3 ps3 H3 F3
 rw[zcf4] at F3
 refine zv8 (zs:=(rowF (.list es)).map fun z=>(z.1,z.2.2)) F3.out (by rw[F3.len,zcf4,zd3];exact hl') (by rw[zcf4,zd3];omega) (fun i t z g1 g2=>?_) (fun r4 H4 f4 s4 h4=>?_)
 ·rw[zcf9] at g2
  obtain⟨y,ey,rfl⟩:=zcg5.mp g2
  have:=(F3.row i t g1).2
  rw[show (rowF (.list es)).getD i (0,0,0)=y by rw[zcg0,ey];rfl] at this
  exact this
 refine zbs3 (s4 _ _ (F3.same _ _ h2)) h4 ?_
 ac_nf
 exact q _ (((F1.same.trans s2).trans F3.same).trans s4)
def zy3(h:Int)(d:PyData):Bool:=(rowF d).all fun z=>decide (z.1=h)
def zal9(d:PyData):Bool:=(rowF d).all fun z=>decide (z.1=z.2.1)
def zo4(ds:List PyData):Bool:=(List.range (ds.length - 1)).all fun i=>zj6 (ds.getD i .none) (ds.getD (i+1) .none)
def zd1(h f:Int)(d:PyData):Bool:=zf3 d&&(decide (((za8 d).length:Int)=f)&&((za8 d).all rowD&&(zy3 h ((za8 d).getD 0 .none)&&(zal9 ((za8 d).getD ((za8 d).length - 1) .none)&&zo4 (za8 d)))))
theorem zaw3{α:Type}(g:α->Bool)(xs:List α):(xs.map g).all id=xs.all g:=by rw[zcp3];rfl
theorem zaj9(g:Int×Int×Int->Bool):(List.range xs.length).map (fun i=>V.bl (g (xs.getD i (0,0,0))))=(xs.map g).map V.bl:=by
 apply zco8
 intro i
 rw[zcf9,zcf9,zcf9]
 by_cases h:i<xs.length
 ·rw[zcn8 h,zcf3 h]
  simp[h]
 ·rw[zck2 (by simp;omega),zck2 (by rfl')]
  rfl
@[irreducible] def zh7:Sp:=fun vs H Q _=>∃ (h f:Int) (v:V) (d:PyData),vs=[.int h,.int f,v]/\ShV H v d/\sml d=true/\∀ H',Same H H'->Q (.bl (zd1 h f d)) H'
theorem zax3{f:Int}{v:V}{d:PyData}(hv:ShV H v d)(hs:sml d=true)(q:∀ H',Same H H'->Q (.bl (zd1 h f d)) H'):zh7 [.int h,.int f,v] H Q E:=by unfold zh7;exact⟨h,f,v,d,rfl,hv,hs,q⟩
theorem zak3(F:Fun K "is_stream" "is_stream" zr8 f fd)(N:Nm mg)(zcc8:Def P w K mg base CX0 6 "begins" ["stream"] zl9)(zcc7:Def P w K mg base CX0 5 "is_row" ["row"] zl3)(zce5:Def P w K mg base CX0 2 "meets" ["ahead","row"] zr2):FnOk P w K mg base CX0 7 f fd ["hosts","fields","stream"] zh7:=by
 refine F.ok zp7 (fun vs H Q E h=>by unfold zh7 at h;obtain⟨_,_,_,_,rfl,_⟩:=h;rfl) fun _ _ _ s H vs Q E hr h=>?_
 unfold zh7 at h
 obtain⟨h,f,v,d,rfl,hv,hs,q⟩:=h
 have hu:=hu40 hr
 refine⟨_,(za4 (psIf (ptW (pwOr (zk0 (ptV (pD zcc8 hr zc5 (za0 (pq 2) za1)))) (pwOr (ptC (zal1 (K:=K) rfl (by exact hu)) (pB (zp3 (K:=K) rfl) N.len_ zi3 (za0 (pq 2) za1)) (pq 1)) (zo9 (zk0 (ptV (pB (zax7 (K:=K) rfl rfl) N.all_ zaf4 (za0 (zk4 (N:=["row"]) (ks:=[none]) (zg6 (K:=K) rfl (pq 2)) (fun _ _ _ _ _=>(za9 (i:=0) nb_3 rfl (by eq_refl))) (fun _ _ _ _ _=>zf6) (fun _ _ _ _ _=>(pD zcc7 hr zc5 (za0 (pq 0) za1))) (.skip .nil)) za1)))))))) (za6 (zb6 zt4)) zd7)
   (za4 (psS (i:=3) zp7.nd (pB (zax7 (K:=K) rfl rfl) N.all_ zaf4 (za0 (zk4 (N:=["left","sent","flow","hosts"]) (ks:=[none,none,none,some 0]) (zg6 (K:=K) rfl (zc3 (K:=K) rfl (pq 2) za2)) (fun _ _ _ _ _=>(zm6 (K:=K) (n:=3) rfl rfl (zb9 (za9 (i:=0) nb_4 rfl (by eq_refl)) (zb9 (za9 (i:=1) nb_4 rfl (by eq_refl)) (zb9 (za9 (i:=2) nb_4 rfl (by eq_refl)) zm2))))) (fun _ _ _ _ _=>zf6) (fun _ _ _ _ _=>(peC (zq1 (K:=K) rfl (by exact hu)) (pq 0) (pq 3))) (.skip (.skip (.skip (.take rfl rfl (by eq_refl) .nil))))) za1)))
   (za4 (psS (i:=4) zp7.nd (pB (zax7 (K:=K) rfl rfl) N.all_ zaf4 (za0 (zk4 (N:=["left","sent","flow"]) (ks:=[none,none,none]) (zg6 (K:=K) rfl (zc3 (K:=K) rfl (pq 2) (pe_un uNeg za2))) (fun _ _ _ _ _=>(zm6 (K:=K) (n:=3) rfl rfl (zb9 (za9 (i:=0) nb_5 rfl (by eq_refl)) (zb9 (za9 (i:=1) nb_5 rfl (by eq_refl)) (zb9 (za9 (i:=2) nb_5 rfl (by eq_refl)) zm2))))) (fun _ _ _ _ _=>zf6) (fun _ _ _ _ _=>(peC (zq1 (K:=K) rfl (by exact hu)) (pq 0) (pq 1))) (.skip (.skip (.skip .nil)))) za1)))
   (za6 (zb6 (zx3 (pq 3) (zx3 (pq 4) (zt2 (pB (zax7 (K:=K) rfl rfl) N.all_ zaf4 (za0 (zk4 (N:=["ahead","row"]) (ks:=[none,none]) (zbt8 (K:=K) rfl N.zip_ (za0 (pq 2) (za0 (zd2 (slXK (K:=K) rfl) (pq 2) (zi1 za2) zf1) za1))) (fun _ _ _ _ _=>(zm6 (K:=K) (n:=2) rfl rfl (zb9 (za9 (i:=0) nb_6 rfl (by eq_refl)) (zb9 (za9 (i:=1) nb_6 rfl (by eq_refl)) zm2)))) (fun _ _ _ _ _=>zf6) (fun _ _ _ _ _=>(pD zce5 hr zc5 (za0 (pq 0) (za0 (pq 1) za1)))) (.skip (.skip .nil))) za1)))))))))),?_⟩
 refine zaf6 hv hs (fun H1 s1=>?_)
 unfold zd1 at q
 cases eb:zf3 d
 ·have q:=q _ s1
  rw[eb] at q
  refine zc1 (br_F ?_)
  refine br_T ?_
  ac_nf
  exact q
 cases hv
 case lst a xs ds e l=>
  have q:∀ H',Same H H'->Q (.bl (true&&(decide ((ds.length:Int)=f)&&(ds.all rowD&&(zy3 h (ds.getD 0 .none)&&(zal9 (ds.getD (ds.length - 1) .none)&&zo4 ds)))))) H':=fun H' s'=>by
   have q:=q H' s'
   rw[eb] at q
   exact q
  have ll:=l.len
  obtain⟨dl,dm⟩:=zo1 hs
  have d0:0<ds.length:=by
   have eb:(decide (0<ds.length)&&rowD (ds.getD 0 .none)&&decide (0<(za8 (ds.getD 0 .none)).length))=true:=eb
   rw[zcg4,zcg4] at eb
   exact of_decide_eq_true eb.1.1
  have e1:=s1 _ _ e
  refine zc1 (br_T ?_)
  refine zf8 e1 ?_
  rw[ll]
  refine zc1 (ze6 (fun hf=>?_) (fun hf=>?_))
  ·rw[decide_eq_true hf,zck0,zck0] at q
   refine zc6 e1 ?_
   refine zu9 (Wk.list (SqL.of e1)) (by rw[zcp8];omega) (fun i=>.bl (rowD (ds.getD i .none))) (fun _=>true) (fun j σ=>∃ t:Option V,σ=[t]) ⟨none,rfl⟩ ?_ ?_
   ·rintro j x σ H2 R S hj s2 hx ⟨t,rfl⟩ k _
    obtain⟨d,ed,hd⟩:=l.get j x hx
    refine br_T ?_
    refine zbg3 (hd.same (s1.trans s2)) (dm d (zcf8 ed)) (fun H3 s3=>?_)
    ac_nf
    rw[← getD_some ed]
    exact k rfl _ _ s3 ⟨_,rfl⟩
   intro acc H2 f2 s2 h2
   rw[zm7,ll,zae8 rowD] at h2
   have s02:=s1.trans s2
   refine zaf9 h2 ?_
   rw[zav8]
   cases ea:ds.all rowD
   ·have q:=q _ s02
    rw[ea] at q
    refine zc1 (br_F ?_)
    ac_nf
    exact q
   have ea':∀ d∈ds,rowD d=true:=zcg8.mp ea
   rw[ea,zck0] at q
   refine zc1 (br_T ?_)
   obtain⟨x0,ex0⟩:∃ x,xs[0]?=some x:=⟨_,zcf3 (by rfl')⟩
   obtain⟨d0',ed0,hd0⟩:=l.get 0 x0 ex0
   have m0:=dm d0' (zcf8 ed0)
   obtain⟨r0,ts0,es0,rfl,rfl,hr0,hl0,hp0,_⟩:=zr6 hd0 (ea' d0' (zcf8 ed0))
   have b0:=(zo1 m0).1
   rw[getD_some ed0] at q
   have e2:=s2 _ _ e1
   refine zc2 (v:=.ref r0) e2 (zg8 (j:=0) ex0) ?_
   refine zc6 (s02 _ _ hr0) ?_
   refine zu9 (Wk.list (SqL.of (s02 _ _ hr0))) (by rw[zcf4,zcp8];omega) (fun i=>.bl (decide (((rowF (.list es0)).getD i (0,0,0)).1=h))) (fun _=>true) (fun j σ=>∃ t u w:Option V,σ=[t,u,w,some (.int h)]) ⟨none,none,none,rfl⟩ ?_ ?_
   ·rintro i x σ I R S hi s3 hx ⟨_,_,_,rfl⟩ k _
    rw[zcf4] at hi
    rw[zcf9] at hx
    obtain⟨t,et,rfl⟩:=zcg5.mp hx
    obtain⟨z,ez⟩:∃ z,(rowF (.list es0))[i]?=some z:=⟨_,zcf3 (by rw[zd3];omega)⟩
    rw[show (rowF (.list es0)).getD i (0,0,0)=z by rw[zcg0,ez];rfl] at k
    refine zh1 (s3 _ _ (s02 _ _ (hp0 i t z et ez))) ?_
    refine br_T ?_
    ac_nf
    exact k rfl _ _ (Same.refl _) ⟨_,_,_,rfl⟩
   intro acc3 H3 f3 s3 h3
   rw[zm7,zcf4,hl0,← zd3 es0,zaj9 fun z=>decide (z.1=h)] at h3
   refine zaf9 h3 ?_
   rw[zaw3]
   obtain⟨x1,ex1⟩:∃ x,xs[ds.length - 1]?=some x:=⟨_,zcf3 (by rfl')⟩
   obtain⟨d1',ed1,hd1⟩:=l.get _ x1 ex1
   have m1:=dm d1' (zcf8 ed1)
   obtain⟨r1,ts1,es1,rfl,rfl,hr1,hl1,hp1,_⟩:=zr6 hd1 (ea' d1' (zcf8 ed1))
   have b1:=(zo1 m1).1
   rw[getD_some ed1] at q
   have s03:=s02.trans s3
   have e3:=s3 _ _ e2
   refine zc2 (v:=.ref r1) e3 (zbd8 (n:=ds.length - 1) (by rfl') ex1) ?_
   refine zc6 (s03 _ _ hr1) ?_
   refine zu9 (Wk.list (SqL.of (s03 _ _ hr1))) (by rw[zcf4,zcp8];omega) (fun i=>.bl (decide (((rowF (.list es1)).getD i (0,0,0)).1=((rowF (.list es1)).getD i (0,0,0)).2.1))) (fun _=>true) (fun j σ=>∃ t u w:Option V,σ=[t,u,w]) ⟨none,none,none,rfl⟩ ?_ ?_
   ·rintro i x σ I R S hi s4 hx ⟨_,_,_,rfl⟩ k _
    rw[zcf4] at hi
    rw[zcf9] at hx
    obtain⟨t,et,rfl⟩:=zcg5.mp hx
    obtain⟨z,ez⟩:∃ z,(rowF (.list es1))[i]?=some z:=⟨_,zcf3 (by rw[zd3];omega)⟩
    rw[show (rowF (.list es1)).getD i (0,0,0)=z by rw[zcg0,ez];rfl] at k
    refine zh1 (s4 _ _ (s03 _ _ (hp1 i t z et ez))) ?_
    refine br_T ?_
    ac_nf
    exact k rfl _ _ (Same.refl _) ⟨_,_,_,rfl⟩
   intro acc4 H4 f4 s4 h4
   rw[zm7,zcf4,hl1,← zd3 es1,zaj9 fun z=>decide (z.1=z.2.1)] at h4
   refine zaf9 h4 ?_
   rw[zaw3]
   have s04:=s03.trans s4
   have e4:=s4 _ _ e3
   have q:∀ H',Same H H'->Q (.bl ((rowF (.list es0)).all (fun z=>decide (z.1=h))&&((rowF (.list es1)).all (fun z=>decide (z.1=z.2.1))&&zo4 ds))) H':=q
   ac_nf
   cases e5:(rowF (.list es0)).all (fun z=>decide (z.1=h))
   ·have q:=q _ s04
    rw[e5] at q
    refine br_F ?_
    ac_nf
    exact q
   rw[e5,zck0] at q
   refine br_T ?_
   ac_nf
   cases e6:(rowF (.list es1)).all (fun z=>decide (z.1=z.2.1))
   ·have q:=q _ s04
    rw[e6] at q
    refine br_F ?_
    ac_nf
    exact q
   rw[e6,zck0] at q
   refine br_T ?_
   refine zk3 (SqL.of e4) (fun p5 H5 f5 s5 h5=>?_)
   rw[zt7 (by rfl')] at h5
   have s05:=s04.trans s5
   refine zbt7 (SqL.of (s5 _ _ e4)) (SqL.of h5) ?_
   refine zu9 (Wk.zipN (n:=ds.length - 1) (SqL.of (s5 _ _ e4)) (SqL.of h5) (by rfl') (by rw[zck7];show _<=_ - 1;omega) (.inr (by rw[zck7,ll];rfl))) (by rw[zcp8];omega) (fun i=>.bl (zj6 (ds.getD i .none) (ds.getD (i+1) .none))) (fun _=>true) (fun j σ=>∃ t u:Option V,σ=[t,u]) ⟨none,none,rfl⟩ ?_ ?_
   ·rintro j v σ H6 R S hj s6 ⟨p,x,y,rfl,hp,hx,hy⟩ ⟨t,u,rfl⟩ k _
    rw[List.getElem?_drop,show (1:Int).toNat+j=j+1 by show 1+j=j+1;omega] at hy
    obtain⟨d,ed,hd⟩:=l.get j x hx
    obtain⟨d',ed',hd'⟩:=l.get (j+1) y hy
    have s06:=s05.trans s6
    rw[getD_some ed,getD_some ed'] at k
    have il:∀ {d:PyData},sml d=true->rowD d=true->(za8 d).length<=1000:=fun {d} m r=>by
     cases d with
     | list es=>exact (zo1 m).1
     | _=>simp[rowD] at r
    have rd:=ea' d (zcf8 ed)
    have rd':=ea' d' (zcf8 ed')
    refine zh1 hp ?_
    refine br_T ?_
    refine zbl6 (hd.same s06) (hd'.same s06) rd rd' (il (dm d (zcf8 ed)) rd) (il (dm d' (zcf8 ed')) rd') (fun H7 s7=>?_)
    ac_nf
    exact k rfl _ _ s7 ⟨_,_,rfl⟩
   intro acc6 H6 f6 s6 h6
   rw[zm7] at h6
   have h6:H6 acc6=some (.lst (((List.range (ds.length - 1)).map fun i=>zj6 (ds.getD i .none) (ds.getD (i+1) .none)).map V.bl)):=by rw[h6,zch6];rfl
   refine zaf9 h6 ?_
   rw[zcp3]
   exact q _ (s05.trans s6)
  ·have q:=q _ s1
   rw[decide_eq_false hf] at q
   refine br_T ?_
   ac_nf
   exact q
 all_goals simp[zf3] at eb
structure RwAt(H:Hp)(p:Addr)(bs:List Addr)(xs:List (Int×Int×Int)):Prop where
 out:H p=some (.lst (bs.map V.ref))
 len:bs.length=xs.length
 row:∀ (i:Nat) b x,bs[i]?=some b->xs[i]?=some x->H b=some (.tup [.int x.1,.int x.2.1,.int x.2.2])
theorem RwAt.same{p:Addr}{bs:List Addr}(R:RwAt H p bs xs)(s:Same H H'):RwAt H' p bs xs:=⟨s _ _ R.out,R.len,fun i b x e1 e2=>s _ _ (R.row i b x e1 e2)⟩
def flw(ms:List (List Int×Int))(i:Nat):List ((Int×Int)×Int):=ms.map fun x=>(((x.1.drop i).sum,x.1.getD i 0),x.2)
def keyT(z:Int×Int×Int):Int×Int:=(z.1,z.2.1)
def zac8(ms:List (List Int×Int))(i:Nat)(xs:List (Int×Int×Int)):Prop:=OrdK (xs.map keyT)/\(∀ k,k∈xs.map keyT↔k∈(sumG (flw ms i)).map (·.1))/\∀ z∈xs,valG (sumG (flw ms i)) (keyT z)=some z.2.2
theorem zaw0{κ:Type}[DecidableEq κ]{k:κ}:∀ {kv:List (κ×Int)},k∈kv.map (·.1)->∃ n,valG kv k=some n
 | [],h=>by cases h
 | z :: kv,h=>by
  by_cases e:z.1=k
  ·exact⟨z.2,zk7 e⟩
  ·rw[zk5 e]
   rw[zci1] at h
   rcases zcg6.mp h with h|h
   ·exact absurd h.symm e
   ·exact zaw0 h
structure StAt(H:Hp)(p:Addr)(rs:List (Addr×List Addr))(xss:List (List (Int×Int×Int))):Prop where
 out:H p=some (.lst (rs.map fun r=>V.ref r.1))
 len:rs.length=xss.length
 row:∀ (i:Nat) r xs,rs[i]?=some r->xss[i]?=some xs->RwAt (rm p H) r.1 r.2 xs
 nd:(rs.map (·.1)).Nodup
theorem StAt.same{H H':Hp}{p:Addr}{rs:List (Addr×List Addr)}{xss:List (List (Int×Int×Int))}(R:StAt H p rs xss)(s:Same H H'):StAt H' p rs xss:=⟨s _ _ R.out,R.len,fun i r xs e1 e2=>(R.row i r xs e1 e2).same (Same.rm s),R.nd⟩
def StmIs(ms:List (List Int×Int))(f:Nat)(xss:List (List (Int×Int×Int))):Prop:=xss.length=f/\∀ (i:Nat) xs,xss[i]?=some xs->zac8 ms i xs/\xs.length<=ms.length
theorem zk6{α:Type}{as:List α}{a b:α}(h:(as++[a])[i]?=some b):(i<as.length/\as[i]?=some b)∨(i=as.length/\b=a):=by
 by_cases hi:i<as.length
 ·rw[zck3 hi] at h
  exact .inl ⟨hi,h⟩
 ·rw[zcj6 (by rfl')] at h
  have:i - as.length=0:=by
   have:=(zcf6.mp h).1
   simp at this;omega
  rw[this] at h
  cases h
  exact .inr ⟨by rfl',rfl⟩
theorem zby5{H1 I I1:Hp}{acc r:Addr}{bs:List Addr}(nd:(rs.map (·.1)).Nodup)(hl:rs.length=xss.length)(rp:∀ (i:Nat) r xs,rs[i]?=some r->xss[i]?=some xs->RwAt (rm acc (nw H1 I)) r.1 r.2 xs)(hr:I r=none):((rs++[(r,bs)]).map (·.1)).Nodup:=by
 rw[zci6,List.nodup_append]
 refine⟨nd,by simp,fun a ha b hb=>?_⟩
 obtain⟨r',hr',rfl⟩:=zch2.mp ha
 obtain⟨i,ei⟩:=zci9 hr'
 obtain⟨xs,ex⟩:∃ xs,xss[i]?=some xs:=⟨_,zcf3 (by have:=(zcf6.mp ei).1;omega)⟩
 have o:=zbx5 _ _ _ _ (zac4 _ _ _ _ (rp i r' xs ei ex).out)
 rw[show b=r by simpa using hb]
 exact za5 o hr
def Off(b:Addr)(ts:List (Addr×Addr)):Prop:=∀ t∈ts,t.1≠b/\t.2≠b
theorem zg1.chg{b:Addr}(M:zg1 H m ts ms)(c:Chg b H H')(n:m≠b)(o:Off b ts):zg1 H' m ts ms:=
 ⟨c _ _ n M.out,M.len,fun i t x h1 h2=>⟨c _ _ (o t (zcf8 h1)).1 (M.part i t x h1 h2).1,c _ _ (o t (zcf8 h1)).2 (M.part i t x h1 h2).2⟩⟩
theorem zg1.off{b:Addr}(M:zg1 H m ts ms)(f:H b=none):m≠b/\Off b ts:=by
 refine⟨za5 M.out f,fun t ht=>?_⟩
 obtain⟨i,hi⟩:=zci9 ht
 obtain⟨t',x,h1,h2,h3,h4⟩:=M.get (i:=i) (by have:=(zcf6.mp hi).1;have:=M.len;omega)
 rw[hi] at h1
 cases h1
 exact⟨za5 h3 f,za5 h4 f⟩
theorem zg1.push{p q:Addr}{x:List Int×Int}(M:zg1 H m ts ms)(c:Chg m H H')(o:Off m ts)(h':H' m=some (.lst ((ts.map fun t=>V.ref t.1)++[.ref p])))(hp:H' p=some (.tup [.ref q,.int x.2]))(hq:H' q=some (.lst (x.1.map V.int))):zg1 H' m (ts++[(p,q)]) (ms++[x]):=by
 refine⟨by rw[h',zci6];rfl,by rw[zcg2,zcg2,M.len];rfl,fun i t y h1 h2=>?_⟩
 by_cases hi:i<ts.length
 ·rw[zck3 hi] at h1
  rw[zck3 (by have:=M.len;omega)] at h2
  have:=o t (zcf8 h1)
  exact⟨c _ _ this.1 (M.part i t y h1 h2).1,c _ _ this.2 (M.part i t y h1 h2).2⟩
 ·rw[zcj6 (by rfl')] at h1
  rw[zcj6 (by have:=M.len;omega)] at h2
  have e0:i - ts.length=0:=by
   have:=(zcf6.mp h1).1
   simp at this;omega
  rw[e0] at h1
  rw[show i - ms.length=0 by have:=M.len;omega] at h2
  cases h1
  cases h2
  exact⟨hp,hq⟩
theorem Off.push{b p q:Addr}(o:Off b ts)(n1:p≠b)(n2:q≠b):Off b (ts++[(p,q)]):=fun t ht=>by
 rcases zch7.mp ht with h|h
 ·exact o t h
 ·have:t=(p,q):=by simpa using h
  subst this
  exact⟨n1,n2⟩
abbrev OkX(h f:Int)(x:List Int×Int):Prop:=(∀ n∈x.1,0<=n)/\(x.1.length:Int)=f/\x.1.sum=h/\1<=x.2
theorem zah4{α:Type}{p:α->Prop}{xs:List α}{y:α}(h:∀ x∈xs,p x)(hy:p y):∀ x∈xs++[y],p x:=fun x hx=>by
 rcases zch7.mp hx with h' | h'
 ·exact h x h'
 ·have:x=y:=by simpa using h'
  subst this
  exact hy
inductive Mrg{α β:Type}:List (α×Int)->List (β×Int)->List (α×β×Int)->Prop where
 | nil:Mrg [] [] []
 | lt {p:α}{w v:Int}{ps:List (α×Int)}{r:β}{rs:List (β×Int)}{out:List (α×β×Int)}:w<v->Mrg ps ((r,v - w) :: rs) out->Mrg ((p,w) :: ps) ((r,v) :: rs) ((p,r,w) :: out)
 | eq {p:α}{w:Int}{ps:List (α×Int)}{r:β}{rs:List (β×Int)}{out:List (α×β×Int)}:Mrg ps rs out->Mrg ((p,w) :: ps) ((r,w) :: rs) ((p,r,w) :: out)
 | gt {p:α}{w v:Int}{ps:List (α×Int)}{r:β}{rs:List (β×Int)}{out:List (α×β×Int)}:v<w->Mrg ((p,w - v) :: ps) rs out->Mrg ((p,w) :: ps) ((r,v) :: rs) ((p,r,v) :: out)
def tot{α:Type}(l:List (α×Int)):Int:=(l.map (·.2)).sum
theorem zi4{α:Type}(x:α×Int)(l:List (α×Int)):tot (x :: l)=x.2+tot l:=by unfold tot;rw[zci1,zcm4]
theorem zas1{α:Type}:∀ {l:List (α×Int)},(∀ x∈l,1<=x.2)->0<=tot l/\(tot l=0->l=[])
 | [],_=>⟨by unfold tot;simp,fun _=>rfl⟩
 | x :: l,h=>by
  have h1:=h x (.head _)
  have h2:=(zas1 (l:=l) fun y hy=>h y (.tail _ hy)).1
  rw[zi4]
  exact⟨by rfl',fun e=>by rfl'⟩
theorem zbl1{l m:List Int}(h:l.Perm m):l.sum=m.sum:=by
 induction h with
 | nil=>rfl
 | cons x _ ih=>simp only[zcm4];rw[ih]
 | swap x y l=>simp only[zcm4];omega
 | trans _ _ h1 h2=>exact h1.trans h2
theorem zat7{α:Type}{l m:List (α×Int)}(h:l.Perm m):tot l=tot m:=by unfold tot;exact zbl1 (h.map _)
section
variable {α β:Type}{ps:List (α×Int)}{rs:List (β×Int)}{out:List (α×β×Int)}
theorem Mrg.pos(h:Mrg ps rs out):(∀ x∈ps,1<=x.2)->(∀ x∈rs,1<=x.2)->∀ x∈out,1<=x.2.2:=by
 induction h with
 | nil=>intro _ _ x hx;cases hx
 | lt hl _ ih=>
  intro h1 h2 x hx
  have a:=h1 _ (.head _)
  rcases zcg6.mp hx with rfl|hx
  ·exact a
  ·refine ih (fun y hy=>h1 y (.tail _ hy)) (fun y hy=>?_) x hx
   rcases zcg6.mp hy with rfl|hy
   ·show 1<=_ - _;omega
   ·exact h2 y (.tail _ hy)
 | eq _ ih=>
  intro h1 h2 x hx
  rcases zcg6.mp hx with rfl|hx
  ·exact h1 _ (.head _)
  ·exact ih (fun y hy=>h1 y (.tail _ hy)) (fun y hy=>h2 y (.tail _ hy)) x hx
 | gt hl _ ih=>
  intro h1 h2 x hx
  rcases zcg6.mp hx with rfl|hx
  ·exact h2 _ (.head _)
  ·refine ih (fun y hy=>?_) (fun y hy=>h2 y (.tail _ hy)) x hx
   rcases zcg6.mp hy with rfl|hy
   ·show 1<=_ - _;omega
   ·exact h1 y (.tail _ hy)
theorem Mrg.len(h:Mrg ps rs out):ps≠[]->out.length+1<=ps.length+rs.length:=by
 induction h with
 | nil=>intro h;exact absurd rfl h
 | @lt p w v ps r rs out hl hm ih=>
  intro _
  cases ps with
  | nil=>cases hm
  | cons y ps=>
   have:=ih (by simp)
   simp only[zch0] at this ⊢
   omega
 | @eq p w ps r rs out hm ih=>
  intro _
  cases ps with
  | nil=>cases hm;simp
  | cons y ps=>
   have:=ih (by simp)
   simp only[zch0] at this ⊢
   omega
 | gt hl _ ih=>
  intro _
  have:=ih (by simp)
  simp only[zch0] at this ⊢
  omega
theorem Mrg.sumL(h:Mrg ps rs out)(f:α->Int):(out.map fun x=>x.2.2*f x.1).sum=(ps.map fun x=>x.2*f x.1).sum:=by
 induction h with
 | nil=>rfl
 | lt hl _ ih=>simp only[zci1,zcm4];rw[ih]
 | eq _ ih=>simp only[zci1,zcm4];rw[ih]
 | gt hl _ ih=>simp only[zci1,zcm4] at ih ⊢;rw[ih,Int.sub_mul];omega
theorem Mrg.memL(h:Mrg ps rs out):∀ x∈out,x.1∈ps.map (·.1)/\x.2.1∈rs.map (·.1):=by
 induction h with
 | nil=>intro x hx;cases hx
 | lt hl _ ih=>
  intro x hx
  rcases zcg6.mp hx with rfl|hx
  ·exact⟨.head _,.head _⟩
  ·exact⟨.tail _ (ih x hx).1,(ih x hx).2⟩
 | eq _ ih=>
  intro x hx
  rcases zcg6.mp hx with rfl|hx
  ·exact⟨.head _,.head _⟩
  ·exact⟨.tail _ (ih x hx).1,.tail _ (ih x hx).2⟩
 | gt hl _ ih=>
  intro x hx
  rcases zcg6.mp hx with rfl|hx
  ·exact⟨.head _,.head _⟩
  ·exact⟨(ih x hx).1,.tail _ (ih x hx).2⟩
end
def cutR{β:Type}(xs:List (β×Int))(k:Nat)(u:Int):List (β×Int):=match xs.drop k with
 | []=>[]
 | (r,v) :: t=>(r,v - u) :: t
theorem zac3{β:Type}{xs:List (β×Int)}{k:Nat}{u:Int}{x:β×Int}(h:xs[k]?=some x):cutR xs k u=(x.1,x.2 - u) :: xs.drop (k+1):=by
 unfold cutR
 rw[zcm6 (zcf6.mp h).1,(zcf6.mp h).2]
theorem zn5{β:Type}{xs:List (β×Int)}{k:Nat}:cutR xs k 0=xs.drop k:=by
 unfold cutR
 split
 ·rename_i e;rw[e]
 ·rename_i e;rw[e,Int.sub_zero]
theorem zx6{α β:Type}(f:α->β):∀ {ps:List β}{l:List α},ps.Perm (l.map f)->∃ l':List α,l'.Perm l/\l'.map f=ps
 | [],l,h=>by
  have e:=zcn5.mp (by rw[← zcf4 (f:=f),← h.length_eq];rfl:l.length=0)
  exact⟨[],by rw[e],rfl⟩
 | y :: ps,l,h=>by
  obtain⟨x,hx,rfl⟩:=zch2.mp (h.mem_iff.mp (zck4 (a:=y)))
  obtain⟨l1,l2,rfl⟩:=List.append_of_mem hx
  have h2:ps.Perm ((l1++l2).map f):=by
   refine List.Perm.cons_inv (a:=f x) (h.trans ?_)
   rw[zci6,zci1,zci6]
   exact List.perm_middle
  obtain⟨l',q1,q2⟩:=zx6 f h2
  exact⟨x :: l',(q1.cons x).trans List.perm_middle.symm,by rw[zci1,q2]⟩
def rwF(xs:List (Int×Int×Int)):List ((Int×Int)×Int):=xs.map fun x=>((x.1,x.2.1),x.2.2)
def outM(out:List (List Int×(Int×Int)×Int)):List (List Int×Int):=out.map fun z=>(z.1++[z.2.1.2],z.2.2)
@[irreducible] def zk9:Sp:=fun vs H Q _=>∃ (a r:Addr) (ts:List (Addr×Addr)) (ms:List (List Int×Int)) (bs:List Addr) (xs:List (Int×Int×Int)),vs=[.ref a,.ref r]/\zg1 H a ts ms/\RwAt H r bs xs/\(∀ x∈ms,1<=x.2)/\(∀ x∈xs,1<=x.2.2) /\
 tot ms=tot (rwF xs)/\ms.length<=1000/\xs.length<=1000/\(∀ x∈ms,x.1.length<=1000)/\∀ p ts' out H',H p=none->Same H H'->zg1 H' p ts' (outM out)->Mrg ms (rwF xs) out->Q (.ref p) H'
theorem zay4{a r:Addr}{bs:List Addr}(M:zg1 H a ts ms)(R:RwAt H r bs xs)(h1:∀ x∈ms,1<=x.2)(h2:∀ x∈xs,1<=x.2.2)(ht:tot ms=tot (rwF xs))(hm:ms.length<=1000)(hx:xs.length<=1000)(hp:∀ x∈ms,x.1.length<=1000)(q:∀ p ts' out H',H p=none->Same H H'->zg1 H' p ts' (outM out)->Mrg ms (rwF xs) out->Q (.ref p) H'):zk9 [.ref a,.ref r] H Q E:=by unfold zk9;exact⟨a,r,ts,ms,bs,xs,rfl,M,R,h1,h2,ht,hm,hx,hp,q⟩
theorem zan4{k:Nat}{x:Int×Int×Int}(h:xs[k]?=some x):(rwF xs)[k]?=some ((x.1,x.2.1),x.2.2):=by unfold rwF;rw[zcf9,h];rfl
theorem zby8{α:Type}{l:List α}{x:α}(h:l[i]?=some x):l.drop i=x :: l.drop (i+1):=by
 rw[zcm6 (zcf6.mp h).1,(zcf6.mp h).2]
structure SO(ms:List (List Int×Int))(xs:List (Int×Int×Int))(out:List (List Int×(Int×Int)×Int))(k:Nat)(u:Int)(pend:List (List Int×Int)):Prop where
 ku:k<=xs.length
 u0:0<=u
 ul:∀ x,xs[k]?=some x->u<x.2.2
 ue:k=xs.length->u=0
 tt:tot pend=tot (cutR (rwF xs) k u)
 go:∀ fin,Mrg pend (cutR (rwF xs) k u) fin->Mrg ms (rwF xs) (out++fin)
theorem SO.at{ms:List (List Int×Int)}{xs:List (Int×Int×Int)}{out:List (List Int×(Int×Int)×Int)}{k:Nat}{u:Int}{pend:List (List Int×Int)}(S:SO ms xs out k u pend)(h:0<tot pend):∃ x,xs[k]?=some x:=by
 have ku:=S.ku
 by_cases z:k<xs.length
 ·exact⟨_,zcf3 z⟩
 ·have e:k=xs.length:=by rfl'
  have t:=S.tt
  have e2:cutR (rwF xs) k u=[]:=by
   unfold cutR
   rw[List.drop_eq_nil_of_le (by unfold rwF;rw[zcf4];omega)]
  rw[e2] at t
  have:tot ([]:List ((Int×Int)×Int))=0:=rfl
  omega
section
variable {ms:List (List Int×Int)}{xs:List (Int×Int×Int)}{out:List (List Int×(Int×Int)×Int)}{k:Nat}{u w:Int}{pl:List Int}{rest:List (List Int×Int)}{x:Int×Int×Int}
theorem SO.lt(S:SO ms xs out k u ((pl,w) :: rest))(hx:xs[k]?=some x)(h0:0<w)(h:w<x.2.2 - u):SO ms xs (out++[(pl,(x.1,x.2.1),w)]) k (u+w) rest:=by
 have u0:=S.u0
 have e1:=zac3 (u:=u) (zan4 hx)
 have e2:=zac3 (u:=u+w) (zan4 hx)
 have t:=S.tt
 rw[e1,zi4,zi4] at t
 dsimp only at t
 refine⟨S.ku,by rfl',fun y hy=>by rw[hx] at hy;cases hy;omega,fun z=>by have:=(zcf6.mp hx).1;omega,?_,fun fin hf=>?_⟩
 ·rw[e2,zi4];dsimp only;omega
 ·rw[e2] at hf
  have hf:Mrg rest (((x.1,x.2.1),x.2.2 - (u+w)) :: (rwF xs).drop (k+1)) fin:=hf
  have:=S.go ((pl,(x.1,x.2.1),w) :: fin) (by rw[e1];exact .lt h (by rw[show x.2.2 - u - w=x.2.2 - (u+w) by rfl'];exact hf))
  rw[zco7]
  exact this
theorem SO.eq(S:SO ms xs out k u ((pl,w) :: rest))(hx:xs[k]?=some x)(hpos:∀ x∈xs,1<=x.2.2)(h:w=x.2.2 - u):SO ms xs (out++[(pl,(x.1,x.2.1),w)]) (k+1) 0 rest:=by
 have e1:=zac3 (u:=u) (zan4 hx)
 have t:=S.tt
 rw[e1,zi4,zi4] at t
 dsimp only at t
 refine⟨(zcf6.mp hx).1,by rfl',fun y hy=>hpos y (zcf8 hy),fun _=>rfl,?_,fun fin hf=>?_⟩
 ·rw[zn5];omega
 ·rw[zn5] at hf
  have:=S.go ((pl,(x.1,x.2.1),w) :: fin) (by rw[e1,← h];exact .eq hf)
  rw[zco7]
  exact this
theorem SO.gt(S:SO ms xs out k u ((pl,w) :: rest))(hx:xs[k]?=some x)(hpos:∀ x∈xs,1<=x.2.2)(h:x.2.2 - u<w):SO ms xs (out++[(pl,(x.1,x.2.1),x.2.2 - u)]) (k+1) 0 ((pl,w - (x.2.2 - u)) :: rest):=by
 have e1:=zac3 (u:=u) (zan4 hx)
 have t:=S.tt
 rw[e1,zi4,zi4] at t
 dsimp only at t
 refine⟨(zcf6.mp hx).1,by rfl',fun y hy=>hpos y (zcf8 hy),fun _=>rfl,?_,fun fin hf=>?_⟩
 ·rw[zn5,zi4];dsimp only;omega
 ·rw[zn5] at hf
  have:=S.go ((pl,(x.1,x.2.1),x.2.2 - u) :: fin) (by rw[e1];exact .gt h hf)
  rw[zco7]
  exact this
end
theorem zbb4(out:List (List Int×(Int×Int)×Int))(z:List Int×(Int×Int)×Int):outM (out++[z])=outM out++[(z.1++[z.2.1.2],z.2.2)]:=by unfold outM;rw[zci6];rfl
theorem zaz3(F:Fun K "sent_on" "sent_on" zab9 f fd)(N:Nm mg):FnOk P w K mg base CX0 1 f fd ["begun","row"] zk9:=by
 refine F.ok zd9 (fun vs H Q E h=>by unfold zk9 at h;obtain⟨_,_,_,_,_,_,rfl,_⟩:=h;rfl) fun _ _ _ s H vs Q E hr h=>?_
 unfold zk9 at h
 obtain⟨a,r,ts,ms,bs,xs,rfl,M,R,h1,h2,ht,hm,hx,hp,q⟩:=h
 have hu:=hu40 hr
 have ml:=M.len
 have rl:=R.len
 refine⟨_,(za4 (psS (i:=2) zd9.nd (zp2 za1))
   (za4 (psS (i:=3) zd9.nd za2)
   (za4 (psS (i:=4) zd9.nd za2)
   (za4 (zz7 PassesOwn.never rfl (zg6 (K:=K) rfl (pq 0)) (zm6 (K:=K) (n:=2) rfl rfl (zb9 (za9 (i:=5) zd9.nd rfl (by eq_refl)) (zb9 (za9 (i:=6) zd9.nd rfl (by eq_refl)) zm2))) (za4 (psS (i:=7) zd9.nd (pq 6))
   (za6 (zby7 PassesOwn.never (ptC oGt (pq 7) za2) (za4 (psS (i:=8) zd9.nd (pB (cMinK (K:=K) rfl rfl) N.min_ bt_min (za0 (pq 7) (za0 (zc8 oSub (zc3 (K:=K) rfl (zc3 (K:=K) rfl (pq 1) (pq 3)) za2) (pq 4)) za1))))
   (za4 (zs3 (zn4 (pq 2) (za0 (zy2 (za0 (zc8 oAdd (pq 5) (zp2 (za0 (zc3 (K:=K) rfl (zc3 (K:=K) rfl (pq 1) (pq 3)) za2) za1))) (za0 (pq 8) za1))) za1)))
   (za4 (psAug (i:=7) zd9.nd ipSub (pq 8))
   (za4 (psAug (i:=4) zd9.nd ipAdd (pq 8))
   (za6 (psIf (ptC (zq1 (K:=K) rfl (by exact hu)) (pq 4) (zc3 (K:=K) rfl (zc3 (K:=K) rfl (pq 1) (pq 3)) za2)) (za4 (psAug (i:=3) zd9.nd ipAdd za2)
   (za6 (psS (i:=4) zd9.nd za2))) zd7))))))))))
   (za6 (zb6 (pq 2))))))),?_⟩
 refine zb2 (fun l H1 f1 s1 hl=>?_)
 refine zc6 (s1 _ _ M.out) ?_
 refine zj4 (xs:=ts.map fun t=>V.ref t.1) (fun i σ I=>∃ (x5 x6 x7 x8:Option V) (ts':List (Addr×Addr)) (out:List (List Int×(Int×Int)×Int)) (k:Nat) (u:Int),σ=[some (.ref a),some (.ref r),some (.ref l),some (.int k),some (.int u),x5,x6,x7,x8]/\Same H I/\zg1 I l ts' (outM out)/\Off l ts'/\out.length<=i+k/\SO ms xs out k u (ms.drop i)) ?_ ?_ ?_ ?_
 ·refine⟨none,none,none,none,[],[],0,0,rfl,s1,⟨hl,rfl,fun i t x e=>by simp at e⟩,(fun t ht=>by cases ht),zcg9 _,⟨zci0 _,Int.le_refl _,fun x hx=>h2 x (zcf8 hx),fun _=>rfl,by rw[zn5];exact ht,fun fin hf=>?_⟩⟩
  rw[zn5] at hf
  exact hf
 ·rintro i σ I hi ⟨x5,x6,x7,x8,ts',out,k,u,rfl,sI,_⟩
  exact SqL.of (sI _ _ M.out)
 ·rintro i v σ I hv ⟨x5,x6,x7,x8,ts',out,k,u,rfl,sI,M',O',ol,S⟩
  obtain⟨t,x,rfl,et,ex,e3,e4⟩:=M.elt hv
  have il:=(zcf6.mp ex).1
  have x1:=h1 x (zcf8 ex)
  have xl:=hp x (zcf8 ex)
  rw[zby8 ex] at S
  refine zh1 (sI _ _ e3) ?_
  refine zbm6 (fun σ I=>∃ (x8:Option V) (ts':List (Addr×Addr)) (out:List (List Int×(Int×Int)×Int)) (k:Nat) (u w:Int),σ=[some (.ref a),some (.ref r),some (.ref l),some (.int k),some (.int u),some (.ref t.2),some (.int x.2),some (.int w),x8]/\Same H I/\zg1 I l ts' (outM out)/\Off l ts'/\0<=w/\(0<w->out.length<=i+k/\SO ms xs out k u ((x.1,w) :: ms.drop (i+1)))/\(w=0->out.length<=i+1+k/\SO ms xs out k u (ms.drop (i+1)))) (fun σ _=>match σ with | [_,_,_,some (.int k),_,_,_,some (.int w),_]=>xs.length - k.toNat+(if 0<w then 1 else 0)|_=>0) ?_ ?_
  ·exact⟨_,ts',out,k,u,x.2,rfl,sI,M',O',by rfl',fun _=>⟨ol,S⟩,fun z=>by rfl'⟩
  ·clear S ol O' M' sI ts' out
   rintro σ I ⟨x8,ts',out,k,u,w,rfl,sI,M',O',w0,A1,A2⟩
   ac_nf
   refine zbu4 (fun hw=>?_) (fun hw=>?_)
   ·obtain⟨ol,S⟩:=A1 hw
    have t0:=(zas1 (l:=ms.drop (i+1)) fun y hy=>h1 y (zcm0 hy)).1
    obtain⟨y,ey⟩:=S.at (by rw[zi4];dsimp only;omega)
    have kl:=(zcf6.mp ey).1
    obtain⟨b,eb⟩:∃ b,bs[k]?=some b:=⟨_,zcf3 (by rfl')⟩
    have hy:=R.row k b y eb ey
    have uy:=S.ul y ey
    have u0:=S.u0
    have atb:atI (bs.map V.ref) (k:Int)=some (.ref b):=zg8 (by rw[zcf9,eb];rfl)
    refine zc2 (v:=.ref b) (sI _ _ R.out) atb ?_
    refine zj8 (v:=.int y.2.2) (sI _ _ hy) rfl ?_
    ac_nf
    obtain⟨tk,etk⟩:∃ tk:Int,(if y.2.2 - u<w then y.2.2 - u else w)=tk:=⟨_,rfl⟩
    rw[etk]
    have htk:(w<y.2.2 - u/\tk=w)∨(w=y.2.2 - u/\tk=w)∨(y.2.2 - u<w/\tk=y.2.2 - u):=by
     split at etk<;>omega
    refine zae3 M'.out ?_
    refine zc2 (v:=.ref b) (sI _ _ R.out) atb ?_
    refine zj8 (v:=.int y.2.1) (sI _ _ hy) rfl ?_
    refine zb2 (fun p1 I1 g1 r1 k1=>?_)
    refine zp0 (r1 _ _ (sI _ _ e4)) k1 (by rw[zcf4,zcp8];simp only[zch0,zch9];omega) (fun p2 I2 g2 r2 k2=>?_)
    refine zd0 (fun p3 I3 g3 r3 k3=>?_)
    have s3:=r1.trans (r2.trans r3)
    have M3:=M'.same s3
    have n2:p2≠l:=fun z=>by rw[z,r1 _ _ M'.out] at g2;cases g2
    have n3:p3≠l:=fun z=>by rw[z,r2 _ _ (r1 _ _ M'.out)] at g3;cases g3
    refine zaf7 M3.out (by have:=M3.len;unfold outM at this;rw[zcf4] at this;rw[zcf4,zcp8];omega) (fun I4 c4 k4=>?_)
    have M4:=M3.push c4 O' k4 (x:=(x.1++[y.2.1],tk)) (c4 _ _ n3 k3) (c4 _ _ n2 (by rw[zci6];exact r3 _ _ k2))
    have sI4:Same H I4:=fun b o e=>c4 _ _ (fun z=>by rw[z,f1] at e;cases e) (s3 _ _ (sI _ _ e))
    have O4:=O'.push n3 n2
    rw[show outM out++[(x.1++[y.2.1],tk)]=outM (out++[(x.1,(y.1,y.2.1),tk)]) from (zbb4 out (x.1,(y.1,y.2.1),tk)).symm] at M4
    have ll:(out++[(x.1,(y.1,y.2.1),tk)]).length=out.length+1:=by rw[zcg2];rfl
    refine zc2 (v:=.ref b) (sI4 _ _ R.out) atb ?_
    refine zj8 (v:=.int y.2.2) (sI4 _ _ hy) rfl ?_
    rcases htk with ⟨z1,rfl⟩|⟨z1,rfl⟩|⟨z1,rfl⟩
    ·have SA:=S.lt ey hw z1
     refine zbj7 (by rfl') ?_
     ac_nf
     refine⟨⟨_,_,_,k,_,_,rfl,sI4,M4,O4,by rfl',fun z=>by rfl',fun _=>⟨by rw[ll];omega,SA⟩⟩,?_⟩
     show xs.length - (k:Int).toNat+(if 0<tk - tk then 1 else 0)<xs.length - (k:Int).toNat+(if 0<tk then 1 else 0)
     rw[if_neg (by rfl'),if_pos hw];omega
    ·have SB:=S.eq ey h2 z1
     refine zaj7 (by rfl') ?_
     ac_nf
     refine⟨⟨_,_,_,k+1,_,_,rfl,sI4,M4,O4,by rfl',fun z=>by rfl',fun _=>⟨by rw[ll];omega,SB⟩⟩,?_⟩
     show xs.length - ((k:Int)+1).toNat+(if 0<tk - tk then 1 else 0)<xs.length - (k:Int).toNat+(if 0<tk then 1 else 0)
     rw[if_neg (by rfl'),if_pos hw];omega
    ·have SC:=S.gt ey h2 z1
     refine zaj7 (by rfl') ?_
     ac_nf
     refine⟨⟨_,_,_,k+1,_,_,rfl,sI4,M4,O4,by rfl',fun z=>⟨by rw[ll];omega,SC⟩,fun z=>by rfl'⟩,?_⟩
     show xs.length - ((k:Int)+1).toNat+(if 0<w - (y.2.2 - u) then 1 else 0)<xs.length - (k:Int).toNat+(if 0<w then 1 else 0)
     rw[if_pos (by rfl'),if_pos hw];omega
   ·obtain⟨ol,S⟩:=A2 (by rfl')
    ac_nf
    exact⟨_,_,_,_,ts',out,k,u,rfl,sI,M',O',by rfl',S⟩
 ·rintro σ I ⟨x5,x6,x7,x8,ts',out,k,u,rfl,sI,M',O',ol,S⟩
  ac_nf
  have e0:ms.drop (ts.map fun t=>V.ref t.1).length=[]:=List.drop_eq_nil_of_le (by rw[zcf4];omega)
  rw[e0] at S
  have ku:=S.ku
  have en:cutR (rwF xs) k u=[]:=by
   by_cases z:k<xs.length
   ·obtain⟨y,ey⟩:∃ y,xs[k]?=some y:=⟨_,zcf3 z⟩
    have t:=S.tt
    rw[zac3 (zan4 ey),zi4] at t
    have t0:=(zas1 (l:=(rwF xs).drop (k+1)) fun y hy=>by
     unfold rwF at hy
     obtain⟨z,hz,rfl⟩:=zch2.mp (zcm0 hy)
     exact h2 z hz).1
    have:=S.ul y ey
    have:tot ([]:List (List Int×Int))=0:=rfl
    dsimp only at t
    omega
   ·unfold cutR
    rw[List.drop_eq_nil_of_le (by unfold rwF;rw[zcf4];omega)]
  have g:=S.go [] (by rw[en];exact .nil)
  rw[zcn4] at g
  exact q l ts' out I f1 sI M' g
theorem zbd2{H:Hp}:∀ {xs:List V}{ds:List PyData}{ys:List V}{es:List PyData},ShL H xs ds->ShL H ys es->ShL H (xs++ys) (ds++es)
 | _,_,_,_,.nil,b=>b
 | _,_,_,_,.cons h a,b=>.cons h (zbd2 a b)
theorem zab0{d:PyData}:∀ {ds:List PyData},d∈ds->d.depth<=PyData.depthAll ds
 | [],h=>by cases h
 | e :: ds,h=>by
  rw[show PyData.depthAll (e :: ds)=max e.depth (PyData.depthAll ds) from rfl]
  rcases zcg6.mp h with rfl|h
  ·exact Nat.le_max_left _ _
  ·exact zcj5 (zab0 h) (Nat.le_max_right _ _)
def zc9(H:Hp)(a:Addr)(b:Int):Prop:=∃ x y z:Int,H a=some (.lst [.int x,.int y,.int z])/\(y=1∨(y=0/\0<=x/\x<2147483629))/\0<=z/\z<=b
theorem zc9.same{H H':Hp}{a:Addr}{b:Int}(h:zc9 H a b)(s:Same H H'):zc9 H' a b:=by
 obtain⟨x,y,z,e,r⟩:=h
 exact⟨x,y,z,s _ _ e,r⟩
local macro_rules | `(tactic| walk_at "la")=>`(tactic| first|assumption|(refine zc9.same (H:=?H) ?l ?s;(case s=>assumption);(case l=>walk_at "la"))|fail "la")
theorem zc9.up{a:Addr}{b c:Int}(h:zc9 H a b)(l:b<=c):zc9 H a c:=by
 obtain⟨x,y,z,e1,e2,e3,e4⟩:=h
 exact⟨x,y,z,e1,e2,e3,by rfl'⟩
theorem zc9.ne{H:Hp}{a p:Addr}{b:Int}(h:zc9 H a b)(f:H p=none):p≠a:=by
 obtain⟨x,y,z,e,_⟩:=h
 exact Ne.symm (za5 e f)
local macro_rules | `(tactic| walk_at "ne")=>`(tactic| first|assumption|(apply Ne.symm;assumption)|(refine zc9.ne (H:=?H) (b:=?b) ?l ?f;(case f=>assumption);(case l=>walk_at "la"))|fail "ne")
@[irreducible] def zi9:Sp:=fun vs H Q _=>∃ n k:Int,vs=[.int n,.int k]/\0<=n/\n<2147483629/\0<=k/\k<=10000000/\∀ r:Int,0<=r->r<2147483587->Q (.int r) H
theorem zau9{n k:Int}(h0:0<=n)(h1:n<2147483629)(h2:0<=k)(h3:k<=10000000)(q:∀ r:Int,0<=r->r<2147483587->Q (.int r) H):zi9 [.int n,.int k] H Q E:=by
 unfold zi9;exact⟨n,k,rfl,h0,h1,h2,h3,q⟩
theorem zao5(F:Fun K "_law_mix" "_law_mix" zx1 f fd)(N:Nm mg):FnOk P w K mg base CX0 1 f fd ["_law_number","_law_k"] zi9:=by
 refine F.ok zz6 (fun vs H Q E h=>by unfold zi9 at h;obtain⟨n,k,rfl,_⟩:=h;rfl) fun _ _ _ s H vs Q E hr h=>?_
 unfold zi9 at h
 obtain⟨n,k,rfl,h1,h2,h3,h4,q⟩:=h
 refine⟨_,(za4 (psS (i:=2) zz6.nd (zc8 oMod (zc8 oMul (zc8 oAdd (zc8 oAdd (zc8 oMul (pq 0) (pq 0)) (zc8 oMul (pq 1) (pq 0))) (zc8 oMul (zc8 oMul za2 (pq 1)) (pq 1))) za2) za2))
   (za6 (zb6 (zc8 oMod (zc8 oMul (pq 2) (pq 2)) za2)))),?_⟩
 repeat walk_at "st"
 ac_nf
 exact q _ (by assumption) (by assumption)
@[irreducible] def ze8:Sp:=fun vs H Q _=>∃ (a:Addr) (z:Int),vs=[.ref a,.int 0]/\H a=some (.lst [.int z])/\Q (.int z) H
theorem zaz7{a:Addr}{z:Int}(h:H a=some (.lst [.int z]))(q:Q (.int z) H):ze8 [.ref a,.int 0] H Q E:=by unfold ze8;exact⟨a,z,rfl,h,q⟩
theorem zac0(F:Fun K "_law_cell_at" "_law_cell_at" zm9 f fd)(N:Nm mg):FnOk P w K mg base CX0 1 f fd ["_law_script","_law_k"] ze8:=by
 refine F.ok zab2 (fun vs H Q E h=>by unfold ze8 at h;obtain⟨_,_,rfl,_⟩:=h;rfl) fun _ _ _ s H vs Q E hr h=>?_
 unfold ze8 at h
 obtain⟨a,z,rfl,h,q⟩:=h
 have hu:=hu40 hr
 refine⟨_,(za4 (psIf (ptC (oLtX (by exact hu)) (pq 1) (pB (zp3 (K:=K) rfl) N.len_ zi3 (za0 (pq 0) za1))) (za6 (zb6 (zc3 (K:=K) rfl (pq 0) (pq 1)))) zd7)
   (za6 (zb6 za2))),?_⟩
 refine zf8 h ?_
 refine zaj7 (by show (0:Int)<((1:Nat):Int);decide) ?_
 refine zc2 (v:=.int z) h rfl ?_
 ac_nf
 exact q
@[irreducible] def zh3:Sp:=fun vs H Q _=>∃ (a:Addr) (z:Int),vs=[.ref a,.int 0]/\H a=some (.lst [.int z])/\∀ p H',H p=none->Same H H'->zc9 H' p 0->Q (.ref p) H'
theorem zby6{a:Addr}{z:Int}(h:H a=some (.lst [.int z]))(q:∀ p H',H p=none->Same H H'->zc9 H' p 0->Q (.ref p) H'):zh3 [.ref a,.int 0] H Q E:=by unfold zh3;exact⟨a,z,rfl,h,q⟩
theorem zal3(F:Fun K "_law_left" "_law_left" zs5 f fd)(N:Nm mg)(zcb8:Def P w K mg base CX0 1 "_law_cell_at" ["_law_script","_law_k"] ze8):FnOk P w K mg base CX0 2 f fd ["_law_script","_law_k"] zh3:=by
 refine F.ok zy1 (fun vs H Q E h=>by unfold zh3 at h;obtain⟨_,_,rfl,_⟩:=h;rfl) fun _ _ _ s H vs Q E hr h=>?_
 unfold zh3 at h
 obtain⟨a,z,rfl,h,q⟩:=h
 have hu:=hu40 hr
 refine⟨_,(za4 (psS (i:=2) zy1.nd (pD zcb8 hr zc5 (za0 (pq 0) (za0 (pq 1) za1))))
   (za4 (psIf (ptC (oLtX (by exact hu)) (pq 2) (zc8 oPow za2 za2)) (za6 (zb6 (zp2 (za0 (zc8 oMod (pq 2) za2) (za0 za2 (za0 za2 za1)))))) zd7)
   (za6 (zb6 (zp2 (za0 (zc8 oSub (pq 2) (zc8 oPow za2 za2)) (za0 za2 (za0 za2 za1)))))))),?_⟩
 refine zaz7 h ?_
 walk_at "st"
 refine ze6 (fun h=>?_) (fun h=>?_)
 ·repeat walk_at "st"
  ac_nf
  exact q _ _ (by assumption) (by assumption) ⟨_,_,_,by assumption,.inr ⟨rfl,by assumption,by assumption⟩,by rfl',by rfl'⟩
 ·repeat walk_at "st"
  ac_nf
  exact q _ _ (by assumption) (by assumption) ⟨_,_,_,by assumption,.inl rfl,by rfl',by rfl'⟩
@[irreducible] def ze0:Sp:=fun vs H Q _=>∃ (a:Addr) (m b:Int),vs=[.ref a,.int m]/\zc9 H a b/\b<=1000000/\0<m/\m<10 ^ 60/\∀ (d:Int) H',0<=d->d<m->Chg a H H'->zc9 H' a (b+1)->Q (.int d) H'
theorem zg7{a:Addr}{m b:Int}(hL:zc9 H a b)(hb:b<=1000000)(h0:0<m)(h1:m<10 ^ 60)(q:∀ (d:Int) H',0<=d->d<m->Chg a H H'->zc9 H' a (b+1)->Q (.int d) H'):ze0 [.ref a,.int m] H Q E:=by
 unfold ze0;exact⟨a,m,b,rfl,hL,hb,h0,h1,q⟩
theorem zal8(F:Fun K "_law_draw" "_law_draw" zs2 f fd)(N:Nm mg)(zcc9:Def P w K mg base CX0 1 "_law_mix" ["_law_number","_law_k"] zi9):FnOk P w K mg base CX0 2 f fd ["_law_left_here","_law_base"] ze0:=by
 refine F.ok zq5 (fun vs H Q E h=>by unfold ze0 at h;obtain⟨a,m,b,rfl,_⟩:=h;rfl) fun _ _ _ s H vs Q E hr h=>?_
 unfold ze0 at h
 obtain⟨a,m,b,rfl,⟨x,y,z,hl,hy,hz0,hz1⟩,hb,hm0,hm1,q⟩:=h
 have hu:=hu40 hr
 refine⟨_,(za4 (zbb5 (zc8 oAdd (zc3 (K:=K) rfl (pq 0) za2) za2) (zbq8 (pq 0) za2 setM))
   (za4 (psIf (ptC (zq1 (K:=K) rfl (by exact hu)) (zc3 (K:=K) rfl (pq 0) za2) za2) (za4 (psS (i:=2) zq5.nd (pD zcc9 hr zc5 (za0 (zc3 (K:=K) rfl (pq 0) za2) (za0 (zc3 (K:=K) rfl (pq 0) za2) za1))))
   (za4 (psIf (ptC oGt (pq 1) (zc8 oPow za2 za2)) (za6 (zb6 (zc8 oMod (zc8 oMul (pq 2) (zc8 oAdd (zc8 oPow (pD zcc9 hr zc5 (za0 (zc3 (K:=K) rfl (pq 0) za2) (za0 (zc8 oAdd (zc3 (K:=K) rfl (pq 0) za2) za2) za1))) za2) za2)) (pq 1)))) zd7)
   (za6 (zb6 (zc8 oMod (zc8 oMod (zc8 oMul (pq 2) (zc8 oAdd (pq 2) za2)) za2) (pq 1)))))) zd7)
   (za4 (psS (i:=3) zq5.nd (zc8 oMod (zc3 (K:=K) rfl (pq 0) za2) (pq 1)))
   (za4 (zbb5 (zc8 oDiv (zc3 (K:=K) rfl (pq 0) za2) (pq 1)) (zbq8 (pq 0) za2 setM))
   (za6 (zb6 (pq 3))))))),?_⟩
 walk_at "st"
 refine zbr8 hl (by rfl) (fun H1 c1 h1=>?_)
 have h1:H1 a=some (.lst [.int x,.int y,.int (z+1)]):=h1
 refine zc2 (v:=.int y) h1 rfl ?_
 refine ze6 (fun h=>?_) (fun h=>?_)
 ·obtain⟨hx0,hx1⟩:0<=x/\x<2147483629:=by rfl'
  subst h
  refine zc2 (v:=.int x) h1 rfl ?_
  refine zc2 (v:=.int (z+1)) h1 rfl ?_
  refine zau9 hx0 hx1 (by rfl') (by rfl') (fun r r0 r1=>?_)
  walk_at "st"
  refine ze6 (fun g=>?_) (fun g=>?_)
  ·ac_nf
   refine zc2 (v:=.int x) h1 rfl ?_
   refine zc2 (v:=.int (z+1)) h1 rfl ?_
   refine zau9 hx0 hx1 (by rfl') (by rfl') (fun r2 r20 r21=>?_)
   refine zbs4 ⟨by decide,by decide,by rfl'⟩ ?_
   refine zap4 (by rfl') (by rfl') ?_
   refine zaa1 (by rfl') (fun d d0 d1=>?_)
   ac_nf
   exact q _ _ d0 d1 c1 ⟨_,_,_,h1,.inr ⟨rfl,hx0,hx1⟩,by rfl',by rfl'⟩
  ·ac_nf
   refine zap4 (by rfl') (by rfl') ?_
   refine zaa1 (by rfl') (fun d1 d10 d11=>?_)
   refine zaa1 (by rfl') (fun d d0 d1=>?_)
   ac_nf
   exact q _ _ d0 d1 c1 ⟨_,_,_,h1,.inr ⟨rfl,hx0,hx1⟩,by rfl',by rfl'⟩
 ·have hy1:y=1:=by rfl'
  subst hy1
  refine zc2 (v:=.int x) h1 rfl ?_
  refine zaa1 (by rfl') (fun d d0 d1=>?_)
  refine zc2 (v:=.int x) h1 rfl ?_
  walk_at "st"
  refine zbr8 h1 (by rfl) (fun H2 c2 h2=>?_)
  ac_nf
  exact q _ _ d0 d1 (c1.trans c2) ⟨_,_,_,h2,.inl rfl,by rfl',by rfl'⟩
theorem zc9.chg{a p:Addr}{b:Int}(h:zc9 H a b)(c:Chg p H H')(n:a≠p):zc9 H' a b:=by
 obtain⟨x,y,z,e,r⟩:=h
 exact⟨x,y,z,c _ _ n e,r⟩
theorem zc9.some{H:Hp}{a:Addr}{b:Int}(h:zc9 H a b):∃ o,H a=some o:=by
 obtain⟨x,y,z,e,r⟩:=h
 exact⟨_,e⟩
theorem Chg.free'{a l:Addr}(x:Chg a H H')(h:H' l=none)(n:l≠a):H l=none:=by
 cases e:H l with
 | none=>rfl
 | some o=>
  have:=x l o n e
  rw[h] at this
  cases this
def okD(n:Nat)(d:PyData):Prop:=sml d=true/\d.canLay0=true/\d.depth<=n
def Rd(H:Hp)(v:V)(n:Nat):Prop:=∃ d,ShV H v d/\okD n d/\(za8 d).length<60
theorem Rd.same{H H':Hp}{v:V}{n:Nat}(h:Rd H v n)(s:Same H H'):Rd H' v n:=by obtain⟨d,h1,h2⟩:=h;exact⟨d,h1.same s,h2⟩
theorem okD.up{n m:Nat}{d:PyData}(h:okD n d)(l:n<=m):okD m d:=⟨h.1,h.2.1,zcj5 h.2.2 l⟩
theorem Rd.up{H:Hp}{v:V}{n m:Nat}(h:Rd H v n)(l:n<=m:=by decide):Rd H v m:=by obtain⟨d,h1,h2⟩:=h;exact⟨d,h1,h2.1.up l,h2.2⟩
theorem Rd.int{H:Hp}(i:Int)(n:Nat):Rd H (.int i) n:=⟨.int i,.int i,⟨rfl,rfl,zci0 _⟩,by show (0:Nat)<60;decide⟩
theorem Rd.bl{H:Hp}(b:Bool)(n:Nat):Rd H (.bl b) n:=⟨.bool b,.bl b,⟨rfl,rfl,zci0 _⟩,by show (0:Nat)<60;decide⟩
theorem Rd.non{H:Hp}(n:Nat):Rd H .non n:=⟨.none,.non,⟨rfl,rfl,zci0 _⟩,by show (0:Nat)<60;decide⟩
theorem Rd.str{H:Hp}{x:Str}(n:Nat)(h:PyData.strOk x=true):Rd H (.str x) n:=⟨.str x,.str x,⟨rfl,h,zci0 _⟩,by show (0:Nat)<60;decide⟩
theorem zbr0(h:∀ d∈ds,d.canLay0=true):PyData.canLayAll0 ds=true:=by
 induction ds with
 | nil=>rfl
 | cons d ds ih=>
  show (d.canLay0&&PyData.canLayAll0 ds)=true
  rw[h d (.head _),ih fun x hx=>h x (.tail _ hx)];rfl
theorem zx0:∀ {ds:List PyData},PyData.canLayAll0 ds=true->∀ d∈ds,d.canLay0=true
 | [],_,d,h=>by cases h
 | e :: ds,h,d,hd=>by
  have h:(e.canLay0&&PyData.canLayAll0 ds)=true:=h
  rw[zcg4] at h
  rcases zcg6.mp hd with rfl|hd
  ·exact h.1
  ·exact zx0 h.2 d hd
theorem zbr9{n:Nat}(h:∀ d∈ds,d.depth<=n):PyData.depthAll ds<=n:=by
 induction ds with
 | nil=>exact zci0 _
 | cons d ds ih=>
  rw[show PyData.depthAll (d :: ds)=max d.depth (PyData.depthAll ds) from rfl]
  exact Nat.max_le.mpr ⟨h d (.head _),ih fun x hx=>h x (.tail _ hx)⟩
theorem okD.list{n:Nat}{ds:List PyData}(l:ds.length<=1000)(h:∀ d∈ds,okD n d):okD (n+1) (.list ds):=
 ⟨by simp only[sml,zcg4,decide_eq_true_eq];exact⟨by rfl',zu3 fun d hd=>(h d hd).1⟩,zbr0 fun d hd=>(h d hd).2.1,Nat.succ_le_succ (zbr9 fun d hd=>(h d hd).2.2)⟩
theorem okD.tuple{n:Nat}{ds:List PyData}(l:ds.length<=1000)(h:∀ d∈ds,okD n d):okD (n+1) (.tuple ds):=
 ⟨by simp only[sml,zcg4,decide_eq_true_eq];exact⟨by rfl',zu3 fun d hd=>(h d hd).1⟩,zbr0 fun d hd=>(h d hd).2.1,Nat.succ_le_succ (zbr9 fun d hd=>(h d hd).2.2)⟩
theorem Rd.lst{H:Hp}{a:Addr}{xs:List V}{n:Nat}(e:H a=some (.lst xs))(l:xs.length<60)(h:∀ x∈xs,Rd H x n):Rd H (.ref a) (n+1):=by
 obtain⟨ds,h1,h2⟩:=ShL.ex (P:=fun d=>okD n d) fun x hx=>by obtain⟨d,h1,h2,_⟩:=h x hx;exact⟨d,h1,h2⟩
 exact⟨.list ds,.lst e h1,okD.list (by rw[← h1.len];omega) h2,by show ds.length<60;rw[← h1.len];exact l⟩
theorem Rd.tup{H:Hp}{a:Addr}{xs:List V}{n:Nat}(e:H a=some (.tup xs))(l:xs.length<60)(h:∀ x∈xs,Rd H x n):Rd H (.ref a) (n+1):=by
 obtain⟨ds,h1,h2⟩:=ShL.ex (P:=fun d=>okD n d) fun x hx=>by obtain⟨d,h1,h2,_⟩:=h x hx;exact⟨d,h1,h2⟩
 exact⟨.tuple ds,.tup e h1,okD.tuple (by rw[← h1.len];omega) h2,by show (0:Nat)<60;decide⟩
theorem zaj1:∀ {n:Nat}{d:PyData},d.depth<=n->d.canLay0=true->d.eqv d=true
 | _,.none,_,_=>rfl
 | _,.bool b,_,_=>by show (b==b)=true;exact beq_self_eq_true _
 | _,.int i,_,_=>by show (i==i)=true;exact beq_self_eq_true _
 | _,.str x,_,_=>by show (x==x)=true;exact beq_self_eq_true _
 | 0,.list ds,h,_=>by have h:PyData.depthAll ds+1<=0:=h;omega
 | 0,.tuple ds,h,_=>by have h:PyData.depthAll ds+1<=0:=h;omega
 | n+1,.list ds,h,c=>by
  have h:PyData.depthAll ds+1<=n+1:=h
  have c:PyData.canLayAll0 ds=true:=c
  show PyData.eqvAll ds ds=true
  exact all ds (fun d hd=>zaj1 (n:=n) (zcj5 (zab0 hd) (by rfl')) (zx0 c d hd))
 | n+1,.tuple ds,h,c=>by
  have h:PyData.depthAll ds+1<=n+1:=h
  have c:PyData.canLayAll0 ds=true:=c
  show PyData.eqvAll ds ds=true
  exact all ds (fun d hd=>zaj1 (n:=n) (zcj5 (zab0 hd) (by rfl')) (zx0 c d hd))
 | _,.dict _,_,c=>by cases (show false=true from c)
where all:∀ ds:List PyData,(∀ d∈ds,d.eqv d=true)->PyData.eqvAll ds ds=true
 | [],_=>rfl
 | d :: ds,h=>by
  show (d.eqv d&&PyData.eqvAll ds ds)=true
  rw[h d (.head _),all ds fun x hx=>h x (.tail _ hx)];rfl
theorem okD.eqv{n:Nat}{d:PyData}(h:okD n d):d.eqv d=true:=zaj1 h.2.2 h.2.1
theorem zbr1{K:zcf5}{n:Nat}{x y:V}{d:PyData}(hx:ShV H x d)(hy:ShV H y d)(o:okD n d)(hn:n<=40)(q:Q (.bl false) H):zak8 K x y H Q:=by
 have gen:rEqX K x y H fun v H'=>match v with
   | .bl b=>Q (.bl (!b)) H'
   | _=>False:=eqS_rd hx hy o.2.1 o.2.1 (zcj5 o.2.2 hn) (by rw[o.eqv];exact q)
 unfold zak8 zaw6
 cases hx<;>cases hy
 case int i=>show Q (.bl (!decide (i=i))) H;rw[decide_eq_true rfl];exact q
 case bl i=>show Q (.bl (!decide (i=i))) H;rw[decide_eq_true rfl];exact q
 case str i=>show Q (.bl (!decide (i=i))) H;rw[decide_eq_true rfl];exact q
 all_goals exact gen
theorem zaa5:∀ {ns:List Int},(∀ x∈ns,0<=x)->(∀ x∈ns,x<=ns.sum)/\0<=ns.sum
 | [],_=>⟨fun x h=>by (cases h),Int.le_refl _⟩
 | n :: ns,h=>by
  have h0:=h n (.head _)
  obtain⟨i1,i2⟩:=zaa5 (ns:=ns) fun y hy=>h y (.tail _ hy)
  rw[zcm4]
  refine⟨fun x hx=>?_,by rfl'⟩
  rcases zcg6.mp hx with rfl|hx
  ·omega
  ·have:=i1 x hx;omega
section
variable {κ μ:Type}[DecidableEq κ] [DecidableEq μ]
def atG(zs:List (κ×Int))(k:κ):Int:=((zs.filter fun z=>decide (z.1=k)).map (·.2)).sum
theorem zt9{kv:List (κ×Int)}{k:κ}:k ∉ kv.map (·.1)->valG kv k=none:=by
 induction kv with
 | nil=>intro _;rfl
 | cons z kv ih=>
  intro h
  rw[zci1,zcg6,not_or] at h
  rw[zk5 (fun e=>h.1 e.symm),ih h.2]
theorem zbo4(kv:List (κ×Int))(k j:κ)(n:Int):valG (kv.map fun z=>if z.1=k then (z.1,n) else z) j=if j=k then (if j∈kv.map (·.1) then some n else none) else valG kv j:=by
 induction kv with
 | nil=>by_cases e:j=k<;>simp[e,valG]
 | cons z kv ih=>
  rw[zci1]
  by_cases ez:z.1=j
  ·subst ez
   by_cases ek:z.1=k
   ·rw[if_pos ek,if_pos ek,zk7 (z:=(z.1,n)) rfl,if_pos (by simp)]
   ·rw[if_neg ek,if_neg ek,zk7 rfl,zk7 rfl]
  ·have:¬ (if z.1=k then (z.1,n) else z).1=j:=by split<;>exact ez
   rw[zk5 this,ih,zk5 ez]
   by_cases ek:j=k
   ·rw[if_pos ek,if_pos ek]
    have:(j∈(z :: kv).map (·.1))↔j∈kv.map (·.1):=by
     rw[zci1,zcg6]
     exact⟨fun h=>h.resolve_left fun e=>ez e.symm,.inr⟩
    by_cases h:j∈kv.map (·.1)
    ·rw[if_pos h,if_pos (this.mpr h)]
    ·rw[if_neg h,if_neg fun z=>h (this.mp z)]
   ·rw[if_neg ek,if_neg ek]
theorem zaj2(kv:List (κ×Int))(k:κ):(kv.any fun z=>decide (z.1=k))=true↔k∈kv.map (·.1):=by
 rw[List.any_eq_true,zch2]
 exact⟨fun ⟨z,h1,h2⟩=>⟨z,h1,of_decide_eq_true h2⟩,fun ⟨z,h1,h2⟩=>⟨z,h1,decide_eq_true h2⟩⟩
theorem zbo0(kv:List (κ×Int))(z:κ×Int)(j:κ):valG (kv++[z]) j=match valG kv j with|some n=>some n|none=>if z.1=j then some z.2 else none:=by
 induction kv with
 | nil=>
  by_cases e:z.1=j
  ·show valG [z] j=if z.1=j then some z.2 else none;rw[zk7 e,if_pos e]
  ·show valG [z] j=if z.1=j then some z.2 else none;rw[zk5 e,if_neg e];rfl
 | cons y kv ih=>
  rw[List.cons_append]
  by_cases e:y.1=j
  ·rw[zk7 e,zk7 e]
  ·rw[zk5 e,zk5 e,ih]
theorem zbn3(kv:List (κ×Int))(k j:κ)(n:Int):valG (putG kv k n) j=if j=k then some n else valG kv j:=by
 unfold putG
 by_cases h:(kv.any fun z=>decide (z.1=k))=true
 ·rw[if_pos h,zbo4]
  by_cases e:j=k
  ·rw[if_pos e,if_pos e,if_pos (by rw[e];exact (zaj2 kv k).mp h)]
  ·rw[if_neg e,if_neg e]
 ·rw[if_neg h,zbo0]
  have hk:k ∉ kv.map (·.1):=fun z=>h ((zaj2 kv k).mpr z)
  by_cases e:j=k
  ·subst e
   rw[zt9 hk,if_pos rfl]
   first|done|exact if_pos rfl
  ·rw[if_neg e]
   cases valG kv j with
   | none=>exact if_neg fun z=>e z.symm
   | some m=>rfl
theorem zbl8(zs:List (κ×Int))(z:κ×Int)(k:κ):atG (zs++[z]) k=atG zs k+if z.1=k then z.2 else 0:=by
 unfold atG
 rw[List.filter_append,zci6,List.sum_append]
 by_cases e:z.1=k
 ·rw[if_pos e,zcm5,if_pos (decide_eq_true e)];simp
 ·rw[if_neg e,zcm5,if_neg (by rw[decide_eq_false e];exact zcg3)];simp
theorem zat8(zs:List (κ×Int))(z:κ×Int)(k:κ):atG (z :: zs) k=(if z.1=k then z.2 else 0)+atG zs k:=by
 unfold atG
 by_cases e:z.1=k
 ·rw[if_pos e,zcm5,if_pos (decide_eq_true e)];simp
 ·rw[if_neg e,zcm5,if_neg (by rw[decide_eq_false e];exact zcg3)];simp
theorem zat3{α:Type}{P:List α->Prop}(h0:P [])(hs:∀ xs x,P xs->P (xs++[x]))(xs:List α):P xs:=by
 have:∀ n (xs:List α),xs.length=n->P xs:=fun n=>by
  induction n with
  | zero=>intro xs h;rw[zcn5.mp h];exact h0
  | succ n ih=>
   intro xs h
   have hn:xs≠[]:=fun z=>by rw[z] at h;simp at h
   rw[← List.dropLast_concat_getLast hn]
   exact hs _ _ (ih _ (by rw[List.length_dropLast];omega))
 exact this _ xs rfl
theorem zl5(zs:List (κ×Int))(k:κ):valG (sumG zs) k=if k∈zs.map (·.1) then some (atG zs k) else none:=by
 induction zs using zat3 with
 | h0=>rfl
 | hs zs z ih=>
  rw[zu8]
  unfold addG
  rw[zbn3,zbl8]
  have mm:k∈(zs++[z]).map (·.1)↔(k∈zs.map (·.1)∨k∈[z].map (·.1)):=by rw[zci6,zch7]
  by_cases e:k=z.1
  ·subst e
   rw[if_pos rfl,if_pos (mm.mpr (.inr (by simp))),if_pos rfl,ih]
   by_cases h:z.1∈zs.map (·.1)
   ·rw[if_pos h];rfl
   ·rw[if_neg h]
    have:atG zs z.1=0:=by
     unfold atG
     rw[List.filter_eq_nil_iff.mpr fun y hy hd=>h (zch2.mpr ⟨y,hy,of_decide_eq_true hd⟩)];rfl
    rw[this];rfl
  ·have z0:(if z.1=k then z.2 else 0)=0:=if_neg fun q=>e q.symm
   rw[if_neg e,ih,z0,Int.add_zero]
   have:(k∈zs.map (·.1)∨k∈[z].map (·.1))↔k∈zs.map (·.1):=⟨fun h=>h.resolve_right fun q=>e (by simpa using q),.inl⟩
   by_cases h:k∈zs.map (·.1)
   ·rw[if_pos h,if_pos (mm.mpr (.inl h))]
   ·rw[if_neg h,if_neg fun q=>h (this.mp (mm.mp q))]
theorem zbo8(kv:List (κ×Int))(k:κ)(n:Int):(putG kv k n).map (·.1)=if k∈kv.map (·.1) then kv.map (·.1) else kv.map (·.1)++[k]:=by
 unfold putG
 by_cases h:(kv.any fun z=>decide (z.1=k))=true
 ·rw[if_pos h,if_pos ((zaj2 kv k).mp h),zch6]
  refine zcj8 fun z _=>?_
  show (if z.1=k then (z.1,n) else z).1=z.1
  split<;>rfl
 ·rw[if_neg h,if_neg fun z=>h ((zaj2 kv k).mpr z),zci6];rfl
theorem zg2(zs:List (κ×Int)):((sumG zs).map (·.1)).Nodup/\∀ k,k∈(sumG zs).map (·.1)↔k∈zs.map (·.1):=by
 induction zs using zat3 with
 | h0=>exact⟨List.nodup_nil,fun k=>Iff.rfl⟩
 | hs zs z ih=>
  rw[zu8]
  unfold addG
  rw[zbo8]
  by_cases h:z.1∈(sumG zs).map (·.1)
  ·rw[if_pos h]
   refine⟨ih.1,fun k=>?_⟩
   rw[ih.2,zci6,zch7]
   exact⟨.inl,fun q=>q.elim id fun q=>by rw[show k=z.1 by simpa using q];exact (ih.2 _).mp h⟩
  ·rw[if_neg h]
   refine⟨?_,fun k=>?_⟩
   ·rw[List.nodup_append]
    refine⟨ih.1,by simp,fun a ha b hb=>?_⟩
    rw[show b=z.1 by simpa using hb]
    exact fun q=>h (q▸ha)
   ·rw[zch7,ih.2,zci6,zch7];rfl
theorem zas9{kv:List (κ×Int)}(nd:(kv.map (·.1)).Nodup){z:κ×Int}(h:z∈kv):valG kv z.1=some z.2:=by
 induction kv with
 | nil=>cases h
 | cons y kv ih=>
  rw[zci1,zcl1] at nd
  rcases zcg6.mp h with rfl|h
  ·exact zk7 rfl
  ·rw[zk5 (fun e=>nd.1 (e▸zch2.mpr ⟨z,h,rfl⟩))]
   exact ih nd.2 h
theorem atG_ge{zs:List (κ×Int)}(h1:∀ z∈zs,1<=z.2):∀ {k:κ},(0<=atG zs k)/\(k∈zs.map (·.1)->1<=atG zs k):=by
 induction zs with
 | nil=>exact fun {k}=>⟨Int.le_refl _,fun h=>by cases h⟩
 | cons z zs ih=>
  intro k
  obtain⟨i1,i2⟩:=ih (fun y hy=>h1 y (.tail _ hy)) (k:=k)
  have z1:=h1 z (.head _)
  rw[zat8]
  by_cases e:z.1=k
  ·rw[if_pos e]
   exact⟨by rfl',fun _=>by rfl'⟩
  ·rw[if_neg e]
   refine⟨by rfl',fun h=>?_⟩
   rw[zci1,zcg6] at h
   have:=i2 (h.resolve_left fun q=>e q.symm)
   omega
theorem zbh3{p:κ->Bool}{a:κ}{c:Int}:∀ {ks:List κ},ks.Nodup->((ks.filter p).map fun k=>if a=k then c else 0).sum=if a∈ks/\p a=true then c else 0
 | [],_=>by simp
 | k :: ks,nd=>by
  rw[zcl1] at nd
  have ih:=zbh3 (p:=p) (a:=a) (c:=c) nd.2
  rw[zcm5]
  by_cases e:a=k
  ·subst e
   have:¬ (a∈ks/\p a=true):=fun h=>nd.1 h.1
   rw[if_neg this] at ih
   by_cases hp:p a=true
   ·rw[if_pos hp,zci1,zcm4,ih,if_pos rfl,if_pos ⟨.head _,hp⟩];omega
   ·rw[if_neg hp,ih,if_neg fun h=>hp h.2]
  ·have:(a∈k :: ks/\p a=true)↔(a∈ks/\p a=true):=by rw[zcg6];exact⟨fun h=>⟨h.1.resolve_left e,h.2⟩,fun h=>⟨.inr h.1,h.2⟩⟩
   have st:∀ b,(if b=true then k :: ks.filter p else ks.filter p).map (fun k=>if a=k then c else 0)=if b=true then 0 :: (ks.filter p).map (fun k=>if a=k then c else 0) else (ks.filter p).map fun k=>if a=k then c else 0:=fun b=>by
    cases b
    ·rfl
    ·show (if a=k then c else 0) :: _=_
     rw[if_neg e];rfl
   rw[st]
   have s0:(if p k=true then (0:Int) :: (ks.filter p).map (fun k=>if a=k then c else 0) else (ks.filter p).map fun k=>if a=k then c else 0).sum=((ks.filter p).map fun k=>if a=k then c else 0).sum:=by
    split
    ·rw[zcm4,Int.zero_add]
    ·rfl
   rw[s0,ih]
   by_cases h:a∈ks/\p a=true
   ·rw[if_pos h,if_pos (this.mpr h)]
   ·rw[if_neg h,if_neg fun q=>h (this.mp q)]
theorem zat0{α:Type}(f g:α->Int):∀ xs:List α,(xs.map fun x=>f x+g x).sum=(xs.map f).sum+(xs.map g).sum
 | []=>rfl
 | x :: xs=>by
  have:=zat0 f g xs
  simp only[zci1,zcm4]
  omega
theorem zag5{p:κ->Bool}{ks:List κ}(nd:ks.Nodup):∀ {zs:List (κ×Int)},(∀ z∈zs,z.1∈ks)->((ks.filter p).map (atG zs)).sum=((zs.filter fun z=>p z.1).map (·.2)).sum
 | [],_=>by
  have:((ks.filter p).map (atG ([]:List (κ×Int)))).sum=0:=by
   induction (ks.filter p) with
   | nil=>rfl
   | cons k l ih=>rw[zci1,zcm4,ih];rfl
  rw[this];rfl
 | z :: zs,h=>by
  have ih:=zag5 (p:=p) nd (zs:=zs) fun y hy=>h y (.tail _ hy)
  have e:(ks.filter p).map (atG (z :: zs))=(ks.filter p).map fun k=>(if z.1=k then z.2 else 0)+atG zs k:=zcj8 fun k _=>zat8 zs z k
  rw[e,zat0,zbh3 nd,ih,zcm5]
  by_cases hp:p z.1=true
  ·rw[if_pos ⟨h z (.head _),hp⟩,if_pos hp];rfl
  ·rw[if_neg fun q=>hp q.2,if_neg hp,Int.zero_add]
end
theorem zaq6{za zb:List (Int×Int)}(h:∀ k,valG (sumG za) k=valG (sumG zb) k):eqDI (sumG za) (sumG zb)=true:=by
 obtain⟨na,ma⟩:=zg2 za
 obtain⟨nb,mb⟩:=zg2 zb
 have keys:∀ k,k∈(sumG za).map (·.1)↔k∈(sumG zb).map (·.1):=fun k=>by
  rw[ma,mb]
  have:=h k
  rw[zl5,zl5] at this
  by_cases h1:k∈za.map (·.1)<;>by_cases h2:k∈zb.map (·.1)<;>simp[h1,h2] at this ⊢
 have len:=((List.perm_ext_iff_of_nodup na nb).mpr keys).length_eq
 rw[zcf4,zcf4] at len
 unfold eqDI
 rw[len,beq_self_eq_true,zck0,zcg8]
 intro z hz
 have e:valI (sumG zb) z.1=valG (sumG zb) z.1:=rfl
 rw[e,← h,zas9 na hz]
 exact beq_self_eq_true _
theorem zn1{x y:Int×Int}:ltP x y=true↔x.1<y.1∨(x.1=y.1/\x.2<y.2):=by
 unfold ltP
 by_cases e:x.1=y.1
 ·rw[if_pos (by simpa using e)]
  by_cases e2:x.2=y.2
  ·rw[if_pos (by simpa using e2)]
   exact⟨fun h=>by (cases h),fun h=>by rfl'⟩
  ·rw[if_neg (by simpa using e2),decide_eq_true_iff];omega
 ·rw[if_neg (by simpa using e),decide_eq_true_iff];omega
theorem zaf8:∀ {ks ls:List (Int×Int)},OrdK ks->OrdK ls->(∀ k,k∈ks↔k∈ls)->ks=ls
 | [],[],_,_,_=>rfl
 | [],l :: ls,_,_,h=>absurd ((h l).mpr (.head _)) (by simp)
 | k :: ks,[],_,_,h=>absurd ((h k).mp (.head _)) (by simp)
 | k :: ks,l :: ls,o1,o2,h=>by
  obtain⟨n1,p1⟩:=o1
  obtain⟨n2,p2⟩:=o2
  rw[zcl1] at n1 n2
  rw[List.pairwise_cons] at p1 p2
  have e:k=l:=by
   rcases zcg6.mp ((h k).mp (.head _)) with e|e
   ·exact e
   ·rcases zcg6.mp ((h l).mpr (.head _)) with e' | e'
    ·exact e'.symm
    ·have a:=zn1.mp (p2.1 k e)
     have b:=zn1.mp (p1.1 l e')
     omega
  subst e
  rw[zaf8 ⟨n1.2,p1.2⟩ ⟨n2.2,p2.2⟩ fun z=>⟨fun hz=>?_,fun hz=>?_⟩]
  ·rcases zcg6.mp ((h z).mp (.tail _ hz)) with e|e
   ·exact absurd (e▸hz) n1.1
   ·exact e
  ·rcases zcg6.mp ((h z).mpr (.tail _ hz)) with e|e
   ·exact absurd (e▸hz) n2.1
   ·exact e
def zae2(z:Int×Int×Int):PyData:=.tuple [.int z.1,.int z.2.1,.int z.2.2]
def zi0(xs:List (Int×Int×Int)):PyData:=.list (xs.map zae2)
def stmD(xss:List (List (Int×Int×Int))):PyData:=.list (xss.map zi0)
theorem zy8(xs:List (Int×Int×Int)):rowF (zi0 xs)=xs:=by
 unfold rowF zi0
 show (xs.map zae2).map triD=xs
 rw[zch6]
 exact (zcj8 fun x _=>rfl).trans (List.map_id _)
theorem zs4{ns:List Int}(nn:∀ n∈ns,0<=n)(hi:i<ns.length):0<=ns.getD i 0/\ns.getD i 0<=(ns.drop i).sum/\(ns.drop i).sum - ns.getD i 0=(ns.drop (i+1)).sum:=by
 have e:ns.drop i=ns[i] :: ns.drop (i+1):=zcm6 hi
 have g:ns.getD i 0=ns[i]:=by rw[zcg0,zcf3 hi];rfl
 have z:=(zaa5 (ns:=ns.drop (i+1)) fun n hn=>nn n (zcm0 hn)).2
 rw[g,e,zcm4]
 exact⟨nn _ (zcn9 hi),by rfl',by rfl'⟩
structure OkS(ms:List (List Int×Int))(h:Int)(f:Nat):Prop where
 ne:1<=ms.length
 f1:1<=f
 all:∀ x∈ms,(∀ n∈x.1,0<=n)/\x.1.length=f/\x.1.sum=h/\1<=x.2
theorem zao4(R:zac8 ms i xs){z:Int×Int×Int}(hz:z∈xs):∃ x∈ms,z.1=(x.1.drop i).sum/\z.2.1=x.1.getD i 0:=by
 have:keyT z∈(sumG (flw ms i)).map (·.1):=(R.2.1 _).mp (zch2.mpr ⟨z,hz,rfl⟩)
 rw[(zg2 _).2,zch2] at this
 obtain⟨y,hy,ey⟩:=this
 unfold flw at hy
 obtain⟨x,hx,rfl⟩:=zch2.mp hy
 have ey:((x.1.drop i).sum,x.1.getD i 0)=(z.1,z.2.1):=ey
 exact⟨x,hx,(congrArg Prod.fst ey).symm,(congrArg Prod.snd ey).symm⟩
theorem zag6{f:Nat}(O:OkS ms h f)(hi:i<f)(R:zac8 ms i xs){z:Int×Int×Int}(hz:z∈xs):0<=z.2.1/\z.2.1<=z.1/\z.2.2=atG (flw ms i) (keyT z)/\1<=z.2.2:=by
 obtain⟨x,hx,e1,e2⟩:=zao4 R hz
 obtain⟨nn,xl,_,_⟩:=O.all x hx
 obtain⟨a,b,_⟩:=zs4 nn (i:=i) (by rfl')
 have v:=R.2.2 z hz
 rw[zl5] at v
 have km:keyT z∈(flw ms i).map (·.1):=(zg2 _).2 _ |>.mp ((R.2.1 _).mp (zch2.mpr ⟨z,hz,rfl⟩))
 rw[if_pos km] at v
 have v:=Option.some.inj v
 have w:∀ y∈flw ms i,1<=y.2:=fun y hy=>by
  unfold flw at hy
  obtain⟨x,hx,rfl⟩:=zch2.mp hy
  exact (O.all x hx).2.2.2
 have g:=(atG_ge w (k:=keyT z)).2 km
 exact⟨by rfl',by rfl',v.symm,by rfl'⟩
theorem zbq9{f:Nat}(O:OkS ms h f)(hi:i<f)(R:zac8 ms i xs):rowD (zi0 xs)=true:=by
 show ((xs.map zae2).all zj3&&incD (xs.map zae2))=true
 rw[zcg4]
 constructor
 ·rw[zcp3,zcg8]
  intro z hz
  obtain⟨a,b,_,c⟩:=zag6 O hi R hz
  show (decide ((0:Int)<=z.1)&&decide ((0:Int)<=z.2.1/\z.2.1<=z.1)&&decide ((1:Int)<=z.2.2))=true
  rw[decide_eq_true (show (0:Int)<=z.1 by rfl'),decide_eq_true (show (0:Int)<=z.2.1/\z.2.1<=z.1 from ⟨a,b⟩),decide_eq_true c];rfl
 ·unfold incD
  rw[zcf4,zcg8]
  intro j hj
  have hj:=zci3.mp hj
  have p:=zck6.mp R.1.2 j (j+1) (by rw[zcf4];omega) (by rw[zcf4];omega) (by rfl')
  have g:∀ (j:Nat) (hj:j<xs.length),keyD ((xs.map zae2).getD j .none)=(xs.map keyT)[j]'(by rw[zcf4];exact hj):=fun j hj=>by
   rw[zcg0,zcf9,zcf3 hj,List.getElem_map];rfl
  rw[g j (by rfl'),g (j+1) (by rfl')]
  exact p
theorem zak7(R:zac8 ms i xs)(hv:∀ z∈xs,z.2.2=atG (flw ms i) (keyT z))(g:Int×Int->Int)(k:Int):valG (sumG (xs.map fun z=>(g (keyT z),z.2.2))) k=valG (sumG ((flw ms i).map fun z=>(g z.1,z.2))) k:=by
 rw[zl5,zl5]
 have mem:k∈(xs.map fun z=>(g (keyT z),z.2.2)).map (·.1)↔k∈((flw ms i).map fun z=>(g z.1,z.2)).map (·.1):=by
  rw[zch6,zch6,zch2,zch2]
  constructor
  ·rintro⟨z,hz,rfl⟩
   have:=(zg2 _).2 _ |>.mp ((R.2.1 _).mp (zch2.mpr ⟨z,hz,rfl⟩))
   obtain⟨y,hy,ey⟩:=zch2.mp this
   exact⟨y,hy,congrArg g ey⟩
  ·rintro⟨y,hy,rfl⟩
   have:y.1∈xs.map keyT:=(R.2.1 _).mpr ((zg2 _).2 _ |>.mpr (zch2.mpr ⟨y,hy,rfl⟩))
   obtain⟨z,hz,ez⟩:=zch2.mp this
   exact⟨z,hz,congrArg g ez⟩
 have at1:atG (xs.map fun z=>(g (keyT z),z.2.2)) k=(((xs.map keyT).filter fun q=>decide (g q=k)).map (atG (flw ms i))).sum:=by
  unfold atG
  rw[List.filter_map,List.filter_map,zch6,zch6]
  refine congrArg List.sum (zcj8 fun z hz=>?_)
  exact hv z (List.mem_filter.mp hz).1
 have at2:atG ((flw ms i).map fun z=>(g z.1,z.2)) k=(((flw ms i).filter fun z=>decide (g z.1=k)).map (·.2)).sum:=by
  unfold atG
  rw[List.filter_map,zch6]
  rfl
 rw[at1,at2,zag5 (p:=fun q=>decide (g q=k)) R.1.1 fun z hz=>(R.2.1 _).mpr ((zg2 _).2 _ |>.mpr (zch2.mpr ⟨z,hz,rfl⟩))]
 by_cases h:k∈(xs.map fun z=>(g (keyT z),z.2.2)).map (·.1)
 ·rw[if_pos h,if_pos (mem.mp h)]
 ·rw[if_neg h,if_neg fun q=>h (mem.mpr q)]
theorem zbk6{f:Nat}{ys:List (Int×Int×Int)}(O:OkS ms h f)(hi:i+1<f)(R1:zac8 ms i xs)(R2:zac8 ms (i+1) ys):zj6 (zi0 xs) (zi0 ys)=true:=by
 unfold zj6
 rw[zy8,zy8]
 refine zaq6 fun k=>?_
 have a:=zak7 R1 (fun z hz=>(zag6 O (by rfl') R1 hz).2.2.1) (fun q=>q.1 - q.2) k
 have b:=zak7 R2 (fun z hz=>(zag6 O hi R2 hz).2.2.1) (fun q=>q.1) k
 have e:((flw ms i).map fun z=>(z.1.1 - z.1.2,z.2))=(flw ms (i+1)).map fun z=>(z.1.1,z.2):=by
  unfold flw
  rw[zch6,zch6]
  refine zcj8 fun x hx=>?_
  obtain⟨nn,xl,_,_⟩:=O.all x hx
  obtain⟨_,_,c⟩:=zs4 nn (i:=i) (by rfl')
  show ((x.1.drop i).sum - x.1.getD i 0,x.2)=((x.1.drop (i+1)).sum,x.2)
  rw[c]
 have a:valG (sumG (xs.map fun z=>(z.1 - z.2.1,z.2.2))) k=valG (sumG ((flw ms i).map fun z=>(z.1.1 - z.1.2,z.2))) k:=a
 have b:valG (sumG (ys.map fun z=>(z.1,z.2.2))) k=valG (sumG ((flw ms (i+1)).map fun z=>(z.1.1,z.2))) k:=b
 rw[a,e,b]
theorem stm_ok{f:Nat}(O:OkS ms h f)(S:StmIs ms f xss):zd1 h f (stmD xss)=true:=by
 have f1:=O.f1
 have gd:∀ (i:Nat) (hi:i<xss.length),(xss.map zi0).getD i .none=zi0 xss[i]:=fun i hi=>by
  rw[zcg0,zcf9,zcf3 hi];rfl
 have ri:∀ (i:Nat) (hi:i<xss.length),zac8 ms i xss[i]:=fun i hi=>(S.2 i _ (zcf3 hi)).1
 have sl:=S.1
 have l0:0<xss.length:=by rfl'
 have r0:=ri 0 l0
 obtain⟨x0,ex0⟩:∃ x,ms[0]?=some x:=⟨_,zcf3 (by have:=O.ne;omega)⟩
 have n0:0<(xss[0]).length:=by
  have:((x0.1.drop 0).sum,x0.1.getD 0 0)∈(xss[0]).map keyT:=(r0.2.1 _).mpr ((zg2 _).2 _ |>.mpr (by
   unfold flw
   rw[zch6]
   exact zch2.mpr ⟨x0,zcf8 ex0,rfl⟩))
  obtain⟨z,hz,_⟩:=zch2.mp this
  exact List.length_pos_of_mem hz
 have items:za8 (stmD xss)=xss.map zi0:=rfl
 unfold zd1
 rw[items]
 have b:zf3 (stmD xss)=true:=by
  show (decide (0<(xss.map zi0).length)&&rowD ((xss.map zi0).getD 0 .none)&&decide (0<(za8 ((xss.map zi0).getD 0 .none)).length))=true
  rw[gd 0 l0,zcf4,decide_eq_true l0,zbq9 O (by rfl') r0]
  show (true&&true&&decide (0<((xss[0]).map zae2).length))=true
  rw[zcf4,decide_eq_true n0];rfl
 have c1:decide ((((xss.map zi0).length:Nat):Int)=(f:Int))=true:=decide_eq_true (by rw[zcf4,sl])
 have c2:(xss.map zi0).all rowD=true:=by
  rw[zcp3,zcg8]
  intro xs hx
  obtain⟨i,ei⟩:=zci9 hx
  exact zbq9 O (by have:=(zcf6.mp ei).1;omega) (S.2 i xs ei).1
 have c3:zy3 h ((xss.map zi0).getD 0 .none)=true:=by
  rw[gd 0 l0]
  unfold zy3
  rw[zy8,zcg8]
  intro z hz
  obtain⟨x,hx,e1,_⟩:=zao4 r0 hz
  rw[e1,List.drop_zero]
  exact decide_eq_true (O.all x hx).2.2.1
 have c4:zal9 ((xss.map zi0).getD ((xss.map zi0).length - 1) .none)=true:=by
  rw[zcf4,gd (xss.length - 1) (by rfl')]
  unfold zal9
  rw[zy8,zcg8]
  intro z hz
  obtain⟨x,hx,e1,e2⟩:=zao4 (ri _ (by rfl')) hz
  obtain⟨nn,xl,_,_⟩:=O.all x hx
  obtain⟨_,_,c⟩:=zs4 nn (i:=xss.length - 1) (by rfl')
  rw[zco0 (i:=xss.length - 1+1) (by rfl')] at c
  have:([]:List Int).sum=0:=rfl
  rw[e1,e2]
  exact decide_eq_true (by rfl')
 have c5:zo4 (xss.map zi0)=true:=by
  unfold zo4
  rw[zcf4,zcg8]
  intro i hi
  have hi:=zci3.mp hi
  rw[gd i (by rfl'),gd (i+1) (by rfl')]
  exact zbk6 O (by rfl') (ri i (by rfl')) (ri (i+1) (by rfl'))
 rw[b,c1,c2,c3,c4,c5];rfl
theorem zbr4:∀ {xs ys:List Int},xs.Nodup->(∀ x∈xs,x∈ys)->ys.length<=xs.length->∀ y∈ys,y∈xs
 | [],ys,_,_,hl,y,hy=>by
  have:ys=[]:=zcn5.mp (by simpa using hl)
  rw[this] at hy
  cases hy
 | x :: xs,ys,nd,hs,hl,y,hy=>by
  rw[zcl1] at nd
  have hx:=hs x (.head _)
  have ih:=zbr4 (xs:=xs) (ys:=ys.erase x) nd.2 (fun z hz=>(List.mem_erase_of_ne (fun (e:z=x)=>nd.1 (e▸hz))).mpr (hs z (.tail _ hz))) (by rw[List.length_erase_of_mem hx];rw[zch0] at hl;omega)
  by_cases e:y=x
  ·rw[e];exact .head _
  ·exact .tail _ (ih y ((List.mem_erase_of_ne e).mpr hy))
theorem zs7{za zb:List (Int×Int)}(h:eqDI (sumG za) (sumG zb)=true):(sumG za).length=(sumG zb).length/\∀ k,valG (sumG za) k=valG (sumG zb) k:=by
 obtain⟨na,ma⟩:=zg2 za
 obtain⟨nb,mb⟩:=zg2 zb
 unfold eqDI at h
 rw[zcg4,zcg8] at h
 obtain⟨hl,h⟩:=h
 have hl:(sumG za).length=(sumG zb).length:=by simpa using hl
 refine⟨hl,?_⟩
 have h1:∀ z∈sumG za,valG (sumG zb) z.1=some z.2:=fun z hz=>by
  have:=h z hz
  have e:valI (sumG zb) z.1=valG (sumG zb) z.1:=rfl
  rw[e] at this
  simpa using this
 have sub:∀ k,k∈(sumG za).map (·.1)->k∈(sumG zb).map (·.1):=fun k hk=>by
  obtain⟨z,hz,rfl⟩:=zch2.mp hk
  by_cases e:z.1∈(sumG zb).map (·.1)
  ·exact e
  ·have:=h1 z hz
   rw[zt9 e] at this
   cases this
 have sup:∀ k,k∈(sumG zb).map (·.1)->k∈(sumG za).map (·.1):=fun k hk=>by
  exact zbr4 na (fun k hk=>sub k hk) (by rw[zcf4,zcf4];omega) k hk
 intro k
 by_cases e:k∈(sumG za).map (·.1)
 ·obtain⟨z,hz,rfl⟩:=zch2.mp e
  rw[zas9 na hz,h1 z hz]
 ·rw[zt9 e,zt9 fun z=>e (sup k z)]
theorem zba7(za zb:List (Int×Int)):eqDI (sumG za) (sumG zb)=eqDI (sumG zb) (sumG za):=by
 rw[zck5]
 exact⟨fun h=>zaq6 fun k=>((zs7 h).2 k).symm,fun h=>zaq6 fun k=>((zs7 h).2 k).symm⟩
theorem zax0{d e:PyData}(h:zj6 d e=true)(hd:0<(za8 d).length):0<(za8 e).length:=by
 unfold zj6 at h
 have l:=(zs7 h).1
 have l1:=zm1 ((rowF e).map fun z=>(z.1,z.2.2))
 rw[zcf4,show (rowF e).length=(za8 e).length by unfold rowF;rw[zcf4]] at l1
 have l2:0<(sumG ((rowF d).map fun z=>(z.1 - z.2.1,z.2.2))).length:=by
  obtain⟨x,ex⟩:∃ x,(za8 d)[0]?=some x:=⟨_,zcf3 hd⟩
  have:(triD x).1 - (triD x).2.1∈(sumG ((rowF d).map fun z=>(z.1 - z.2.1,z.2.2))).map (·.1):=(zg2 _).2 _ |>.mpr (by
   rw[zch6]
   exact zch2.mpr ⟨triD x,by unfold rowF;exact zch2.mpr ⟨x,zcf8 ex,rfl⟩,rfl⟩)
  have:=List.length_pos_of_mem this
  rwa [zcf4] at this
 omega
def ze2(d:PyData):Int:=((rowF ((za8 d).getD 0 .none)).getD 0 (0,0,0)).1
def zc7(d:PyData):Bool:=zf3 d&&(zad7 (ze2 d) (za8 d).length&&zd1 (ze2 d) (za8 d).length d)
theorem zaa6{v:V}{d:PyData}(h:ShV H v d)(e:zf3 d=true):∃ (a r t:Addr) (xs:List V) (ds:List PyData) (ts:List Addr) (j w:Int),v=.ref a/\d=.list ds/\H a=some (.lst xs)/\xs.length=ds.length/\1<=ds.length/\xs[0]?=some (.ref r)/\H r=some (.lst (ts.map V.ref))/\ts[0]?=some t/\H t=some (.tup [.int (ze2 d),.int j,.int w]):=by
 cases h
 case lst a xs ds e1 l=>
  have e:(decide (0<ds.length)&&rowD (ds.getD 0 .none)&&decide (0<(za8 (ds.getD 0 .none)).length))=true:=e
  rw[zcg4,zcg4,decide_eq_true_eq,decide_eq_true_eq] at e
  obtain⟨⟨h0,h1⟩,h2⟩:=e
  have ll:=l.len
  obtain⟨x0,ex0⟩:∃ x,xs[0]?=some x:=⟨_,zcf3 (by rfl')⟩
  obtain⟨d0,ed0,hd0⟩:=l.get 0 x0 ex0
  rw[getD_some ed0] at h1 h2
  obtain⟨r,ts,es,rfl,rfl,hr,hl,hp,_⟩:=zr6 hd0 h1
  have h2:0<es.length:=h2
  obtain⟨t,et⟩:∃ t,ts[0]?=some t:=⟨_,zcf3 (by rfl')⟩
  obtain⟨z,ez⟩:∃ z,(rowF (.list es))[0]?=some z:=⟨_,zcf3 (by rw[zd3];omega)⟩
  have eh:ze2 (.list ds)=z.1:=by
   show ((rowF (ds.getD 0 .none)).getD 0 (0,0,0)).1=z.1
   rw[getD_some ed0,zcg0,ez];rfl
  refine⟨a,r,t,xs,ds,ts,z.2.1,z.2.2,rfl,rfl,e1,ll,h0,ex0,hr,et,?_⟩
  rw[eh]
  exact hp 0 t z et ez
 all_goals simp[zf3] at e
@[irreducible] def zf7:Sp:=fun vs H Q _=>∃ (v:V) (d:PyData),vs=[v]/\ShV H v d/\zf3 d=true/\Q (.int (ze2 d)) H
theorem zn6{v:V}{d:PyData}(h:ShV H v d)(e:zf3 d=true)(q:Q (.int (ze2 d)) H):zf7 [v] H Q E:=by unfold zf7;exact⟨v,d,rfl,h,e,q⟩
theorem zap9(F:Fun K "hosts_in" "hosts_in" zw3 f fd)(N:Nm mg):FnOk P w K mg base CX0 1 f fd ["stream"] zf7:=by
 refine F.ok zao3 (fun vs H Q E h=>by unfold zf7 at h;obtain⟨_,_,rfl,_⟩:=h;rfl) fun _ _ _ s H vs Q E hr h=>?_
 unfold zf7 at h
 obtain⟨v,d,rfl,h,e,q⟩:=h
 refine⟨_,(za6 (zb6 (zc3 (K:=K) rfl (zc3 (K:=K) rfl (zc3 (K:=K) rfl (pq 0) za2) za2) za2))),?_⟩
 obtain⟨a,r,t,xs,ds,ts,j,w,rfl,_,ha,_,_,hx,hr',ht,htt⟩:=zaa6 h e
 refine zc2 (v:=.ref r) ha (zg8 (j:=0) hx) ?_
 refine zc2 (v:=.ref t) hr' (zg8 (j:=0) (by rw[zcf9,ht];rfl)) ?_
 refine zj8 (v:=.int (ze2 d)) htt rfl ?_
 ac_nf
 exact q
@[irreducible] def zd8:Sp:=fun vs H Q _=>∃ (v:V) (d:PyData),vs=[v]/\ShV H v d/\sml d=true/\∀ H',Same H H'->Q (.bl (zc7 d)) H'
theorem any_rd{v:V}{d:PyData}(h:ShV H v d)(hs:sml d=true)(q:∀ H',Same H H'->Q (.bl (zc7 d)) H'):zd8 [v] H Q E:=by unfold zd8;exact⟨v,d,rfl,h,hs,q⟩
theorem zy6(F:Fun K "is_any_stream" "is_any_stream" zl4 f fd)(N:Nm mg)(zcc8:Def P w K mg base CX0 6 "begins" ["stream"] zl9)(zca9:Def P w K mg base CX0 1 "hosts_in" ["stream"] zf7)(zce0:Def P w K mg base CX0 4 "is_size" ["hosts","fields"] zl1)(zcd0:Def P w K mg base CX0 7 "is_stream" ["hosts","fields","stream"] zh7):FnOk P w K mg base CX0 8 f fd ["stream"] zd8:=by
 refine F.ok zy4 (fun vs H Q E h=>by unfold zd8 at h;obtain⟨_,_,rfl,_⟩:=h;rfl) fun _ _ _ s H vs Q E hr h=>?_
 unfold zd8 at h
 obtain⟨v,d,rfl,h,hs,q⟩:=h
 have hu:=hu40 hr
 refine⟨_,(za4 (psIf (ptW (pwOr (zk0 (ptV (pD zcc8 hr zc5 (za0 (pq 0) za1)))) (zo9 (zk0 (ptV (pD zce0 hr zc5 (za0 (pD zca9 hr zc5 (za0 (pq 0) za1)) (za0 (pB (zp3 (K:=K) rfl) N.len_ zi3 (za0 (pq 0) za1)) za1)))))))) (za6 (zb6 zt4)) zd7)
   (za6 (zb6 (pD zcd0 hr zc5 (za0 (pD zca9 hr zc5 (za0 (pq 0) za1)) (za0 (pB (zp3 (K:=K) rfl) N.len_ zi3 (za0 (pq 0) za1)) (za0 (pq 0) za1))))))),?_⟩
 unfold zc7 at q
 refine zaf6 h hs (fun H1 s1=>?_)
 have q:=fun H' s'=>q H' (s1.trans s')
 have h1:=h.same s1
 cases eb:zf3 d
 ·have q:=q _ (Same.refl _)
  rw[eb] at q
  refine zc1 (br_F ?_)
  refine br_T ?_
  ac_nf
  exact q
 rw[eb,zck0] at q
 obtain⟨a,r,t,xs,ds,ts,j,w,rfl,rfl,ha,hl,_⟩:=zaa6 h1 eb
 have q:∀ H',Same H1 H'->Q (.bl (zad7 (ze2 (.list ds)) ds.length&&zd1 (ze2 (.list ds)) ds.length (.list ds))) H':=q
 refine zc1 (br_T ?_)
 refine zn6 h1 eb ?_
 refine zf8 ha ?_
 rw[hl]
 refine zbm4 ?_
 cases ez:zad7 (ze2 (.list ds)) ds.length
 ·have q:=q _ (Same.refl _)
  rw[ez] at q
  refine zc1 (br_F ?_)
  ac_nf
  exact q
 rw[ez,zck0] at q
 refine zc1 (br_T ?_)
 refine zn6 h1 eb ?_
 refine zf8 ha ?_
 rw[hl]
 refine zax3 h1 hs (fun H2 s2=>?_)
 ac_nf
 exact q _ s2
@[irreducible] def ze4(zca1:Addr):Sp:=fun vs H Q E=>∃ (v:V) (d:PyData),vs=[v]/\ShV H v d/\sml d=true/\(zc7 d=true->∀ H',Same H H'->Q .non H')/\(zc7 d=false->∀ H',Same H H'->E (.ref zca1) none H')
theorem zr7{zca1:Addr}{v:V}{d:PyData}(h:ShV H v d)(hs:sml d=true)(q:zc7 d=true->∀ H',Same H H'->Q .non H')(qe:zc7 d=false->∀ H',Same H H'->E (.ref zca1) none H'):ze4 zca1 [v] H Q E:=by unfold ze4;exact⟨v,d,rfl,h,hs,q,qe⟩
theorem zad5(F:Fun K "look_stream" "look_stream" zo6 f fd)(N:Nm mg)(zcb6:Def P w K mg base CX0 8 "is_any_stream" ["stream"] zd8)(Z:Cz K mg base zca3 zca4 zca7 zcb3 zca1 zca8 zca6 zca5):FnOk P w K mg base (CXR P w) 9 f fd ["stream"] (ze4 zca1):=by
 refine F.okR zad2 (fun vs H Q E h=>by unfold ze4 at h;obtain⟨_,_,rfl,_⟩:=h;rfl) (fun cdv A outer s H vs Q E hr hX h=>?_)
 unfold ze4 at h
 obtain⟨v,d,rfl,h,hs,q,qe⟩:=h
 have hu:=hu40 hr
 refine⟨_,(za6 (psIf (zk0 (ptV (pD zcb6 hr zc5 (za0 (pq 0) za1)))) (za6 (zbx9 Z.o_NoStream PySem.F.excBase_ValueError rfl hX (za0 zx5 za1))) zd7)),?_⟩
 refine any_rd h hs (fun H1 s1=>?_)
 cases e:zc7 d
 ·ac_nf
  refine zc1 (br_F ?_)
  ac_nf
  exact⟨by decide,qe e _ s1⟩
 ·ac_nf
  refine zc1 (br_T ?_)
  ac_nf
  exact q e _ s1
theorem zbc4{k:Nat}(hk:k=xs.length):((List.range k).map fun i=>V.int (xs.getD i (0,0,0)).2.2)=(xs.map fun z=>z.2.2).map V.int:=by
 subst hk
 apply zco8
 intro i
 rw[zcf9,zcf9,zcf9]
 by_cases h:i<xs.length
 ·rw[zcn8 h,zcf3 h]
  simp[h]
 ·rw[zck2 (by simp;omega),zck2 (by rfl')]
  rfl
def zy0(d:PyData):Int:=tot (rwF (rowF ((za8 d).getD 0 .none)))
@[irreducible] def zi5:Sp:=fun vs H Q _=>∃ (v:V) (d:PyData),vs=[v]/\ShV H v d/\zf3 d=true/\(rowF ((za8 d).getD 0 .none)).length<=1000/\∀ H',Same H H'->Q (.int (zy0 d)) H'
theorem zaq5{v:V}{d:PyData}(h:ShV H v d)(e:zf3 d=true)(hl:(rowF ((za8 d).getD 0 .none)).length<=1000)(q:∀ H',Same H H'->Q (.int (zy0 d)) H'):zi5 [v] H Q E:=by unfold zi5;exact⟨v,d,rfl,h,e,hl,q⟩
theorem zao1(F:Fun K "whole_in" "whole_in" zw0 f fd)(N:Nm mg):FnOk P w K mg base CX0 1 f fd ["stream"] zi5:=by
 refine F.ok zap3 (fun vs H Q E h=>by unfold zi5 at h;obtain⟨_,_,rfl,_⟩:=h;rfl) fun _ _ _ s H vs Q E hr h=>?_
 unfold zi5 at h
 obtain⟨v,d,rfl,h,e,hl,q⟩:=h
 have hu:=hu40 hr
 cases h
 case lst a xs ds ea l=>
  have e:(decide (0<ds.length)&&rowD (ds.getD 0 .none)&&decide (0<(za8 (ds.getD 0 .none)).length))=true:=e
  rw[zcg4,zcg4,decide_eq_true_eq,decide_eq_true_eq] at e
  obtain⟨⟨h0,h1⟩,h2⟩:=e
  have ll:=l.len
  obtain⟨x0,ex0⟩:∃ x,xs[0]?=some x:=⟨_,zcf3 (by rfl')⟩
  obtain⟨d0,ed0,hd0⟩:=l.get 0 x0 ex0
  have hl:(rowF (ds.getD 0 .none)).length<=1000:=hl
  have q:∀ H',Same H H'->Q (.int (tot (rwF (rowF (ds.getD 0 .none))))) H':=q
  rw[getD_some ed0] at h1 h2 hl q
  obtain⟨r,ts,es,rfl,rfl,hr',hlr,hp,_⟩:=zr6 hd0 h1
  generalize eys:rowF (.list es)=ys at hp hl q
  have rl:ts.length=ys.length:=by rw[← eys,zd3];exact hlr
  refine⟨_,(za6 (zb6 (pB (cSumK (K:=K) rfl rfl) N.sum_ zbj0 (za0 (zk4 (N:=["left","sent","flow"]) (ks:=[none,none,none]) (zg6 (K:=K) rfl (zc3 (K:=K) rfl (pq 0) za2)) (fun _ _ _ _ _=>(zm6 (K:=K) (n:=3) rfl rfl (zb9 (za9 (i:=0) nb_7 rfl (by eq_refl)) (zb9 (za9 (i:=1) nb_7 rfl (by eq_refl)) (zb9 (za9 (i:=2) nb_7 rfl (by eq_refl)) zm2))))) (fun _ _ _ _ _=>zf6) (fun _ _ _ _ _=>(pq 2)) (.skip (.skip (.skip .nil)))) za1)))),?_⟩
  refine zc2 (v:=.ref r) ea (zg8 (j:=0) ex0) ?_
  refine zc6 hr' ?_
  refine zu9 (Wk.list (SqL.of hr')) (by rw[zcf4,zcp8];omega) (fun i=>.int (ys.getD i (0,0,0)).2.2) (fun _=>true) (fun j σ=>∃ t u w:Option V,σ=[t,u,w]) ⟨none,none,none,rfl⟩ ?_ ?_
  ·rintro i x σ I R' S' hi s1 hx ⟨_,_,_,rfl⟩ kk _
   rw[zcf9] at hx
   obtain⟨t,et,rfl⟩:=zcg5.mp hx
   obtain⟨z,ez⟩:∃ z,ys[i]?=some z:=⟨_,zcf3 (by have:=(zcf6.mp et).1;omega)⟩
   rw[show ys.getD i (0,0,0)=z by rw[zcg0,ez];rfl] at kk
   refine zh1 (s1 _ _ (hp i t z et ez)) ?_
   refine br_T ?_
   ac_nf
   exact kk rfl _ _ (Same.refl _) ⟨_,_,_,rfl⟩
  intro acc H1 f1 s1 h1
  rw[zm7,zbc4 (by rw[zcf4];exact rl)] at h1
  refine zbt5 h1 ?_
  ac_nf
  have:=q _ s1
  unfold tot rwF at this
  rw[zch6] at this
  exact this
 all_goals simp[zf3] at e
theorem zbs2{d:PyData}(e:zc7 d=true)(hs:sml d=true):∃ ds,d=.list ds/\zf3 d=true/\(0<=ze2 d/\ze2 d<=40)/\ds.length<=8/\∀ x∈ds,rowD x=true/\(za8 x).length<=1000:=by
 unfold zc7 zad7 zd1 at e
 simp only[zcg4,decide_eq_true_eq] at e
 obtain⟨eb,⟨hz,hf⟩,_,_,ea,_⟩:=e
 cases d with
 | list ds=>
  have ea:ds.all rowD=true:=ea
  have ea:=zcg8.mp ea
  have hf:1<=(ds.length:Int)/\(ds.length:Int)<=8:=hf
  refine⟨ds,rfl,eb,hz,by rfl',fun x hx=>⟨ea x hx,?_⟩⟩
  have m:=(zo1 hs).2 x hx
  have r:=ea x hx
  cases x with
  | list es=>exact (zo1 m).1
  | _=>simp[rowD] at r
 | _=>simp[zf3] at eb
inductive Ap(h W:Int):List (List (Int×Int×Int))->List (List Int×Int)->Prop where
 | nil:Ap h W [] [([],W)]
 | step {rs:List (List (Int×Int×Int))}{ms ms2:List (List Int×Int)}{xs:List (Int×Int×Int)}{out:List (List Int×(Int×Int)×Int)}:Ap h W rs ms->ms2.Perm ms->ms2.Pairwise (fun x y=>h - x.1.sum<=h - y.1.sum)->Mrg ms2 (rwF xs) out->Ap h W (rs++[xs]) (outM out)
theorem zbw5{rs:List ((Int×Int)×Int)}{out:List (List Int×(Int×Int)×Int)}(h:Mrg ms rs out):tot (outM out)=tot ms:=by
 have:=h.sumL fun _=>1
 simp only[Int.mul_one] at this
 unfold tot outM
 rw[zch6]
 exact this
theorem Ap.ok{W:Int}{rs:List (List (Int×Int×Int))}(A:Ap h W rs ms)(hW:1<=W):(∀ xs∈rs,(∀ x∈xs,1<=x.2.2)/\xs.length<=9)->(∀ x∈ms,1<=x.2/\x.1.length=rs.length)/\tot ms=W/\ms≠[]/\ms.length<=1+8*rs.length:=by
 induction A with
 | nil=>
  intro _
  refine⟨fun x hx=>?_,?_,by simp,by simp⟩
  ·have:x=([],W):=by simpa using hx
   subst this
   exact⟨hW,rfl⟩
  ·unfold tot;simp
 | @step rs ms ms2 xs out A hp hs hm ih=>
  intro hr
  obtain⟨i1,i2,i3,i4⟩:=ih fun ys hy=>hr ys (zcp0 _ hy)
  obtain⟨r1,r2⟩:=hr xs (zci5 _ (.head _))
  have n2:ms2≠[]:=fun z=>by rw[z] at hp;exact i3 (List.nil_perm.mp hp)
  have pos:=hm.pos (fun x hx=>(i1 x (hp.mem_iff.mp hx)).1) (fun x hx=>by
   unfold rwF at hx
   obtain⟨y,hy,rfl⟩:=zch2.mp hx
   exact r1 y hy)
  have tt:tot (outM out)=W:=by rw[zbw5 hm,zat7 hp,i2]
  refine⟨fun x hx=>?_,tt,fun z=>?_,?_⟩
  ·unfold outM at hx
   obtain⟨z,hz,rfl⟩:=zch2.mp hx
   refine⟨pos z hz,?_⟩
   obtain⟨y,hy,ey⟩:=zch2.mp (hm.memL z hz).1
   rw[zcg2,zcg2,← ey,(i1 y (hp.mem_iff.mp hy)).2]
   rfl
  ·rw[z] at tt
   have:tot ([]:List (List Int×Int))=0:=rfl
   omega
  ·have l1:=hm.len n2
   have l2:=hp.length_eq
   have l3:(rwF xs).length=xs.length:=by unfold rwF;rw[zcf4]
   have l4:(outM out).length=out.length:=by unfold outM;rw[zcf4]
   rw[zcg2,l4]
   show out.length<=1+8*(rs.length+1)
   omega
theorem zg1.sorted{a p:Addr}{tab:Array Value}{ps:List (Int×Addr)}(M:zg1 H a ts ms)(hT:H T=some (.tbl tab))(c:Chg T H H')(hp:ps.Perm ((ms.map fun x=>h - x.1.sum).zip (ts.map (·.1))))(hs:ps.Pairwise (fun x y=>x.1<=y.1))(ho:H' p=some (.lst (ps.map fun x=>V.ref x.2))) :
  ∃ ts2 ms2,zg1 H' p ts2 ms2/\ms2.Perm ms/\ms2.Pairwise (fun x y=>h - x.1.sum<=h - y.1.sum):=by
 have ml:=M.len
 have e:(ms.map fun x=>h - x.1.sum).zip (ts.map (·.1))=(ms.zip ts).map fun y=>(h - y.1.1.sum,y.2.1):=by
  rw[List.zip_map]
  rfl
 rw[e] at hp
 obtain⟨L,q1,q2⟩:=zx6 (fun y:(List Int×Int)×(Addr×Addr)=>(h - y.1.1.sum,y.2.1)) hp
 subst q2
 refine⟨L.map (·.2),L.map (·.1),⟨?_,by rw[zcf4,zcf4],fun i t x g1 g2=>?_⟩,?_,?_⟩
 ·rw[ho,zch6,zch6]
  rfl
 ·rw[zcf9] at g1 g2
  obtain⟨y,ey,rfl⟩:=zcg5.mp g1
  rw[ey] at g2
  cases g2
  obtain⟨j,ej⟩:=zci9 (q1.mem_iff.mp (zcf8 ey))
  have e1:ms[j]?=some y.1/\ts[j]?=some y.2:=by
   rw[List.getElem?_zip_eq_some] at ej
   exact ej
  have f:=M.part j y.2 y.1 e1.2 e1.1
  exact⟨c _ _ (fun z=>by rw[z,hT] at f;exact absurd f.1 (by intro z;cases z)) f.1,c _ _ (fun z=>by rw[z,hT] at f;exact absurd f.2 (by intro z;cases z)) f.2⟩
 ·have:=q1.map (·.1)
  rw[List.map_fst_zip (by rfl')] at this
  exact this
 ·rw[zco9] at hs ⊢
  exact hs
theorem zbq1{za zb:List (Int×Int)}(h:∀ k,valG (sumG za) k=valG (sumG zb) k):(za.map (·.2)).sum=(zb.map (·.2)).sum:=by
 have k1:=zg2 za
 have mem:∀ k,k∈za.map (·.1)↔k∈zb.map (·.1):=fun k=>by
  have:=h k
  rw[zl5,zl5] at this
  by_cases z1:k∈za.map (·.1)
  ·rw[if_pos z1] at this
   by_cases z2:k∈zb.map (·.1)
   ·exact⟨fun _=>z2,fun _=>z1⟩
   ·rw[if_neg z2] at this;cases this
  ·rw[if_neg z1] at this
   by_cases z2:k∈zb.map (·.1)
   ·rw[if_pos z2] at this;cases this
   ·exact⟨fun z=>absurd z z1,fun z=>absurd z z2⟩
 have a:=zag5 (p:=fun _=>true) k1.1 (zs:=za) fun z hz=>(k1.2 _).mpr (zch2.mpr ⟨z,hz,rfl⟩)
 have b:=zag5 (p:=fun _=>true) k1.1 (zs:=zb) fun z hz=>(k1.2 _).mpr ((mem _).mpr (zch2.mpr ⟨z,hz,rfl⟩))
 have ft:∀ {α:Type}(l:List α),l.filter (fun _=>true)=l:=fun l=>List.filter_eq_self.mpr fun _ _=>rfl
 rw[ft,ft] at a b
 rw[← a,← b]
 congr 1
 refine zcj8 fun k hk=>?_
 have z1:=(k1.2 k).mp hk
 have:=h k
 rw[zl5,zl5,if_pos z1,if_pos ((mem k).mp z1)] at this
 exact Option.some.inj this
theorem zbb7{d e:PyData}(h:zj6 d e=true):tot (rwF (rowF d))=tot (rwF (rowF e)):=by
 have:=zbq1 (zs7 h).2
 rw[zch6,zch6] at this
 unfold tot rwF
 rw[zch6,zch6]
 exact this
theorem zbw1(e:zc7 (.list ds)=true):(∀ i,i<ds.length->tot (rwF (rowF (ds.getD i .none)))=zy0 (.list ds))/\1<=zy0 (.list ds)/\∀ x∈ds,rowD x=true/\∀ z∈rowF x,1<=z.2.2:=by
 unfold zc7 zd1 at e
 simp only[zcg4,decide_eq_true_eq] at e
 obtain⟨eb,_,_,_,ea,_,_,em⟩:=e
 have ea:ds.all rowD=true:=ea
 have ea:=zcg8.mp ea
 have em:(List.range (ds.length - 1)).all (fun i=>zj6 (ds.getD i .none) (ds.getD (i+1) .none))=true:=em
 have em:=zcg8.mp em
 have pos:∀ x∈ds,∀ z∈rowF x,1<=z.2.2:=fun x hx z hz=>by
  have r:=ea x hx
  cases x with
  | list es=>
   have r:(es.all zj3&&incD es)=true:=r
   rw[zcg4] at r
   have r1:=zcg8.mp r.1
   unfold rowF at hz
   obtain⟨y,hy,rfl⟩:=zch2.mp hz
   have fy:=r1 y hy
   cases y with
   | tuple us=>
    have l3:us.length=3:=Classical.byContradiction fun z=>by rw[zt8 z] at fy;cases fy
    match us,l3 with
    | [a,b,c],_=>
     have fy:(zm0 0 a&&zu4 0 (intD a) b&&zm0 1 c)=true:=fy
     rw[zcg4] at fy
     obtain⟨w,rfl,hw⟩:=zq0 fy.2
     exact hw
   | _=>simp[zj3] at fy
  | _=>simp[rowD] at r
 have eb:(decide (0<ds.length)&&rowD (ds.getD 0 .none)&&decide (0<(za8 (ds.getD 0 .none)).length))=true:=eb
 simp only[zcg4,decide_eq_true_eq] at eb
 refine⟨fun i hi=>?_,?_,fun x hx=>⟨ea x hx,pos x hx⟩⟩
 ·induction i with
  | zero=>rfl
  | succ i ih=>rw[← ih (by rfl')];exact (zbb7 (em i (zci3.mpr (by rfl')))).symm
 ·show 1<=tot (rwF (rowF (ds.getD 0 .none)))
  have m0:ds.getD 0 .none∈ds:=by rw[zcg0,zcf3 eb.1.1];exact zcn9 _
  have t:=zas1 (l:=rwF (rowF (ds.getD 0 .none))) fun y hy=>by
   unfold rwF at hy
   obtain⟨z,hz,rfl⟩:=zch2.mp hy
   exact pos _ m0 z hz
  have:rwF (rowF (ds.getD 0 .none))≠[]:=fun z=>by
   have l:(za8 (ds.getD 0 .none)).length=0:=by
    have l:=congrArg List.length z
    unfold rwF rowF at l
    rw[zcf4,zcf4] at l
    exact l
   have:=eb.2
   omega
  have:tot (rwF (rowF (ds.getD 0 .none)))≠0:=fun z=>this (t.2 z)
  omega
def lamQ:Str:=("taken_apart":Str)++".<locals>."++"<lambda>"
@[irreducible] def zf5(zca1 a_tab:Addr):Sp:=fun vs H Q E=>∃ (v:V) (d:PyData),vs=[v]/\ShV H v d/\sml d=true/\zj7 a_tab 73 42 lamQ H /\
 (zc7 d=true->(∀ x∈za8 d,(za8 x).length<=9)/\∀ p ts ms H',Chg a_tab H H'->zj7 a_tab 73 42 lamQ H'->zg1 H' p ts ms->Ap (ze2 d) (zy0 d) ((za8 d).map rowF) ms->Q (.ref p) H')/\(zc7 d=false->∀ H',Same H H'->E (.ref zca1) none H')
theorem zad0{zca1 a_tab:Addr}{v:V}{d:PyData}(h:ShV H v d)(hs:sml d=true)(hT:zj7 a_tab 73 42 lamQ H)(q:zc7 d=true->(∀ x∈za8 d,(za8 x).length<=9)/\∀ p ts ms H',Chg a_tab H H'->zj7 a_tab 73 42 lamQ H'->zg1 H' p ts ms->Ap (ze2 d) (zy0 d) ((za8 d).map rowF) ms->Q (.ref p) H')(qe:zc7 d=false->∀ H',Same H H'->E (.ref zca1) none H'):zf5 zca1 a_tab [v] H Q E:=by unfold zf5;exact⟨v,d,rfl,h,hs,hT,q,qe⟩
theorem zac9(F:Fun K "taken_apart" "taken_apart" zn9 f fd)(N:Nm mg)(hcd:fd.code=.ref a_cod)(hCH:PySem.W.CodeHd base a_cod a_tab)(hBM:Bm mg base)(zca9:Def P w K mg base CX0 1 "hosts_in" ["stream"] zf7)(zcb1:Def P w K mg base (CXR P w) 9 "look_stream" ["stream"] (ze4 zca1))(zce1:Def P w K mg base CX0 1 "sent_on" ["begun","row"] zk9)(zcd7:Def P w K mg base CX0 1 "whole_in" ["stream"] zi5):FnOk P w K mg base (CXR P w) 10 f fd ["stream"] (zf5 zca1 a_tab):=by
 refine F.okRC hcd zg9 (fun vs H Q E h=>by unfold zf5 at h;obtain⟨_,_,rfl,_⟩:=h;rfl) (fun A outer s H vs Q E hr hX h=>?_)
 unfold zf5 at h
 obtain⟨v,d,rfl,h,hs,hT,q,qe⟩:=h
 have hu:=hu40 hr
 refine⟨_,(za4 (zs3 (pD zcb1 hr (passR hX) (za0 (pq 0) za1)))
   (za4 (psS (i:=1) zg9.nd (pD zca9 hr zc5 (za0 (pq 0) za1)))
   (za4 (psS (i:=2) zg9.nd (zp2 (za0 (zy2 (za0 (zp2 za1) (za0 (pD zcd7 hr zc5 (za0 (pq 0) za1)) za1))) za1)))
   (za4 (PS.nox' (zz7 PassesOwn.never rfl (zg6 (K:=K) rfl (pq 0)) (za9 (i:=3) zg9.nd rfl (by eq_refl)) (za6 (psS (i:=2) zg9.nd (pD zce1 hr zc5 (za0 (peSoK (K:=K) (T:=a_tab) (c:=a_cod) (i:=1) (ln:=73) (co:=42) (qual:=lamQ) rfl (hr.mono (by decide)) N.sorted_ N.sum_ hCH hBM (za0 (pq 2) za1) rfl rfl rfl rfl rfl rfl rfl rfl (fun _ _ _ _=>rfl)) (za0 (pq 3) za1)))))))
   (za6 (zb6 (pq 2))))))),?_⟩
 refine zr7 h hs (fun e H1 s1=>?_) (fun e H1 s1=>qe e _ s1)
 obtain⟨hw,q⟩:=q e
 have h1:=h.same s1
 obtain⟨ds,rfl,eb,hz,dl,ok⟩:=zbs2 e hs
 obtain⟨tt,W1,rows⟩:=zbw1 e
 have d0:0<ds.length:=by
  have eb:(decide (0<ds.length)&&rowD (ds.getD 0 .none)&&decide (0<(za8 (ds.getD 0 .none)).length))=true:=eb
  simp only[zcg4,decide_eq_true_eq] at eb
  exact eb.1.1
 have hw:∀ x∈ds,(za8 x).length<=9:=hw
 have g0:ds.getD 0 .none∈ds:=by rw[zcg0,zcf3 d0];exact zcn9 _
 refine zn6 h1 eb ?_
 refine zb2 (fun p2 H2 f2 s2 k2=>?_)
 refine zaq5 (h1.same s2) eb (by show (rowF (ds.getD 0 .none)).length<=1000;unfold rowF;rw[zcf4];have:=hw _ g0;omega) (fun H3 s3=>?_)
 refine zd0 (fun p4 H4 f4 s4 k4=>?_)
 refine zb2 (fun p5 H5 f5 s5 k5=>?_)
 have s05:=s1.trans (s2.trans (s3.trans (s4.trans s5)))
 have s15:=s2.trans (s3.trans (s4.trans s5))
 cases h1
 case lst a xs ea l=>
  have h1:=h.same s1
  have ll:=l.len
  have hk:∀ x∈ds,(∀ z∈rowF x,1<=z.2.2)/\(rowF x).length<=9:=fun x hx=>⟨(rows x hx).2,by unfold rowF;rw[zcf4];exact hw x hx⟩
  refine zc6 (s15 _ _ ea) ?_
  refine zj4 (xs:=xs) (fun i σ I=>∃ (x3:Option V) (bg:Addr) (ts:List (Addr×Addr)) (ms:List (List Int×Int)),σ=[some (.ref a),some (.int (ze2 (.list ds))),some (.ref bg),x3]/\Chg a_tab H1 I/\zj7 a_tab 73 42 lamQ I/\zg1 I bg ts ms/\Ap (ze2 (.list ds)) (zy0 (.list ds)) ((ds.take i).map rowF) ms) ?_ ?_ ?_ ?_
  ·refine⟨_,p5,[(p4,p2)],[([],zy0 (.list ds))],rfl,s15.toChg,hT.same s05,⟨k5,rfl,fun i t x g1 g2=>?_⟩,?_⟩
   ·match i with
    | 0=>cases g1;cases g2;exact⟨s5 _ _ k4,s5 _ _ (s4 _ _ (s3 _ _ k2))⟩
    | i+1=>simp at g1
   ·rw[List.take_zero];exact .nil
  ·rintro i σ I hi ⟨x3,bg,ts,ms,rfl,cI,TI,M,Aq⟩
   obtain⟨tab,et,_⟩:=hT.same s1
   exact SqL.of (cI _ _ (fun z=>by rw[z,et] at ea;cases ea) ea)
  ·rintro i x σ I hx ⟨x3,bg,ts,ms,rfl,cI,TI,M,Aq⟩
   obtain⟨dr,ed,hd⟩:=l.get i x hx
   have il:i<ds.length:=(zcf6.mp ed).1
   have mem:=zcf8 ed
   obtain⟨m1,m2,m3,m4⟩:=Aq.ok W1 (fun ys hy=>by
    obtain⟨y,hy',rfl⟩:=zch2.mp hy
    exact hk y (zcm9 hy'))
   have tl:((ds.take i).map rowF).length=i:=by rw[zcf4,zcj3];omega
   rw[tl] at m1 m4
   have ml:=M.len
   obtain⟨r,bs,es,rfl,rfl,hr',hlr,hp,_⟩:=zr6 hd (rows _ mem).1
   obtain⟨tab1,et1,_⟩:=hT.same s1
   have RR:RwAt H1 r bs (rowF (.list es)):=⟨hr',by rw[zd3];exact hlr,hp⟩
   have RI:RwAt I r bs (rowF (.list es)):=by
    have nt:∀ {b:Addr}{o:HO},H1 b=some o->(∀ t,o≠.tbl t)->I b=some o:=fun e n=>cI _ _ (fun z=>by rw[z,et1] at e;cases e;exact n _ rfl) e
    refine⟨nt RR.out (fun t=>by intro z;cases z),RR.len,fun i b x e1 e2=>nt (RR.row i b x e1 e2) (fun t=>by intro z;cases z)⟩
   refine soK_rd (bs:=ts.map (·.1)) (kz:=ms.map fun x=>ze2 (.list ds) - x.1.sum) (by rw[M.out,zch6];rfl) (by rw[zcf4];omega) (by rw[zcf4,zcf4];omega) (fun j b k g1 g2=>?_) TI (fun p6 H6 ps f6 c6 T6 pp po k6=>?_)
   ·rw[zcf9] at g1 g2
    obtain⟨t,et,rfl⟩:=zcg5.mp g1
    obtain⟨y,ey,rfl⟩:=zcg5.mp g2
    have f:=M.part j t y et ey
    exact⟨t.2,_,y.1,f.1,f.2,rfl⟩
   obtain⟨tabI,etI,_⟩:=TI
   obtain⟨ts2,ms2,M2,pm,po2⟩:=M.sorted etI c6 pp po k6
   have R6:RwAt H6 r bs (rowF (.list es)):=by
    have nt:∀ {b:Addr}{o:HO},I b=some o->(∀ t,o≠.tbl t)->H6 b=some o:=fun e n=>c6 _ _ (fun z=>by rw[z,etI] at e;cases e;exact n _ rfl) e
    exact⟨nt RI.out (fun t=>by intro z;cases z),RI.len,fun i b x e1 e2=>nt (RI.row i b x e1 e2) (fun t=>by intro z;cases z)⟩
   refine zay4 M2 R6 (fun y hy=>(m1 y (pm.mem_iff.mp hy)).1) (rows _ mem).2 (by rw[zat7 pm,m2,← tt i il,getD_some ed]) (by rw[pm.length_eq];omega) (by have:=(hk _ mem).2;omega) (fun y hy=>by rw[(m1 y (pm.mem_iff.mp hy)).2];omega) (fun p7 ts7 out H7 f7 s7 M7 g7=>?_)
   ac_nf
   refine⟨_,p7,ts7,outM out,rfl,(cI.trans c6).same s7,T6.same s7,M7,?_⟩
   rw[List.take_add_one,ed]
   simp only[Option.toList_some,zci6,zci1,List.map_nil]
   exact .step Aq pm po2 g7
  ·rintro σ I ⟨x3,bg,ts,ms,rfl,cI,TI,M,Aq⟩
   ac_nf
   rw[show xs.length=ds.length from ll,zco3] at Aq
   exact q bg ts ms I (fun b o n e=>cI b o n (s1 _ _ e)) TI M Aq
@[irreducible] def zh8:Sp:=fun vs H Q _=>∃ (a:Addr) (b:Int) (h f:Nat),vs=[.ref a,.int h,.int f]/\zc9 H a b/\b<=100000/\h<=40/\(1<=f/\f<=8)/\∀ l H' (ns:List Int),H l=none->Chg a H H'->zc9 H' a (b+10)->l≠a->H' l=some (.lst (ns.map V.int))->ns.length=f->ns.sum=h->(∀ x∈ns,0<=x)->Q (.ref l) H'
theorem zbd5{a:Addr}{b:Int}{h f:Nat}(hL:zc9 H a b)(hb:b<=100000)(h1:h<=40)(h2:1<=f)(h3:f<=8)(q:∀ l H' (ns:List Int),H l=none->Chg a H H'->zc9 H' a (b+10)->l≠a->H' l=some (.lst (ns.map V.int))->ns.length=f->ns.sum=h->(∀ x∈ns,0<=x)->Q (.ref l) H'):zh8 [.ref a,.int h,.int f] H Q E:=by
 unfold zh8;exact⟨a,b,h,f,rfl,hL,hb,h1,⟨h2,h3⟩,q⟩
theorem zbx7(ns:List Int)(k:Nat):(ns.drop k++ns.take k).sum=ns.sum:=by
 have:=congrArg List.sum (List.take_append_drop k ns)
 rw[List.sum_append] at this ⊢
 omega
theorem zan5(F:Fun K "_law_plan" "_law_plan" zs0 f fd)(N:Nm mg)(zca2:Def P w K mg base CX0 2 "_law_draw" ["_law_left_here","_law_base"] ze0):FnOk P w K mg base CX0 3 f fd ["_law_left_here","_law_hosts","_law_many"] zh8:=by
 refine F.ok zh6 (fun vs H Q E h=>by unfold zh8 at h;obtain⟨_,_,_,_,rfl,_⟩:=h;rfl) fun _ _ _ s H vs Q E hr h=>?_
 unfold zh8 at h
 obtain⟨a,b,h,f,rfl,hL,hb,h1,⟨h2,h3⟩,q⟩:=h
 refine⟨_,(za4 (psS (i:=3) zh6.nd (zp2 za1))
   (za4 (psS (i:=4) zh6.nd (pq 1))
   (za4 (zz7 PassesOwn.never rfl (zae4 N.range_ (za0 (zc8 oSub (pq 2) za2) za1)) (za9 (i:=5) zh6.nd rfl (by eq_refl)) (za4 (zs3 (zn4 (pq 3) (za0 (pD zca2 hr zc5 (za0 (pq 0) (za0 (zc8 oAdd (pq 4) za2) za1))) za1)))
   (za6 (psS (i:=4) zh6.nd (zc8 oSub (pq 4) (zc3 (K:=K) rfl (pq 3) (pe_un uNeg za2)))))))
   (za4 (zs3 (zn4 (pq 3) (za0 (pq 4) za1)))
   (za4 (psS (i:=6) zh6.nd (pD zca2 hr zc5 (za0 (pq 0) (za0 (pq 2) za1))))
   (za6 (zb6 (zc8 oAdd (zd2 (slXK (K:=K) rfl) (pq 3) (zi1 (pq 6)) zf1) (zd2 (slXK (K:=K) rfl) (pq 3) zf1 (zi1 (pq 6))))))))))),?_⟩
 refine zb2 (fun l H1 f1 s1 h1'=>?_)
 have n1:l≠a:=hL.ne f1
 refine zr3 (by decide) (by decide) (by rfl') (by rfl') ?_
 refine zr1 (fun i σ H2=>∃ (x y:Option V) (ns:List Int) (r:Int),σ=[some (.ref a),some (.int h),some (.int f),some (.ref l),some (.int r),x,y]/\Chg a H H2/\zc9 H2 a (b+i)/\H2 l=some (.lst (ns.map V.int))/\ns.length=i/\ns.sum+r=h/\0<=r/\r<=40/\∀ x∈ns,0<=x) ?_ ?_ ?_
 ·exact⟨_,_,[],h,rfl,s1.toChg,(hL.same s1).up (by rfl'),h1',rfl,by simp,by rfl',by rfl',by simp⟩
 ·rintro i σ H2 hi ⟨x0,y0,ns,r,rfl,c2,L2,e2,l2,t2,r0,r1,nn⟩
  have hi:i<8:=by rfl'
  refine zae3 e2 ?_
  refine zg7 L2 (by rfl') (by rfl') (by rfl') (fun d3 H3 d30 d31 c3 L3=>?_)
  have e3:=c3 _ _ n1 e2
  refine zaf7 e3 (by rw[zcf4,zcp8];omega) (fun H4 c4 h4=>?_)
  have h4:H4 l=some (.lst ((ns++[d3]).map V.int)):=by rw[h4,zci6];rfl
  refine zc2 (v:=.int d3) h4 (zbd8 (n:=i) (by rw[zcf4,zcg2,l2];rfl) (by rw[zcf9,zcj6 (by rfl'),l2,Nat.sub_self];rfl)) ?_
  ac_nf
  have c23:Chg a H H3:=c2.trans c3
  refine⟨_,_,ns++[d3],r - d3,rfl,fun b o h1 e=>c4 _ _ (za5 e f1) (c23 _ _ h1 e),(L3.chg c4 (Ne.symm n1)).up (by rfl'),h4,by rw[zcg2,l2];rfl,by rw[List.sum_append];simp;omega,by rfl',by rfl',fun x hx=>?_⟩
  rcases zch7.mp hx with hx|hx
  ·exact nn x hx
  ·have:x=d3:=by simpa using hx
   omega
 ·rintro σ H2 ⟨x0,y0,ns,r,rfl,c2,L2,e2,l2,t2,r0,r1,nn⟩
  refine zae3 e2 ?_
  refine zaf7 e2 (by rw[zcf4,zcp8];omega) (fun H3 c3 h3'=>?_)
  have h3':H3 l=some (.lst ((ns++[r]).map V.int)):=by rw[h3',zci6];rfl
  have L3:=L2.chg c3 (Ne.symm n1)
  refine zg7 L3 (by rfl') (by rfl') (by rfl') (fun at_ H4 a0 a1 c4 L4=>?_)
  have h4:=c4 _ _ n1 h3'
  refine zk3 (SqL.of h4) (fun p5 H5 f5 s5 h5=>?_)
  rw[zt7 (by rfl'),← List.map_drop] at h5
  refine zk3 (SqL.of (s5 _ _ h4)) (fun p6 H6 f6 s6 h6=>?_)
  rw[zv0 (by rfl'),← List.map_take] at h6
  refine zp0 (s6 _ _ h5) h6 (by rw[zcf4,zcf4,zck7,zcj3,zcp8,zcg2,l2,zcj0];omega) (fun p7 H7 f7 s7 h7=>?_)
  ac_nf
  have s56:=s5.trans s6
  have L6:=L4.same s56
  have c06:Chg a H H6:=fun b o h1 e=>s56 _ _ (c4 _ _ h1 (c3 _ _ (za5 e f1) (c2 _ _ h1 e)))
  refine q p7 H7 ((ns++[r]).drop at_.toNat++(ns++[r]).take at_.toNat) (Chg.free' c06 f7 (L6.ne f7)) (c06.same s7) ((L6.same s7).up (by rfl')) (L6.ne f7) (by rw[h7,zci6]) (by rw[zcg2,zck7,zcj3,zcg2,l2,zcj0];omega) (by rw[zbx7,List.sum_append];simp;omega) (fun x hx=>?_)
  have hx:x∈ns++[r]:=by
   rcases zch7.mp hx with hx|hx
   ·exact zcm0 hx
   ·exact zcm9 hx
  rcases zch7.mp hx with hx|hx
  ·exact nn x hx
  ·have:x=r:=by simpa using hx
   omega
abbrev OkY(h f:Int)(x:List Int×Int):Prop:=OkX h f x/\x.2<=10 ^ 28
@[irreducible] def zj1:Sp:=fun vs H Q _=>∃ (a:Addr) (b:Int) (m:Nat),vs=[.ref a,.int m,.int 8,.int 8]/\zc9 H a b/\b<=10000/\m<=40/\∀ (h f:Nat) l ts ms H',H l=none->Chg a H H'->zc9 H' a (b+200)->l≠a->zg1 H' l ts ms->Off a ts->Off l ts->(h<=40/\1<=f/\f<=8)->(1<=ms.length/\ms.length<=8)->(∀ x∈ms,OkY h f x)->Q (.ref l) H'
theorem lot_rd{a:Addr}{b:Int}{m:Nat}(hL:zc9 H a b)(hb:b<=10000)(hm:m<=40)(q:∀ (h f:Nat) l ts ms H',H l=none->Chg a H H'->zc9 H' a (b+200)->l≠a->zg1 H' l ts ms->Off a ts->Off l ts->(h<=40/\1<=f/\f<=8)->(1<=ms.length/\ms.length<=8)->(∀ x∈ms,OkY h f x)->Q (.ref l) H'):zj1 [.ref a,.int m,.int 8,.int 8] H Q E:=by
 unfold zj1;exact⟨a,b,m,rfl,hL,hb,hm,q⟩
theorem zap8(F:Fun K "_law_lot" "_law_lot" zv5 f fd)(N:Nm mg)(zca2:Def P w K mg base CX0 2 "_law_draw" ["_law_left_here","_law_base"] ze0)(zcd1:Def P w K mg base CX0 3 "_law_plan" ["_law_left_here","_law_hosts","_law_many"] zh8):FnOk P w K mg base CX0 4 f fd ["_law_left_here","_law_most","_law_fields","_law_parts"] zj1:=by
 refine F.ok zi7 (fun vs H Q E h=>by unfold zj1 at h;obtain⟨_,_,_,rfl,_⟩:=h;rfl) fun _ _ _ s H vs Q E hr h=>?_
 unfold zj1 at h
 obtain⟨a,b,m,rfl,hL,hb,hm,q⟩:=h
 have hu:=hu40 hr
 refine⟨_,(za4 (psS (i:=4) zi7.nd (pD zca2 hr zc5 (za0 (pq 0) (za0 (zc8 oAdd (pq 1) za2) za1))))
   (za4 (psS (i:=5) zi7.nd (zc8 oAdd za2 (pD zca2 hr zc5 (za0 (pq 0) (za0 (pq 2) za1)))))
   (za4 (psS (i:=6) zi7.nd (zp2 za1))
   (za4 (zz7 PassesOwn.never rfl (zae4 N.range_ (za0 (zc8 oAdd za2 (pD zca2 hr zc5 (za0 (pq 0) (za0 (pq 3) za1)))) za1)) (za9 (i:=7) zi7.nd rfl (by eq_refl)) (za4 (psS (i:=8) zi7.nd (zc8 oAdd za2 (pD zca2 hr zc5 (za0 (pq 0) (za0 (zc3 (K:=K) rfl (zp2 (za0 za2 (za0 za2 (za0 (zc8 oPow za2 za2) za1)))) (pD zca2 hr zc5 (za0 (pq 0) (za0 za2 za1)))) za1)))))
   (za6 (psIf (ptW (pwAnd (ptC oGt (pq 7) za2) (zaq0 (ptC (zq1 (K:=K) rfl (by exact hu)) (pD zca2 hr zc5 (za0 (pq 0) (za0 za2 za1))) za2)))) (za6 (zs3 (zn4 (pq 6) (za0 (zy2 (za0 (pT (zbt3 (K:=K) rfl) N.list_ zo0 (za0 (zc3 (K:=K) rfl (zc3 (K:=K) rfl (pq 6) (pD zca2 hr zc5 (za0 (pq 0) (za0 (pq 7) za1)))) za2) za1)) (za0 (pq 8) za1))) za1)))) (za6 (zs3 (zn4 (pq 6) (za0 (zy2 (za0 (pD zcd1 hr zc5 (za0 (pq 0) (za0 (pq 4) (za0 (pq 5) za1)))) (za0 (pq 8) za1))) za1))))))))
   (za6 (zb6 (pq 6))))))),?_⟩
 refine zg7 hL (by rfl') (by rfl') (by rfl') (fun dh H1 dh0 dh1 c1 L1=>?_)
 obtain⟨h,rfl⟩:∃ h:Nat,dh=h:=⟨dh.toNat,by rfl'⟩
 refine zg7 L1 (by rfl') (by rfl') (by rfl') (fun df H2 df0 df1 c2 L2=>?_)
 obtain⟨f,ef⟩:∃ f:Nat,1+df=f:=⟨(1+df).toNat,by rfl'⟩
 have hf:h<=40/\1<=f/\f<=8:=by rfl'
 ac_nf
 rw[ef]
 refine zb2 (fun l H3 f3 s3 h3=>?_)
 have n1:l≠a:=L2.ne f3
 have c03:Chg a H H3:=(c1.trans c2).same s3
 have f0:H l=none:=Chg.free' (c1.trans c2) f3 n1
 refine zg7 (L2.same s3) (by rfl') (by rfl') (by rfl') (fun dn H4 dn0 dn1 c4 L4=>?_)
 refine zr3 (by decide) (by decide) (by rfl') (by rfl') ?_
 obtain⟨n,en⟩:∃ n:Nat,(1+dn - 0).toNat=n:=⟨_,rfl⟩
 rw[en]
 have hn1:1<=n/\n<=8:=by rfl'
 refine zr1 (fun i σ I=>∃ (x y:Option V) (ts:List (Addr×Addr)) (ms:List (List Int×Int)),σ=[some (.ref a),some (.int m),some (.int 8),some (.int 8),some (.int h),some (.int f),some (.ref l),x,y]/\Chg a H I/\zc9 I a (b+4+20*i)/\zg1 I l ts ms/\Off a ts/\Off l ts/\ms.length=i/\∀ x∈ms,OkY h f x) ?_ ?_ ?_
 ·refine⟨_,_,[],[],rfl,c03.trans c4,L4.up (by rfl'),⟨c4 _ _ n1 h3,rfl,fun i t x e=>by simp at e⟩,?_,?_,rfl,?_⟩
  ·intro t ht;cases ht
  ·intro t ht;cases ht
  ·intro x hx;cases hx
 ·rintro i σ I hi ⟨x0,y0,ts,ms,rfl,cI,LI,M,O1,O2,ml,ok⟩
  have hi:i<8:=by rfl'
  walk_at "st"
  refine zb2 (fun p5 H5 f5 s5 h5=>?_)
  refine zg7 (LI.same s5) (by rfl') (by rfl') (by rfl') (fun d6 H6 d60 d61 c6 L6=>?_)
  have h56:=c6 _ _ (LI.ne f5) h5
  refine zm5 h56 (by rfl') (by simp only[zch0,zch9];omega) ?_
  intro v hv
  obtain⟨wm,rfl,wm0,wm1⟩:∃ m:Int,v=.int m/\1<=m/\m<=10 ^ 28:=by
   simp only[zcg6,zcj2,or_false] at hv
   rcases hv with rfl|rfl|rfl<;>exact⟨_,rfl,by rfl',by rfl'⟩
  clear hv h56 h5
  refine zg7 L6 (by rfl') (by rfl') (by rfl') (fun d7 H7 d70 d71 c7 L7=>?_)
  have c57:Chg a I H7:=(s5.toChg.trans c6).trans c7
  have M7:=((M.same s5).chg c6 n1 O1).chg c7 n1 O1
  have c07:=cI.trans c57
  have wt:1<=1+d7/\1+d7<=10 ^ 28:=by rfl'
  ac_nf
  generalize 1+d7=wt_ at wt ⊢
  refine ze6 (fun z=>?_) (fun z=>?_)
  ·ac_nf
   refine zg7 L7 (by rfl') (by rfl') (by rfl') (fun d8 H8 d80 d81 c8 L8=>?_)
   have M8:=M7.chg c8 n1 O1
   refine ze6 (fun z8=>?_) (fun z8=>?_)
   ·ac_nf
    refine zae3 M8.out ?_
    refine zg7 L8 (by rfl') (by rfl') (by rfl') (fun d9 H9 d90 d91 c9 L9=>?_)
    have M9:=M8.chg c9 n1 O1
    obtain⟨k,rfl⟩:∃ k:Nat,d9=k:=⟨d9.toNat,by rfl'⟩
    obtain⟨x,ex⟩:∃ x,ms[k]?=some x:=⟨_,zcf3 (by rfl')⟩
    obtain⟨t,et,at0,ht,hp⟩:=M9.ix ex
    obtain⟨⟨x1,x2,x3,_⟩,_⟩:=ok x (zcf8 ex)
    refine zc2 (v:=.ref t.1) M9.out at0 ?_
    refine zj8 (v:=.ref t.2) ht rfl ?_
    refine zau3 (SqL.of hp) (fun pa Ha fa sa ha=>?_)
    refine zd0 (fun pb Hb fb sb hb=>?_)
    have nal:pa≠l:=Ne.symm (za5 M9.out fa)
    have nbl:pb≠l:=Ne.symm (za5 (sa _ _ M9.out) fb)
    have Mb:=(M9.same sa).same sb
    refine zaf7 Mb.out (by rw[zcf4,zcp8,Mb.len];omega) (fun Hc cc hc=>?_)
    ac_nf
    have Mc:=Mb.push cc O2 hc (x:=(x.1,wt_)) (cc _ _ nbl hb) (cc _ _ nal (sb _ _ ha))
    have c0b:Chg a H Hb:=(((c07.trans c8).trans c9).same sa).same sb
    exact⟨_,_,_,_,rfl,fun b o z e=>cc _ _ (za5 e f0) (c0b _ _ z e),(((L9.same sa).same sb).chg cc (Ne.symm n1)).up (by rfl'),Mc,O1.push ((L9.same sa).ne fb) (L9.ne fa),O2.push nbl nal,by rw[zcg2,ml];rfl,zah4 ok ⟨⟨x1,x2,x3,by rfl'⟩,by rfl'⟩⟩
   ·ac_nf
    refine zae3 M8.out ?_
    refine zbd5 L8 (by rfl') hf.1 hf.2.1 hf.2.2 (fun pa Ha ns fa ca La na ha k1 k2 k3=>?_)
    have Ma:=M8.chg ca n1 O1
    refine zd0 (fun pb Hb fb sb hb=>?_)
    have nal:pa≠l:=Ne.symm (za5 M8.out fa)
    have nbl:pb≠l:=Ne.symm (za5 Ma.out fb)
    have Mb:=Ma.same sb
    refine zaf7 Mb.out (by rw[zcf4,zcp8,Mb.len];omega) (fun Hc cc hc=>?_)
    ac_nf
    have Mc:=Mb.push cc O2 hc (x:=(ns,wt_)) (cc _ _ nbl hb) (cc _ _ nal (sb _ _ ha))
    have c0b:Chg a H Hb:=((c07.trans c8).trans ca).same sb
    exact⟨_,_,_,_,rfl,fun b o z e=>cc _ _ (za5 e f0) (c0b _ _ z e),((La.same sb).chg cc (Ne.symm n1)).up (by rfl'),Mc,O1.push (La.ne fb) na,O2.push nbl nal,by rw[zcg2,ml];rfl,zah4 ok ⟨⟨k3,by rw[k1],k2,by rfl'⟩,by rfl'⟩⟩
  ·ac_nf
   refine br_F ?_
   refine zae3 M7.out ?_
   refine zbd5 L7 (by rfl') hf.1 hf.2.1 hf.2.2 (fun pa Ha ns fa ca La na ha k1 k2 k3=>?_)
   have Ma:=M7.chg ca n1 O1
   refine zd0 (fun pb Hb fb sb hb=>?_)
   have nal:pa≠l:=Ne.symm (za5 M7.out fa)
   have nbl:pb≠l:=Ne.symm (za5 Ma.out fb)
   have Mb:=Ma.same sb
   refine zaf7 Mb.out (by rw[zcf4,zcp8,Mb.len];omega) (fun Hc cc hc=>?_)
   ac_nf
   have Mc:=Mb.push cc O2 hc (x:=(ns,wt_)) (cc _ _ nbl hb) (cc _ _ nal (sb _ _ ha))
   have c0b:Chg a H Hb:=(c07.trans ca).same sb
   exact⟨_,_,_,_,rfl,fun b o z e=>cc _ _ (za5 e f0) (c0b _ _ z e),((La.same sb).chg cc (Ne.symm n1)).up (by rfl'),Mc,O1.push (La.ne fb) na,O2.push nbl nal,by rw[zcg2,ml];rfl,zah4 ok ⟨⟨k3,by rw[k1],k2,by rfl'⟩,by rfl'⟩⟩
 ·rintro σ I ⟨x0,y0,ts,ms,rfl,cI,LI,M,O1,O2,ml,ok⟩
  ac_nf
  exact q h f l ts ms I f0 cI (LI.up (by rfl')) n1 M O1 O2 hf (by rfl') ok
theorem zbo7{j:Nat}{x:List Int×Int}(h:ms[j]?=some x)(i:Nat):sumG (flw (ms.take (j+1)) i)=addG (sumG (flw (ms.take j) i)) (((x.1.drop i).sum,x.1.getD i 0),x.2):=by
 unfold flw
 rw[List.take_succ,h,zci6]
 exact zu8 _ _
theorem zba9(ms:List (List Int×Int))(i:Nat):(sumG (flw ms i)).length<=ms.length:=by
 have:=zm1 (flw ms i)
 unfold flw at this ⊢
 rwa [zcf4] at this
structure DsAt(H0 H:Hp)(l:Addr)(ds:List Addr)(g:Nat->List ((Int×Int)×Int)):Prop where
 fl:H0 l=none
 out:H l=some (.lst (ds.map V.ref))
 nd:ds.Nodup
 nin:l ∉ ds
 row:∀ (i:Nat) d,ds[i]?=some d->H0 d=none/\H d=some (.dT (dF pK (g i)))
theorem DsAt.put{H0:Hp}{l d:Addr}{ds:List Addr}{g:Nat->List ((Int×Int)×Int)}{k:Nat}{n:List ((Int×Int)×Int)}(D:DsAt H0 H l ds g)(e:ds[k]?=some d)(c:Chg d H H')(h:H' d=some (.dT (dF pK n))):DsAt H0 H' l ds fun i=>if i=k then n else g i:=by
 refine⟨D.fl,c _ _ (fun z=>D.nin (z▸zcf8 e)) D.out,D.nd,D.nin,fun i d' e'=>?_⟩
 by_cases hi:i=k
 ·subst hi
  rw[e] at e'
  cases e'
  exact⟨(D.row i d e).1,by rw[h,if_pos rfl]⟩
 ·rw[if_neg hi]
  have ne:d'≠d:=fun z=>by
   subst z
   exact hi ((List.getElem?_inj (zcf6.mp e').1 D.nd).mp (e'.trans e.symm))
  exact⟨(D.row i d' e').1,c _ _ ne (D.row i d' e').2⟩
theorem DsAt.ext{H0:Hp}{l:Addr}{ds:List Addr}{g g':Nat->List ((Int×Int)×Int)}(D:DsAt H0 H l ds g)(h:∀ i,i<ds.length->g i=g' i):DsAt H0 H l ds g':=
 ⟨D.fl,D.out,D.nd,D.nin,fun i d e=>⟨(D.row i d e).1,by rw[← h i (zcf6.mp e).1];exact (D.row i d e).2⟩⟩
@[irreducible] def zg0:Sp:=fun vs H Q _=>∃ (m:Addr) (ts:List (Addr×Addr)) (ms:List (List Int×Int)) (f:Nat),vs=[.ref m]/\zg1 H m ts ms/\(1<=ms.length/\ms.length<64)/\f<=100/\(∀ x∈ms,x.1.length=f)/\∀ r rs xss H',Same H H'->StAt (nw H H') r rs xss->StmIs ms f xss->Q (.ref r) H'
theorem zbm0{f:Nat}(M:zg1 H m ts ms)(h1:1<=ms.length)(h2:ms.length<64)(h3:f<=100)(h4:∀ x∈ms,x.1.length=f)(q:∀ r rs xss H',Same H H'->StAt (nw H H') r rs xss->StmIs ms f xss->Q (.ref r) H'):zg0 [.ref m] H Q E:=by
 unfold zg0;exact⟨m,ts,ms,f,rfl,M,⟨h1,h2⟩,h3,h4,q⟩
theorem zai3(F:Fun K "_law_flows" "_law_flows" zq3 f fd)(N:Nm mg):FnOk P w K mg base CX0 1 f fd ["_law_mix_here"] zg0:=by
 refine F.ok zg4 (fun vs H Q E h=>by unfold zg0 at h;obtain⟨_,_,_,_,rfl,_⟩:=h;rfl) fun _ _ _ s H vs Q E hr h=>?_
 unfold zg0 at h
 obtain⟨m,ts,ms,f,rfl,M,⟨m1,m2⟩,hf,fl,q⟩:=h
 have hu:=hu40 hr
 have ml:=M.len
 refine⟨_,(za4 (psC (i:=1) (N:=["_law_place"]) (ks:=[none]) zg4.nd (zg6 (K:=K) rfl (zc3 (K:=K) rfl (zc3 (K:=K) rfl (pq 0) za2) za2)) (fun _ _ _ _ _=>(za9 (i:=0) nb_11 rfl (by eq_refl))) (fun _ _ _ _ _=>zf6) (fun _ _ _ _ _=>zz3) (.skip .nil))
   (za4 (zz7 PassesOwn.never rfl (zg6 (K:=K) rfl (pq 0)) (zm6 (K:=K) (n:=2) rfl rfl (zb9 (za9 (i:=2) zg4.nd rfl (by eq_refl)) (zb9 (za9 (i:=3) zg4.nd rfl (by eq_refl)) zm2))) (za6 (zz7 PassesOwn.never rfl (zae4 N.range_ (za0 (pB (zp3 (K:=K) rfl) N.len_ zi3 (za0 (pq 2) za1)) za1)) (za9 (i:=4) zg4.nd rfl (by eq_refl)) (za4 (psS (i:=5) zg4.nd (zy2 (za0 (pB (cSumK (K:=K) rfl rfl) N.sum_ zbj0 (za0 (zd2 (slXK (K:=K) rfl) (pq 2) (zi1 (pq 4)) zf1) za1)) (za0 (zc3 (K:=K) rfl (pq 2) (pq 4)) za1))))
   (za6 (zar8 (by exact hu) (zc3 (K:=K) rfl (pq 1) (pq 4)) (pq 5) (zc8 oAdd (zt6 (by exact hu) (zc3 (K:=K) rfl (pq 1) (pq 4)) (pq 5) za2) (pq 3))))))))
   (za6 (zb6 (zbu2 (x0:="_law_flow") (N:=["_law_flow"]) (ks:=[none]) (zg6 (K:=K) rfl (pq 1)) (fun _ _ _ _ _=>(za9 (i:=0) nb_12 rfl (by eq_refl))) (fun _ _ _ _ _=>zf6) (fun _ _ _ _ _=>(zk4 (N:=["_law_rest","_law_sent","_law_flow"]) (ks:=[none,none,some 0]) (zg6 (K:=K) rfl (pB (cSortO rfl) N.sorted_ zp8 (za0 (pq 0) za1))) (fun _ _ _ _ _=>(zm6 (K:=K) (n:=2) rfl rfl (zb9 (za9 (i:=0) nb_13 rfl (by eq_refl)) (zb9 (za9 (i:=1) nb_13 rfl (by eq_refl)) zm2)))) (fun _ _ _ _ _=>zf6) (fun _ _ _ _ _=>(zy2 (za0 (pq 0) (za0 (pq 1) (za0 (peDGet (by exact hu) (pq 2) (zy2 (za0 (pq 0) (za0 (pq 1) za1)))) za1))))) (.skip (.skip (.take rfl rfl (by eq_refl) .nil))))) (.skip .nil)))))),?_⟩
 obtain⟨x0,ex0⟩:∃ x,ms[0]?=some x:=⟨_,zcf3 (by rfl')⟩
 obtain⟨t0,et0,at0,ht0,hp0⟩:=M.ix ex0
 have l0:=fl x0 (zcf8 ex0)
 refine zc2 (v:=.ref t0.1) M.out at0 ?_
 refine zj8 (v:=.ref t0.2) ht0 rfl ?_
 refine zc6 hp0 ?_
 refine zaa8 (n:=(x0.1.map V.int).length) (Wk.list (SqL.of hp0)) (by rw[zcf4,zcp8];omega) (fun j=>.dT []) (fun j σ=>∃ t:Option V,σ=[t]) ⟨none,rfl⟩ ?_ ?_
 ·rintro j v σ H4 R' S' hj s4 hx ⟨t,rfl⟩ k
  refine br_T ?_
  refine zbs9 (fun p5 H5 f5 s5 h5=>?_)
  ac_nf
  exact k _ _ _ f5 s5 h5 ⟨_,rfl⟩
 intro l ds H1 F1
 rw[zcf4,l0] at F1
 have dl:=F1.len
 have D1:DsAt H H1 l ds fun i=>sumG (flw (ms.take 0) i):=⟨F1.facc,F1.out,F1.nd,F1.nin,fun i d e=>F1.row i d e⟩
 have s1:=F1.same
 clear F1
 refine zc6 (s1 _ _ M.out) ?_
 refine zj4 (xs:=ts.map fun t=>V.ref t.1) (fun j σ I=>∃ t u v w:Option V,σ=[some (.ref m),some (.ref l),t,u,v,w]/\Same H I/\DsAt H I l ds fun i=>sumG (flw (ms.take j) i)) ?_ ?_ ?_ ?_
 ·exact⟨_,_,_,_,rfl,s1,D1⟩
 ·rintro j σ I _ ⟨_,_,_,_,_,s2,_⟩
  exact SqL.of (s2 _ _ M.out)
 ·rintro j v σ I hj ⟨_,_,_,_,rfl,s2,D2⟩
  obtain⟨t,x,rfl,e1,e2,e3,e4⟩:=(M.same s2).elt hj
  have jl:=(zcf6.mp e2).1
  have e40:=(M.part j t x e1 e2).2
  have xl:=fl x (zcf8 e2)
  refine zh1 e3 ?_
  refine zf8 e4 ?_
  rw[zcf4,xl]
  refine zr3 (by rfl') (by rfl') (by rfl') (by rfl') ?_
  refine zr1 (fun k σ I2=>∃ v w:Option V,σ=[some (.ref m),some (.ref l),some (.ref t.2),some (.int x.2),v,w]/\Same H I2/\DsAt H I2 l ds fun i=>if i<k then sumG (flw (ms.take (j+1)) i) else sumG (flw (ms.take j) i)) ?_ ?_ ?_
  ·exact⟨_,_,rfl,s2,D2.ext fun i _=>by rw[if_neg (by rfl')]⟩
  ·rintro k σ I2 hk ⟨_,_,rfl,s3,D3⟩
   have hk:k<f:=by rfl'
   obtain⟨d,ed⟩:∃ d,ds[k]?=some d:=⟨_,zcf3 (by rfl')⟩
   obtain⟨dn,dh⟩:=D3.row k d ed
   rw[if_neg (by rfl')] at dh
   have e43:=s3 _ _ e40
   have kx:x.1[k]?=some (x.1.getD k 0):=by rw[zcg0,zcf3 (by rfl')];rfl
   refine zk3 (SqL.of e43) (fun p4 I4 f4 s4 h4=>?_)
   rw[zt7 (by rfl'),show ((0:Int)+(k:Int)).toNat=k by rfl',← List.map_drop] at h4
   refine zbt5 h4 ?_
   refine zc2 (v:=.int (x.1.getD k 0)) (s4 _ _ e43) (int_at (by rfl') (by rw[show ((0:Int)+(k:Int)).toNat=k by rfl'];exact kx)) ?_
   refine zd0 (fun p5 I5 f5 s5 h5=>?_)
   have s35:=s4.trans s5
   have h5:I5 p5=some (.tup ((pK ((x.1.drop k).sum,x.1.getD k 0)).map kV)):=h5
   have dk:atI (ds.map V.ref) ((0:Int)+(k:Int))=some (.ref d):=ref_at (by rfl') (by rw[show ((0:Int)+(k:Int)).toNat=k by rfl'];exact ed)
   have lo:=s35 _ _ D3.out
   have dh5:=s35 _ _ dh
   refine zc2 (v:=.ref d) lo dk ?_
   refine zbh6 dh5 ?_
   refine zbb9 dh5 (k:=pK ((x.1.drop k).sum,x.1.getD k 0)) h5 ?_
   have ev:(valV (dF pK (sumG (flw (ms.take j) k))) (pK ((x.1.drop k).sum,x.1.getD k 0))).getD (V.int 0)=.int ((valG (sumG (flw (ms.take j) k)) ((x.1.drop k).sum,x.1.getD k 0)).getD 0):=by
    rw[zq7 zz8]
    cases valG (sumG (flw (ms.take j) k)) ((x.1.drop k).sum,x.1.getD k 0)<;>rfl
   rw[ev]
   refine zc2 (v:=.ref d) lo dk ?_
   refine zbr3 dh5 (k:=pK ((x.1.drop k).sum,x.1.getD k 0)) h5 (by unfold dF;rw[zcf4,zcp8];have:=zba9 (ms.take j) k;rw[zcj3] at this;omega) (fun I6 c6 h6=>?_)
   rw[zz2 zz8] at h6
   ac_nf
   have D5:DsAt H I5 l ds fun i=>if i<k then sumG (flw (ms.take (j+1)) i) else sumG (flw (ms.take j) i):=⟨D3.fl,lo,D3.nd,D3.nin,fun i d e=>⟨(D3.row i d e).1,s35 _ _ (D3.row i d e).2⟩⟩
   refine⟨_,_,rfl,(s3.trans s35).chg dn c6,(D5.put ed c6 h6).ext fun i _=>?_⟩
   by_cases hi:i=k
   ·subst hi
    rw[if_pos rfl,if_pos (by rfl'),zbo7 e2]
    rfl
   ·rw[if_neg hi]
    by_cases h':i<k
    ·rw[if_pos h',if_pos (by rfl')]
    ·rw[if_neg h',if_neg (by rfl')]
  ·rintro σ I2 ⟨_,_,rfl,s3,D3⟩
   ac_nf
   exact⟨_,_,_,_,rfl,s3,D3.ext fun i hi=>by rw[if_pos (by rfl')]⟩
 ·rintro σ H2 ⟨_,_,_,_,rfl,s2,D2⟩
  rw[zcf4,ml,zco3] at D2
  refine zc6 D2.out ?_
  refine zbt6 (Wk.list (SqL.of D2.out)) (by rw[zcf4,zcp8];omega) (fun acc j ys σ I=>∃ (t:Option V) (rs:List (Addr×List Addr)) (xss:List (List (Int×Int×Int))),σ=[t]/\ys=(rs.map fun r=>V.ref r.1)/\rs.length=j/\xss.length=j/\(∀ (i:Nat) r xs,rs[i]?=some r->xss[i]?=some xs->RwAt (rm acc (nw H2 I)) r.1 r.2 xs)/\(∀ (i:Nat) xs,xss[i]?=some xs->zac8 ms i xs/\xs.length<=ms.length)/\(rs.map (·.1)).Nodup) ?_ ?_ ?_ ?_
  ·intro acc I f1 s2 h1
   exact⟨none,[],[],rfl,rfl,rfl,rfl,fun i r xs e=>by simp at e,fun i xs e=>by simp at e,List.nodup_nil⟩
  ·rintro acc j ys σ I I' s' ⟨t,rs,xss,r1,r2,r3,r4,r5,r6,r7⟩
   exact⟨t,rs,xss,r1,r2,r3,r4,fun i r xs e1 e2=>(r5 i r xs e1 e2).same (Same.rm (nw_up s')),r6,r7⟩
  ·rintro acc j v ys σ I R S hj facc s3 hacc hx ⟨t,rs,xss,rfl,rfl,rl,xl,rp,xp,nd⟩ kR _
   rw[zcf9] at hx
   obtain⟨d,ed,rfl⟩:=zcg5.mp hx
   have dh:=s3 _ _ (D2.row j d ed).2
   have dh':I d=some (.dT (((sumG (flw ms j)).map fun z=>(z.1,V.int z.2)).map fun z=>(pK z.1,z.2))):=by rw[dh,zch6];rfl
   have sl:=zba9 ms j
   refine br_T ?_
   refine soO_rd dh' (by rw[zcf4];omega) (fun p4 I4 bs ks f4 s4 pm od pr h4=>?_)
   have pm:ks.Perm ((sumG (flw ms j)).map (·.1)):=by rw[zch6] at pm;exact pm
   have bl:bs.length=ks.length:=pr.length
   have kl:ks.length<=ms.length:=by have:=pm.length_eq;rw[zcf4] at this;omega
   have eg:∀ x∈ks,valG (sumG (flw ms j)) x=some ((valG (sumG (flw ms j)) x).getD 0):=fun x hx=>by
    obtain⟨n,e⟩:=zaw0 (pm.mem_iff.mp hx)
    rw[e];rfl
   refine zc6 h4 ?_
   refine zaa8 (n:=(bs.map V.ref).length) (Wk.list (SqL.of h4)) (by rw[zcf4,zcp8];omega) (fun j'=>.tup [.int (ks.getD j' (0,0)).1,.int (ks.getD j' (0,0)).2,.int ((valG (sumG (flw ms j)) (ks.getD j' (0,0))).getD 0)]) (fun j σ=>∃ t u:Option V,σ=[t,u,some (.ref d)]) ⟨none,none,rfl⟩ ?_ ?_
   ·rintro j' v σ H4 R' S' hj s5 hx ⟨t,u,rfl⟩ k
    rw[zcf9] at hx
    obtain⟨b,eb,rfl⟩:=zcg5.mp hx
    obtain⟨x,ex⟩:∃ x,ks[j']?=some x:=⟨ks[j']'(by have:=(zcf6.mp eb).1;omega),zcf3 _⟩
    have eb':=s5 _ _ (zn3 pr j' b x eb ex)
    rw[show ks.getD j' (0,0)=x by rw[zcg0,ex];rfl] at k
    have h4:=s5 _ _ (s4 _ _ dh)
    refine zh1 eb' ?_
    refine br_T ?_
    refine zd0 (fun p5 H5 f5 s5 h5=>?_)
    refine dgT_rd (s5 _ _ h4) (k:=pK x) h5 (by rw[zq7 zz8,eg x (zcf8 ex)];rfl) ?_
    refine zd0 (fun pa Ha fa sa ha=>?_)
    ac_nf
    exact k _ _ _ (s5.free fa) (s5.trans sa) ha ⟨_,_,rfl⟩
   intro acc4 ps H4 F4
   rw[zcf4] at F4
   have F4l:=F4.len
   have s34:=s4.trans F4.same
   ac_nf
   have R4:RwAt (nw I H4) acc4 ps (ks.map fun x=>(x.1,x.2,(valG (sumG (flw ms j)) x).getD 0)):=⟨zap2 (s4.free F4.facc) F4.out,by rw[zcf4];omega,fun j b x e1 e2=>by
    rw[zcf9] at e2
    obtain⟨y,ey,rfl⟩:=zcg5.mp e2
    obtain⟨z1,z2⟩:=F4.row j b e1
    rw[show ks.getD j (0,0)=y by rw[zcg0,ey];rfl] at z2
    exact zap2 (s4.free z1) z2⟩
   have ri:zac8 ms j (ks.map fun x=>(x.1,x.2,(valG (sumG (flw ms j)) x).getD 0)):=by
    have em:(ks.map fun x=>(x.1,x.2,(valG (sumG (flw ms j)) x).getD 0)).map keyT=ks:=by
     rw[zch6]
     exact (zcj8 fun x _=>rfl).trans (List.map_id _)
    refine⟨by rw[em];exact od,fun k=>by rw[em];exact pm.mem_iff,fun z hz=>?_⟩
    obtain⟨x,hx,rfl⟩:=zch2.mp hz
    exact eg x hx
   have xl1:(ks.map fun x=>(x.1,x.2,(valG (sumG (flw ms j)) x).getD 0)).length<=ms.length:=by rw[zcf4];exact kl
   generalize (ks.map fun x=>(x.1,x.2,(valG (sumG (flw ms j)) x).getD 0))=xs at R4 ri xl1
   refine kR _ _ _ s34 (fun I2 c2=>⟨_,rs++[(acc4,ps)],xss++[xs],rfl,by rw[zci6];rfl,by rw[zcg2,rl];rfl,by rw[zcg2,xl];rfl,fun i r' xs' e1 e2=>?_,fun i xs' e=>?_,zby5 (I1:=H4) nd (by rfl') rp (zad4 R4.out).1⟩)
   ·have up:Same (rm acc (nw H2 I)) (rm acc (nw H2 I2)):=fun b o z=>by
     obtain⟨z1,z2⟩:=zal0 z
     obtain⟨z3,z4⟩:=zad4 z2
     exact zl7 z1 (zap2 z3 (c2 _ _ z1 (s34 _ _ z4)))
    have new:Same (nw I H4) (rm acc (nw H2 I2)):=fun b o z=>by
     obtain⟨z3,z4⟩:=zad4 z
     have nb:b≠acc:=fun w=>by rw[w,hacc] at z3;cases z3
     exact zl7 nb (zap2 (s3.free z3) (c2 _ _ nb z4))
    rcases zk6 e1 with ⟨a1,a2⟩|⟨a1,rfl⟩
    ·rcases zk6 e2 with ⟨b1,b2⟩|⟨b1,_⟩
     ·exact (rp i r' xs' a2 b2).same up
     ·omega
    ·rcases zk6 e2 with ⟨b1,_⟩|⟨b1,rfl⟩
     ·omega
     ·exact R4.same new
   ·rcases zk6 e with ⟨b1,b2⟩|⟨b1,rfl⟩
    ·exact xp i xs' b2
    ·rw[b1,xl]
     exact⟨ri,xl1⟩
  ·rintro acc ys σ I facc s3 hacc ⟨t,rs,xss,rfl,rfl,rl,xl,rp,xp,nd⟩
   rw[zcf4,dl] at rl xl
   ac_nf
   have left:Same (nw H2 I) (nw H I):=zbz0 s2
   exact q acc rs xss I (s2.trans s3) ⟨left _ _ (zap2 facc hacc),by rfl',fun i r xs e1 e2=>(rp i r xs e1 e2).same (Same.rm left),nd⟩ ⟨xl,xp⟩
theorem _root_.L2.ShV.lstOr{v:V}{d:PyData}(h:ShV H v d):(∃ a xs ds,v=.ref a/\d=.list ds/\H a=some (.lst xs)/\ShL H xs ds)∨isD "list" d=false:=by
 cases h
 case lst a xs ds e l=>exact .inl ⟨a,xs,ds,rfl,rfl,e,l⟩
 all_goals exact .inr rfl
theorem _root_.L2.ShV.tupOr{v:V}{d:PyData}(h:ShV H v d):(∃ a xs ds,v=.ref a/\d=.tuple ds/\H a=some (.tup xs)/\ShL H xs ds)∨isD "tuple" d=false:=by
 cases h
 case tup a xs ds e l=>exact .inl ⟨a,xs,ds,rfl,rfl,e,l⟩
 all_goals exact .inr rfl
@[irreducible] def zg3:Sp:=fun vs H Q _=>∃ (v:V) (d:PyData),vs=[v]/\ShV H v d/\Q (.bl (isW d)) H
theorem zaz5{v:V}{d:PyData}(h:ShV H v d)(q:Q (.bl (isW d)) H):zg3 [v] H Q E:=by unfold zg3;exact⟨v,d,rfl,h,q⟩
theorem zai8(F:Fun K "_law_whole" "_law_whole" zq6 f fd)(N:Nm mg):FnOk P w K mg base CX0 1 f fd ["_law_thing"] zg3:=by
 refine F.ok zah9 (fun vs H Q E h=>by unfold zg3 at h;obtain⟨_,_,rfl,_⟩:=h;rfl) fun _ _ _ s H vs Q E hr h=>?_
 unfold zg3 at h
 obtain⟨v,d,rfl,h,q⟩:=h
 refine⟨_,(za6 (zb6 (zx3 (pB (zw7 (K:=K) rfl) N.isinstance_ zb3 (za0 (pq 0) (za0 (pTy N.int_ zx9) za1))) (zt2 (peNot (pB (zw7 (K:=K) rfl) N.isinstance_ zb3 (za0 (pq 0) (za0 (pTy N.bool_ zbh7) za1)))))))),?_⟩
 refine zi2 h (.inl rfl) ?_
 cases h
 case int i=>
  refine br_T ?_
  refine zai5 ?_
  ac_nf
  exact q
 case bl b=>
  refine br_T ?_
  refine zah7 ?_
  ac_nf
  exact q
 all_goals (ac_nf;refine br_F ?_;ac_nf;exact q)
def zp4(h:Int)(d:PyData):Bool:=zj3 d&&decide ((triD d).1<=h)
def zt1(h:Int):PyData->Bool
 | .list ds=>ds.all (zp4 h)&&(incD ds&&decide (0<ds.length))
 | _=>false
theorem zbe8{d:PyData}(h:isD "tuple" d=false):zj3 d=false:=by
 cases d<;>first|rfl|exact Bool.noConfusion (show true=false from h)
theorem zbe6{d:PyData}(e:isD "list" d=false):zt1 h d=false:=by
 cases d<;>first|rfl|exact Bool.noConfusion (show true=false from e)
theorem zbn7{d:PyData}(hd:d∈ds)(e:zp4 h d=false):zt1 h (.list ds)=false:=by
 have:ds.all (zp4 h)=false:=by
  cases z:ds.all (zp4 h)
  ·rfl
  ·rw[zcg8.mp z d hd] at e;cases e
 show (ds.all (zp4 h)&&_)=false
 rw[this];rfl
theorem inc_pw:incD ds=true↔(ds.map keyD).Pairwise (fun x y=>ltP x y=true):=by
 unfold incD
 rw[zcg8]
 have gk:∀ i,i<ds.length->(ds.map keyD)[i]?=some (keyD (ds.getD i .none)):=fun i hi=>by rw[zcf9,zcg0,zcf3 hi];rfl
 constructor
 ·intro h
  have step:∀ (n i:Nat),i+n+1<ds.length->ltP (keyD (ds.getD i .none)) (keyD (ds.getD (i+n+1) .none))=true:=fun n=>by
   induction n with
   | zero=>intro i hi;exact h i (zci3.mpr (by rfl'))
   | succ n ih=>
    intro i hi
    have a:=zn1.mp (ih i (by rfl'))
    have b:=zn1.mp (h (i+n+1) (zci3.mpr (by rfl')))
    exact zn1.mpr (by rw[show i+(n+1)+1=i+n+1+1 by rfl'];omega)
  rw[zck6]
  intro i j hi hj hij
  rw[zcf4] at hi hj
  have e1:=gk i hi
  have e2:=gk j hj
  rw[zcf3 (by rw[zcf4];exact hi)] at e1
  rw[zcf3 (by rw[zcf4];exact hj)] at e2
  rw[Option.some.inj e1,Option.some.inj e2]
  have:=step (j - i - 1) i (by rfl')
  rwa [show i+(j - i - 1)+1=j by rfl'] at this
 ·intro h i hi
  have hi:=zci3.mp hi
  have e1:=gk i (by rfl')
  have e2:=gk (i+1) (by rfl')
  rw[zcf3 (by rw[zcf4];omega)] at e1 e2
  have:=zck6.mp h i (i+1) (by rw[zcf4];omega) (by rw[zcf4];omega) (by rfl')
  rw[Option.some.inj e1,Option.some.inj e2] at this
  exact this
theorem zbg6{ks ls:List (Int×Int)}(pm:ls.Perm ks)(so:ls.Pairwise (fun x y=>ltP y x=false)):(decide (ks=ls)&&decide (ks.Nodup))=decide (ks.Pairwise (fun x y=>ltP x y=true)):=by
 rw[zck5,zcg4,decide_eq_true_eq,decide_eq_true_eq,decide_eq_true_eq]
 constructor
 ·rintro⟨e,nd⟩
  rw[← e] at so
  exact (zaq4 nd so).2
 ·intro h
  have nd:ks.Nodup:=h.imp fun {x y} z e=>by
   subst e
   have:=zn1.mp z
   omega
  exact⟨zaf8 ⟨nd,h⟩ (zaq4 (pm.nodup_iff.mpr nd) so) fun k=>pm.mem_iff.symm,nd⟩
theorem zbj1{ks ls:List (Int×Int)}(hl:ks.length=ls.length):((List.range ks.length).all fun j=>decide ((ks.getD j (0,0)).1=(ls.getD j (0,0)).1/\(ks.getD j (0,0)).2=(ls.getD j (0,0)).2))=decide (ks=ls):=by
 rw[zck5,zcg8,decide_eq_true_eq]
 constructor
 ·intro h
  apply zcl5 hl
  intro i h1 h2
  have:=of_decide_eq_true (h i (zci3.mpr h1))
  rw[zcg0,zcg0,zcf3 h1,zcf3 h2] at this
  exact Prod.ext this.1 this.2
 ·rintro rfl i _
  exact decide_eq_true ⟨rfl,rfl⟩
@[irreducible] def ze5:Sp:=fun vs H Q _=>∃ (v:V) (d:PyData) (h:Int),vs=[v,.int h]/\ShV H v d/\(za8 d).length<=18/\∀ H',Same H H'->Q (.bl (zt1 h d)) H'
theorem zav3{v:V}{d:PyData}(hv:ShV H v d)(hs:(za8 d).length<=18)(q:∀ H',Same H H'->Q (.bl (zt1 h d)) H'):ze5 [v,.int h] H Q E:=by unfold ze5;exact⟨v,d,h,rfl,hv,hs,q⟩
theorem zad6(F:Fun K "_law_is_row" "_law_is_row" zo8 f fd)(N:Nm mg)(zcc4:Def P w K mg base CX0 1 "_law_whole" ["_law_thing"] zg3):FnOk P w K mg base CX0 2 f fd ["_law_row","_law_hosts"] ze5:=by
 refine F.ok zn0 (fun vs H Q E h=>by unfold ze5 at h;obtain⟨_,_,_,rfl,_⟩:=h;rfl) fun _ _ _ s H vs Q E hr h=>?_
 unfold ze5 at h
 obtain⟨v,d,hh,rfl,h,hs,q⟩:=h
 have hu:=hu40 hr
 refine⟨_,(za4 (psIf (ptW (pwOr (zk0 (ptV (pB (zw7 (K:=K) rfl) N.isinstance_ zb3 (za0 (pq 0) (za0 (pTy N.list_ zo0) za1))))) (zo9 (ptC (zq1 (K:=K) rfl (by exact hu)) (pB (zp3 (K:=K) rfl) N.len_ zi3 (za0 (pq 0) za1)) za2)))) (za6 (zb6 zt4)) zd7)
   (za4 (zz7 PassesOwn.never rfl (zg6 (K:=K) rfl (pq 0)) (za9 (i:=2) zn0.nd rfl (by eq_refl)) (za4 (psIf (ptW (pwOr (zk0 (ptV (pB (zw7 (K:=K) rfl) N.isinstance_ zb3 (za0 (pq 2) (za0 (pTy N.tuple_ zy9) za1))))) (pwOr (ptC (zal1 (K:=K) rfl (by exact hu)) (pB (zp3 (K:=K) rfl) N.len_ zi3 (za0 (pq 2) za1)) za2) (zo9 (ptC oGt (pB (zp3 (K:=K) rfl) N.len_ zi3 (za0 (zk4 (N:=["_law_one"]) (ks:=[none]) (zg6 (K:=K) rfl (pq 2)) (fun _ _ _ _ _=>(za9 (i:=0) nb_14 rfl (by eq_refl))) (fun _ _ _ _ _=>(zbz4 (zk0 (ptV (pD zcc4 hr zc5 (za0 (pq 0) za1)))))) (fun _ _ _ _ _=>(pq 0)) (.skip .nil)) za1)) za2))))) (za6 (zb6 zt4)) zd7)
   (za6 (psIf (ptW (pwOr (ptC (oLtX (by exact hu)) (zc3 (K:=K) rfl (pq 2) za2) za2) (pwOr (ptC oGt (zc3 (K:=K) rfl (pq 2) za2) (zc3 (K:=K) rfl (pq 2) za2)) (pwOr (ptC oGt (zc3 (K:=K) rfl (pq 2) za2) (pq 1)) (zo9 (ptC (oLtX (by exact hu)) (zc3 (K:=K) rfl (pq 2) za2) za2)))))) (za6 (zb6 zt4)) zd7))))
   (za4 (psC (i:=3) (N:=["_law_part"]) (ks:=[none]) zn0.nd (zg6 (K:=K) rfl (pq 0)) (fun _ _ _ _ _=>(za9 (i:=0) nb_15 rfl (by eq_refl))) (fun _ _ _ _ _=>zf6) (fun _ _ _ _ _=>(zd2 (slXK (K:=K) rfl) (pq 0) zf1 (zi1 za2))) (.skip .nil))
   (za6 (zb6 (zx3 (peC (zq1 (K:=K) rfl (by exact hu)) (pq 3) (pB (zbf4 (K:=K) rfl rfl) N.sorted_ zp8 (za0 (pq 3) za1))) (zt2 (peC (zq1 (K:=K) rfl (by exact hu)) (pB (zp3 (K:=K) rfl) N.len_ zi3 (za0 (pq 3) za1)) (peLenS (K:=K) rfl (by exact hu) N.len_ N.set_ (za0 (pq 3) za1)))))))))),?_⟩
 refine zi2 h (.inr (.inr (.inl rfl))) ?_
 rcases h.lstOr with ⟨a,xs,ds,rfl,rfl,e,l⟩|e0
 case inl=>
  have ll:=l.len
  have dl:ds.length<=18:=hs
  refine zc1 (br_T ?_)
  refine zf8 e ?_
  rw[ll]
  refine ze6 (fun z=>?_) (fun z=>?_)
  ·ac_nf
   have q:=q _ (Same.refl _)
   rw[show zt1 hh (.list ds)=false by
    show (ds.all (zp4 hh)&&(incD ds&&decide (0<ds.length)))=false
    rw[decide_eq_false (show ¬ 0<ds.length by rfl'),Bool.and_false,Bool.and_false]] at q
   exact q
  have d0:0<ds.length:=by rfl'
  refine zc6 e ?_
  refine zj4 (xs:=xs) (fun j σ I=>∃ t u:Option V,σ=[some (.ref a),some (.int hh),t,u]/\Same H I/\∀ d∈ds.take j,zp4 hh d=true) ?_ ?_ ?_ ?_
  ·exact⟨_,_,rfl,Same.refl _,fun d hd=>by simp at hd⟩
  ·rintro j σ I _ ⟨_,_,_,sI,_⟩
   exact SqL.of (sI _ _ e)
  ·rintro j x σ I hj ⟨t,u,rfl,sI,ok⟩
   obtain⟨dj,ed,hd0⟩:=l.get j x hj
   have hd:=hd0.same sI
   have hm:=zcf8 ed
   have bad:zp4 hh dj=false->∀ I',Same I I'->Q (.bl false) I':=fun z I' s'=>by
    have q:=q I' (sI.trans s')
    rw[zbn7 hm z] at q
    exact q
   have badF:zj3 dj=false->∀ I',Same I I'->Q (.bl false) I':=fun z=>bad (by unfold zp4;rw[z];rfl)
   have good:zp4 hh dj=true->∀ d∈ds.take (j+1),zp4 hh d=true:=fun z d hd=>by
    rw[List.take_succ,ed] at hd
    rcases zch7.mp hd with hd|hd
    ·exact ok d hd
    ·have:d=dj:=by simpa using hd
     rw[this];exact z
   refine zi2 hd (.inr (.inr (.inr rfl))) ?_
   rcases hd.tupOr with ⟨t',ys,es,rfl,rfl,et,lt⟩|e0
   case inl=>
    have ltl:=lt.len
    refine zc1 (br_T ?_)
    refine zao2 et ?_
    refine zc1 (ze6 (fun h3=>?_) (fun h3=>?_))
    rotate_left
    ·ac_nf
     refine br_T ?_
     ac_nf
     exact badF (zt8 (by rfl')) _ (Same.refl _)
    obtain⟨y1,y2,y3,a1,a2,a3,rfl,rfl,ha1,ha2,ha3⟩:=zac1 lt (by rfl')
    refine zbp9 et ?_
    refine zu9 (Wk.tup et) (by rw[zcp8];simp only[zch0,zch9];decide) (fun i=>[y1,y2,y3].getD i .non) (fun i=>!isW ([a1,a2,a3].getD i .none)) (fun j σ=>∃ t:Option V,σ=[t]) ⟨none,rfl⟩ ?_ ?_
    ·rintro i y σ I1 R S hi s2 hy ⟨_,rfl⟩ kk kf
     have hyd:ShV I1 y ([a1,a2,a3].getD i .none)/\[y1,y2,y3].getD i .non=y:=by
      match i with
      | 0=>cases hy;exact⟨ha1.same s2,rfl⟩
      | 1=>cases hy;exact⟨ha2.same s2,rfl⟩
      | 2=>cases hy;exact⟨ha3.same s2,rfl⟩
      | i+3=>simp at hy
     refine zaz5 hyd.1 ?_
     cases ew:isW ([a1,a2,a3].getD i .none)
     ·ac_nf
      refine br_T ?_
      ac_nf
      have:=kk (by rw[ew];rfl) [some y] I1 (Same.refl _) ⟨_,rfl⟩
      rw[hyd.2] at this
      exact this
     ·ac_nf
      refine br_F ?_
      ac_nf
      exact kf (by rw[ew];rfl) _ _ (Same.refl _) ⟨_,rfl⟩
    intro ac2 I2 f2 s2 h2
    have et2:=s2 _ _ et
    refine zf8 h2 ?_
    have cnt:(decide ((0:Int)<((((List.range [y1,y2,y3].length).filter fun i=>!isW ([a1,a2,a3].getD i .none)).map fun i=>[y1,y2,y3].getD i .non).length:Nat)))=!([isW a1,isW a2,isW a3].all id):=by
     show decide ((0:Int)<((((List.range 3).filter fun i=>!isW ([a1,a2,a3].getD i .none)).map fun i=>[y1,y2,y3].getD i .non).length:Nat))=_
     rw[zcf4]
     show decide ((0:Int)<((([0,1,2]:List Nat).filter fun i=>!isW ([a1,a2,a3].getD i .none)).length:Nat))=_
     have f0:[a1,a2,a3].getD 0 .none=a1:=rfl
     have f1:[a1,a2,a3].getD 1 .none=a2:=rfl
     have f2:[a1,a2,a3].getD 2 .none=a3:=rfl
     rw[zcm5,zcm5,zcm5,List.filter_nil,f0,f1,f2]
     cases isW a1<;>cases isW a2<;>cases isW a3<;>rfl
    ac_nf
    rw[cnt]
    cases ew:[isW a1,isW a2,isW a3].all id
    ·first|refine br_T ?_|refine zc1 (br_F ?_)
     ac_nf
     refine badF ?_ _ s2
     show (zm0 0 a1&&zu4 0 (intD a1) a2&&zm0 1 a3)=false
     cases e1:isW a1
     ·have:zm0 0 a1=false:=by cases a1<;>first|rfl|(cases e1)
      rw[this];rfl
     cases e2:isW a2
     ·have:zu4 0 (intD a1) a2=false:=by cases a2<;>first|rfl|(cases e2)
      rw[this,Bool.and_false];rfl
     cases e3:isW a3
     ·have:zm0 1 a3=false:=by cases a3<;>first|rfl|(cases e3)
      rw[this,Bool.and_false]
     rw[e1,e2,e3] at ew;cases ew
    simp only[List.all_cons,List.all_nil,id,zcp4,zcg4] at ew
    obtain⟨w1,w2,w3⟩:=ew
    obtain⟨i1,rfl⟩:∃ i,a1=.int i:=by cases a1<;>first|exact⟨_,rfl⟩|(cases w1)
    obtain⟨i2,rfl⟩:∃ i,a2=.int i:=by cases a2<;>first|exact⟨_,rfl⟩|(cases w2)
    obtain⟨i3,rfl⟩:∃ i,a3=.int i:=by cases a3<;>first|exact⟨_,rfl⟩|(cases w3)
    cases ha1
    cases ha2
    cases ha3
    have fl:zp4 hh (.tuple [.int i1,.int i2,.int i3])=decide (0<=i2/\i2<=i1/\i1<=hh/\1<=i3):=by
     show (decide (0<=i1)&&decide (0<=i2/\i2<=i1)&&decide (1<=i3)&&decide (i1<=hh))=_
     rw[zck5]
     simp only[zcg4,decide_eq_true_eq]
     omega
    first|refine br_F ?_|refine zc1 (br_T ?_)
    refine zj8 (v:=.int i2) et2 rfl ?_
    refine ze6 (fun g1=>?_) (fun g1=>?_)
    ·ac_nf
     refine br_T ?_
     ac_nf
     refine bad (by rw[fl];exact decide_eq_false (by rfl')) _ s2
    refine zj8 (v:=.int i2) et2 rfl ?_
    refine zj8 (v:=.int i1) et2 rfl ?_
    refine ze6 (fun g2=>?_) (fun g2=>?_)
    ·ac_nf
     refine br_T ?_
     ac_nf
     refine bad (by rw[fl];exact decide_eq_false (by rfl')) _ s2
    refine zj8 (v:=.int i1) et2 rfl ?_
    refine ze6 (fun g4=>?_) (fun g4=>?_)
    ·ac_nf
     refine br_T ?_
     ac_nf
     refine bad (by rw[fl];exact decide_eq_false (by rfl')) _ s2
    refine zj8 (v:=.int i3) et2 rfl ?_
    refine ze6 (fun g3=>?_) (fun g3=>?_)
    ·ac_nf
     refine bad (by rw[fl];exact decide_eq_false (by rfl')) _ s2
    ac_nf
    exact⟨_,_,rfl,sI.trans s2,good (by rw[fl];exact decide_eq_true (by rfl'))⟩
   rw[e0]
   refine zc1 (br_F ?_)
   refine br_T ?_
   ac_nf
   exact badF (zbe8 e0) _ (Same.refl _)
  ·rintro σ I ⟨t,u,rfl,sI,ok⟩
   rw[ll,zco3] at ok
   have eI:=sI _ _ e
   have tup:∀ (i:Nat) x,xs[i]?=some x->∃ (t1:Addr) (j1 w1:Int),x=.ref t1/\H t1=some (.tup [.int (keyD (ds.getD i .none)).1,.int j1,.int w1])/\j1=(keyD (ds.getD i .none)).2:=fun i x ex=>by
    obtain⟨d1,ed1,hd1⟩:=l.get i x ex
    have f1:=ok d1 (zcf8 ed1)
    unfold zp4 at f1
    rw[zcg4] at f1
    obtain⟨t1,i1,j1,w1,rfl,ht1,rfl,_⟩:=zag4 hd1 f1.1
    rw[getD_some ed1]
    exact⟨t1,j1,w1,rfl,ht1,rfl⟩
   refine zc6 eI ?_
   refine zaa8 (n:=xs.length) (Wk.list (SqL.of eI)) (by rw[zcp8];omega) (fun i=>.tup [.int (keyD (ds.getD i .none)).1,.int (keyD (ds.getD i .none)).2]) (fun j σ=>∃ t:Option V,σ=[t]) ⟨none,rfl⟩ ?_ ?_
   ·rintro i x σ I1 R S hi s2 hx ⟨_,rfl⟩ kk
    obtain⟨t1,j1,w1,rfl,ht1,rfl⟩:=tup i x hx
    refine br_T ?_
    refine zbi6 ((sI.trans s2) _ _ ht1) (fun p4 H4 f4 s4 h4=>?_)
    ac_nf
    exact kk _ p4 H4 f4 s4 h4 ⟨_,rfl⟩
   intro sp bs I2 FL
   have bl:=FL.len
   have kl:(ds.map keyD).length=bs.length:=by rw[zcf4,bl,ll]
   have pr:Paired (fun b x=>I2 b=some (.tup [.int x.1,.int x.2])) bs (ds.map keyD):=zu7 kl.symm fun i b x e1 e2=>by
    obtain⟨_,z⟩:=FL.row i b e1
    rw[zcf9] at e2
    obtain⟨d1,ed1,rfl⟩:=zcg5.mp e2
    rw[getD_some ed1] at z
    exact z
   have s02:=sI.trans FL.same
   refine soL_rd FL.out (by rfl') pr (fun so I3 cs ls f3 s3 pm so_ pr3 h3=>?_)
   have ql:=q
   have cl:cs.length=ls.length:=pr3.length
   have lk:ls.length=(ds.map keyD).length:=pm.length_eq
   refine zbk0 (EqR.lst (n:=1) (fun j=>decide (((ds.map keyD).getD j (0,0)).1=(ls.getD j (0,0)).1/\((ds.map keyD).getD j (0,0)).2=(ls.getD j (0,0)).2)) (SqL.of (s3 _ _ FL.out)) (SqL.of h3) (by rw[zcf4,zcf4];omega) (fun j x y hx hy=>?_)) ?_
   ·rw[zcf9] at hx hy
    obtain⟨b,eb,rfl⟩:=zcg5.mp hx
    obtain⟨c,ec,rfl⟩:=zcg5.mp hy
    obtain⟨k1,ek1⟩:∃ k,(ds.map keyD)[j]?=some k:=⟨_,zcf3 (by have:=(zcf6.mp eb).1;omega)⟩
    obtain⟨k2,ek2⟩:∃ k,ls[j]?=some k:=⟨_,zcf3 (by have:=(zcf6.mp ec).1;omega)⟩
    rw[zcg0,zcg0,ek1,ek2]
    exact EqR.ints2 (s3 _ _ (zn3 pr j b k1 eb ek1)) (zn3 pr3 j c k2 ec ek2)
   rw[zcf4,← kl,zbj1 lk.symm]
   have fin:zt1 hh (.list ds)=(decide (ds.map keyD=ls)&&decide ((ds.map keyD).Nodup)):=by
    show (ds.all (zp4 hh)&&(incD ds&&decide (0<ds.length)))=_
    rw[zcg8.mpr ok,decide_eq_true d0,zck0,zcp4,zbg6 pm so_,zck5,decide_eq_true_eq]
    exact inc_pw
   have q:=q I3 (s02.trans s3)
   rw[fin] at q
   cases ec:decide (ds.map keyD=ls)
   ·rw[ec] at q
    refine br_F ?_
    ac_nf
    exact q
   ·rw[ec] at q
    refine br_T ?_
    refine zf8 (s3 _ _ FL.out) ?_
    rw[zcf4,← kl]
    refine zby9 (s3 _ _ FL.out) kl.symm (by rw[zcf4];omega) (fun i p k e1 e2=>s3 _ _ (zn3 pr i p k e1 e2)) ?_
    ac_nf
    have e5:decide (((ds.map keyD).length:Int)=((ddK [] ((ds.map keyD).map zac5)).length:Int))=decide ((ds.map keyD).Nodup):=by
     rw[zck5,decide_eq_true_eq,decide_eq_true_eq]
     exact dd_len
    rw[e5]
    exact q
 rw[e0]
 refine zc1 (br_F ?_)
 refine br_T ?_
 ac_nf
 have q:=q _ (Same.refl _)
 rw[zbe6 e0] at q
 exact q
theorem zn7{d:PyData}(e:zt1 h d=true):∃ ds,d=.list ds/\0<ds.length/\rowD d=true/\∀ z∈rowF d,z.1<=h:=by
 cases d with
 | list ds=>
  have e:(ds.all (zp4 h)&&(incD ds&&decide (0<ds.length)))=true:=e
  rw[zcg4,zcg4,decide_eq_true_eq,zcg8] at e
  obtain⟨e1,e2,e3⟩:=e
  have f1:∀ x∈ds,zj3 x=true/\(triD x).1<=h:=fun x hx=>by
   have:=e1 x hx
   unfold zp4 at this
   rw[zcg4,decide_eq_true_eq] at this
   exact this
  refine⟨ds,rfl,e3,?_,fun z hz=>?_⟩
  ·show (ds.all zj3&&incD ds)=true
   rw[zcg8.mpr fun x hx=>(f1 x hx).1,e2];rfl
  ·obtain⟨x,hx,rfl⟩:=zch2.mp (show z∈ds.map triD from hz)
   exact (f1 x hx).2
 | _=>cases (show false=true from e)
theorem zar5(h0:0<ds.length)(hr:rowD (.list ds)=true)(hb:∀ z∈rowF (.list ds),z.1<=h):zt1 h (.list ds)=true:=by
 have hr:(ds.all zj3&&incD ds)=true:=hr
 rw[zcg4] at hr
 show (ds.all (zp4 h)&&(incD ds&&decide (0<ds.length)))=true
 rw[hr.2,decide_eq_true h0,Bool.and_self,zcp4,zcg8]
 intro x hx
 unfold zp4
 rw[zcg8.mp hr.1 x hx,zck0]
 exact decide_eq_true (hb _ (zch2.mpr ⟨x,hx,rfl⟩))
def gonP(d:PyData):List (Int×Int):=(rowF d).map fun z=>(z.1 - z.2.1,z.2.2)
def comP(d:PyData):List (Int×Int):=(rowF d).map fun z=>(z.1,z.2.2)
theorem zl0{f:Int}(e:zd1 h f (.list ds)=true):0<ds.length/\(ds.length:Int)=f/\(∀ i,i<ds.length->zt1 h (ds.getD i .none)=true)/\zy3 h (ds.getD 0 .none)=true/\zal9 (ds.getD (ds.length - 1) .none)=true/\∀ i,i+1<ds.length->zj6 (ds.getD i .none) (ds.getD (i+1) .none)=true:=by
 unfold zd1 at e
 simp only[zcg4] at e
 obtain⟨eb,el,ea,ef,eg,em⟩:=e
 have el:(ds.length:Int)=f:=of_decide_eq_true el
 have ea:ds.all rowD=true:=ea
 have ea:=zcg8.mp ea
 have em:zo4 ds=true:=em
 unfold zo4 at em
 have em:=zcg8.mp em
 have eb:(decide (0<ds.length)&&rowD (ds.getD 0 .none)&&decide (0<(za8 (ds.getD 0 .none)).length))=true:=eb
 rw[zcg4,zcg4,decide_eq_true_eq,decide_eq_true_eq] at eb
 have ef:zy3 h (ds.getD 0 .none)=true:=ef
 have mem:∀ i,i<ds.length->ds.getD i .none∈ds:=fun i hi=>by rw[zcg0,zcf3 hi];exact zcn9 _
 have key:∀ i,i<ds.length->0<(za8 (ds.getD i .none)).length/\∀ z∈rowF (ds.getD i .none),z.1<=h:=fun i=>by
  induction i with
  | zero=>
   refine fun _=>⟨eb.2,fun z hz=>?_⟩
   have:=of_decide_eq_true (zcg8.mp ef z hz)
   omega
  | succ i ih=>
   intro hi
   obtain⟨i1,i2⟩:=ih (by rfl')
   have mt:=em i (zci3.mpr (by rfl'))
   refine⟨zax0 mt i1,fun z hz=>?_⟩
   unfold zj6 at mt
   have hv:=(zs7 mt).2 z.1
   have hk:z.1∈((rowF (ds.getD (i+1) .none)).map fun z=>(z.1,z.2.2)).map (·.1):=zch2.mpr ⟨(z.1,z.2.2),zch2.mpr ⟨z,hz,rfl⟩,rfl⟩
   rw[zl5,zl5,if_pos hk] at hv
   by_cases c:z.1∈((rowF (ds.getD i .none)).map fun z=>(z.1 - z.2.1,z.2.2)).map (·.1)
   ·obtain⟨y,hy,ey⟩:=zch2.mp c
    obtain⟨w,hw,rfl⟩:=zch2.mp hy
    have h1:=i2 w hw
    have r1:=ea _ (mem i (by rfl'))
    have w2:0<=w.2.1:=by
     obtain⟨x,hx,rfl⟩:=zch2.mp (show w∈(za8 (ds.getD i .none)).map triD from hw)
     have fx:zj3 x=true:=by
      cases ez:ds.getD i .none with
      | list es=>
       rw[ez] at r1 hx
       have r1:(es.all zj3&&incD es)=true:=r1
       rw[zcg4] at r1
       exact zcg8.mp r1.1 x hx
      | _=>rw[ez] at r1;cases (show false=true from r1)
     cases x with
     | tuple l=>
      match l,fx with
      | [a,b,c],fx=>
       have fx:(zm0 0 a&&zu4 0 (intD a) b&&zm0 1 c)=true:=fx
       rw[zcg4,zcg4] at fx
       obtain⟨j,rfl,hj,_⟩:=zan7 fx.1.2
       exact hj
      | [],fx=>cases (show false=true from fx)
      | [_],fx=>cases (show false=true from fx)
      | [_,_],fx=>cases (show false=true from fx)
      | _ :: _ :: _ :: _ :: _,fx=>cases (show false=true from fx)
     | _=>cases (show false=true from fx)
    have ey:w.1 - w.2.1=z.1:=ey
    omega
   ·rw[if_neg c] at hv
    cases hv
 refine⟨eb.1.1,el,fun i hi=>?_,ef,eg,fun i hi=>em i (zci3.mpr (by rfl'))⟩
 obtain⟨k1,k2⟩:=key i hi
 have r1:=ea _ (mem i hi)
 cases ez:ds.getD i .none with
 | list es=>rw[ez] at k1 k2 r1;exact zar5 k1 r1 k2
 | _=>rw[ez] at r1;cases (show false=true from r1)
theorem zba6{f:Int}(h0:0<ds.length)(hl:(ds.length:Int)=f)(hr:∀ i,i<ds.length->zt1 h (ds.getD i .none)=true)(hf:zy3 h (ds.getD 0 .none)=true)(hm:∀ i,i+1<ds.length->zj6 (ds.getD i .none) (ds.getD (i+1) .none)=true):zd1 h f (.list ds)=zal9 (ds.getD (ds.length - 1) .none):=by
 have rd:∀ i,i<ds.length->rowD (ds.getD i .none)=true/\0<(za8 (ds.getD i .none)).length:=fun i hi=>by
  obtain⟨es,e1,e2,e3,_⟩:=zn7 (hr i hi)
  rw[e1] at e3 ⊢
  exact⟨e3,e2⟩
 have a1:zf3 (.list ds)=true:=by
  show (decide (0<ds.length)&&rowD (ds.getD 0 .none)&&decide (0<(za8 (ds.getD 0 .none)).length))=true
  rw[decide_eq_true h0,(rd 0 h0).1,decide_eq_true (rd 0 h0).2];rfl
 have a2:(za8 (.list ds)).all rowD=true:=zcg8.mpr fun x hx=>by
  obtain⟨i,ei⟩:=zci9 (show x∈ds from hx)
  have:=(rd i (zcf6.mp ei).1).1
  rwa [getD_some ei] at this
 have a3:zo4 ds=true:=zcg8.mpr fun i hi=>hm i (by have:=zci3.mp hi;omega)
 unfold zd1
 rw[a1,a2,show decide (((za8 (.list ds)).length:Int)=f)=true from decide_eq_true hl,show zy3 h ((za8 (.list ds)).getD 0 .none)=true from hf,show zo4 (za8 (.list ds))=true from a3,zck0,zck0,zck0,zck0,zcp4]
 rfl
theorem zat5{zs:List (Int×Int)}{ms:List Int}(pm:ms.Perm ((sumG zs).map (·.1)))(h0:zs≠[]):decide (ms=[h])=zs.all fun z=>decide (z.1=h):=by
 obtain⟨nd,mk⟩:=zg2 zs
 rw[zck5,decide_eq_true_eq,zcg8]
 constructor
 ·intro e z hz
  have:z.1∈ms:=pm.mem_iff.mpr ((mk z.1).mpr (zch2.mpr ⟨z,hz,rfl⟩))
  rw[e] at this
  exact decide_eq_true (zci4.mp this)
 ·intro a
  have all:∀ k∈ms,k=h:=fun k hk=>by
   obtain⟨z,hz,rfl⟩:=zch2.mp ((mk k).mp (pm.mem_iff.mp hk))
   exact of_decide_eq_true (a z hz)
  have nd':=pm.nodup_iff.mpr nd
  cases ms with
  | nil=>
   obtain⟨z,hz⟩:=List.exists_mem_of_ne_nil zs h0
   have:=pm.mem_iff.mpr ((mk z.1).mpr (zch2.mpr ⟨z,hz,rfl⟩))
   cases this
  | cons x xs=>
   have ex:=all x (.head _)
   cases xs with
   | nil=>rw[ex]
   | cons y ys=>
    have ey:=all y (.tail _ (.head _))
    have:=(zcl1.mp nd').1
    rw[ex,ey] at this
    exact absurd (.head _) this
@[irreducible] def zd4:Sp:=fun vs H Q _=>∃ (v:V) (d:PyData) (h:Int) (f:Nat),vs=[.int h,.int f,v]/\ShV H v d/\(1<=f/\f<=100)/\(∀ x∈za8 d,(za8 x).length<=18)/\∀ H',Same H H'->Q (.bl (zd1 h f d)) H'
theorem zbm2{v:V}{d:PyData}{f:Nat}(hv:ShV H v d)(h1:1<=f)(h2:f<=100)(hs:∀ x∈za8 d,(za8 x).length<=18)(q:∀ H',Same H H'->Q (.bl (zd1 h f d)) H'):zd4 [.int h,.int f,v] H Q E:=by unfold zd4;exact⟨v,d,h,f,rfl,hv,⟨h1,h2⟩,hs,q⟩
theorem zv6(F:Fun K "_law_is_stream" "_law_is_stream" zk1 f fd)(N:Nm mg)(zcb2:Def P w K mg base CX0 2 "_law_is_row" ["_law_row","_law_hosts"] ze5):FnOk P w K mg base CX0 3 f fd ["_law_hosts","_law_many","_law_stream"] zd4:=by
 refine F.ok zc0 (fun vs H Q E h=>by unfold zd4 at h;obtain⟨_,_,_,_,rfl,_⟩:=h;rfl) fun _ _ _ s H vs Q E hr h=>?_
 unfold zd4 at h
 obtain⟨v,d,hh,f,rfl,h,⟨f1,f2⟩,hs,q⟩:=h
 have hu:=hu40 hr
 refine⟨_,(za4 (psIf (ptW (pwOr (zk0 (ptV (pB (zw7 (K:=K) rfl) N.isinstance_ zb3 (za0 (pq 2) (za0 (pTy N.list_ zo0) za1))))) (zo9 (ptC (zal1 (K:=K) rfl (by exact hu)) (pB (zp3 (K:=K) rfl) N.len_ zi3 (za0 (pq 2) za1)) (pq 1))))) (za6 (zb6 zt4)) zd7)
   (za4 (psS (i:=3) zc0.nd zz3)
   (za4 (zz7 PassesOwn.never rfl (zae4 N.range_ (za0 (pq 1) za1)) (za9 (i:=4) zc0.nd rfl (by eq_refl)) (za4 (psIf (zk0 (ptV (pD zcb2 hr zc5 (za0 (zc3 (K:=K) rfl (pq 2) (pq 4)) (za0 (pq 0) za1))))) (za6 (zb6 zt4)) zd7)
   (za4 (psS (i:=5) zc0.nd zz3)
   (za4 (psS (i:=6) zc0.nd zz3)
   (za4 (zz7 PassesOwn.never rfl (zg6 (K:=K) rfl (zc3 (K:=K) rfl (pq 2) (pq 4))) (zm6 (K:=K) (n:=3) rfl rfl (zb9 (za9 (i:=7) zc0.nd rfl (by eq_refl)) (zb9 (za9 (i:=8) zc0.nd rfl (by eq_refl)) (zb9 (za9 (i:=9) zc0.nd rfl (by eq_refl)) zm2)))) (za4 (zar8 (by exact hu) (pq 5) (pq 7) (zc8 oAdd (zt6 (by exact hu) (pq 5) (pq 7) za2) (pq 9)))
   (za6 (zar8 (by exact hu) (pq 6) (zc8 oSub (pq 7) (pq 8)) (zc8 oAdd (zt6 (by exact hu) (pq 6) (zc8 oSub (pq 7) (pq 8)) za2) (pq 9))))))
   (za4 (psIf (ptW (pwOr (ptW (pwAnd (ptC (zq1 (K:=K) rfl (by exact hu)) (pq 4) za2) (zaq0 (ptC (zal1 (K:=K) rfl (by exact hu)) (pB (zbf4 (K:=K) rfl rfl) N.sorted_ zp8 (za0 (pq 5) za1)) (zp2 (za0 (pq 0) za1)))))) (zo9 (ptW (pwAnd (ptC oGt (pq 4) za2) (zaq0 (ptC (zal1 (K:=K) rfl (by exact hu)) (pq 5) (pq 3)))))))) (za6 (zb6 zt4)) zd7)
   (za6 (psS (i:=3) zc0.nd (pq 6)))))))))
   (za6 (zb6 (peC (zq1 (K:=K) rfl (by exact hu)) (pB (zbf4 (K:=K) rfl rfl) N.sorted_ zp8 (za0 (pq 3) za1)) (zp2 (za0 za2 za1)))))))),?_⟩
 refine zi2 h (.inr (.inr (.inl rfl))) ?_
 rcases h.lstOr with ⟨a,xs,ds,rfl,rfl,e,l⟩|e0
 case inl=>
  have ll:=l.len
  refine zc1 (br_T ?_)
  refine zf8 e ?_
  rw[ll]
  refine zc1 (ze6 (fun z=>?_) (fun z=>?_))
  rotate_left
  ·ac_nf
   have q:=q _ (Same.refl _)
   rw[show zd1 hh f (.list ds)=false by
    cases es:zd1 hh f (.list ds)
    ·rfl
    ·exact absurd (zl0 es).2.1 z] at q
   exact q
  have zf:ds.length=f:=by rfl'
  refine zaw2 (fun c0 H1 g1 s1 h1=>?_)
  refine zr3 (by decide) (by decide) (by rfl') (by rfl') ?_
  rw[show ((f:Int) - 0).toNat=f by rfl']
  refine zr1 (fun k σ I=>∃ (y5 y6 y7 y8 y9 y10:Option V) (co:Addr),σ=[some (.int hh),some (.int f),some (.ref a),some (.ref co),y5,y6,y7,y8,y9,y10]/\Same H I/\(0<k->I co=some (.dK (dF Sum.inl (sumG (gonP (ds.getD (k - 1) .none))))))/\(∀ i,i<k->zt1 hh (ds.getD i .none)=true)/\(0<k->zy3 hh (ds.getD 0 .none)=true)/\∀ i,i+1<k->zj6 (ds.getD i .none) (ds.getD (i+1) .none)=true) ?_ ?_ ?_
  ·exact⟨_,_,_,_,_,_,c0,rfl,s1,fun h=>absurd h (by rfl'),fun i hi=>absurd hi (by rfl'),fun h=>absurd h (by rfl'),fun i hi=>absurd hi (by rfl')⟩
  ·rintro k σ I hk ⟨y5,y6,y7,y8,y9,y10,co,rfl,sI,hco,hrow,hful,hmt⟩
   have hk:k<f:=hk
   rw[Int.zero_add]
   obtain⟨x,ex⟩:∃ x,xs[k]?=some x:=⟨_,zcf3 (by rfl')⟩
   obtain⟨dk,edk,hdk⟩:=l.get k x ex
   have gk:ds.getD k .none=dk:=getD_some edk
   have atk:atI xs (k:Int)=some x:=zg8 ex
   have bad:∀ {I'},Same I I'->zd1 hh f (.list ds)=false->Q (.bl false) I':=fun {I'} s' z=>by
    have q:=q I' (sI.trans s')
    rw[z] at q
    exact q
   refine zc2 (v:=x) (sI _ _ e) atk ?_
   refine zav3 (hdk.same sI) (hs dk (zcf8 edk)) (fun I1 s1'=>?_)
   cases er:zt1 hh dk
   ·ac_nf
    refine zc1 (br_F ?_)
    ac_nf
    refine bad s1' ?_
    cases es:zd1 hh f (.list ds)
    ·rfl
    ·have:=(zl0 es).2.2.1 k (by rfl')
     rw[gk,er] at this
     cases this
   obtain⟨es,rfl,es0,rdk,_⟩:=zn7 er
   obtain⟨b,ts,ds',rfl,e1',eb,tl,hts,_⟩:=zr6 (hdk.same (sI.trans s1')) rdk
   cases e1'
   have eb0:∀ I',Same I1 I'->I' b=some (.lst (ts.map V.ref)):=fun I' s'=>s' _ _ eb
   have fl:(rowF (.list es)).length=es.length:=zd3 es
   have es18:es.length<=18:=hs (.list es) (zcf8 edk)
   refine zc1 (br_T ?_)
   refine zaw2 (fun tk I2 f2 s2 h2=>?_)
   refine zaw2 (fun gn I3 f3 s3 h3=>?_)
   have ntg:tk≠gn:=za5 h2 f3
   have s13:=s2.trans s3
   have sI3:=(sI.trans s1').trans s13
   have ftk:I1 tk=none:=f2
   have fgn:I1 gn=none:=s2.free f3
   refine zc2 (v:=.ref b) (sI3 _ _ e) atk ?_
   refine zc6 (eb0 _ s13) ?_
   refine zj4 (xs:=ts.map V.ref) (fun j σ J=>∃ y8 y9 y10:Option V,σ=[some (.int hh),some (.int f),some (.ref a),some (.ref co),some (.int k),some (.ref tk),some (.ref gn),y8,y9,y10]/\Same I1 J/\J tk=some (.dK (dF Sum.inl (sumG ((comP (.list es)).take j))))/\J gn=some (.dK (dF Sum.inl (sumG ((gonP (.list es)).take j))))) ?_ ?_ ?_ ?_
   ·exact⟨_,_,_,rfl,s13,s3 _ _ h2,h3⟩
   ·rintro j σ J _ ⟨_,_,_,_,sJ,_,_⟩
    exact SqL.of (eb0 _ sJ)
   ·rintro j v σ J hj ⟨y8',y9',y10',rfl,sJ,htk,hgn⟩
    rw[zcf9] at hj
    obtain⟨t,et,rfl⟩:=zcg5.mp hj
    have jl:=(zcf6.mp et).1
    obtain⟨z,ez⟩:∃ z,(rowF (.list es))[j]?=some z:=⟨_,zcf3 (by rfl')⟩
    have ht:=sJ _ _ (hts j t z et ez)
    have ec:(comP (.list es))[j]?=some (z.1,z.2.2):=by unfold comP;rw[zcf9,ez];rfl
    have eg:(gonP (.list es))[j]?=some (z.1 - z.2.1,z.2.2):=by unfold gonP;rw[zcf9,ez];rfl
    refine zh1 ht ?_
    refine zah8 htk ?_
    refine zah3 htk ?_
    have ev:(valV (dF Sum.inl (sumG ((comP (.list es)).take j))) (Sum.inl z.1:Key)).getD (V.int 0)=.int ((valG (sumG ((comP (.list es)).take j)) z.1).getD 0):=by
     rw[zq7 zn8]
     cases valG (sumG ((comP (.list es)).take j)) z.1<;>rfl
    rw[ev]
    refine zbi2 htk (by unfold dF;rw[zcf4,zcp8];have:=zm1 ((comP (.list es)).take j);rw[zcj3] at this;omega) (fun J2 c2 k2=>?_)
    rw[zz2 zn8] at k2
    have hgn2:=c2 _ _ (Ne.symm ntg) hgn
    refine zah8 hgn2 ?_
    refine zah3 hgn2 ?_
    have ev2:(valV (dF Sum.inl (sumG ((gonP (.list es)).take j))) (Sum.inl (z.1 - z.2.1):Key)).getD (V.int 0)=.int ((valG (sumG ((gonP (.list es)).take j)) (z.1 - z.2.1)).getD 0):=by
     rw[zq7 zn8]
     cases valG (sumG ((gonP (.list es)).take j)) (z.1 - z.2.1)<;>rfl
    rw[ev2]
    refine zbi2 hgn2 (by unfold dF;rw[zcf4,zcp8];have:=zm1 ((gonP (.list es)).take j);rw[zcj3] at this;omega) (fun J3 c3 k3=>?_)
    rw[zz2 zn8] at k3
    ac_nf
    exact⟨_,_,_,rfl,(sJ.chg ftk c2).chg fgn c3,by rw[c3 _ _ ntg k2,zt3 ec];rfl,by rw[k3,zt3 eg];rfl⟩
   ·rintro σ J ⟨y8',y9',y10',rfl,sJ,htk,hgn⟩
    have l1:(comP (.list es)).length=es.length:=by unfold comP;rw[zcf4,fl]
    have l2:(gonP (.list es)).length=es.length:=by unfold gonP;rw[zcf4,fl]
    rw[zcf4,tl,zcl2 (by rfl')] at htk hgn
    have sIJ:=s1'.trans sJ
    have zne:comP (.list es)≠[]:=fun z=>by rw[z] at l1;simp at l1;omega
    have sl:(sumG (comP (.list es))).length<64:=by have:=zm1 (comP (.list es));omega
    refine ze6 (fun k0=>?_) (fun k0=>?_)
    ·obtain rfl:k=0:=by rfl'
     refine zaf1 (kv:=sumG (comP (.list es))) htk sl (fun so J1 ms f4 s4 pm po h4=>?_)
     refine zb2 (fun p5 J2 f5 s5 h5=>?_)
     refine zbk0 (EqR.intL (xs:=ms) (ys:=[hh]) (SqL.of (s5 _ _ h4)) (SqL.of h5)) ?_
     rw[zat5 pm zne]
     have ef:((comP (.list es)).all fun z=>decide (z.1=hh))=zy3 hh (.list es):=by unfold comP zy3;rw[zcp3];rfl
     rw[ef]
     have s2':=s4.trans s5
     cases efl:zy3 hh (.list es)
     ·ac_nf
      first|refine br_T ?_|refine zc1 (br_F ?_)
      ac_nf
      first|refine br_T ?_|skip
      first|(ac_nf)|skip
      refine bad (sIJ.trans s2') ?_
      cases es':zd1 hh f (.list ds)
      ·rfl
      ·have:=(zl0 es').2.2.2.1
       rw[gk,efl] at this
       cases this
     ·ac_nf
      first|refine br_F ?_|refine zc1 (br_T ?_)
      ac_nf
      first|refine br_F ?_|skip
      first|(ac_nf)|skip
      refine br_F ?_
      ac_nf
      refine⟨_,_,_,_,_,_,gn,rfl,sI.trans (sIJ.trans s2'),fun _=>?_,fun i hi=>?_,fun _=>?_,fun i hi=>by rfl'⟩
      ·rw[gk];exact s2' _ _ hgn
      ·obtain rfl:i=0:=by rfl'
       rw[gk];exact er
      ·rw[gk];exact efl
    ·have hk0:0<k:=by rfl'
     refine br_F ?_
     refine zaj7 (by rfl') ?_
     refine zbs3 (ka:=sumG (comP (.list es))) (kb:=sumG (gonP (ds.getD (k - 1) .none))) htk (sIJ _ _ (hco hk0)) ?_
     have em:eqDI (sumG (comP (.list es))) (sumG (gonP (ds.getD (k - 1) .none)))=zj6 (ds.getD (k - 1) .none) (ds.getD k .none):=by
      rw[gk]
      exact zba7 _ _
     rw[em]
     cases emt:zj6 (ds.getD (k - 1) .none) (ds.getD k .none)
     ·ac_nf
      first|refine br_T ?_|refine zc1 (br_F ?_)
      ac_nf
      refine bad sIJ ?_
      cases es':zd1 hh f (.list ds)
      ·rfl
      ·have:=(zl0 es').2.2.2.2.2 (k - 1) (by rfl')
       rw[show k - 1+1=k by rfl',emt] at this
       cases this
     ·ac_nf
      first|refine br_F ?_|refine zc1 (br_T ?_)
      ac_nf
      refine⟨_,_,_,_,_,_,gn,rfl,sI.trans sIJ,fun _=>?_,fun i hi=>?_,fun _=>hful hk0,fun i hi=>?_⟩
      ·rw[show k+1 - 1=k by rfl',gk];exact hgn
      ·by_cases z2:i<k
       ·exact hrow i z2
       ·obtain rfl:i=k:=by rfl'
        rw[gk];exact er
      ·by_cases z2:i+1<k
       ·exact hmt i z2
       ·obtain rfl:i=k - 1:=by rfl'
        rw[show k - 1+1=k by rfl'];exact emt
  ·rintro σ I ⟨y5,y6,y7,y8,y9,y10,co,rfl,sI,hco,hrow,hful,hmt⟩
   have hco:=hco (by rfl')
   have fin:=zba6 (h:=hh) (f:=f) (ds:=ds) (by rfl') (by rfl') (fun i hi=>hrow i (by rfl')) (hful (by rfl')) (fun i hi=>hmt i (by rfl'))
   obtain⟨es,e1,es0,_,_⟩:=zn7 (hrow (f - 1) (by rfl'))
   have l2:(gonP (ds.getD (f - 1) .none)).length=es.length:=by unfold gonP;rw[zcf4,e1,zd3]
   obtain⟨x,ex⟩:∃ x,ds[f - 1]?=some x:=⟨_,zcf3 (by rfl')⟩
   have es18:es.length<=18:=by
    have:=hs x (zcf8 ex)
    rw[getD_some ex] at e1
    rw[e1] at this
    exact this
   refine zaf1 (kv:=sumG (gonP (ds.getD (f - 1) .none))) hco (by have:=zm1 (gonP (ds.getD (f - 1) .none));omega) (fun so J1 ms f4 s4 pm po h4=>?_)
   refine zb2 (fun p5 J2 f5 s5 h5=>?_)
   refine zbk0 (EqR.intL (xs:=ms) (ys:=[0]) (SqL.of (s5 _ _ h4)) (SqL.of h5)) ?_
   rw[zat5 pm (fun z=>by rw[z] at l2;simp at l2;omega)]
   have ef:((gonP (ds.getD (f - 1) .none)).all fun z=>decide (z.1=0))=zal9 (ds.getD (ds.length - 1) .none):=by
    rw[zf]
    unfold gonP zal9
    rw[zcp3]
    refine congrArg (fun g=>(rowF (ds.getD (f - 1) .none)).all g) (funext fun z=>?_)
    show decide (z.1 - z.2.1=0)=decide (z.1=z.2.1)
    rw[zck5,decide_eq_true_eq,decide_eq_true_eq]
    omega
   rw[ef,← fin]
   ac_nf
   exact q _ ((sI.trans s4).trans s5)
 rw[e0]
 refine zc1 (br_F ?_)
 refine br_T ?_
 ac_nf
 have q:=q _ (Same.refl _)
 rw[show zd1 _ _ d=false by cases d<;>first|rfl|exact Bool.noConfusion (show true=false from e0)] at q
 exact q
def flatR:V->Bool
 | .int _ | .bl _ | .non=>true
 | .str x=>PyData.strOk x
 | _=>false
theorem Rd.flatR{x:V}(n:Nat)(h:flatR x=true):Rd H x n:=by
 cases x with
 | int i=>exact Rd.int i n
 | bl b=>exact Rd.bl b n
 | non=>exact Rd.non n
 | str x=>exact Rd.str n h
 | _=>cases (show false=true from h)
theorem Rd.tupF{a:Addr}{xs:List V}(e:H a=some (.tup xs))(h:xs.all G.flatR=true)(l:xs.length<60):Rd H (.ref a) 1:=Rd.tup (n:=0) e l fun x hx=>Rd.flatR 0 (zcg8.mp h x hx)
theorem Rd.lstF{a:Addr}{xs:List V}(e:H a=some (.lst xs))(h:xs.all G.flatR=true)(l:xs.length<60):Rd H (.ref a) 1:=Rd.lst (n:=0) e l fun x hx=>Rd.flatR 0 (zcg8.mp h x hx)
def RB(H:Hp)(v:V):Prop:=∃ d,ShV H v d/\okD 2 d/\(za8 d).length<=9
def SB(H:Hp)(v:V):Prop:=∃ d,ShV H v d/\okD 3 d/\∀ x∈za8 d,(za8 x).length<=9
theorem RB.lst{H:Hp}{a:Addr}{xs:List V}(e:H a=some (.lst xs))(l:xs.length<=9)(h:∀ x∈xs,Rd H x 1):RB H (.ref a):=by
 obtain⟨ds,h1,h2⟩:=ShL.ex (P:=fun d=>okD 1 d) fun x hx=>by obtain⟨d,h1,h2,_⟩:=h x hx;exact⟨d,h1,h2⟩
 exact⟨.list ds,.lst e h1,okD.list (by rw[← h1.len];omega) h2,by show ds.length<=9;rw[← h1.len];exact l⟩
theorem RB.tup{H:Hp}{a:Addr}{xs:List V}(e:H a=some (.tup xs))(l:xs.length<=9)(h:∀ x∈xs,Rd H x 1):RB H (.ref a):=by
 obtain⟨ds,h1,h2⟩:=ShL.ex (P:=fun d=>okD 1 d) fun x hx=>by obtain⟨d,h1,h2,_⟩:=h x hx;exact⟨d,h1,h2⟩
 exact⟨.tuple ds,.tup e h1,okD.tuple (by rw[← h1.len];omega) h2,by show (0:Nat)<=9;decide⟩
theorem RB.non(H:Hp):RB H .non:=⟨.none,.non,⟨rfl,rfl,zci0 _⟩,by show (0:Nat)<=9;decide⟩
theorem SB.lst{H:Hp}{a:Addr}{xs:List V}(e:H a=some (.lst xs))(l:xs.length<=1000)(h:∀ x∈xs,RB H x):SB H (.ref a):=by
 obtain⟨ds,h1,h2⟩:=ShL.ex (P:=fun d=>okD 2 d/\(za8 d).length<=9) fun x hx=>by obtain⟨d,h1,h2⟩:=h x hx;exact⟨d,h1,h2⟩
 exact⟨.list ds,.lst e h1,okD.list (by rw[← h1.len];omega) fun d hd=>(h2 d hd).1,fun x hx=>(h2 x hx).2⟩
theorem SB.tup{H:Hp}{a:Addr}{xs:List V}(e:H a=some (.tup xs))(l:xs.length<=1000)(h:∀ x∈xs,RB H x):SB H (.ref a):=by
 obtain⟨ds,h1,h2⟩:=ShL.ex (P:=fun d=>okD 2 d) fun x hx=>by obtain⟨d,h1,h2⟩:=h x hx;exact⟨d,h1,h2.1⟩
 exact⟨.tuple ds,.tup e h1,okD.tuple (by rw[← h1.len];omega) h2,fun x hx=>by cases (show x∈([]:List PyData) from hx)⟩
theorem SB.non(H:Hp):SB H .non:=⟨.none,.non,⟨rfl,rfl,zci0 _⟩,fun x hx=>by cases (show x∈([]:List PyData) from hx)⟩
theorem SB.str(H:Hp){x:Str}(h:PyData.strOk x=true):SB H (.str x):=⟨.str x,.str x,⟨rfl,h,zci0 _⟩,fun x hx=>by cases (show x∈([]:List PyData) from hx)⟩
theorem RwAt.rds{p:Addr}{bs:List Addr}(R:RwAt H p bs xs):∀ x∈bs.map V.ref,Rd H x 1:=fun x hx=>by
 obtain⟨b,hb,rfl⟩:=zch2.mp hx
 obtain⟨i,ei⟩:=zci9 hb
 obtain⟨z,ez⟩:∃ z,xs[i]?=some z:=⟨_,zcf3 (by have:=(zcf6.mp ei).1;have:=R.len;omega)⟩
 exact Rd.tupF (R.row i b z ei ez) rfl (by show 3<60;decide)
theorem zm4{xs:List V}{lo hi:Option Int}{x:V}(h:x∈cutV xs lo hi):x∈xs:=by
 unfold cutV at h
 exact zcm0 (zcm9 h)
theorem zbo5{xs:List V}{lo hi:Option Int}:(cutV xs lo hi).length<=xs.length:=by
 unfold cutV
 rw[zcj3,zck7]
 omega
@[irreducible] def zh4:Sp:=fun vs H Q _=>∃ (v:V) (d:PyData),vs=[v]/\ShV H v d/\sml d=true/\∀ v' H',Same H H'->ShV H' v' d->Q v' H'
theorem zbq4{v:V}{d:PyData}(h:ShV H v d)(hs:sml d=true)(q:∀ v' H',Same H H'->ShV H' v' d->Q v' H'):zh4 [v] H Q E:=by unfold zh4;exact⟨v,d,rfl,h,hs,q⟩
theorem zam2(F:Fun K "_law_copy" "_law_copy" zs1 f fd)(N:Nm mg):FnOk P w K mg base CX0 1 f fd ["_law_stream"] zh4:=by
 refine F.ok zan3 (fun vs H Q E h=>by unfold zh4 at h;obtain⟨_,_,rfl,_⟩:=h;rfl) fun _ _ _ s H vs Q E hr h=>?_
 unfold zh4 at h
 obtain⟨v,d,rfl,hv,hs,q⟩:=h
 refine⟨_,(za4 (psIf (zk0 (ptV (pB (zw7 (K:=K) rfl) N.isinstance_ zb3 (za0 (pq 0) (za0 (pTy N.list_ zo0) za1))))) (za6 (zb6 (pq 0))) zd7)
   (za6 (zb6 (zk4 (N:=["_law_row"]) (ks:=[none]) (zg6 (K:=K) rfl (pq 0)) (fun _ _ _ _ _=>(za9 (i:=0) nb_16 rfl (by eq_refl))) (fun _ _ _ _ _=>zf6) (fun _ _ _ _ _=>(peIf (ptV (pB (zw7 (K:=K) rfl) N.isinstance_ zb3 (za0 (pq 0) (za0 (pTy N.list_ zo0) za1)))) (pT (zbt3 (K:=K) rfl) N.list_ zo0 (za0 (pq 0) za1)) (pq 0))) (.skip .nil))))),?_⟩
 refine zi2 hv (.inr (.inr (.inl rfl))) ?_
 cases hv
 case lst a xs ds e l=>
  have ll:=l.len
  obtain⟨dl,dm⟩:=zo1 hs
  refine zc1 (br_T ?_)
  refine zc6 e ?_
  refine zbt6 (n:=xs.length) (Wk.list (SqL.of e)) (by rw[zcp8];omega) (fun acc j ys σ I=>∃ t:Option V,σ=[t]/\ShL (rm acc I) ys (ds.take j)) ?_ ?_ ?_ ?_
  ·intro acc I f1 s2 h1
   exact⟨none,rfl,.nil⟩
  ·rintro acc j ys σ I I' s' ⟨t,r1,r2⟩
   exact⟨t,r1,r2.same (Same.rm s')⟩
  ·rintro acc j x ys σ I R S hj facc s1 hacc hx ⟨t,rfl,L⟩ kR _
   obtain⟨dj,ed,hd⟩:=l.get j x hx
   have out:Same H (rm acc I):=fun b o z=>zl7 (fun w=>by rw[w,facc] at z;cases z) (s1 _ _ z)
   have fin:∀ (v':V) (I1:Hp) (I2:Hp),Same I I1->Chg acc I1 I2->ShV (rm acc I1) v' dj->ShL (rm acc I2) (ys++[v']) (ds.take (j+1)):=fun v' I1 I2 s2 c2 h2=>by
    rw[List.take_succ,ed]
    exact zbd2 ((L.same (Same.rm s2)).same (Chg.rm c2)) (.cons (h2.same (Chg.rm c2)) .nil)
   refine br_T ?_
   refine zi2 (hd.same s1) (.inr (.inr (.inl rfl))) ?_
   cases hd
   case lst b ws es eb lb=>
    refine br_T ?_
    refine zau3 (SqL.of (s1 _ _ eb)) (fun p I1 f2 s2 h2=>?_)
    ac_nf
    refine kR _ _ _ s2 (fun I2 c2=>⟨_,rfl,fin _ I1 I2 s2 c2 (.lst (zl7 (fun w=>by rw[w,hacc] at f2;cases f2) h2) ((lb.same out).same (Same.rm s2)))⟩)
   case tup b ws es eb lb=>
    refine br_F ?_
    ac_nf
    exact kR _ _ _ (Same.refl _) (fun I2 c2=>⟨_,rfl,fin _ I I2 (Same.refl _) c2 (ShV.same (.tup eb lb) out)⟩)
   all_goals
    refine br_F ?_
    ac_nf
    exact kR _ _ _ (Same.refl _) (fun I2 c2=>⟨_,rfl,fin _ I I2 (Same.refl _) c2 (by constructor)⟩)
  ·rintro acc ys σ I facc s1 hacc ⟨t,rfl,L⟩
   rw[ll,zco3] at L
   ac_nf
   exact q _ _ s1 (.lst hacc (L.same (zac4 _ _)))
 case tup a xs ds e l=>
  refine zc1 (br_F ?_)
  ac_nf
  exact q _ _ (Same.refl _) (.tup e l)
 all_goals
  refine zc1 (br_F ?_)
  ac_nf
  exact q _ _ (Same.refl _) (by constructor)
theorem zb0{c j p}{es:List Expr}{env:Env}:starEach (.Constant c j p :: es) env=(false,eval (.Constant c j p) env) :: starEach es env:=rfl
theorem zh0{c j p}{es:List Expr}{env:Env}:starEach (.Tuple c j p :: es) env=(false,eval (.Tuple c j p) env) :: starEach es env:=rfl
theorem zh9{c p}{es:List Expr}{env:Env}:starEach (.List c p :: es) env=(false,eval (.List c p) env) :: starEach es env:=rfl
theorem zd6{i j pos}:PEI X (.Constant (.int i) j pos) (tC (.int i)):=by unfold PEI;exact za2
theorem zbt0{b j pos}:PEI X (.Constant (.bool b) j pos) (tC (.bl b)):=by unfold PEI;exact zt4
theorem zai0{j pos}:PEI X (.Constant .none j pos) (tC .non):=by unfold PEI;exact zbe2
theorem zp1{es:List Expr}{x1}{t:TA}{pos:Pos}(h:PAI X es t):PEI X (.Tuple es x1 pos) (qTup t):=by unfold PEI PAI at *;exact zy2 h
theorem zbg4{c:Expr}{a b:List Stmt}{tc:TT}{t u:TS}{pos:Pos}(hc:PT X c tc)(ha:PSsI X a t)(hb:PSsI X b u):PS X (.If c a b pos) (qIfS tc t u):=by unfold PSsI at ha hb;exact psIf hc ha hb
theorem zv3{e:Expr}{te:TE}{pos:Pos}(he:PEI X e te):PSI X (.Return (some e) pos) (tRet te):=by unfold PEI at he;unfold PSI;exact zb6 he
theorem zw9{K:zcf5}{a b:Expr}{ta tb:TE}{pos:Pos}(hK:X.K=K)(ha:PEI X a ta)(hb:PEI X b tb)(hs:zai1 b:=by exact fun _ _=>rfl):PEI X (.Subscript a b pos) (tOp (rIxM K) ta tb):=by unfold PEI at *;exact zc3 hK ha hb hs
theorem zj9{op:Operator}{r:R2}{a b:Expr}{ta tb:TE}{pos:Pos}(ho:OpR X (binaryOp op) r)(ha:PEI X a ta)(hb:PEI X b tb):PEI X (.BinOp a op b pos) (tOp r ta tb):=by unfold PEI at *;exact zc8 ho ha hb
structure StW(H:Hp)(p:Addr)(rs:List (Addr×List Addr))(xss:List (List (Int×Int×Int))):Prop where
 out:H p=some (.lst (rs.map fun r=>V.ref r.1))
 len:rs.length=xss.length
 row:∀ (i:Nat) r xs,rs[i]?=some r->xss[i]?=some xs->RwAt H r.1 r.2 xs
theorem StW.same{H H':Hp}{p:Addr}{rs:List (Addr×List Addr)}{xss:List (List (Int×Int×Int))}(R:StW H p rs xss)(s:Same H H'):StW H' p rs xss:=⟨s _ _ R.out,R.len,fun i r xs e1 e2=>(R.row i r xs e1 e2).same s⟩
theorem StAt.toW{p:Addr}(R:StAt H p rs xss):StW H p rs xss:=⟨R.out,R.len,fun i r xs e1 e2=>(R.row i r xs e1 e2).same (zac4 _ _)⟩
theorem StW.rbs{p:Addr}(R:StW H p rs xss)(h:∀ xs∈xss,xs.length<=9):∀ x∈rs.map fun r=>V.ref r.1,RB H x:=fun x hx=>by
 obtain⟨r,hr,rfl⟩:=zch2.mp hx
 obtain⟨i,ei⟩:=zci9 hr
 obtain⟨z,ez⟩:∃ z,xss[i]?=some z:=⟨_,zcf3 (by have:=(zcf6.mp ei).1;have:=R.len;omega)⟩
 have R1:=R.row i r z ei ez
 have:=h z (zcf8 ez)
 have:=R1.len
 exact RB.lst R1.out (by rw[zcf4];omega) R1.rds
theorem seI{st:List Stmt}{t:TS}{D:Ends}{σ:St}(h:PSsI X st t)(c:t D σ H):∃ t:TS,PSs X st t/\t D σ H:=⟨t,pssTo h,c⟩
theorem SB.int(H:Hp)(i:Int):SB H (.int i):=⟨.int i,.int i,⟨rfl,rfl,zci0 _⟩,fun x hx=>by cases (show x∈([]:List PyData) from hx)⟩
theorem ite01{c:Bool}:0<=(if c=true then (1:Int) else 0)/\(if c=true then (1:Int) else 0)<=1:=by cases c<;>decide
theorem rep1{k:Int}(h0:0<=k)(h1:k<=1){xs:List V}:(List.replicate k.toNat xs).flatten.length<=xs.length/\∀ y∈(List.replicate k.toNat xs).flatten,y∈xs:=by
 obtain rfl|rfl:k=0∨k=1:=by rfl'
 ·exact⟨zci0 _,fun y hy=>by cases hy⟩
 ·show ((List.replicate 1 xs).flatten).length<=_/\∀ y∈(List.replicate 1 xs).flatten,_
  simp
theorem zbj2{n:Nat}{x:V}(h:n<=1000):(List.replicate n [x]).flatten.length<=1000:=by
 rw[List.length_flatten,List.map_replicate]
 show (List.replicate n 1).sum<=1000
 rw[List.sum_replicate_nat]
 omega
theorem zbc3{n:Nat}{x y:V}(h:y∈(List.replicate n [x]).flatten):y=x:=by
 obtain⟨l,hl,hy⟩:=List.mem_flatten.mp h
 rw[(List.mem_replicate.mp hl).2] at hy
 exact zci4.mp hy
theorem zbn2{xs:List V}{k:Nat}{e:Int}(h:k<xs.length)(e0:0<=e)(e1:e<=1):(cutV xs none (some ((k:Int)+e))).length<=k+e.toNat/\(cutV xs (some ((k:Int)+1 - e)) none).length<=xs.length - (k+1)+e.toNat:=by
 rw[zv0 (by rfl'),zt7 (by rfl'),zcj3,zck7]
 omega
@[irreducible] def zh5:Sp:=fun vs H Q _=>∃ (a st:Addr) (b:Int) (rs:List (Addr×List Addr)) (xss:List (List (Int×Int×Int))),vs=[.ref a,.ref st]/\zc9 H a b/\b<=90000/\StW (rm a H) st rs xss/\(1<=xss.length/\xss.length<=8)/\(∀ xs∈xss,1<=xs.length/\xs.length<=8)/\∀ v H',Chg a H H'->zc9 H' a (b+6)->SB (rm a H') v->Q v H'
theorem zbo6{a st:Addr}{b:Int}(hL:zc9 H a b)(hb:b<=90000)(R:StW (rm a H) st rs xss)(h1:1<=xss.length/\xss.length<=8)(h2:∀ xs∈xss,1<=xs.length/\xs.length<=8)(q:∀ v H',Chg a H H'->zc9 H' a (b+6)->SB (rm a H') v->Q v H'):zh5 [.ref a,.ref st] H Q E:=by
 unfold zh5;exact⟨a,st,b,rs,xss,rfl,hL,hb,R,h1,h2,q⟩
theorem zak2(F:Fun K "_law_bent" "_law_bent" zr9 f fd)(N:Nm mg)(zca2:Def P w K mg base CX0 2 "_law_draw" ["_law_left_here","_law_base"] ze0):FnOk P w K mg base CX0 3 f fd ["_law_left_here","_law_stream"] zh5:=by
 refine F.ok zc4 (fun vs H Q E h=>by unfold zh5 at h;obtain⟨_,_,_,_,_,rfl,_⟩:=h;rfl) fun _ _ _ s H vs Q E hr h=>?_
 unfold zh5 at h
 obtain⟨a,st,b,rs,xss,rfl,hL,hb,S0,⟨l1,l2⟩,hx,q⟩:=h
 have hu:=hu40 hr
 have sl:=S0.len
 have off:=zac4 a
 have hx2:∀ xs∈xss,xs.length<=9:=fun xs h=>by have:=(hx xs h).2;omega
 refine seI (ze3 (psOf (psS (i:=2) zc4.nd (pD zca2 hr zc5 (za0 (pq 0) (za0 (pB (zp3 (K:=K) rfl) N.len_ zi3 (za0 (pq 1) za1)) za1)))))
   (ze3 (psOf (psS (i:=3) zc4.nd (pD zca2 hr zc5 (za0 (pq 0) (za0 za2 za1)))))
   (ze3 (psOf (zbg4 (ptC (oLtX (by exact hu)) (pq 3) za2) (ze3 (psOf (psS (i:=4) zc4.nd (pD zca2 hr zc5 (za0 (pq 0) (za0 (pB (zp3 (K:=K) rfl) N.len_ zi3 (za0 (zc3 (K:=K) rfl (pq 1) (pq 2)) za1)) za1)))))
   (ze3 (psOf (zbb5 (zc3 (K:=K) rfl (zc3 (K:=K) rfl (pq 1) (pq 2)) (pq 4)) (zm6 (K:=K) (n:=3) rfl rfl (zb9 (za9 (i:=5) zc4.nd rfl (by eq_refl)) (zb9 (za9 (i:=6) zc4.nd rfl (by eq_refl)) (zb9 (za9 (i:=7) zc4.nd rfl (by eq_refl)) zm2))))))
   (ze3 (psIS (i:=8) zc4.nd (zf0 (za3 (zp1 (za3 (zb8 (pq 5)) (za3 (zb8 (pq 6)) (za3 (zj9 oAdd (zb8 (pq 7)) zd6) zb5)))) (za3 (zp1 (za3 (zj9 oSub (zb8 (pq 5)) zd6) (za3 (zb8 (pq 6)) (za3 (zb8 (pq 7)) zb5)))) (za3 (zp1 (za3 (zb8 (pq 5)) (za3 (zj9 oAdd (zb8 (pq 6)) zd6) (za3 (zb8 (pq 7)) zb5)))) (za3 (zp1 (za3 (zb8 (pq 5)) (za3 (zb8 (pq 6)) (za3 zba4 zb5 zb0)))) (za3 zai0 zb5 zb0) zh0) zh0) zh0) zh0)))
   (ze3 (psIS (i:=8) zc4.nd (zj9 oAdd (zb8 (pq 8)) (zf0 (za3 (zf0 (za3 (zb8 (pq 5)) (za3 (zb8 (pq 6)) (za3 (zb8 (pq 7)) zb5)))) (za3 (zp1 (za3 (zb8 (pq 5)) (za3 (zb8 (pq 6)) (za3 zbt0 zb5 zb0)))) (za3 (zp1 (za3 zbt0 (za3 (zb8 (pq 6)) (za3 (zb8 (pq 7)) zb5)) zb0)) (za3 (zp1 (za3 (zb8 (pq 5)) (za3 (zb8 (pq 6)) zb5))) (za3 (zp1 (za3 (zb8 (pq 5)) (za3 (zb8 (pq 6)) (za3 zd6 zb5 zb0)))) zb5 zh0) zh0) zh0) zh0) zh9))))
   (ze3 (psIS (i:=9) zc4.nd (zw9 (K:=K) rfl (zb8 (pq 8)) (zb8 (pD zca2 hr zc5 (za0 (pq 0) (za0 za2 za1))))))
   (ze3 (psIS (i:=10) zc4.nd (zj9 oAdd (zb8 (zd2 (slXK (K:=K) rfl) (zc3 (K:=K) rfl (pq 1) (pq 2)) zf1 (zi1 (zc8 oAdd (pq 4) (pT cInt N.int_ zx9 (za0 (peC (zq1 (K:=K) rfl (by exact hu)) (pq 3) za2) za1)))))) (zj9 oMul (zf0 (za3 (zb8 (pq 9)) zb5)) (zb8 (pT cInt N.int_ zx9 (za0 (peC (oLtX (by exact hu)) (pq 3) za2) za1))))))
   (ze3 (psIS (i:=10) zc4.nd (zj9 oAdd (zb8 (pq 10)) (zb8 (zd2 (slXK (K:=K) rfl) (zc3 (K:=K) rfl (pq 1) (pq 2)) (zi1 (zc8 oSub (zc8 oAdd (pq 4) za2) (pT cInt N.int_ zx9 (za0 (peC (zq1 (K:=K) rfl (by exact hu)) (pq 3) za2) za1)))) zf1))))
   (zr0 (zv3 (zj9 oAdd (zj9 oAdd (zb8 (zd2 (slXK (K:=K) rfl) (pq 1) zf1 (zi1 (pq 2)))) (zf0 (za3 (zw9 (K:=K) rfl (zf0 (za3 (zb8 (pq 10)) (za3 (zb8 (peRv (K:=K) rfl (zc3 (K:=K) rfl (pq 1) (pq 2)))) zb5))) (zb8 (pT cInt N.int_ zx9 (za0 (peC (zq1 (K:=K) rfl (by exact hu)) (pq 3) za2) za1)))) zb5))) (zb8 (zd2 (slXK (K:=K) rfl) (pq 1) (zi1 (zc8 oAdd (pq 2) za2)) zf1)))))))))))) zu6))
   (ze3 (psOf (zbg4 (ptC (oLtX (by exact hu)) (pq 3) za2) (zr0 (zv3 (zw9 (K:=K) rfl (zf0 (za3 (zj9 oAdd (zb8 (zd2 (slXK (K:=K) rfl) (pq 1) zf1 (zi1 (pq 2)))) (zb8 (zd2 (slXK (K:=K) rfl) (pq 1) (zi1 (zc8 oAdd (pq 2) za2)) zf1))) (za3 (zj9 oAdd (zb8 (zd2 (slXK (K:=K) rfl) (pq 1) zf1 (zi1 (zc8 oAdd (pq 2) za2)))) (zb8 (zd2 (slXK (K:=K) rfl) (pq 1) (zi1 (pq 2)) zf1))) (za3 (zb8 (peRv (K:=K) rfl (pq 1))) zb5)))) (zj9 oSub (zb8 (pq 3)) zd6)))) zu6))
   (ze3 (psOf (zbg4 (ptC (oLtX (by exact hu)) (pq 3) za2) (zr0 (zv3 (zj9 oAdd (zj9 oAdd (zb8 (zd2 (slXK (K:=K) rfl) (pq 1) zf1 (zi1 (pq 2)))) (zf0 (za3 (zw9 (K:=K) rfl (zf0 (za3 (zf0 zb5) (za3 zai0 (za3 (zb8 (pT (cTupK (K:=K) rfl) N.tuple_ zy9 (za0 (zc3 (K:=K) rfl (pq 1) (pq 2)) za1))) zb5) zb0) zh9)) (zj9 oSub (zb8 (pq 3)) zd6)) zb5))) (zb8 (zd2 (slXK (K:=K) rfl) (pq 1) (zi1 (zc8 oAdd (pq 2) za2)) zf1))))) zu6))
   (ze3 (psOf (zbg4 (ptC (zq1 (K:=K) rfl (by exact hu)) (pq 3) za2) (zr0 (zv3 (zw9 (K:=K) rfl (zf0 (za3 (zf0 zb5) (za3 zai0 (za3 zba4 (za3 zd6 (za3 (zb8 (pT (cTupK (K:=K) rfl) N.tuple_ zy9 (za0 (pq 1) za1))) (za3 (zf0 (za3 (zf0 zb5) zb5 zh9)) (za3 (zf0 (za3 zai0 zb5 zb0)) (za3 (zf0 (za3 (zf0 (za3 zd6 zb5 zb0)) zb5 zh9)) zb5 zh9) zh9) zh9)) zb0) zb0) zb0) zh9)) (zb8 (pD zca2 hr zc5 (za0 (pq 0) (za0 za2 za1))))))) zu6))
   (ze3 (psOf (zbg4 (ptC (zq1 (K:=K) rfl (by exact hu)) (pq 3) za2) (zr0 (zv3 (zw9 (K:=K) rfl (zf0 (za3 (zf0 (za3 (zf0 (za3 (zp1 (za3 zd6 (za3 zd6 (za3 zd6 zb5 zb0) zb0) zb0)) zb5 zh0)) zb5 zh9)) (za3 (zf0 (za3 (zf0 (za3 (zp1 (za3 zd6 (za3 zd6 (za3 zd6 zb5 zb0) zb0) zb0)) zb5 zh0)) zb5 zh9)) (za3 (zj9 oMul (zf0 (za3 (zf0 (za3 (zp1 (za3 zd6 (za3 zd6 (za3 zd6 zb5 zb0) zb0) zb0)) zb5 zh0)) zb5 zh9)) zd6) (za3 (zj9 oMul (zf0 (za3 (zf0 (za3 (zp1 (za3 zd6 (za3 zd6 (za3 zd6 zb5 zb0) zb0) zb0)) zb5 zh0)) zb5 zh9)) zd6) zb5)) zh9) zh9)) (zb8 (pD zca2 hr zc5 (za0 (pq 0) (za0 za2 za1))))))) zu6))
   (zr0 (zv3 (zb8 (pq 1))))))))))) ?_
 refine zf8 (off _ _ _ S0.out) ?_
 rw[zcf4,sl]
 refine zg7 hL (by rfl') (by rfl') (by rfl') (fun at_ H1 a0 a1 c1 L1=>?_)
 obtain⟨i,rfl⟩:∃ i:Nat,at_=i:=⟨at_.toNat,by rfl'⟩
 refine zg7 L1 (by rfl') (by rfl') (by rfl') (fun ch H3 w0 w1 c2 L3=>?_)
 have c03:=c1.trans c2
 have S3:=S0.same (Chg.rm c03)
 have keep:∀ {J:Hp},Chg a H3 J->StW (rm a J) st rs xss:=fun {J} sJ=>S3.same (Chg.rm sJ)
 have out:∀ {J:Hp},Chg a H3 J->J st=some (.lst (rs.map fun r=>V.ref r.1)):=fun {J} sJ=>(zal0 (keep sJ).out).2
 have rbs:∀ {J:Hp},Chg a H3 J->∀ x∈rs.map fun r=>V.ref r.1,RB (rm a J) x:=fun {J} sJ=>(keep sJ).rbs hx2
 have lm:(rs.map fun r=>V.ref r.1).length=xss.length:=by rw[zcf4,sl]
 have fin:∀ {J:Hp}{p:Addr}{ys:List V}{c:Int},c<=b+6->Chg a H3 J->zc9 J a c->p≠a->J p=some (.lst ys)->ys.length<=1000->(∀ y∈ys,RB (rm a J) y)->Q (.ref p) J:=fun {J p ys c} hc sJ LJ np h hl hy=>q _ J (c03.trans sJ) (LJ.up hc) (SB.lst (zl7 np h) hl hy)
 clear S0 c1 c2 L1
 have clen:∀ {lo hi:Option Int},(cutV (rs.map fun r=>V.ref r.1) lo hi).length<=8:=fun {lo hi}=>by have:=zbo5 (xs:=rs.map fun r=>V.ref r.1) (lo:=lo) (hi:=hi);omega
 obtain⟨r,er⟩:∃ r,rs[i]?=some r:=⟨_,zcf3 (by rfl')⟩
 obtain⟨xs,exs⟩:∃ x,xss[i]?=some x:=⟨_,zcf3 (by rfl')⟩
 obtain⟨y1,y2⟩:=hx xs (zcf8 exs)
 have ati:atI (rs.map fun r=>V.ref r.1) (i:Int)=some (.ref r.1):=zg8 (by rw[zcf9,er];rfl)
 have rowJ:∀ {J:Hp},Chg a H3 J->RwAt (rm a J) r.1 r.2 xs:=fun {J} sJ=>(keep sJ).row i r xs er exs
 have rl:=(rowJ (Chg.refl _ _)).len
 refine ze6 (fun g1=>?_) (fun g1=>?_)
 ·ac_nf
  refine zc2 (v:=.ref r.1) (out (Chg.refl _ _)) ati ?_
  refine zf8 (off _ _ _ (rowJ (Chg.refl _ _)).out) ?_
  rw[zcf4,rl]
  refine zg7 L3 (by rfl') (by rfl') (by rfl') (fun dk H4 k0 k1 c4 L4=>?_)
  obtain⟨k,rfl⟩:∃ k:Nat,dk=k:=⟨dk.toNat,by rfl'⟩
  obtain⟨x,ex⟩:∃ x,xs[k]?=some x:=⟨_,zcf3 (by rfl')⟩
  obtain⟨t,et⟩:∃ t,r.2[k]?=some t:=⟨_,zcf3 (by rfl')⟩
  refine zc2 (v:=.ref r.1) (out c4) ati ?_
  refine zc2 (v:=.ref t) (off _ _ _ (rowJ c4).out) (zg8 (by rw[zcf9,et];rfl)) ?_
  refine zh1 (off _ _ _ ((rowJ c4).row k t x et ex)) ?_
  have tl:∀ {n:Nat},n<=3->n<60:=by rfl'
  refine zd0 (fun z1 J1 b1 u1 q1=>?_)
  have n1:z1≠a:=L4.ne b1
  have L4_1:=L4.same u1
  have r1:Rd (rm a J1) (.ref z1) 1:=Rd.tupF (zl7 n1 q1) rfl (by simp only[zch0,zch9];decide)
  refine zd0 (fun z2 J2 b2 u2 q2=>?_)
  have n2:z2≠a:=L4_1.ne b2
  have L4_2:=L4_1.same u2
  have r2:Rd (rm a J2) (.ref z2) 1:=Rd.tupF (zl7 n2 q2) rfl (by simp only[zch0,zch9];decide)
  refine zd0 (fun z3 J3 b3 u3 q3=>?_)
  have n3:z3≠a:=L4_2.ne b3
  have L4_3:=L4_2.same u3
  have r3:Rd (rm a J3) (.ref z3) 1:=Rd.tupF (zl7 n3 q3) rfl (by simp only[zch0,zch9];decide)
  refine zd0 (fun z4 J4 b4 u4 q4=>?_)
  have n4:z4≠a:=L4_3.ne b4
  have L4_4:=L4_3.same u4
  have r4:Rd (rm a J4) (.ref z4) 1:=Rd.tup (n:=0) (zl7 n4 q4) (by simp only[zch0,zch9];decide) (fun x hx=>by
   simp only[zcg6,zcj2,or_false] at hx
   rcases hx with rfl|rfl|rfl
   ·exact Rd.int _ _
   ·exact Rd.int _ _
   ·exact Rd.str _ (by decide +kernel))
  refine zb2 (fun z5 J5 b5 u5 q5=>?_)
  have L4_5:=L4_4.same u5
  have RL5:∀ w∈([.ref z1,.ref z2,.ref z3,.ref z4,.non]:List V),Rd (rm a J5) w 1:=fun w hw=>by
   simp only[zcg6,zcj2,or_false] at hw
   rcases hw with rfl|rfl|rfl|rfl|rfl
   ·exact r1.same (Same.rm (((u2.trans u3).trans u4).trans u5))
   ·exact r2.same (Same.rm ((u3.trans u4).trans u5))
   ·exact r3.same (Same.rm (u4.trans u5))
   ·exact r4.same (Same.rm u5)
   ·exact Rd.non _
  generalize hA5:([.ref z1,.ref z2,.ref z3,.ref z4,.non]:List V)=A5 at RL5 q5
  have lA5:A5.length=5:=by rw[← hA5];rfl
  clear hA5
  have s5:=(((u1.trans u2).trans u3).trans u4).trans u5
  clear r1 r2 r3 r4 q1 q2 q3 q4 n1 n2 n3 n4 u1 u2 u3 u4 u5 b1 b2 b3 b4 b5 L4_1 L4_2 L4_3 L4_4
  refine zb2 (fun z6 J6 b6 u6 q6=>?_)
  have n6:z6≠a:=L4_5.ne b6
  have L4_6:=L4_5.same u6
  have r6:Rd (rm a J6) (.ref z6) 1:=Rd.lstF (zl7 n6 q6) rfl (by simp only[zch0,zch9];decide)
  refine zd0 (fun z7 J7 b7 u7 q7=>?_)
  have n7:z7≠a:=L4_6.ne b7
  have L4_7:=L4_6.same u7
  have r7:Rd (rm a J7) (.ref z7) 1:=Rd.tupF (zl7 n7 q7) rfl (by simp only[zch0,zch9];decide)
  refine zd0 (fun z8 J8 b8 u8 q8=>?_)
  have n8:z8≠a:=L4_7.ne b8
  have L4_8:=L4_7.same u8
  have r8:Rd (rm a J8) (.ref z8) 1:=Rd.tupF (zl7 n8 q8) rfl (by simp only[zch0,zch9];decide)
  refine zd0 (fun z9 J9 b9 u9 q9=>?_)
  have n9:z9≠a:=L4_8.ne b9
  have L4_9:=L4_8.same u9
  have r9:Rd (rm a J9) (.ref z9) 1:=Rd.tupF (zl7 n9 q9) rfl (by simp only[zch0,zch9];decide)
  refine zd0 (fun z10 J10 b10 u10 q10=>?_)
  have n10:z10≠a:=L4_9.ne b10
  have L4_10:=L4_9.same u10
  have r10:Rd (rm a J10) (.ref z10) 1:=Rd.tupF (zl7 n10 q10) rfl (by simp only[zch0,zch9];decide)
  refine zb2 (fun z11 J11 b11 u11 q11=>?_)
  have L4_11:=L4_10.same u11
  have s611:=((((u6.trans u7).trans u8).trans u9).trans u10).trans u11
  have RL11:∀ w∈([.ref z6,.ref z7,.ref z8,.ref z9,.ref z10]:List V),Rd (rm a J11) w 1:=fun w hw=>by
   simp only[zcg6,zcj2,or_false] at hw
   rcases hw with rfl|rfl|rfl|rfl|rfl
   ·exact r6.same (Same.rm ((((u7.trans u8).trans u9).trans u10).trans u11))
   ·exact r7.same (Same.rm (((u8.trans u9).trans u10).trans u11))
   ·exact r8.same (Same.rm ((u9.trans u10).trans u11))
   ·exact r9.same (Same.rm (u10.trans u11))
   ·exact r10.same (Same.rm u11)
  generalize hA11:([.ref z6,.ref z7,.ref z8,.ref z9,.ref z10]:List V)=A11 at RL11 q11
  have lA11:A11.length=5:=by rw[← hA11];rfl
  clear hA11
  refine zp0 (s611 _ _ q5) q11 (by rw[lA5,lA11,zcp8];omega) (fun z12 J12 b12 u12 q12=>?_)
  have RP:∀ w∈A5++A11,Rd (rm a J12) w 1:=fun w hw=>by
   rcases zch7.mp hw with hw|hw
   ·exact (RL5 w hw).same (Same.rm (s611.trans u12))
   ·exact (RL11 w hw).same (Same.rm u12)
  have lP:(A5++A11).length=10:=by rw[zcg2,lA5,lA11]
  generalize A5++A11=AP at RP lP q12
  have L12:=L4_11.same u12
  have n12:z12≠a:=L4_11.ne b12
  have c12:Chg a H3 J12:=c4.same ((s5.trans s611).trans u12)
  clear r6 r7 r8 r9 r10 q6 q7 q8 q9 q10 q11 n6 n7 n8 n9 n10 b6 b7 b8 b9 b10 b11 b12 L4_5 L4_6 L4_7 L4_8 L4_9 L4_10 L4_11 u6 u7 u8 u9 u10 u11 u12 s611 s5 RL5 RL11 q5
  refine zg7 L12 (by rfl') (by rfl') (by rfl') (fun dp J13 p0 p1 c13 L13=>?_)
  have c313:=c12.trans c13
  refine zm5 (c13 _ _ n12 q12) (by rfl') (by rw[lP];omega) (fun v hv=>?_)
  have rv:=(RP v hv).same (Chg.rm c13)
  obtain⟨e6,ee6⟩:∃ e:Int,(if decide (ch=6)=true then (1:Int) else 0)=e:=⟨_,rfl⟩
  have e60:=ite01 (c:=decide (ch=6))
  rw[ee6] at e60
  obtain⟨e5,ee5⟩:∃ e:Int,(if decide (ch<5)=true then (1:Int) else 0)=e:=⟨_,rfl⟩
  have e50:=ite01 (c:=decide (ch<5))
  rw[ee5] at e50
  obtain⟨e4,ee4⟩:∃ e:Int,(if decide (ch=4)=true then (1:Int) else 0)=e:=⟨_,rfl⟩
  have e40:=ite01 (c:=decide (ch=4))
  rw[ee4] at e40
  have n65:¬ (e6=1/\e5=1):=by
   rintro⟨z6,z5⟩
   rw[← ee6] at z6
   rw[← ee5] at z5
   by_cases h6:ch=6
   ·rw[if_neg (by simp;omega)] at z5;omega
   ·rw[if_neg (by simp;omega)] at z6;omega
  refine zc2 (v:=.ref r.1) (out c313) ati ?_
  ac_nf
  rw[ee6]
  refine zk3 (SqL.of (off _ _ _ (rowJ c313).out)) (fun y1_ I1 g1 t1 k1_=>?_)
  refine zb2 (fun y2_ I2 g2 t2 k2_=>?_)
  ac_nf
  rw[ee5]
  refine zbi0 k2_ (by rfl') (by rfl') (by rw[zcp8];simp only[zch0,zch9];omega) (fun y3_ I3 g3 t3 k3_=>?_)
  obtain⟨ra,rb⟩:=rep1 e50.1 e50.2 (xs:=[v])
  have ra:(List.replicate e5.toNat [v]).flatten.length<=e5.toNat:=by
   obtain rfl|rfl:e5=0∨e5=1:=by rfl'
   ·exact zcg9 _
   ·exact zcg9 _
  generalize (List.replicate e5.toNat [v]).flatten=RV at ra rb k3_
  obtain⟨ca,cb⟩:=zbn2 (xs:=r.2.map V.ref) (k:=k) (e:=e6) (by rw[zcf4];omega) e60.1 e60.2
  rw[zcf4,rl] at cb
  refine zp0 (t3 _ _ (t2 _ _ k1_)) k3_ (by rw[zcp8];omega) (fun y4_ I4 g4 t4 k4_=>?_)
  have t14:=((t1.trans t2).trans t3).trans t4
  have c14:Chg a H3 I4:=c313.same t14
  refine zc2 (v:=.ref r.1) (out c14) ati ?_
  ac_nf
  rw[ee6]
  refine zk3 (SqL.of (off _ _ _ (rowJ c14).out)) (fun y5_ I5 g5 t5 k5_=>?_)
  refine zp0 (t5 _ _ k4_) k5_ (by rw[zcp8,zcg2];omega) (fun y6_ I6 g6 t6 k6_=>?_)
  have t16:=(t14.trans t5).trans t6
  have c16:Chg a H3 I6:=c313.same t16
  have L16:=L13.same t16
  have n6_:y6_≠a:=(L13.same (t14.trans t5)).ne g6
  refine zk3 (SqL.of (out c16)) (fun y7_ I7 g7 t7 k7_=>?_)
  have c17:=c16.same t7
  refine zc2 (v:=.ref r.1) (out c17) ati ?_
  refine rv_rd (SqL.of (off _ _ _ (rowJ c17).out)) (fun y8_ I8 g8 t8 k8_=>?_)
  have n8_:y8_≠a:=(L16.same t7).ne g8
  refine zb2 (fun y9_ I9 g9 t9 k9_=>?_)
  ac_nf
  rw[ee4]
  refine zm5 k9_ (by rfl') (by simp only[zch0,zch9];omega) (fun vr hvr=>?_)
  refine zb2 (fun ya_ Ia ga ta ka_=>?_)
  refine zp0 ((t8.trans (t9.trans ta)) _ _ k7_) ka_ (by rw[zcp8,zcj0];have:=clen (lo:=none) (hi:=some (i:Int));omega) (fun yb_ Ib gb tb kb_=>?_)
  have t6b:=(t7.trans (t8.trans (t9.trans ta))).trans tb
  have c1b:=c16.same t6b
  refine zk3 (SqL.of (out c1b)) (fun yc_ Ic gc tc kc_=>?_)
  refine zp0 (tc _ _ kb_) kc_ (by rw[zcp8,zcg2,zcj0];have:=clen (lo:=none) (hi:=some (i:Int));have:=clen (lo:=some ((i:Int)+1)) (hi:=none);omega) (fun yd_ Id gd td kd_=>?_)
  have t6d:=(t6b.trans tc).trans td
  have c1d:=c16.same t6d
  have L1d:=L16.same t6d
  ac_nf
  refine fin (c:=b+1+1+1+1) (by rfl') c1d (L1d.up (by rfl')) ((L16.same (t6b.trans tc)).ne gd) kd_ (by rw[zcg2,zcg2,zcj0];have:=clen (lo:=none) (hi:=some (i:Int));have:=clen (lo:=some ((i:Int)+1)) (hi:=none);omega) (fun y hy=>?_)
  rcases zch7.mp hy with hy|hy
  ·rcases zch7.mp hy with hy|hy
   ·exact rbs c1d y (zm4 hy)
   ·rw[zci4.mp hy]
    have rds:∀ w∈r.2.map V.ref,Rd (rm a Id) w 1:=(rowJ c1d).rds
    simp only[zcg6,zcj2,or_false] at hvr
    rcases hvr with rfl|rfl
    ·refine RB.lst (zl7 n6_ (t6d _ _ k6_)) (by rw[zcg2,zcg2];omega) (fun w hw=>?_)
     rcases zch7.mp hw with hw|hw
     ·rcases zch7.mp hw with hw|hw
      ·exact rds w (zm4 hw)
      ·rw[zci4.mp (rb w hw)]
       exact rv.same (Same.rm (t16.trans t6d))
     ·exact rds w (zm4 hw)
    ·exact RB.lst (zl7 n8_ ((((t9.trans ta).trans tb).trans tc).trans td _ _ k8_)) (by rw[List.length_reverse,zcf4];omega) (fun w hw=>rds w (List.mem_reverse.mp hw))
  ·exact rbs c1d y (zm4 hy)
 refine ze6 (fun g2=>?_) (fun g2=>?_)
 ·ac_nf
  refine zk3 (SqL.of (out (Chg.refl _ _))) (fun p1 I1 f1 t1 h1=>?_)
  refine zk3 (SqL.of (out t1.toChg)) (fun p2 I2 f2 t2 h2=>?_)
  have x1:=clen (lo:=none) (hi:=some (i:Int))
  have x2:=clen (lo:=some ((i:Int)+1)) (hi:=none)
  have x3:=clen (lo:=none) (hi:=some ((i:Int)+1))
  have x4:=clen (lo:=some (i:Int)) (hi:=none)
  refine zp0 (t2 _ _ h1) h2 (by rw[zcp8];omega) (fun p3 I3 f3 t3 h3=>?_)
  have v3:=(t1.trans t2).trans t3
  have n3:p3≠a:=(L3.same (t1.trans t2)).ne f3
  refine zk3 (SqL.of (out v3.toChg)) (fun p4 I4 f4 t4 h4=>?_)
  refine zk3 (SqL.of (out (v3.trans t4).toChg)) (fun p5 I5 f5 t5 h5=>?_)
  refine zp0 (t5 _ _ h4) h5 (by rw[zcp8];omega) (fun p6 I6 f6 t6 h6=>?_)
  have v6:=((v3.trans t4).trans t5).trans t6
  have n6:p6≠a:=(L3.same ((v3.trans t4).trans t5)).ne f6
  refine rv_rd (SqL.of (out v6.toChg)) (fun p7 I7 f7 t7 h7=>?_)
  have n7:p7≠a:=(L3.same v6).ne f7
  refine zb2 (fun p8 I8 f8 t8 h8=>?_)
  have v8:=(v6.trans t7).trans t8
  refine zm5 h8 (by rfl') (by simp only[zch0,zch9];omega) (fun v hv=>?_)
  ac_nf
  simp only[zcg6,zcj2,or_false] at hv
  rcases hv with rfl|rfl|rfl
  ·refine fin (c:=b+1+1) (by rfl') v8.toChg (L3.same v8) n3 ((((t4.trans t5).trans t6).trans t7).trans t8 _ _ h3) (by rw[zcg2];omega) (fun y hy=>?_)
   rcases zch7.mp hy with hy|hy<;>exact rbs v8.toChg y (zm4 hy)
  ·refine fin (c:=b+1+1) (by rfl') v8.toChg (L3.same v8) n6 ((t7.trans t8) _ _ h6) (by rw[zcg2];omega) (fun y hy=>?_)
   rcases zch7.mp hy with hy|hy<;>exact rbs v8.toChg y (zm4 hy)
  ·exact fin (c:=b+1+1) (by rfl') v8.toChg (L3.same v8) n7 (t8 _ _ h7) (by rw[List.length_reverse];omega) (fun y hy=>rbs v8.toChg y (List.mem_reverse.mp hy))
 refine ze6 (fun g3=>?_) (fun g3=>?_)
 ·ac_nf
  refine zk3 (SqL.of (out (Chg.refl _ _))) (fun p1 I1 f1 t1 h1=>?_)
  have x1:=clen (lo:=none) (hi:=some (i:Int))
  have x2:=clen (lo:=some ((i:Int)+1)) (hi:=none)
  refine zb2 (fun p2 I2 f2 t2 h2=>?_)
  have n2:p2≠a:=(L3.same t1).ne f2
  have v2:=t1.trans t2
  refine zc2 (v:=.ref r.1) (out v2.toChg) ati ?_
  refine zbe9 (SqL.of (off _ _ _ (rowJ v2.toChg).out)) (fun p3 I3 f3 t3 h3=>?_)
  have n3:p3≠a:=(L3.same v2).ne f3
  refine zb2 (fun p4 I4 f4 t4 h4=>?_)
  refine zm5 h4 (by rfl') (by simp only[zch0,zch9];omega) (fun v hv=>?_)
  refine zb2 (fun p5 I5 f5 t5 h5=>?_)
  refine zp0 ((t2.trans (t3.trans (t4.trans t5))) _ _ h1) h5 (by rw[zcp8,zcj0];omega) (fun p6 I6 f6 t6 h6=>?_)
  have v6:=(v2.trans (t3.trans (t4.trans t5))).trans t6
  refine zk3 (SqL.of (out v6.toChg)) (fun p7 I7 f7 t7 h7=>?_)
  refine zp0 (t7 _ _ h6) h7 (by rw[zcp8,zcg2,zcj0];omega) (fun p8 I8 f8 t8 h8=>?_)
  have v8:=(v6.trans t7).trans t8
  have t38:=(((t4.trans t5).trans t6).trans t7).trans t8
  ac_nf
  refine fin (c:=b+1+1) (by rfl') v8.toChg (L3.same v8) ((L3.same (v6.trans t7)).ne f8) h8 (by rw[zcg2,zcg2,zcj0];omega) (fun y hy=>?_)
  rcases zch7.mp hy with hy|hy
  ·rcases zch7.mp hy with hy|hy
   ·exact rbs v8.toChg y (zm4 hy)
   ·rw[zci4.mp hy]
    simp only[zcg6,zcj2,or_false] at hv
    rcases hv with rfl|rfl|rfl
    ·exact RB.lst (zl7 n2 ((t3.trans t38) _ _ h2)) (by show 0<=9;decide) (fun y hy=>by cases hy)
    ·exact RB.non _
    ·exact RB.tup (zl7 n3 (t38 _ _ h3)) (by rw[zcf4];omega) (rowJ v8.toChg).rds
  ·exact rbs v8.toChg y (zm4 hy)
 refine ze6 (fun g4=>?_) (fun g4=>?_)
 ·ac_nf
  refine zb2 (fun p1 I1 f1 t1 h1=>?_)
  refine zbe9 (SqL.of (out t1.toChg)) (fun p2 I2 f2 t2 h2=>?_)
  refine zb2 (fun p3 I3 f3 t3 h3=>?_)
  refine zb2 (fun p4 I4 f4 t4 h4=>?_)
  refine zb2 (fun p5 I5 f5 t5 h5=>?_)
  refine zb2 (fun p6 I6 f6 t6 h6=>?_)
  refine zb2 (fun p7 I7 f7 t7 h7=>?_)
  refine zb2 (fun p8 I8 f8 t8 h8=>?_)
  have m1:p1≠a:=L3.ne f1
  have M1:=L3.same t1
  have m2:p2≠a:=M1.ne f2
  have M2:=M1.same t2
  have m3:p3≠a:=M2.ne f3
  have M3:=M2.same t3
  have m4:p4≠a:=M3.ne f4
  have M4:=M3.same t4
  have m5:p5≠a:=M4.ne f5
  have M5:=M4.same t5
  have m6:p6≠a:=M5.ne f6
  have M6:=M5.same t6
  have m7:p7≠a:=M6.ne f7
  have M7:=M6.same t7
  have m8:p8≠a:=M7.ne f8
  have M8:=M7.same t8
  refine zg7 M8 (by rfl') (by rfl') (by rfl') (fun dd I9 d0 d1 c9 L9=>?_)
  refine zm5 (c9 _ _ m8 h8) (by rfl') (by simp only[zch0,zch9];omega) (fun v hv=>?_)
  have u78:=t8
  have u68:=t7.trans u78
  have u58:=t6.trans u68
  have u48:=t5.trans u58
  have u38:=t4.trans u48
  have u28:=t3.trans u38
  have u18:=t2.trans u28
  have u8:Chg a H3 I9:=(t1.trans u18).toChg.trans c9
  ac_nf
  refine q v I9 (c03.trans u8) (L9.up (by rfl')) ?_
  have at9:∀ {p:Addr}{o:HO},p≠a->I8 p=some o->rm a I9 p=some o:=fun n e=>zl7 n (c9 _ _ n e)
  have nil_:∀ y∈([]:List V),Rd (rm a I9) y 1:=fun y hy=>by cases hy
  simp only[zcg6,zcj2,or_false] at hv
  rcases hv with rfl|rfl|rfl|rfl|rfl|rfl|rfl|rfl
  ·exact SB.lst (at9 m1 (u18 _ _ h1)) (by show 0<=1000;decide) (fun y hy=>by cases hy)
  ·exact SB.non _
  ·exact SB.str _ (by decide +kernel)
  ·exact SB.int _ _
  ·exact SB.tup (at9 m2 (u28 _ _ h2)) (by rfl') (rbs u8)
  ·exact SB.lst (at9 m4 (u48 _ _ h4)) (by show 1<=1000;decide) (fun y hy=>by
    rw[zci4.mp hy]
    exact RB.lst (at9 m3 (u38 _ _ h3)) (by show 0<=9;decide) nil_)
  ·exact SB.lst (at9 m5 (u58 _ _ h5)) (by show 1<=1000;decide) (fun y hy=>by
    rw[zci4.mp hy]
    exact RB.non _)
  ·exact SB.lst (at9 m7 (u78 _ _ h7)) (by show 1<=1000;decide) (fun y hy=>by
    rw[zci4.mp hy]
    exact RB.lst (at9 m6 (u68 _ _ h6)) (by show 1<=9;decide) (fun z hz=>by rw[zci4.mp hz];exact Rd.int _ _))
 refine ze6 (fun g5=>?_) (fun g5=>?_)
 ·ac_nf
  refine zd0 (fun pA0 IA0 fA0 tA0 hA0=>?_)
  have mA0:pA0≠a:=L3.ne fA0
  have MA0:=L3.same tA0
  refine zb2 (fun pA1 IA1 fA1 tA1 hA1=>?_)
  have mA1:pA1≠a:=MA0.ne fA1
  have MA1:=MA0.same tA1
  refine zb2 (fun pA2 IA2 fA2 tA2 hA2=>?_)
  have mA2:pA2≠a:=MA1.ne fA2
  have MA2:=MA1.same tA2
  refine zd0 (fun pB0 IB0 fB0 tB0 hB0=>?_)
  have mB0:pB0≠a:=MA2.ne fB0
  have MB0:=MA2.same tB0
  refine zb2 (fun pB1 IB1 fB1 tB1 hB1=>?_)
  have mB1:pB1≠a:=MB0.ne fB1
  have MB1:=MB0.same tB1
  refine zb2 (fun pB2 IB2 fB2 tB2 hB2=>?_)
  have mB2:pB2≠a:=MB1.ne fB2
  have MB2:=MB1.same tB2
  refine zd0 (fun pC0 IC0 fC0 tC0 hC0=>?_)
  have mC0:pC0≠a:=MB2.ne fC0
  have MC0:=MB2.same tC0
  refine zb2 (fun pC1 IC1 fC1 tC1 hC1=>?_)
  have mC1:pC1≠a:=MC0.ne fC1
  have MC1:=MC0.same tC1
  refine zb2 (fun pC2 IC2 fC2 tC2 hC2=>?_)
  have mC2:pC2≠a:=MC1.ne fC2
  have MC2:=MC1.same tC2
  refine zbi0 hC2 (by decide) (by decide) (by simp only[zch0,zch9];decide) (fun pC3 IC3 fC3 tC3 hC3=>?_)
  have mC3:pC3≠a:=MC2.ne fC3
  have MC3:=MC2.same tC3
  refine zd0 (fun pD0 ID0 fD0 tD0 hD0=>?_)
  have mD0:pD0≠a:=MC3.ne fD0
  have MD0:=MC3.same tD0
  refine zb2 (fun pD1 ID1 fD1 tD1 hD1=>?_)
  have mD1:pD1≠a:=MD0.ne fD1
  have MD1:=MD0.same tD1
  refine zb2 (fun pD2 ID2 fD2 tD2 hD2=>?_)
  have mD2:pD2≠a:=MD1.ne fD2
  have MD2:=MD1.same tD2
  refine zbi0 hD2 (by decide) (by decide) (by simp only[zch0,zch9];decide) (fun pD3 ID3 fD3 tD3 hD3=>?_)
  have mD3:pD3≠a:=MD2.ne fD3
  have MD3:=MD2.same tD3
  refine zb2 (fun p8 I8 f8 t8 h8=>?_)
  have m8:p8≠a:=MD3.ne f8
  have M8:=MD3.same t8
  refine zg7 M8 (by rfl') (by rfl') (by rfl') (fun dd I9 d0 d1 c9 L9=>?_)
  refine zm5 (c9 _ _ m8 h8) (by rfl') (by simp only[zch0,zch9];omega) (fun v hv=>?_)
  have uD3:=t8
  have wD3:=tD3.trans uD3
  have uD2:=wD3
  have wD2:=tD2.trans uD2
  have uD1:=wD2
  have wD1:=tD1.trans uD1
  have uD0:=wD1
  have wD0:=tD0.trans uD0
  have uC3:=wD0
  have wC3:=tC3.trans uC3
  have uC2:=wC3
  have wC2:=tC2.trans uC2
  have uC1:=wC2
  have wC1:=tC1.trans uC1
  have uC0:=wC1
  have wC0:=tC0.trans uC0
  have uB2:=wC0
  have wB2:=tB2.trans uB2
  have uB1:=wB2
  have wB1:=tB1.trans uB1
  have uB0:=wB1
  have wB0:=tB0.trans uB0
  have uA2:=wB0
  have wA2:=tA2.trans uA2
  have uA1:=wA2
  have wA1:=tA1.trans uA1
  have uA0:=wA1
  have wA0:=tA0.trans uA0
  have u8:Chg a H3 I9:=wA0.toChg.trans c9
  ac_nf
  refine q v I9 (c03.trans u8) (L9.up (by rfl')) ?_
  have at9:∀ {p:Addr}{o:HO},p≠a->I8 p=some o->rm a I9 p=some o:=fun n e=>zl7 n (c9 _ _ n e)
  have rowOf:∀ {z r:Addr}{x y w:Int},rm a I9 z=some (.tup [.int x,.int y,.int w])->rm a I9 r=some (.lst [.ref z])->RB (rm a I9) (.ref r):=fun {z r x y w} e1 e2=>RB.lst e2 (by show 1<=9;decide) (fun y hy=>by
   rw[zci4.mp hy]
   exact Rd.tupF e1 rfl (by simp only[zch0,zch9];decide))
  have rA:=rowOf (at9 mA0 (uA0 _ _ hA0)) (at9 mA1 (uA1 _ _ hA1))
  have rB:=rowOf (at9 mB0 (uB0 _ _ hB0)) (at9 mB1 (uB1 _ _ hB1))
  have rC:=rowOf (at9 mC0 (uC0 _ _ hC0)) (at9 mC1 (uC1 _ _ hC1))
  have rD:=rowOf (at9 mD0 (uD0 _ _ hD0)) (at9 mD1 (uD1 _ _ hD1))
  simp only[zcg6,zcj2,or_false] at hv
  rcases hv with rfl|rfl|rfl|rfl
  ·exact SB.lst (at9 mA2 (uA2 _ _ hA2)) (by show 1<=1000;decide) (fun y hy=>by rw[zci4.mp hy];exact rA)
  ·exact SB.lst (at9 mB2 (uB2 _ _ hB2)) (by show 1<=1000;decide) (fun y hy=>by rw[zci4.mp hy];exact rB)
  ·exact SB.lst (at9 mC3 (uC3 _ _ hC3)) (zbj2 (by decide)) (fun y hy=>by rw[zbc3 hy];exact rC)
  ·exact SB.lst (at9 mD3 (uD3 _ _ hD3)) (zbj2 (by decide)) (fun y hy=>by rw[zbc3 hy];exact rD)
 ·ac_nf
  exact q _ _ c03 (L3.up (by rfl')) (SB.lst (keep (Chg.refl _ _)).out (by rfl') (rbs (Chg.refl _ _)))
def shr(h:Nat)(xs:List (Int×Int×Int)):List Int:=(List.range (h+1)).map fun (c:Nat)=>(valG (sumG (xs.map fun z=>(z.2.1,z.2.2))) (c:Int)).getD 0
@[irreducible] def zg5:Sp:=fun vs H Q _=>∃ (h:Nat) (v:V) (d:PyData),vs=[.int h,v]/\ShV H v d/\rowD d=true/\(za8 d).length<=1000/\h<=40/\∀ r H',H r=none->Same H H'->H' r=some (.lst ((shr h (rowF d)).map V.int))->Q (.ref r) H'
theorem zag3{h:Nat}{v:V}{d:PyData}(hv:ShV H v d)(rd:rowD d=true)(ld:(za8 d).length<=1000)(hh:h<=40)(q:∀ r H',H r=none->Same H H'->H' r=some (.lst ((shr h (rowF d)).map V.int))->Q (.ref r) H'):zg5 [.int h,v] H Q E:=by unfold zg5;exact⟨h,v,d,rfl,hv,rd,ld,hh,q⟩
theorem zah5(F:Fun K "row_shares" "row_shares" zp6 f fd)(N:Nm mg)(zcc1:Def P w K mg base CX0 1 "summed" ["pairs"] zl8):FnOk P w K mg base CX0 2 f fd ["hosts","row"] zg5:=by
 refine F.ok zu5 (fun vs H Q E h=>by unfold zg5 at h;obtain⟨_,_,_,rfl,_⟩:=h;rfl) fun _ _ _ s H vs Q E hr h=>?_
 unfold zg5 at h
 obtain⟨h,v,d,rfl,hv,rd,ld,hh,q⟩:=h
 have hu:=hu40 hr
 obtain⟨a,ts,ds,rfl,rfl,ha,hl,hp,_⟩:=zr6 hv rd
 have ld:ds.length<=1000:=ld
 refine⟨_,(za4 (psS (i:=2) zu5.nd (pD zcc1 hr zc5 (za0 (zk4 (N:=["left","sent","flow"]) (ks:=[none,none,none]) (zg6 (K:=K) rfl (pq 1)) (fun _ _ _ _ _=>(zm6 (K:=K) (n:=3) rfl rfl (zb9 (za9 (i:=0) nb_8 rfl (by eq_refl)) (zb9 (za9 (i:=1) nb_8 rfl (by eq_refl)) (zb9 (za9 (i:=2) nb_8 rfl (by eq_refl)) zm2))))) (fun _ _ _ _ _=>zf6) (fun _ _ _ _ _=>(zy2 (za0 (pq 1) (za0 (pq 2) za1)))) (.skip (.skip (.skip .nil)))) za1)))
   (za6 (zb6 (zk4 (N:=["count","flows"]) (ks:=[none,some 2]) (zae4 N.range_ (za0 (zc8 oAdd (pq 0) za2) za1)) (fun _ _ _ _ _=>(za9 (i:=0) nb_9 rfl (by eq_refl))) (fun _ _ _ _ _=>zf6) (fun _ _ _ _ _=>(zt6 (by exact hu) (pq 1) (pq 0) za2)) (.skip (.take rfl rfl (by eq_refl) .nil)))))),?_⟩
 refine zc6 ha ?_
 refine zaa8 (Wk.list (SqL.of ha)) (by rw[zcf4,zcp8];omega) (fun i=>.tup [.int ((rowF (.list ds)).getD i (0,0,0)).2.1,.int ((rowF (.list ds)).getD i (0,0,0)).2.2]) (fun j σ=>∃ t u w:Option V,σ=[t,u,w]) ⟨none,none,none,rfl⟩ ?_ ?_
 ·rintro i x σ I R S hi s1 hx ⟨_,_,_,rfl⟩ k
  rw[zcf4] at hi
  rw[zcf9] at hx
  obtain⟨t,et,rfl⟩:=zcg5.mp hx
  obtain⟨z,ez⟩:∃ z,(rowF (.list ds))[i]?=some z:=⟨_,zcf3 (by rw[zd3];omega)⟩
  rw[show (rowF (.list ds)).getD i (0,0,0)=z by rw[zcg0,ez];rfl] at k
  refine zh1 (s1 _ _ (hp i t z et ez)) ?_
  refine br_T ?_
  refine zd0 (fun p I1 f1 r1 k1=>?_)
  ac_nf
  exact k _ _ _ f1 r1 k1 ⟨_,_,_,rfl⟩
 rintro l1 ps1 H1 F1
 rw[zcf4] at F1
 refine zv8 (zs:=(rowF (.list ds)).map fun z=>(z.2.1,z.2.2)) F1.out (by rw[F1.len,zcf4,zd3];exact hl) (by rw[zcf4,zd3];omega) (fun i t z g1 g2=>?_) (fun r2 H2 f2 s2 h2=>?_)
 ·rw[zcf9] at g2
  obtain⟨y,ey,rfl⟩:=zcg5.mp g2
  have:=(F1.row i t g1).2
  rw[show (rowF (.list ds)).getD i (0,0,0)=y by rw[zcg0,ey];rfl] at this
  exact this
 refine zr3 (by rfl') (by rfl') (by rfl') (by rfl') ?_
 rw[show ((h:Int)+1 - 0).toNat=h+1 by rfl']
 refine zu9 (n:=h+1) Wk.range (by rw[zcp8];omega) (fun i=>.int ((valG (sumG ((rowF (.list ds)).map fun z=>(z.2.1,z.2.2))) (i:Int)).getD 0)) (fun _=>true) (fun j σ=>∃ t:Option V,σ=[t,some (.ref r2)]) ⟨none,rfl⟩ ?_ ?_
 ·rintro i x σ I R S hi s3 hx ⟨_,rfl⟩ k _
  obtain rfl:x=.int i:=by rw[hx,Int.zero_add]
  have ev:(valV (dF Sum.inl (sumG ((rowF (.list ds)).map fun z=>(z.2.1,z.2.2)))) (Sum.inl (i:Int):Key)).getD (V.int 0)=.int ((valG (sumG ((rowF (.list ds)).map fun z=>(z.2.1,z.2.2))) (i:Int)).getD 0):=by
   rw[zq7 zn8]
   cases valG (sumG ((rowF (.list ds)).map fun z=>(z.2.1,z.2.2))) (i:Int)<;>rfl
  refine br_T ?_
  refine zah8 (s3 _ _ h2) ?_
  refine zah3 (s3 _ _ h2) ?_
  rw[ev]
  ac_nf
  exact k rfl _ _ (Same.refl _) ⟨_,rfl⟩
 intro acc H3 f3 s3 h3
 rw[zm7] at h3
 have s02:=F1.same.trans s2
 ac_nf
 exact q acc H3 (s02.free f3) (s02.trans s3) (by rw[h3];unfold shr;rw[zch6];rfl)
@[irreducible] def zh2(zca1:Addr):Sp:=fun vs H Q E=>∃ (v:V) (d:PyData),vs=[v]/\ShV H v d/\sml d=true/\(zc7 d=true->∀ (r:Addr) (ps:List Addr) (H':Hp),H r=none->Same H H'->H' r=some (.lst (ps.map V.ref))->ps.length=(za8 d).length->(∀ (i:Nat) p,ps[i]?=some p->H' p=some (.lst ((shr (ze2 d).toNat (rowF ((za8 d).getD i .none))).map V.int)))->Q (.ref r) H')/\(zc7 d=false->∀ H',Same H H'->E (.ref zca1) none H')
theorem zak4{zca1:Addr}{v:V}{d:PyData}(h:ShV H v d)(hs:sml d=true)(q:zc7 d=true->∀ (r:Addr) (ps:List Addr) (H':Hp),H r=none->Same H H'->H' r=some (.lst (ps.map V.ref))->ps.length=(za8 d).length->(∀ (i:Nat) p,ps[i]?=some p->H' p=some (.lst ((shr (ze2 d).toNat (rowF ((za8 d).getD i .none))).map V.int)))->Q (.ref r) H')(qe:zc7 d=false->∀ H',Same H H'->E (.ref zca1) none H'):zh2 zca1 [v] H Q E:=by unfold zh2;exact⟨v,d,rfl,h,hs,q,qe⟩
theorem zal5(F:Fun K "shares_of" "shares_of" zs6 f fd)(N:Nm mg)(zca9:Def P w K mg base CX0 1 "hosts_in" ["stream"] zf7)(zcb1:Def P w K mg base (CXR P w) 9 "look_stream" ["stream"] (ze4 zca1))(zcc5:Def P w K mg base CX0 2 "row_shares" ["hosts","row"] zg5):FnOk P w K mg base (CXR P w) 10 f fd ["stream"] (zh2 zca1):=by
 refine F.okR zan1 (fun vs H Q E h=>by unfold zh2 at h;obtain⟨_,_,rfl,_⟩:=h;rfl) (fun cdv A outer s H vs Q E hr hX h=>?_)
 unfold zh2 at h
 obtain⟨v,d,rfl,h,hs,q,qe⟩:=h
 have hu:=hu40 hr
 refine⟨_,(za4 (zs3 (pD zcb1 hr (passR hX) (za0 (pq 0) za1)))
   (za6 (zb6 (zk4 (N:=["row","stream"]) (ks:=[none,some 0]) (zg6 (K:=K) rfl (pq 0)) (fun _ _ _ _ _=>(za9 (i:=0) nb_10 rfl (by eq_refl))) (fun _ _ _ _ _=>zf6) (fun _ _ _ _ _=>(pD zcc5 hr zc5 (za0 (pD zca9 hr zc5 (za0 (pq 1) za1)) (za0 (pq 0) za1)))) (.skip (.take rfl rfl (by eq_refl) .nil)))))),?_⟩
 refine zr7 h hs (fun e H1 s1=>?_) (fun e H1 s1=>qe e _ s1)
 have q:=q e
 obtain⟨ds,rfl,eb,hz,dl,ok⟩:=zbs2 e hs
 have h1:=h.same s1
 cases h1
 case lst a xs e1 l=>
  have h1:=h.same s1
  have ll:=l.len
  refine zc6 e1 ?_
  refine zaa8 (Wk.list (SqL.of e1)) (by rw[zcp8];omega) (fun i=>.lst ((shr (ze2 (.list ds)).toNat (rowF (ds.getD i .none))).map V.int)) (fun j σ=>∃ t:Option V,σ=[t,some (.ref a)]) ⟨none,rfl⟩ ?_ ?_
  ·rintro i x σ I R S hi s2 hx ⟨_,rfl⟩ k
   obtain⟨d,ed,hd⟩:=l.get i x hx
   rw[getD_some ed] at k
   refine br_T ?_
   refine zn6 (h1.same s2) eb ?_
   rw[show ze2 (.list ds)=(((ze2 (.list ds)).toNat:Nat):Int) by rfl']
   refine zag3 (hd.same s2) (ok d (zcf8 ed)).1 (ok d (zcf8 ed)).2 (by rfl') (fun r3 H3 f3 s3 h3=>?_)
   ac_nf
   exact k _ _ _ f3 s3 h3 ⟨_,rfl⟩
  rintro r ps H2 F2
  ac_nf
  exact q r ps H2 (s1.free F2.facc) (s1.trans F2.same) F2.out (by rw[F2.len];exact ll) fun i p ep=>(F2.row i p ep).2
theorem zbc7(h1:1<=ds.length)(h8:ds.length<=8):(zt1 40 (ds.getD 0 .none)&&zd1 (ze2 (.list ds)) ds.length (.list ds))=zc7 (.list ds):=by
 rw[zck5]
 constructor
 ·intro e
  rw[zcg4] at e
  obtain⟨e1,e2⟩:=e
  obtain⟨es,e3,e4,e5,e6⟩:=zn7 e1
  have e2':=e2
  unfold zd1 at e2'
  simp only[zcg4] at e2'
  have eb:=e2'.1
  have hh:0<=ze2 (.list ds)/\ze2 (.list ds)<=40:=by
   have hz:(rowF (ds.getD 0 .none)).getD 0 (0,0,0)∈rowF (ds.getD 0 .none):=by
    rw[e3] at *
    rw[zcg0,zcf3 (by rw[zd3];omega)]
    exact zcn9 _
   have b:=e6 _ hz
   refine⟨?_,b⟩
   rw[e3] at hz e5
   obtain⟨x,hx,ex⟩:=zch2.mp (show _∈es.map triD from hz)
   have e5:(es.all zj3&&incD es)=true:=e5
   rw[zcg4] at e5
   have fx:=zcg8.mp e5.1 x hx
   show 0<=((rowF (ds.getD 0 .none)).getD 0 (0,0,0)).1
   rw[e3,← ex]
   cases x with
   | tuple us=>
    have l3:us.length=3:=Classical.byContradiction fun z=>by rw[zt8 z] at fx;cases fx
    match us,l3 with
    | [a,b,c],_=>
     have fx:(zm0 0 a&&zu4 0 (intD a) b&&zm0 1 c)=true:=fx
     rw[zcg4,zcg4] at fx
     obtain⟨w,rfl,hw⟩:=zq0 fx.1.1
     exact hw
   | _=>simp[zj3] at fx
  unfold zc7
  rw[eb]
  have il:((za8 (.list ds)).length:Int)=(ds.length:Int):=rfl
  rw[il,e2]
  unfold zad7
  rw[decide_eq_true (show 0<=ze2 (.list ds)/\ze2 (.list ds)<=40 from hh),decide_eq_true (show 1<=(ds.length:Int)/\(ds.length:Int)<=8 by rfl')]
  rfl
 ·intro e
  unfold zc7 zad7 at e
  simp only[zcg4,decide_eq_true_eq] at e
  obtain⟨eb,⟨hz,_⟩,es⟩:=e
  have es:zd1 (ze2 (.list ds)) ds.length (.list ds)=true:=es
  have sa:=zl0 es
  rw[es,zcp4]
  obtain⟨fs,f1,f2,f3,f4⟩:=zn7 (sa.2.2.1 0 (by rfl'))
  rw[f1] at f3 f4 ⊢
  exact zar5 f2 f3 fun z hz'=>by have:=f4 z hz';omega
theorem zbf0(h:¬ (1<=ds.length/\ds.length<=8)):zc7 (.list ds)=false:=by
 cases e:zc7 (.list ds) with
 | false=>rfl
 | true=>
  unfold zc7 zad7 at e
  simp only[zcg4,decide_eq_true_eq] at e
  have:=e.2.1.2
  have:1<=(ds.length:Int)/\(ds.length:Int)<=8:=this
  exact absurd ⟨by rfl',by rfl'⟩ h
@[irreducible] def zf4:Sp:=fun vs H Q _=>∃ (v:V) (d:PyData),vs=[v]/\ShV H v d/\(∀ x∈za8 d,(za8 x).length<=18)/\∀ H',Same H H'->Q (.bl (zc7 d)) H'
theorem zbj4{v:V}{d:PyData}(hv:ShV H v d)(hs:∀ x∈za8 d,(za8 x).length<=18)(q:∀ H',Same H H'->Q (.bl (zc7 d)) H'):zf4 [v] H Q E:=by unfold zf4;exact⟨v,d,rfl,hv,hs,q⟩
theorem zad1(F:Fun K "_law_is_any" "_law_is_any" zo7 f fd)(N:Nm mg)(zcb2:Def P w K mg base CX0 2 "_law_is_row" ["_law_row","_law_hosts"] ze5)(zcb4:Def P w K mg base CX0 3 "_law_is_stream" ["_law_hosts","_law_many","_law_stream"] zd4):FnOk P w K mg base CX0 4 f fd ["_law_stream"] zf4:=by
 refine F.ok zad3 (fun vs H Q E h=>by unfold zf4 at h;obtain⟨_,_,rfl,_⟩:=h;rfl) fun _ _ _ s H vs Q E hr h=>?_
 unfold zf4 at h
 obtain⟨v,d,rfl,hv,hs,q⟩:=h
 have hu:=hu40 hr
 refine⟨_,(za4 (psIf (ptW (pwOr (zk0 (ptV (pB (zw7 (K:=K) rfl) N.isinstance_ zb3 (za0 (pq 0) (za0 (pTy N.list_ zo0) za1))))) (pwOr (ptC (oLtX (by exact hu)) (pB (zp3 (K:=K) rfl) N.len_ zi3 (za0 (pq 0) za1)) za2) (pwOr (ptC oGt (pB (zp3 (K:=K) rfl) N.len_ zi3 (za0 (pq 0) za1)) za2) (zo9 (zk0 (ptV (pD zcb2 hr zc5 (za0 (zc3 (K:=K) rfl (pq 0) za2) (za0 za2 za1)))))))))) (za6 (zb6 zt4)) zd7)
   (za6 (zb6 (pD zcb4 hr zc5 (za0 (zc3 (K:=K) rfl (zc3 (K:=K) rfl (zc3 (K:=K) rfl (pq 0) za2) za2) za2) (za0 (pB (zp3 (K:=K) rfl) N.len_ zi3 (za0 (pq 0) za1)) (za0 (pq 0) za1))))))),?_⟩
 refine zi2 hv (.inr (.inr (.inl rfl))) ?_
 cases hv
 case lst a xs ds e l=>
  have hv:ShV H (.ref a) (.list ds):=.lst e l
  have ll:=l.len
  have hs:∀ x∈ds,(za8 x).length<=18:=hs
  refine zc1 (br_T ?_)
  refine zf8 e ?_
  refine ze6 (fun g1=>?_) (fun g1=>?_)
  ·ac_nf
   refine br_T ?_
   ac_nf
   have:=q H (Same.refl _)
   rw[zbf0 (by rfl')] at this
   exact this
  refine zf8 e ?_
  refine ze6 (fun g2=>?_) (fun g2=>?_)
  ·ac_nf
   refine br_T ?_
   ac_nf
   have:=q H (Same.refl _)
   rw[zbf0 (by rfl')] at this
   exact this
  obtain⟨x0,ex0⟩:∃ x,xs[0]?=some x:=⟨_,zcf3 (by rfl')⟩
  obtain⟨d0,ed0,hd0⟩:=l.get 0 x0 ex0
  refine zc2 (v:=x0) e (zg8 (j:=0) ex0) ?_
  refine zav3 hd0 (hs d0 (zcf8 ed0)) (fun H1 s1=>?_)
  have q:=fun H' s'=>q H' (s1.trans s')
  rw[← zbc7 (by rfl') (by rfl'),getD_some ed0] at q
  cases er:zt1 40 d0
  ·rw[er] at q
   refine zc1 (br_F ?_)
   ac_nf
   exact q _ (Same.refl _)
  rw[er,zck0] at q
  obtain⟨es,rfl,e1,e2,_⟩:=zn7 er
  have e3:zf3 (.list ds)=true:=by
   show (decide (0<ds.length)&&rowD (ds.getD 0 .none)&&decide (0<(za8 (ds.getD 0 .none)).length))=true
   rw[getD_some ed0,e2,decide_eq_true (show 0<ds.length by rfl'),decide_eq_true (show 0<(za8 (.list es)).length from e1)]
   rfl
  obtain⟨a',r,t,xs',ds',ts,j,w,ea',ed',ha,hl,h1,hx,hr',ht,htt⟩:=zaa6 (hv.same s1) e3
  cases ea'
  cases ed'
  refine zc1 (br_T ?_)
  refine zc2 (v:=.ref r) ha (zg8 (j:=0) hx) ?_
  refine zc2 (v:=.ref t) hr' (zg8 (j:=0) (by rw[zcf9,ht];rfl)) ?_
  refine zj8 (v:=.int (ze2 (.list ds))) htt rfl ?_
  refine zf8 ha ?_
  rw[hl]
  refine zbm2 (hv.same s1) (by rfl') (by rfl') hs (fun H2 s2=>?_)
  ac_nf
  exact q _ s2
 all_goals
  refine zc1 (br_F ?_)
  refine br_T ?_
  ac_nf
  exact q H (Same.refl _)
def zac7(b:Bool):Str:=if b=true then "told" else "none"
@[irreducible] def ze7(a_tab:Addr):Sp:=fun vs H Q _=>∃ (v:V) (d:PyData) (w:Nat),vs=[v,.int w]/\ShV H v d/\sml d=true/\zj7 a_tab 73 42 lamQ H/\(∀ x∈za8 d,(za8 x).length<=9)/\w<=1/\∀ H',Chg a_tab H H'->zj7 a_tab 73 42 lamQ H'->Q (.str (zac7 (zc7 d))) H'
theorem zaw5{a_tab:Addr}{v:V}{d:PyData}{w:Nat}(hv:ShV H v d)(hs:sml d=true)(hT:zj7 a_tab 73 42 lamQ H)(hl:∀ x∈za8 d,(za8 x).length<=9)(hw:w<=1)(q:∀ H',Chg a_tab H H'->zj7 a_tab 73 42 lamQ H'->Q (.str (zac7 (zc7 d))) H'):ze7 a_tab [v,.int w] H Q E:=by unfold ze7;exact⟨v,d,w,rfl,hv,hs,hT,hl,hw,q⟩
theorem zac2(F:Fun K "_law_refused" "_law_refused" zm8 f fd)(N:Nm mg)(zcd2:Def P w K mg base (CXR P w) 10 "shares_of" ["stream"] (zh2 zca1))(zcc2:Def P w K mg base (CXR P w) 10 "taken_apart" ["stream"] (zf5 zca1 a_tab))(Z:Cz K mg base zca3 zca4 zca7 zcb3 zca1 zca8 zca6 zca5):FnOk P w K mg base CX0 11 f fd ["_law_stream","_law_which"] (ze7 a_tab):=by
 refine F.ok zl6 (fun vs H Q E h=>by unfold ze7 at h;obtain⟨_,_,_,rfl,_⟩:=h;rfl) fun _ _ _ s H vs Q E hr h=>?_
 unfold ze7 at h
 obtain⟨v,d,w,rfl,hv,hs,hT,hl,hw,q⟩:=h
 have hu:=hu40 hr
 have T':∀ {J:Hp},Same H J->zj7 a_tab 73 42 lamQ J:=fun s=>hT.same s
 refine⟨_,(za4 (psS (i:=2) zl6.nd zbe2)
   (za4 (psTry (K:=K) (ke:=3) (ky:=2) rfl zl6.nd Z.g_HostError (zbf8 (psxIf (ptC (zq1 (K:=K) rfl (by exact hu)) (pq 1) za2) (zbf8 (zbj6 zcc2 hr (za0 (pq 0) za1))) (zbf8 (zbj6 zcd2 hr (za0 (pq 0) za1))))))
   (za4 (psIf (ptC oIsX (pq 2) zbe2) (za6 (zb6 zx5)) zd7)
   (za4 (psIf (ptW (pwOr (ptV (pB (cIsiC (K:=K) rfl) N.isinstance_ zb3 (za0 (pq 2) (za0 (zy2 (za0 (zo2 (v:=.ref zca6) rfl Z.g_NoAlike rfl) (za0 (zo2 (v:=.ref zca4) rfl Z.g_NoBattle rfl) (za0 (zo2 (v:=.ref zcb3) rfl Z.g_NoMix rfl) (za0 (zo2 (v:=.ref zca5) rfl Z.g_NoNumber rfl) (za0 (zo2 (v:=.ref zca7) rfl Z.g_NoPlan rfl) (za0 (zo2 (v:=.ref zca8) rfl Z.g_NoSide rfl) za1))))))) za1)))) (zo9 (zk0 (ptV (pB (cIsiX (K:=K) rfl) N.isinstance_ zb3 (za0 (pq 2) (za0 (pTy N.ValueError_ zai6) za1)))))))) (za6 (zb6 zx5)) zd7)
   (za6 (zb6 (zc3 (K:=K) rfl (zp2 (za0 zx5 (za0 zx5 za1))) (pT cInt N.int_ zx9 (za0 (pB (cIsiX (K:=K) rfl) N.isinstance_ zb3 (za0 (pq 2) (za0 (zo2 (v:=.ref zca1) rfl Z.g_NoStream rfl) za1))) za1))))))))),?_⟩
 obtain rfl|rfl:w=0∨w=1:=by rfl'
 ·ac_nf
  refine zaj7 rfl ?_
  refine zad0 hv hs hT (fun e=>⟨hl,fun p ts ms H1 c1 T1 M1 _=>?_⟩) (fun e H1 s1=>?_)
  ·ac_nf
   refine zaj7 rfl ?_
   ac_nf
   have:=q H1 c1 T1
   rw[e] at this
   exact this
  ·refine zas3 Z.m_NoStream (fun ea H2 f2 s2 h2=>?_)
   refine zbj7 (fun z=>by cases z) ?_
   refine zd0 (fun p3 H3 f3 s3 h3=>?_)
   have h23:=s3 _ _ h2
   refine zba5 (cs:=[zca6,zca4,zcb3,zca5,zca7,zca8]) h3 (.inl h23) Z.k_NoStream Z.c_NoStream (fun c hc=>?_) ?_
   ·simp only[zcg6,zcj2,or_false] at hc
    rcases hc with rfl|rfl|rfl|rfl|rfl|rfl
    ·exact Z.i_NoStream_NoAlike
    ·exact Z.i_NoStream_NoBattle
    ·exact Z.i_NoStream_NoMix
    ·exact Z.i_NoStream_NoNumber
    ·exact Z.i_NoStream_NoPlan
    ·exact Z.i_NoStream_NoSide
   refine br_F ?_
   refine zav7 (D:=zca1) h23 Z.k_NoStream Z.c_NoStream Z.v_NoStream ?_
   refine zc1 (br_T ?_)
   refine zb2 (fun p4 H4 f4 s4 h4=>?_)
   refine zbd1 (D:=zca1) (s4 _ _ h23) Z.k_NoStream Z.c_NoStream Z.i_NoStream_NoStream ?_
   refine zc2 (v:=.str "none") h4 rfl ?_
   have s04:=((s1.trans s2).trans s3).trans s4
   ac_nf
   have:=q H4 s04.toChg (T' s04)
   rw[e] at this
   exact this
 ·ac_nf
  refine zbj7 (by decide) ?_
  refine zak4 hv hs (fun e r ps H1 f1 s1 k1 _ _=>?_) (fun e H1 s1=>?_)
  ·ac_nf
   refine zaj7 rfl ?_
   ac_nf
   have:=q H1 s1.toChg (T' s1)
   rw[e] at this
   exact this
  ·refine zas3 Z.m_NoStream (fun ea H2 f2 s2 h2=>?_)
   refine zbj7 (fun z=>by cases z) ?_
   refine zd0 (fun p3 H3 f3 s3 h3=>?_)
   have h23:=s3 _ _ h2
   refine zba5 (cs:=[zca6,zca4,zcb3,zca5,zca7,zca8]) h3 (.inl h23) Z.k_NoStream Z.c_NoStream (fun c hc=>?_) ?_
   ·simp only[zcg6,zcj2,or_false] at hc
    rcases hc with rfl|rfl|rfl|rfl|rfl|rfl
    ·exact Z.i_NoStream_NoAlike
    ·exact Z.i_NoStream_NoBattle
    ·exact Z.i_NoStream_NoMix
    ·exact Z.i_NoStream_NoNumber
    ·exact Z.i_NoStream_NoPlan
    ·exact Z.i_NoStream_NoSide
   refine br_F ?_
   refine zav7 (D:=zca1) h23 Z.k_NoStream Z.c_NoStream Z.v_NoStream ?_
   refine zc1 (br_T ?_)
   refine zb2 (fun p4 H4 f4 s4 h4=>?_)
   refine zbd1 (D:=zca1) (s4 _ _ h23) Z.k_NoStream Z.c_NoStream Z.i_NoStream_NoStream ?_
   refine zc2 (v:=.str "none") h4 rfl ?_
   have s04:=((s1.trans s2).trans s3).trans s4
   ac_nf
   have:=q H4 s04.toChg (T' s04)
   rw[e] at this
   exact this
def zar9(K:zcf5)(a_tab:Addr):Sp:=fun vs H Q _=>∃ (a:Addr) (ns:List Int),vs=[.ref a]/\SqL K H a (ns.map V.int)/\ns.length<=63/\H a_tab=some (.tbl #[])/\∀ H',Q (.bl true) H'
theorem zak0{ns:List Int}(h:ns.length<=63):[V.int 0].length+(cutV (ns.map V.int) none (some 40)).length<=sizeLine:=by
 rw[zv0 (by decide),zcj3,zcf4,zcp8,zcj0];omega
theorem zam8{ns:List Int}{x:V}(h:([V.int 0]++cutV (ns.map V.int) none (some 40))[i]?=some x):∃ z,x=.int z:=by
 rw[zv0 (by decide)] at h
 rcases zch7.mp (zcf8 h) with h|h
 ·exact⟨0,by simpa using h⟩
 ·obtain⟨z,_,rfl⟩:=zch2.mp (zcm9 h)
  exact⟨z,rfl⟩
theorem SB.at{v:V}(h:SB H v):∃ d,ShV H v d/\okD 3 d/\∀ x∈za8 d,(za8 x).length<=9:=h
mutual
theorem zau1{T:Addr}{tab:Array Value}{H H':Hp}(hT:H T=some (.tbl tab))(c:Chg T H H'){v:V}{d:PyData}(h:ShV H v d):ShV H' v d:=match h with
 | .non=>.non
 | .bl b=>.bl b
 | .int i=>.int i
 | .str x=>.str x
 | .lst e l=>.lst (c _ _ (fun z=>by rw[z,hT] at e;cases e) e) (zar2 hT c l)
 | .tup e l=>.tup (c _ _ (fun z=>by rw[z,hT] at e;cases e) e) (zar2 hT c l)
theorem zar2{T:Addr}{tab:Array Value}{H H':Hp}(hT:H T=some (.tbl tab))(c:Chg T H H'){xs:List V}{ds:List PyData}(h:ShL H xs ds):ShL H' xs ds:=match h with
 | .nil=>.nil
 | .cons h l=>.cons (zau1 hT c h) (zar2 hT c l)
end
theorem zal4{ln co:Nat}{qual:Str}(x:zj7 T ln co qual H):∃ tab,H T=some (.tbl tab):=let ⟨tab,e,_⟩:=x;⟨tab,e⟩
theorem neV_rd{K:zcf5}{j:Nat}{σ:St}{x y:V}(hi:σ[i]?=some (some x))(hj:σ[j]?=some (some y))(h:zak8 K x y H Q):tOp (zak8 K) (qV i) (qV j) σ H Q:=by
 unfold tOp qV
 rw[hi]
 show (match σ[j]? with
  | some (some v)=>zak8 K x v H Q
  | _=>False)
 rw[hj]
 exact h
theorem zby0(b:Bool):okD 1 (.list [.str (zac7 b),.str (zac7 b)]):=okD.list (n:=0) (by show 2<=1000;decide) fun d hd=>by
 have:d=.str (zac7 b):=by simpa using hd
 subst this
 exact⟨rfl,by show PyData.strOk (zac7 b)=true;cases b<;>decide +kernel,zci0 _⟩
theorem ok_law(F:Fun K "law" "law" zaq1 f fd)(N:Nm mg)(zcd3:Def P w K mg base CX0 3 "_law_bent" ["_law_left_here","_law_stream"] zh5)(zcd4:Def P w K mg base CX0 1 "_law_copy" ["_law_stream"] zh4)(zca2:Def P w K mg base CX0 2 "_law_draw" ["_law_left_here","_law_base"] ze0)(zcc6:Def P w K mg base CX0 1 "_law_flows" ["_law_mix_here"] zg0)(zcc3:Def P w K mg base CX0 4 "_law_is_any" ["_law_stream"] zf4)(zcd5:Def P w K mg base CX0 2 "_law_left" ["_law_script","_law_k"] zh3)(zcd8:Def P w K mg base CX0 4 "_law_lot" ["_law_left_here","_law_most","_law_fields","_law_parts"] zj1)(zcb9:Def P w K mg base CX0 11 "_law_refused" ["_law_stream","_law_which"] (ze7 a_tab)):FnOk P w K mg base CX0 12 f fd ["_law_script"] (zar9 K a_tab):=by
 refine F.ok zaf2 (fun vs H Q E h=>by obtain⟨n,k,rfl,_⟩:=h;rfl) fun _ _ _ s H vs Q E hr h=>?_
 obtain⟨a,ns0,rfl,hS,hlen,hTab,k⟩:=h
 have hu:=hu40 hr
 have T0:zj7 a_tab 73 42 lamQ H:=⟨_,hTab,.inl rfl⟩
 refine⟨_,(za4 (zz7 PassesOwn.never rfl (zg6 (K:=K) rfl (zc8 oAdd (zp2 (za0 za2 za1)) (zd2 (slXK (K:=K) rfl) (pq 0) zf1 (zi1 za2)))) (za9 (i:=1) zaf2.nd rfl (by eq_refl)) (za4 (psS (i:=2) zaf2.nd (pD zcd5 hr zc5 (za0 (zp2 (za0 (pq 1) za1)) (za0 za2 za1))))
   (za4 (psS (i:=3) zaf2.nd (pD zcd3 hr zc5 (za0 (pq 2) (za0 (pD zcc6 hr zc5 (za0 (pD zcd8 hr zc5 (za0 (pq 2) (za0 (zc3 (K:=K) rfl (zp2 (za0 za2 (za0 za2 (za0 za2 za1)))) (pD zca2 hr zc5 (za0 (pq 2) (za0 za2 za1)))) (za0 za2 (za0 za2 za1))))) za1)) za1))))
   (za4 (psS (i:=4) zaf2.nd (pD zcd4 hr zc5 (za0 (pq 3) za1)))
   (za4 (psS (i:=5) zaf2.nd (zc3 (K:=K) rfl (zp2 (za0 zx5 (za0 zx5 za1))) (pT cInt N.int_ zx9 (za0 (pD zcc3 hr zc5 (za0 (pq 3) za1)) za1))))
   (za6 (psIf (ptW (pwOr (ptC (zal1 (K:=K) rfl (by exact hu)) (zk4 (N:=["_law_which","_law_handed"]) (ks:=[none,some 4]) (zae4 N.range_ (za0 za2 za1)) (fun _ _ _ _ _=>(za9 (i:=0) nb_17 rfl (by eq_refl))) (fun _ _ _ _ _=>zf6) (fun _ _ _ _ _=>(pD zcb9 hr zc5 (za0 (pq 1) (za0 (pq 0) za1)))) (.skip (.take rfl rfl (by eq_refl) .nil))) (zp2 (za0 (pq 5) (za0 (pq 5) za1)))) (zo9 (ptC (zal1 (K:=K) rfl (by exact hu)) (pq 4) (pq 3))))) (za6 (zb6 zt4)) zd7)))))))
   (za6 (zb6 zt4))),?_⟩
 refine zb2 (fun p1 H1 hf1 hs1 ha1=>?_)
 refine zk3 (hs1.seq hS) (fun p2 H2 hf2 hs2 ha2=>?_)
 refine zp0 (hs2 _ _ ha1) ha2 (zak0 hlen) (fun p3 H3 hf3 hs3 ha3=>?_)
 have T3:=T0.same ((hs1.trans hs2).trans hs3)
 obtain⟨tab3,et3⟩:=zal4 T3
 refine zc6 ha3 ?_
 refine zj4 (xs:=[V.int 0]++cutV (ns0.map V.int) none (some 40)) (fun i σ H4=>∃ x1 x2 x3 x4 x5:Option V,σ=[some (.ref a),x1,x2,x3,x4,x5]/\Chg a_tab H3 H4/\zj7 a_tab 73 42 lamQ H4) ?_ ?_ ?_ ?_
 ·exact⟨_,_,_,_,_,rfl,Chg.refl _ _,T3⟩
 ·rintro i σ H4 _ ⟨_,_,_,_,_,_,c4,_⟩
  exact SqL.of (c4 _ _ (fun z=>by rw[z,et3] at ha3;cases ha3) ha3)
 ·rintro i x σ H4 hi ⟨x1,x2,x3,x4,x5,rfl,cT4,T4⟩
  obtain⟨z,rfl⟩:=zam8 hi
  refine zb2 (fun c5 H5 f5 s5 h5=>?_)
  refine zby6 h5 (fun pl H6 f6 s6 L6=>?_)
  have fpl:H4 pl=none:=s5.free f6
  have s46:Same H4 H6:=s5.trans s6
  refine zb2 (fun q7 H7 f7 s7 h7=>?_)
  refine zg7 (L6.same s7) (by rfl') (by rfl') (by rfl') (fun d8 H8 d80 d81 c8 L8=>?_)
  have h78:=c8 _ _ (L6.ne f7) h7
  refine zm5 h78 (by rfl') (by simp only[zch0,zch9];omega) ?_
  intro v hv
  obtain⟨t,rfl,ht⟩:∃ t:Nat,v=.int t/\t<=40:=by
   simp only[zcg6,zcj2,or_false] at hv
   rcases hv with rfl|rfl|rfl
   ·exact⟨4,rfl,by rfl'⟩
   ·exact⟨10,rfl,by rfl'⟩
   ·exact⟨40,rfl,by rfl'⟩
  clear hv h78 h7
  have s48:Same H4 H8:=(s46.trans s7).chg fpl c8
  refine lot_rd L8 (by rfl') ht (fun h f m0 ts0 ms H9 f9 c9 L9 n9 M9 O9 _ hf9 ml9 ok9=>?_)
  have s49:=s48.chg fpl c9
  obtain⟨h40,f1,f8⟩:=hf9
  have xl:∀ x∈ms,x.1.length=f:=fun x hx=>by have:=(ok9 x hx).1.2.1;omega
  have O:OkS ms h f:=⟨ml9.1,f1,fun x hx=>by
   obtain⟨⟨o1,o2,o3,o4⟩,_⟩:=ok9 x hx
   exact⟨o1,by rfl',o3,o4⟩⟩
  obtain⟨ol,el⟩:=L9.some
  refine zbm0 M9 ml9.1 (by rfl') (by rfl') xl (fun du rsD xss H10 s10 SD SI=>?_)
  have WD:StW (rm pl H10) du rsD xss:=(SD.same (nw_rm el)).toW
  have tr:=stm_ok O SI
  have xl2:∀ xs∈xss,xs.length<=8:=fun xs hx=>by
   obtain⟨i,ei⟩:=zci9 hx
   have:=(SI.2 i xs ei).2
   omega
  have xl1:∀ xs∈xss,1<=xs.length:=fun xs hx=>by
   obtain⟨i,ei⟩:=zci9 hx
   have il:=(zcf6.mp ei).1
   have:=(zl0 (ds:=xss.map zi0) tr).2.2.1 i (by rw[zcf4];exact il)
   rw[zcg0,zcf9,ei] at this
   obtain⟨es,e1,e2,_⟩:=zn7 this
   cases e1
   rw[zcf4] at e2
   exact e2
  have L10:=L9.same s10
  refine zbo6 L10 (by rfl') WD ⟨by rw[SI.1];exact f1,by rw[SI.1];exact f8⟩ (fun xs hx=>⟨xl1 xs hx,xl2 xs hx⟩) (fun v H11 c11 L11 S11=>?_)
  have s411:Same H4 H11:=(s49.trans s10).chg fpl c11
  obtain⟨d,hd,od,il⟩:=S11.at
  have hd11:=hd.same (zac4 _ _)
  refine zbq4 hd11 od.1 (fun hv H12 s12 k12=>?_)
  have hd12:=hd11.same s12
  refine zb2 (fun l13 H13 f13 s13 h13=>?_)
  refine zbj4 (hd12.same s13) (fun x hx=>zcj5 (il x hx) (by decide)) (fun H14 s14=>?_)
  have e14:atI [V.str "none",V.str "told"] (if zc7 d=true then 1 else 0)=some (.str (zac7 (zc7 d))):=by
   cases zc7 d<;>rfl
  refine zc2 (v:=.str (zac7 (zc7 d))) (s14 _ _ h13) e14 ?_
  have s414:=((s411.trans s12).trans s13).trans s14
  have hd14:=(hd12.same s13).same s14
  have k14:=(k12.same s13).same s14
  have T14:=T4.same s414
  have cT14:Chg a_tab H3 H14:=cT4.same s414
  clear hd12 k12 hd11 hd S11 WD SD
  refine zr3 (by decide) (by decide) (by decide) (by decide) ?_
  refine zaq8 (n:=2) (by rw[zcp8];decide) (fun acc H15 f15 s15 h15=>?_)
  have T15:=T14.same s15
  refine⟨fun j ys σ I=>∃ t:Option V,σ=[t,some hv]/\ys=List.replicate j (V.str (zac7 (zc7 d)))/\zj7 a_tab 73 42 lamQ I/\(∀ b o,b≠a_tab->b≠acc->H15 b=some o->I b=some o),?_,?_,?_⟩
  ·exact⟨none,rfl,rfl,T15,fun b o _ _ e=>e⟩
  ·rintro j m' ys σ I hj hm hl hI ⟨t',rfl,rfl,TI,cI⟩
   have hj:j<2:=hj
   obtain⟨tb,et⟩:=zal4 T15
   have nacc:∀ {b:Addr}{o:HO},H14 b=some o->b≠acc:=fun e=>za5 e f15
   have kI:ShV I hv d:=by
    obtain⟨tb,et⟩:=zal4 T14
    exact zau1 (T:=a_tab) (H:=H14) et (fun b o n e=>cI b o n (nacc e) (s15 _ _ e)) k14
   refine br_T ?_
   ac_nf
   rw[Int.zero_add]
   refine zaw5 (w:=j) kI od.1 TI il (by rfl') (fun J cJ TJ=>?_)
   obtain⟨tbI,etI⟩:=zal4 TI
   have nt:acc≠a_tab:=fun z=>by rw[z,etI] at hI;cases hI
   refine zbq0 hj hm hl (cJ _ _ nt hI) (fun J2 c2 k2=>?_)
   refine⟨_,rfl,by rw[List.replicate_succ'],TJ.chg (cJ _ _ nt hI) c2,fun b o n1 n2 e=>c2 _ _ n2 (cJ _ _ n1 (cI b o n1 n2 e))⟩
  ·rintro ys σ I hI ⟨t',rfl,rfl,TI,cI⟩
   have nacc:∀ {b:Addr}{o:HO},H14 b=some o->b≠acc:=fun e=>za5 e f15
   have cI2:∀ b o,b≠a_tab->H14 b=some o->I b=some o:=fun b o n e=>cI b o n (nacc e) (s15 _ _ e)
   refine zb2 (fun l16 H16 f16 s16 h16=>?_)
   refine zbr1 (d:=.list [.str (zac7 (zc7 d)),.str (zac7 (zc7 d))]) (n:=1) (.lst (s16 _ _ hI) (.cons (.str _) (.cons (.str _) .nil))) (.lst h16 (.cons (.str _) (.cons (.str _) .nil))) (zby0 _) (by decide) ?_
   refine br_F ?_
   obtain⟨tb,et⟩:=zal4 T14
   refine neV_rd (x:=hv) (y:=v) rfl rfl (zbr1 ((zau1 et cI2 k14).same s16) ((zau1 et cI2 hd14).same s16) od (by decide) ?_)
   refine br_F ?_
   ac_nf
   exact⟨_,_,_,_,_,rfl,fun b o n e=>s16 _ _ (cI2 b o n (cT14 b o n e)),TI.same s16⟩
 ·rintro σ H4 ⟨_,_,_,_,_,rfl,_⟩
  exact k H4
end
abbrev FA(K:zcf5)(x:Str)(st:Stmt):Prop:=∃ (f:Addr) (od an:Option Addr) (sl:Array (Option Value)) (oc kV dc pm cd ct:Value),zcj4 K zcq2 x=some (some (.ref f))/\K.lookup f=some ⟨oc,od,.func (zcm8 x x (zn2 st) (zj0 st) (za7 st) .none kV dc pm an cd ct),sl⟩/\PySem.W.codeIn K cd x=true/\zco5 K (.ref f)=true
theorem FA.of{K:zcf5}{x:Str}{st:Stmt}{od an:Option Addr}{sl:Array (Option Value)}{oc kV dc pm cd ct:Value}(a:zcj4 K zcq2 x=some (some (.ref f)))(l:K.lookup f=some ⟨oc,od,.func (zcm8 x x (zn2 st) (zj0 st) (za7 st) .none kV dc pm an cd ct),sl⟩)(c:PySem.W.codeIn K cd x=true)(k:zco5 K (.ref f)=true):FA K x st:=⟨_,_,_,_,_,_,_,_,_,_,a,l,c,k⟩
structure Ev(P:Program)(w:World)(K:zcf5)(mg:Str->Option Value)(base h:Heap):Prop where
 x:K.In h
 g:h.Ns zcq2 mg
local macro_rules | `(tactic| walk_at "bd")=>`(tactic| (intro _ _ _ _ _ _ us hl;rcases us with _|⟨_,_|⟨_,_|⟨_,_|⟨_,_|⟨_,_|⟨_,_|⟨_,_⟩⟩⟩⟩⟩⟩⟩<;>first|rfl|exact Nat.noConfusion hl|cases hl))
section
variable {P:Program}{w:World}{K:zcf5}{mg:Str->Option Value}{base h:Heap}{CX:CXT}{k:Nat}{x:Str}{ps:List Str}{sp:Sp}{st:Stmt}
theorem Ev.r(E:Ev P w K mg base h)(A:FA K x st)(ok:∀ {f:Addr}{fd:FuncData},Fun K x x st f fd->mg x=some (.ref f)->zco5 K (.ref f)=true->zao8 K fd ps []->FnOk P w K mg base CX k f fd ps sp)(b:∀ (kV doc pm:Value) (an:Option Addr) (cdv ct:Value) (us:List Value),us.length=ps.length->bindArgs (zcm8 x x (zn2 st) (zj0 st) (za7 st) .none kV doc pm an cdv ct) ⟨us,[]⟩=pure (ps.zip us):=by walk_at "bd"):Def P w K mg base CX k x ps sp:=by
 obtain⟨f,od,an,sl,oc,kV,dc,pm,cd,ct,a,l,c,k⟩:=A
 have F:=zbb8 (st:=st) l c k
 have a:=zcl9 E.x E.g a
 exact⟨⟨_,_,ok F a k (F.binds b),a,k,F.binds b⟩⟩
theorem Ev.d(E:Ev P w K mg base h)(A:FA K x st)(ok:∀ {f:Addr}{fd:FuncData},Fun K x x st f fd->FnOk P w K mg base CX k f fd ps sp)(b:∀ (kV doc pm:Value) (an:Option Addr) (cdv ct:Value) (us:List Value),us.length=ps.length->bindArgs (zcm8 x x (zn2 st) (zj0 st) (za7 st) .none kV doc pm an cdv ct) ⟨us,[]⟩=pure (ps.zip us):=by walk_at "bd"):Def P w K mg base CX k x ps sp:=E.r A (fun F _ _ _=>ok F) b
theorem Ev.dc{c T:Addr}(E:Ev P w K mg base h)(A:FA K x st)(hT:zcp5 K x=some (c,T))(ok:∀ {f:Addr}{fd:FuncData},Fun K x x st f fd->fd.code=.ref c->FnOk P w K mg base CX k f fd ps sp)(b:∀ (kV doc pm:Value) (an:Option Addr) (cdv ct:Value) (us:List Value),us.length=ps.length->bindArgs (zcm8 x x (zn2 st) (zj0 st) (za7 st) .none kV doc pm an cdv ct) ⟨us,[]⟩=pure (ps.zip us):=by walk_at "bd"):Def P w K mg base CX k x ps sp:=by
 obtain⟨f,od,an,sl,oc,kV,dc,pm,cd,ct,a,l,c,k⟩:=A
 have F:=zbb8 (st:=st) l c k
 have e:cd=.ref _:=zbq3 hT a l
 have a:=zcl9 E.x E.g a
 exact⟨⟨_,_,ok F e,a,k,F.binds b⟩⟩
end
theorem all_mk{l:PySem.W.OpenLaw}{w:World}{K:zcf5}{h:Heap}{mg:Str->Option Value}{fa:Addr}(X:K.In h)(G:h.Ns zcq2 mg)(hfa:mg "law"=some (.ref fa)){zcc0:Tok}{zcb7:Tok}{zca3:Addr}{zce3:ClassData}{zca4:Addr}{zce6:ClassData}{zca7:Addr}{zcf0:ClassData}{zcb3:Addr}{zcf2:ClassData}{zca1:Addr}{zce7:ClassData}{zca8:Addr}{zcf1:ClassData}{zca6:Addr}{zce9:ClassData}{zca5:Addr}{zce8:ClassData}{a_cod a_tab:Addr}(e_MOST_HOSTS:zcj4 K zcq2 "MOST_HOSTS"=some (some (.int 40 zcc0)))(e_MOST_FIELDS:zcj4 K zcq2 "MOST_FIELDS"=some (some (.int 8 zcb7)))(A_0:FA K "is_whole" zv9)(A_1:FA K "is_from" zz1)(A_2:FA K "is_between" zq2)(A_3:FA K "is_size" zaa0)(A_4:FA K "is_flow" zaa7)(A_5:FA K "is_row" zai4)(A_6:FA K "begins" zag2)(A_7:FA K "summed" zag7)(A_8:FA K "meets" zar1)(A_9:FA K "is_stream" zr8)(A_10:FA K "hosts_in" zw3)(A_11:FA K "is_any_stream" zl4)(A_12:FA K "look_stream" zo6)(A_13:FA K "whole_in" zw0)(A_14:FA K "sent_on" zab9)(A_15:FA K "taken_apart" zn9)(A_16:FA K "row_shares" zp6)(A_17:FA K "shares_of" zs6)(A_18:FA K "_law_mix" zx1)(A_19:FA K "_law_cell_at" zm9)(A_20:FA K "_law_left" zs5)(A_21:FA K "_law_draw" zs2)(A_22:FA K "_law_plan" zs0)(A_23:FA K "_law_lot" zv5)(A_24:FA K "_law_flows" zq3)(A_25:FA K "_law_whole" zq6)(A_26:FA K "_law_is_row" zo8)(A_27:FA K "_law_is_stream" zk1)(A_28:FA K "_law_copy" zs1)(A_29:FA K "_law_bent" zr9)(A_30:FA K "_law_is_any" zo7)(A_31:FA K "_law_refused" zm8)(A_32:FA K "law" zaq1)(z_ValueError:zcj4 K zcq2 "ValueError"=some none)(z_all:zcj4 K zcq2 "all"=some none)(z_bool:zcj4 K zcq2 "bool"=some none)(z_int:zcj4 K zcq2 "int"=some none)(z_isinstance:zcj4 K zcq2 "isinstance"=some none)(z_len:zcj4 K zcq2 "len"=some none)(z_list:zcj4 K zcq2 "list"=some none)(z_min:zcj4 K zcq2 "min"=some none)(z_range:zcj4 K zcq2 "range"=some none)(z_set:zcj4 K zcq2 "set"=some none)(z_sorted:zcj4 K zcq2 "sorted"=some none)(z_sum:zcj4 K zcq2 "sum"=some none)(z_tuple:zcj4 K zcq2 "tuple"=some none)(z_zip:zcj4 K zcq2 "zip"=some none)(e_HostError:zcj4 K zcq2 "HostError"=some (some (.ref zca3)))(kk_HostError:zcl3 K zca3=some zce3)(tt_HostError:zcn3 K (.ref zca3)=some (.type "type"))(nn_HostError:zck1 K (.type "NoneType") (.ref zca3)=some false)(e_NoBattle:zcj4 K zcq2 "NoBattle"=some (some (.ref zca4)))(kk_NoBattle:zcl3 K zca4=some zce6)(tt_NoBattle:zcn3 K (.ref zca4)=some (.type "type"))(nn_NoBattle:zck1 K (.type "NoneType") (.ref zca4)=some false)(e_NoPlan:zcj4 K zcq2 "NoPlan"=some (some (.ref zca7)))(kk_NoPlan:zcl3 K zca7=some zcf0)(tt_NoPlan:zcn3 K (.ref zca7)=some (.type "type"))(nn_NoPlan:zck1 K (.type "NoneType") (.ref zca7)=some false)(e_NoMix:zcj4 K zcq2 "NoMix"=some (some (.ref zcb3)))(kk_NoMix:zcl3 K zcb3=some zcf2)(tt_NoMix:zcn3 K (.ref zcb3)=some (.type "type"))(nn_NoMix:zck1 K (.type "NoneType") (.ref zcb3)=some false)(e_NoStream:zcj4 K zcq2 "NoStream"=some (some (.ref zca1)))(kk_NoStream:zcl3 K zca1=some zce7)(tt_NoStream:zcn3 K (.ref zca1)=some (.type "type"))(nn_NoStream:zck1 K (.type "NoneType") (.ref zca1)=some false)(e_NoSide:zcj4 K zcq2 "NoSide"=some (some (.ref zca8)))(kk_NoSide:zcl3 K zca8=some zcf1)(tt_NoSide:zcn3 K (.ref zca8)=some (.type "type"))(nn_NoSide:zck1 K (.type "NoneType") (.ref zca8)=some false)(e_NoAlike:zcj4 K zcq2 "NoAlike"=some (some (.ref zca6)))(kk_NoAlike:zcl3 K zca6=some zce9)(tt_NoAlike:zcn3 K (.ref zca6)=some (.type "type"))(nn_NoAlike:zck1 K (.type "NoneType") (.ref zca6)=some false)(e_NoNumber:zcj4 K zcq2 "NoNumber"=some (some (.ref zca5)))(kk_NoNumber:zcl3 K zca5=some zce8)(tt_NoNumber:zcn3 K (.ref zca5)=some (.type "type"))(nn_NoNumber:zck1 K (.type "NoneType") (.ref zca5)=some false)(bb_HostError:zck1 K (.ref zca3) (.type "BaseException")=some true)(x_NoStream:PySem.W.excIn K zca1 bmV newV=true)(f1_NoStream:zcn2 K (.ref zca1) "__getattribute__"=some (some (.builtin "BaseException.__getattribute__")))(f2_NoStream:zcn2 K (.ref zca1) "__getattr__"=some none)(f3_NoStream:zcn2 K (.ref zca1) "__class__"=some (some (.builtin "object.__class__")))(f4_NoStream:zck1 K (.ref zca1) (.type "BaseException")=some true)(f5_NoStream:PySem.W.mroIn K zca1 (.type "object")=some true)(f6_NoStream:zck1 K (.ref zca1) (.type "ValueError")=some true)(s_NoStream_HostError:zck1 K (.ref zca1) (.ref zca3)=some true)(s_NoStream_NoBattle:zck1 K (.ref zca1) (.ref zca4)=some false)(s_NoStream_NoPlan:zck1 K (.ref zca1) (.ref zca7)=some false)(s_NoStream_NoMix:zck1 K (.ref zca1) (.ref zcb3)=some false)(s_NoStream_NoStream:zck1 K (.ref zca1) (.ref zca1)=some true)(s_NoStream_NoSide:zck1 K (.ref zca1) (.ref zca8)=some false)(s_NoStream_NoAlike:zck1 K (.ref zca1) (.ref zca6)=some false)(s_NoStream_NoNumber:zck1 K (.ref zca1) (.ref zca5)=some false)(hTAB:zcp5 K "taken_apart"=some (a_cod,a_tab)) :
  ∃ (c T:Addr) (fd:FuncData),zcp5 K "taken_apart"=some (c,T)/\(∀ (s:Shared) (v:Value),BindsTo s fd ⟨[v],[]⟩ [("_law_script",v)])/\∀ base:Heap,K.In base->base.Ns zcq2 mg->PySem.W.CodeHd base c T->Bm mg base->FnOk l.prog w K mg base CX0 12 fa fd ["_law_script"] (zar9 K T):=by
 obtain⟨_,_,an,_,_,kV,dc,pm,cd,ct,aL,lL,cL,kL⟩:=A_32
 have e:=hfa.symm.trans (zcl9 X G aL)
 cases e
 have N:Nm mg:=⟨zcj7 X G z_ValueError,zcj7 X G z_all,zcj7 X G z_bool,zcj7 X G z_int,zcj7 X G z_isinstance,zcj7 X G z_len,zcj7 X G z_list,zcj7 X G z_min,zcj7 X G z_range,zcj7 X G z_set,zcj7 X G z_sorted,zcj7 X G z_sum,zcj7 X G z_tuple,zcj7 X G z_zip⟩
 have zce4:=zcl9 X G e_MOST_HOSTS
 have zce2:=zcl9 X G e_MOST_FIELDS
 refine⟨a_cod,a_tab,zcm8 "law" "law" (zn2 zaq1) (zj0 zaq1) (za7 zaq1) .none kV dc pm an cd ct,hTAB,fun s v=>.of_eq rfl,fun base XB GB hCH hBM=>?_⟩
 have E:Ev l.prog w K mg base h:=⟨X,G⟩
 have Z:Cz K mg base zca3 zca4 zca7 zcb3 zca1 zca8 zca6 zca5:=⟨zcl9 X G e_HostError,zcl9 X G e_NoBattle,zcl9 X G e_NoPlan,zcl9 X G e_NoMix,zcl9 X G e_NoStream,zcl9 X G e_NoSide,zcl9 X G e_NoAlike,zcl9 X G e_NoNumber,zbn9 XB GB e_NoStream x_NoStream,⟨f1_NoStream,f2_NoStream,f3_NoStream,f4_NoStream,f5_NoStream⟩,by rw[kk_NoStream];rfl,zbu5 bb_HostError kk_HostError tt_HostError s_NoStream_HostError,zad8 f6_NoStream,zq4 kk_HostError tt_HostError s_NoStream_HostError s_NoStream_NoStream,zq4 kk_NoBattle tt_NoBattle s_NoStream_NoBattle s_NoStream_NoStream,zq4 kk_NoPlan tt_NoPlan s_NoStream_NoPlan s_NoStream_NoStream,zq4 kk_NoMix tt_NoMix s_NoStream_NoMix s_NoStream_NoStream,zq4 kk_NoStream tt_NoStream s_NoStream_NoStream s_NoStream_NoStream,zq4 kk_NoSide tt_NoSide s_NoStream_NoSide s_NoStream_NoStream,zq4 kk_NoAlike tt_NoAlike s_NoStream_NoAlike s_NoStream_NoStream,zq4 kk_NoNumber tt_NoNumber s_NoStream_NoNumber s_NoStream_NoStream,zm3 kk_HostError tt_HostError nn_HostError,zm3 kk_NoBattle tt_NoBattle nn_NoBattle,zm3 kk_NoPlan tt_NoPlan nn_NoPlan,zm3 kk_NoMix tt_NoMix nn_NoMix,zm3 kk_NoStream tt_NoStream nn_NoStream,zm3 kk_NoSide tt_NoSide nn_NoSide,zm3 kk_NoAlike tt_NoAlike nn_NoAlike,zm3 kk_NoNumber tt_NoNumber nn_NoNumber⟩
 have zcd6:=E.d A_0 fun F=>zar3 F N
 have zcb5:=E.d A_1 fun F=>zaz1 F N zcd6
 have zcb0:=E.d A_2 fun F=>zah6 F N zcb5
 have zce0:=E.d A_3 fun F=>zaz8 F N zce2 zce4 zcb0
 have zcd9:=E.d A_4 fun F=>zay3 F N zcb0 zcb5
 have zcc7:=E.d A_5 fun F=>zbf1 F N zcd9
 have zcc8:=E.d A_6 fun F=>zba8 F N zcc7
 have zcc1:=E.d A_7 fun F=>zbh4 F N
 have zce5:=E.d A_8 fun F=>zbn6 F N zcc1
 have zcd0:=E.d A_9 fun F=>zak3 F N zcc8 zcc7 zce5
 have zca9:=E.d A_10 fun F=>zap9 F N
 have zcb6:=E.d A_11 fun F=>zy6 F N zcc8 zca9 zce0 zcd0
 have zcb1:=E.d A_12 fun F=>zad5 F N zcb6 Z
 have zcd7:=E.d A_13 fun F=>zao1 F N
 have zce1:=E.d A_14 fun F=>zaz3 F N
 have zcc2:=E.dc A_15 hTAB fun F hc=>zac9 F N hc hCH hBM zca9 zcb1 zce1 zcd7
 have zcc5:=E.d A_16 fun F=>zah5 F N zcc1
 have zcd2:=E.d A_17 fun F=>zal5 F N zca9 zcb1 zcc5
 have zcc9:=E.d A_18 fun F=>zao5 F N
 have zcb8:=E.d A_19 fun F=>zac0 F N
 have zcd5:=E.d A_20 fun F=>zal3 F N zcb8
 have zca2:=E.d A_21 fun F=>zal8 F N zcc9
 have zcd1:=E.d A_22 fun F=>zan5 F N zca2
 have zcd8:=E.d A_23 fun F=>zap8 F N zca2 zcd1
 have zcc6:=E.d A_24 fun F=>zai3 F N
 have zcc4:=E.d A_25 fun F=>zai8 F N
 have zcb2:=E.d A_26 fun F=>zad6 F N zcc4
 have zcb4:=E.d A_27 fun F=>zv6 F N zcb2
 have zcd4:=E.d A_28 fun F=>zam2 F N
 have zcd3:=E.d A_29 fun F=>zak2 F N zca2
 have zcc3:=E.d A_30 fun F=>zad1 F N zcb2 zcb4
 have zcb9:=E.d A_31 fun F=>zac2 F N zcd2 zcc2 Z
 exact ok_law (P:=l.prog) (w:=w) (base:=base) (zbb8 (st:=zaq1) lL cL kL) N zcd3 zcd4 zca2 zcc6 zcc3 zcd5 zcd8 zcb9
theorem walk{l:PySem.W.OpenLaw}{q:Program}{loose:List Str}{XP:(Str->Option Value)->Heap->Prop}{YP:World->Heap->Prop}{d:DefRec}{K:Params->zcf5}(hn:l.most=some 63)(hdf:d.params.defaults=[])(hY:∀ (w:World) (h:Heap),YP w h->(K w.params).In h){d9:DefRec}(hnt:∀ w:World,PySem.W.noTabs (K w.params)=true)(hrec:(PyProof.Rows.recsOf q).find? (fun e=>e.name==Str.ofString "taken_apart")=some d9)(F:∀ (w:World) (mg:Str->Option Value) (fa:Addr) (h:Heap),(K w.params).In h->h.Ns zcq2 mg->mg d.name=some (.ref fa) ->
   ∃ (c T:Addr) (fd:FuncData),zcp5 (K w.params) (Str.ofString "taken_apart")=some (c,T)/\(∀ (s:Shared) (u:Value),BindsTo s fd ⟨[u],[]⟩ [("_law_script",u)])/\∀ base:Heap,(K w.params).In base->base.Ns zcq2 mg->PySem.W.CodeHd base c T->Bm mg base->FnOk l.prog w (K w.params) mg base CX0 12 fa fd ["_law_script"] (zar9 (K w.params) T)) :
  PySem.W.WalkO q loose XP YP l.row.toRowW d [] (fun f vs=>PySem.call f vs):=
 L2.walk_ofT (n:=63) (k:=12) (x:="_law_script") (CX:=fun _=>CX0) (sp:=fun w T=>zar9 (K w.params) T) hn (by decide) hdf ⟨rfl,by decide,by decide,rfl⟩ hY "taken_apart" hnt hrec F (fun _ _ _ a ns hl hT hS=>⟨a,ns,rfl,hS,hl,hT,fun _=>rfl⟩) fun _ _ _ _ _ z=>z
end G
namespace PySem.W.Fast
theorem tw7342069411946588212:True:=⟨⟩
theorem tw12222284318660909007:True:=⟨⟩
theorem tw15192709115011939123:True:=⟨⟩
theorem tw1576900957037796319:True:=⟨⟩
theorem tw5866182974771737334:True:=⟨⟩
theorem tw9019527100945709963:True:=⟨⟩
theorem tw6052353203686825092:True:=⟨⟩
theorem tw13199852699925627518:True:=⟨⟩
theorem tw17033164062248170255:True:=⟨⟩
theorem tw5355797566348438171:True:=⟨⟩
theorem tw5703259512467379950:True:=⟨⟩
theorem tw3122766979992205347:True:=⟨⟩
theorem tw16115856944421609412:True:=⟨⟩
theorem tw1795606029768262831:True:=⟨⟩
theorem tw4330299575215286838:True:=⟨⟩
theorem tw2156708717061725818:True:=⟨⟩
theorem tw7050839476834035467:True:=⟨⟩
theorem tw12145335851014312495:True:=⟨⟩
theorem tw5759370894867318271:True:=⟨⟩
theorem tw17486158513760387786:True:=⟨⟩
theorem tw7254361473567398354:True:=⟨⟩
theorem tw1974221570186105443:True:=⟨⟩
theorem tw10622679630848878708:True:=⟨⟩
theorem tw6819915735522229401:True:=⟨⟩
theorem tw14188892372641533754:True:=⟨⟩
theorem tw2477507824689239575:True:=⟨⟩
theorem tw15823281292750983500:True:=⟨⟩
theorem tw15653392771729460845:True:=⟨⟩
theorem tw16842889036795424772:True:=⟨⟩
theorem tw8033893722442678081:True:=⟨⟩
theorem tw5780461521552114101:True:=⟨⟩
theorem tw10724468299146850053:True:=⟨⟩
theorem tw4596051376164672541:True:=⟨⟩
theorem tw2401943804351223056:True:=⟨⟩
theorem tw1068447952890887491:True:=⟨⟩
theorem tw4098051157671677944:True:=⟨⟩
theorem tw6452412953263333660:True:=⟨⟩
theorem tw11536850450590801172:True:=⟨⟩
theorem tw567125725280548356:True:=⟨⟩
theorem tw17796578537820795863:True:=⟨⟩
theorem tw6673933359452833428:True:=⟨⟩
theorem tw392383399513212008:True:=⟨⟩
theorem tw8191542155812839945:True:=⟨⟩
theorem tw9566328593614485461:True:=⟨⟩
theorem tw1847714248851946534:True:=⟨⟩
theorem tw2875567686268641819:True:=⟨⟩
theorem tw10860920249608186845:True:=⟨⟩
theorem tw2088366785631102128:True:=⟨⟩
theorem tw231994243937042579:True:=⟨⟩
theorem tw17784171207177072132:True:=⟨⟩
theorem tw9222688932727313218:True:=⟨⟩
theorem tw6141841271642678972:True:=⟨⟩
theorem tw10830819163997216628:True:=⟨⟩
theorem tw2999559515629383148:True:=⟨⟩
theorem tw12665236149105693196:True:=⟨⟩
theorem tw11338625512091259576:True:=⟨⟩
theorem tw155053644831944481:True:=⟨⟩
theorem tw9155359413300834924:True:=⟨⟩
theorem tw6615991598566593647:True:=⟨⟩
theorem tw12966768705065255834:True:=⟨⟩
theorem tw5138961323528081108:True:=⟨⟩
theorem tw13324460080294581988:True:=⟨⟩
theorem tw13979589079517088724:True:=⟨⟩
theorem tw2291572874797976652:True:=⟨⟩
theorem tw14784905599582277388:True:=⟨⟩
theorem tw9066528718694653174:True:=⟨⟩
theorem tw5965061900853365588:True:=⟨⟩
theorem tw14311878502133005404:True:=⟨⟩
theorem tw17837545215701301816:True:=⟨⟩
theorem tw13935846169396894917:True:=⟨⟩
theorem tw13565546818457993280:True:=⟨⟩
theorem tw7045012529068917147:True:=⟨⟩
theorem tw17178622496050512782:True:=⟨⟩
theorem tw14394549114176450499:True:=⟨⟩
theorem tw11226413673384078215:True:=⟨⟩
theorem tw18134676732359012327:True:=⟨⟩
theorem tw8575605249278400083:True:=⟨⟩
theorem tw10891109991387813529:True:=⟨⟩
theorem tw15368887034863354941:True:=⟨⟩
theorem tw3306376659548277290:True:=⟨⟩
theorem tw17071994754816795266:True:=⟨⟩
theorem tw2021027461899849184:True:=⟨⟩
theorem tw8174261895511496672:True:=⟨⟩
theorem tw11283510624510681187:True:=⟨⟩
theorem tw4242037060623085741:True:=⟨⟩
theorem tw15115247473585381326:True:=⟨⟩
theorem tw7354653366900367725:True:=⟨⟩
theorem tw1406507781989603365:True:=⟨⟩
theorem tw3632950278720348477:True:=⟨⟩
theorem tw1656306404018621886:True:=⟨⟩
theorem tw17265235939067225483:True:=⟨⟩
theorem tw16769406016827044518:True:=⟨⟩
theorem tw7835034289241112839:True:=⟨⟩
theorem tw11969514851264433640:True:=⟨⟩
theorem tw5051367454851123968:True:=⟨⟩
theorem tw11649812244590114840:True:=⟨⟩
theorem tw8377437619961662353:True:=⟨⟩
theorem tw13425026163040572190:True:=⟨⟩
theorem tw4382288553540129077:True:=⟨⟩
theorem tw5717854658339738796:True:=⟨⟩
theorem tw7859897885777362076:True:=⟨⟩
theorem tw5842727713663059325:True:=⟨⟩
theorem tw4139412927389451135:True:=⟨⟩
theorem tw10817654648713120513:True:=⟨⟩
theorem tw11895899508962421004:True:=⟨⟩
theorem tw4448015303894098768:True:=⟨⟩
theorem tw6978979543217189917:True:=⟨⟩
theorem tw6014801819603198308:True:=⟨⟩
theorem tw18172052433874596629:True:=⟨⟩
theorem tw15630473716304119252:True:=⟨⟩
theorem tw16517011079403732689:True:=⟨⟩
theorem tw17612141323679527581:True:=⟨⟩
theorem tw1740884829340915493:True:=⟨⟩
theorem tw7107640118559633975:True:=⟨⟩
theorem tw12931336579859713937:True:=⟨⟩
theorem tw16052187415881680768:True:=⟨⟩
theorem tw3278982038906223905:True:=⟨⟩
theorem tw15173344623001948420:True:=⟨⟩
theorem tw16897072758179825558:True:=⟨⟩
theorem tw6378158909781055698:True:=⟨⟩
theorem tw13339747326106901163:True:=⟨⟩
theorem tw6985461779843481512:True:=⟨⟩
theorem tw13337118669332947535:True:=⟨⟩
theorem tw16107463252227041958:True:=⟨⟩
theorem tw14964218421813468233:True:=⟨⟩
theorem tw14867692366801220028:True:=⟨⟩
theorem tw16678166330852135528:True:=⟨⟩
theorem tw5073172668339038755:True:=⟨⟩
theorem tw18340940442575538685:True:=⟨⟩
theorem tw13546098101799319781:True:=⟨⟩
theorem tw12035604618440134185:True:=⟨⟩
theorem tw4075360019967307101:True:=⟨⟩
theorem tw2898398266649048174:True:=⟨⟩
theorem tw11959799834468370141:True:=⟨⟩
theorem tw11724394668425744991:True:=⟨⟩
theorem tw13941637878706452252:True:=⟨⟩
theorem tw8970047431032665492:True:=⟨⟩
theorem tw4268823699923140024:True:=⟨⟩
theorem tw5296607801564303230:True:=⟨⟩
theorem tw780862541777706330:True:=⟨⟩
theorem tw325909343953087645:True:=⟨⟩
theorem tw8838492457690395494:True:=⟨⟩
theorem tw16964154159017395744:True:=⟨⟩
theorem tw2264777053989880093:True:=⟨⟩
theorem tw384610949027040477:True:=⟨⟩
theorem tw4645284997380016930:True:=⟨⟩
theorem tw8438122467694315354:True:=⟨⟩
theorem tw18406227535497161867:True:=⟨⟩
theorem tw2401710767564284362:True:=⟨⟩
theorem tw6755175548087276158:True:=⟨⟩
theorem tw14922293803635458173:True:=⟨⟩
theorem tw16788025405538579538:True:=⟨⟩
theorem tw7945011946063628156:True:=⟨⟩
theorem tw17317588952022442232:True:=⟨⟩
theorem tw13373023194018724785:True:=⟨⟩
theorem tw8686373744962683299:True:=⟨⟩
theorem tw16884456219746685355:True:=⟨⟩
theorem tw3252828592125030287:True:=⟨⟩
theorem tw5865409072051357662:True:=⟨⟩
theorem tw1517360513920323639:True:=⟨⟩
theorem tw17828163716222524940:True:=⟨⟩
theorem tw2912991751993870079:True:=⟨⟩
theorem tw8876425281762621347:True:=⟨⟩
theorem tw10891477054915794824:True:=⟨⟩
theorem tw3853913179825916857:True:=⟨⟩
theorem tw12731665083584033297:True:=⟨⟩
theorem tw14872767237672163037:True:=⟨⟩
theorem tw6417917041933433492:True:=⟨⟩
theorem tw4921478654091895567:True:=⟨⟩
theorem tw12991039284284427861:True:=⟨⟩
theorem tw2044899471233232837:True:=⟨⟩
theorem tw6157017139356217965:True:=⟨⟩
theorem tw17848658800167599566:True:=⟨⟩
theorem tw11615323690198431419:True:=⟨⟩
theorem tw704035990155687633:True:=⟨⟩
theorem tw8974115264271999548:True:=⟨⟩
theorem tw15903472144476409493:True:=⟨⟩
theorem tw9770853676903767755:True:=⟨⟩
theorem tw3275431300277324516:True:=⟨⟩
theorem tw7584367523542701298:True:=⟨⟩
theorem tw6560712244728520909:True:=⟨⟩
theorem tw10194512301137685914:True:=⟨⟩
theorem tw272839099513039674:True:=⟨⟩
theorem tw3894244860045580399:True:=⟨⟩
theorem tw9046062477760435036:True:=⟨⟩
theorem tw2208714063759078184:True:=⟨⟩
theorem tw12960709594975794110:True:=⟨⟩
theorem tw14995393559967527825:True:=⟨⟩
theorem tw8881088351280860109:True:=⟨⟩
theorem tw13077718662224794242:True:=⟨⟩
theorem tw4248642348700179509:True:=⟨⟩
theorem tw6603983219597688209:True:=⟨⟩
theorem tw17926562953920383417:True:=⟨⟩
end PySem.W.Fast
open PySem PySem.W PyProof.Rows
set_option maxRecDepth 100000 in
theorem PySem.Challenge.cw_hostfields_k24_streams_refused_holds : PySem.Challenge.rw_hostfields_k24_streams_refused.Holds := by
 w_on;o_law;k_head;(case hw=>w_witness2)
 k_fill
 first|refine' G.walk (l:=PySem.Challenge.rw_hostfields_k24_streams_refused) rfl rfl (fun w h Y=>PySem.W.kIn_of Y) ?hnt ?hrec ?F|refine' G.walk (l:=PySem.Challenge.rw_hostfields_k24_streams_refused) rfl rfl (fun w h Y=>PySem.W.km_in_of Y) ?hnt ?hrec ?F
 (case hnt=>intro w;kernel_rfl)
 (case hrec=>rfl)
 case F=>
  intro w mg fa h KX GG hmg
  refine' G.all_mk (a_cod:=214) (a_tab:=210) KX GG hmg ?e_MOST_HOSTS ?e_MOST_FIELDS ?_ ?_ ?_ ?_ ?_ ?_ ?_ ?_ ?_ ?_ ?_ ?_ ?_ ?_ ?_ ?_ ?_ ?_ ?_ ?_ ?_ ?_ ?_ ?_ ?_ ?_ ?_ ?_ ?_ ?_ ?_ ?_ ?_ ?z_ValueError ?z_all ?z_bool ?z_int ?z_isinstance ?z_len ?z_list ?z_min ?z_range ?z_set ?z_sorted ?z_sum ?z_tuple ?z_zip ?e_HostError ?kk_HostError ?tt_HostError ?nn_HostError ?e_NoBattle ?kk_NoBattle ?tt_NoBattle ?nn_NoBattle ?e_NoPlan ?kk_NoPlan ?tt_NoPlan ?nn_NoPlan ?e_NoMix ?kk_NoMix ?tt_NoMix ?nn_NoMix ?e_NoStream ?kk_NoStream ?tt_NoStream ?nn_NoStream ?e_NoSide ?kk_NoSide ?tt_NoSide ?nn_NoSide ?e_NoAlike ?kk_NoAlike ?tt_NoAlike ?nn_NoAlike ?e_NoNumber ?kk_NoNumber ?tt_NoNumber ?nn_NoNumber ?bb_HostError ?x_NoStream ?f1_NoStream ?f2_NoStream ?f3_NoStream ?f4_NoStream ?f5_NoStream ?f6_NoStream ?s_NoStream_HostError ?s_NoStream_NoBattle ?s_NoStream_NoPlan ?s_NoStream_NoMix ?s_NoStream_NoStream ?s_NoStream_NoSide ?s_NoStream_NoAlike ?s_NoStream_NoNumber ?hTAB
  (case e_MOST_HOSTS=>k_is)
  (case e_MOST_FIELDS=>k_is)
  (case z_ValueError=>k_is)
  (case z_all=>k_is)
  (case z_bool=>k_is)
  (case z_int=>k_is)
  (case z_isinstance=>k_is)
  (case z_len=>k_is)
  (case z_list=>k_is)
  (case z_min=>k_is)
  (case z_range=>k_is)
  (case z_set=>k_is)
  (case z_sorted=>k_is)
  (case z_sum=>k_is)
  (case z_tuple=>k_is)
  (case z_zip=>k_is)
  (case e_HostError=>k_is)
  (case kk_HostError=>k_is)
  (case tt_HostError=>k_is)
  (case nn_HostError=>k_is)
  (case e_NoBattle=>k_is)
  (case kk_NoBattle=>k_is)
  (case tt_NoBattle=>k_is)
  (case nn_NoBattle=>k_is)
  (case e_NoPlan=>k_is)
  (case kk_NoPlan=>k_is)
  (case tt_NoPlan=>k_is)
  (case nn_NoPlan=>k_is)
  (case e_NoMix=>k_is)
  (case kk_NoMix=>k_is)
  (case tt_NoMix=>k_is)
  (case nn_NoMix=>k_is)
  (case e_NoStream=>k_is)
  (case kk_NoStream=>k_is)
  (case tt_NoStream=>k_is)
  (case nn_NoStream=>k_is)
  (case e_NoSide=>k_is)
  (case kk_NoSide=>k_is)
  (case tt_NoSide=>k_is)
  (case nn_NoSide=>k_is)
  (case e_NoAlike=>k_is)
  (case kk_NoAlike=>k_is)
  (case tt_NoAlike=>k_is)
  (case nn_NoAlike=>k_is)
  (case e_NoNumber=>k_is)
  (case kk_NoNumber=>k_is)
  (case tt_NoNumber=>k_is)
  (case nn_NoNumber=>k_is)
  (case bb_HostError=>k_is)
  (case x_NoStream=>k_exc)
  (case f1_NoStream=>k_is)
  (case f2_NoStream=>k_is)
  (case f3_NoStream=>k_is)
  (case f4_NoStream=>k_is)
  (case f5_NoStream=>k_is)
  (case f6_NoStream=>k_is)
  (case s_NoStream_HostError=>k_is)
  (case s_NoStream_NoBattle=>k_is)
  (case s_NoStream_NoPlan=>k_is)
  (case s_NoStream_NoMix=>k_is)
  (case s_NoStream_NoStream=>k_is)
  (case s_NoStream_NoSide=>k_is)
  (case s_NoStream_NoAlike=>k_is)
  (case s_NoStream_NoNumber=>k_is)
  (case hTAB=>kernel_rfl)
  all_goals (apply G.FA.of;k_is;k_is;k_is;k_is)
