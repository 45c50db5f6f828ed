import PyProof.Rows.All
import Wide.All
import OpenK.AllK
import Wide.FinOn
import Lean
import PyProof.EqAt
import PyProof.EqKinds
import PyProof.TupleCall
import PyProof.NeKinds
import PyProof.CompFree
import PyProof.EnumMake
import KE.KTryMore
import PyProof.ExcArgsOwn
import PyProof.ZipIter
import PyProof.ListRange
import KE.KIsAll
import PyProof.InstStoreFacts
import PyProof.ExcInit
import PyProof.ReprRoads
import PyProof.CallStr
import KE.KEqDict
import PyProof.EqLayable
import KE.KRevIter
import PyProof.CollectIter
import PyProof.Rows.SetFrom
import PyProof.TupleKey
import PyProof.SetScanFacts
import KE.KSortKey
import PyProof.StrBlock2
import KE.KLam
import PyProof.StrLawsRepr
import PySem.Challenge.RW_hostfields_k23_whole_shares_alone_count
open List renaming length_map->zcl9,getElem?_eq_getElem->zcm0,getElem?_eq_some_iff->zcm1,getD_eq_getElem?_getD->zcm4,getElem?_map->zcm5,mem_of_getElem?->zcm6,size_toArray->zcm8,mem_cons->zcm9,length_append->zcn1,mem_map->zcn5,all_eq_true->zcn6,map_congr_left->zcn7,map_cons->zcn9,map_map->zco0,map_append->zco1,getElem?_append_left->zco2,length_cons->zco4,getElem?_append_right->zco5,not_mem_nil->zcp1,getElem?_of_mem->zcp3,sum_cons->zcp6,getElem?_eq_none->zcp7,mem_append->zcq0,mem_append_right->zcq1,pairwise_cons->zcq3,mem_cons_of_mem->zcq4,lookup_cons->zcq5,mem_range->zcq6,length_range->zcq9,mem_cons_self->zcr0,take_of_length_le->zcr1,length_nil->zcr4,find?_cons->zcr5,length_take->zcr6,length_drop->zcr7,drop_eq_getElem_cons->zcr9,getElem?_range->zcs0,all_map->zcs2,getElem_mem->zcs4,length_singleton->zcs9,mem_singleton->zct1,pairwise_iff_getElem->zct3,ext_getElem?->zct6,nodup_cons->zct7,sum_append->zct8,replicate_succ->zcu0,map_nil->zcu1,drop_eq_nil_of_le->zcu2,filter_cons->zcu3,mem_filterMap->zcu4,mem_append_left->zcu7,mem_of_mem_drop->zcu9,ext_getElem->zcv2
open PySem.W renaming Frag->zcm2,kitOne->zco3,subIn->zco8,findIn->zcp0,nsIn->zcp8,mg_none_of->zcq2,kia_one->zcr2,mg_of->zcr8,fnOf->zcs1,typeIn->zcs3,clsIn->zcs6,keepIn->zct4,hideAll_get->zct9,tabIn->zcv0,codeIn->zcv1
open PySem.Heap renaming get?_push_of_some->zcm3,lt_size->zcn3,get?_push_size->zcn8,get?_update_other->zco7,get?_update_self->zcq7,size_push->zcu5
open Option renaming map_eq_some_iff->zcm7
open Bool renaming false_ne_true->zcn0,and_eq_true->zcn2,true_and->zcp9,false_eq_true->zct0
open Nat renaming le_refl->zcn4,lt_of_lt_of_le->zco6,ne_of_lt->zcp2,zero_le->zcp5,le_add_right->zcq8,le_trans->zcr3,lt_irrefl->zcs5,ne_of_gt->zcs7
open Array renaming length_toList->zco9,getElem?_toList->zcp4,getElem?_eq_some_iff->zcs8,getElem?_eq_getElem->zct2,getD_eq_getD_getElem?->zcu6,mem_toList_iff->zcu8
open Int renaming zero_add->zct5
open PySem renaming wpAny_bind->zcv3,wpAny_pure->zcv4,sizeLine_eq->zcv5,wpAny_ite_false->zcv6,tupleKeyHash->zcv7,wpAny_holding->zcv8,mainGlobals->zcv9
set_option Elab.async false
set_option linter.all false
set_option maxRecDepth 100000
namespace L2
open PySem PySem.Spec PyProof.Rows
abbrev Key:=Sum Int Str
variable {h:Heap}{i:Nat}{E:Value->Shared->Prop}{u:Value}{e tg:Expr}{s:Shared}{pins:List (Addr×Obj)}{us:List Value}{C:Addr}
def zbd8:Key->Value->Bool
 | .inl k,v=>Value.isInt k v
 | .inr x,v=>Value.isStrOf x v
def keyH(w:World):Key->Int
 | .inl k=>hashInt k
 | .inr x=>hashStr w x
theorem zf0:∀ {k:Key}{v:Value},zbd8 k v=true->(∃ i t,k=Sum.inl i/\v=Value.int i t)∨(∃ x t,k=Sum.inr x/\v=Value.str x t)
 | .inl i,v,h=>by
  obtain⟨t,e⟩:=Value.isInt_shape (k:=i) (v:=v) h
  exact .inl ⟨i,t,rfl,e⟩
 | .inr x,v,h=>by
  obtain⟨t,e⟩:=Value.isStrOf_shape (x:=x) (v:=v) h
  exact .inr ⟨x,t,rfl,e⟩
theorem zbp2(i:Int)(t:Tok):zbd8 (.inl i) (.int i t)=true:=by simp[zbd8,Value.isInt]
theorem zbo8(x:Str)(t:Tok):zbd8 (.inr x) (.str x t)=true:=by simp[zbd8,Value.isStrOf]
theorem key_ll(a b:Int):decide ((Sum.inl a:Key)=Sum.inl b)=(a==b):=by
 by_cases e:a=b
 ·subst e;simp
 ·have h:¬ (Sum.inl a:Key)=Sum.inl b:=fun q=>e (Sum.inl.inj q)
  rw[decide_eq_false h]
  exact (beq_eq_false_iff_ne.mpr e).symm
theorem key_rr(a b:Str):decide ((Sum.inr a:Key)=Sum.inr b)=decide (a=b):=by
 by_cases e:a=b
 ·subst e;simp
 ·have h:¬ (Sum.inr a:Key)=Sum.inr b:=fun q=>e (Sum.inr.inj q)
  rw[decide_eq_false h,decide_eq_false e]
theorem key_lr(a:Int)(b:Str):decide ((Sum.inl a:Key)=Sum.inr b)=false:=decide_eq_false (fun q=>nomatch q)
theorem key_rl(a:Str)(b:Int):decide ((Sum.inr a:Key)=Sum.inl b)=false:=decide_eq_false (fun q=>nomatch q)
def zg7(prog:Program)(w:World):PySem.KeyKind prog w Key where
 is:=zbd8
 hash:=keyH w
 inj:=fun v a b ha hb=>by
  rcases zf0 ha with ⟨i,t,rfl,rfl⟩|⟨x,t,rfl,rfl⟩
  ·rcases zf0 hb with ⟨j,u,rfl,e⟩|⟨y,u,rfl,e⟩
   ·injection e with e1 _;rw[e1]
   ·exact nomatch e
  ·rcases zf0 hb with ⟨j,u,rfl,e⟩|⟨y,u,rfl,e⟩
   ·exact nomatch e
   ·injection e with e1 _;rw[e1]
 byValue:=fun k v h=>by
  rcases zf0 h with ⟨i,t,rfl,rfl⟩|⟨x,t,rfl,rfl⟩<;>rfl
 pyHash:=fun hv h=>by
  rcases zf0 hv with ⟨i,t,rfl,rfl⟩|⟨x,t,rfl,rfl⟩
  ·exact wpAny_pyHash_int h
  ·exact wpAny_pyHash_str h
 eqBool:=fun hu hv h=>by
  rcases zf0 hu with ⟨i,t,rfl,rfl⟩|⟨x,t,rfl,rfl⟩
  ·rcases zf0 hv with ⟨j,u,rfl,rfl⟩|⟨y,u,rfl,rfl⟩
   ·rw[key_ll] at h;exact wpAny_eqBool_int h
   ·rw[key_lr] at h;exact SeqAt.EqAt.int_str i t y u _ _ _ _ h
  ·rcases zf0 hv with ⟨j,u,rfl,rfl⟩|⟨y,u,rfl,rfl⟩
   ·rw[key_rl] at h;exact SeqAt.EqAt.str_int x t j u _ _ _ _ h
   ·rw[key_rr] at h;exact wpAny_eqBool_str h
 «strs»:=fun k x t v h=>by
  rcases zf0 h with ⟨i,u,rfl,e⟩|⟨y,u,rfl,e⟩
  ·exact nomatch e
  ·injection e with e1 _
   subst e1
   cases v<;>rfl
theorem zav8(prog:Program)(w:World)(i:Int)(t:Tok):(zg7 prog w).is (.inl i) (.int i t)=true:=zbp2 i t
theorem zax8(prog:Program)(w:World)(x:Str)(t:Tok):(zg7 prog w).is (.inr x) (.str x t)=true:=zbo8 x t
inductive V where
 | non | bl (b:Bool) | int (i:Int) | str (x:Str) | byt (b:Array UInt8) | flt (b:UInt64) | ref (a:Addr) | ty (n:String)
 deriving DecidableEq
def RelV:V->Value->Prop
 | .non,u=>u=Value.none
 | .bl b,u=>u=Value.bool b
 | .int i,u=>∃ t,u=Value.int i t
 | .str x,u=>∃ t,u=Value.str x t
 | .byt b,u=>∃ t,u=Value.bytes b t
 | .flt b,u=>∃ t,u=Value.float b t
 | .ref a,u=>u=Value.ref a
 | .ty n,u=>u=Value.type n
abbrev Vals:List V->List Value->Prop:=Paired RelV
theorem Vals.length{xs:List V}{us:List Value}(r:Vals xs us):xs.length=us.length:=Paired.length r
theorem Vals.get:∀ {xs:List V}{us:List Value}{i:Nat}{x:V},Vals xs us->xs[i]?=some x->∃ u,us[i]?=some u/\RelV x u
 | _,_,_,_,.nil,e=>by simp at e
 | _,_,0,_,.cons r _,e=>by simp at e;subst e;exact⟨_,rfl,r⟩
 | _,_,i+1,x,.cons _ t,e=>by
  obtain⟨u,h1,h2⟩:=Vals.get (i:=i) (x:=x) t (by simpa using e)
  exact⟨u,by simpa using h1,h2⟩
theorem Vals.set{x:V}{u:Value}(r:RelV x u):∀ {xs:List V}{us:List Value}(i:Nat),Vals xs us->Vals (xs.set i x) (us.set i u)
 | _,_,_,.nil=>.nil
 | _,_,0,.cons _ t=>.cons r t
 | _,_,i+1,.cons q t=>.cons q (Vals.set r i t)
theorem Vals.append:∀ {xs ys:List V}{us ws:List Value},Vals xs us->Vals ys ws->Vals (xs++ys) (us++ws)
 | _,_,_,_,.nil,s=>s
 | _,_,_,_,.cons r t,s=>.cons r (Vals.append t s)
theorem Vals.take:∀ {xs:List V}{us:List Value}(n:Nat),Vals xs us->Vals (xs.take n) (us.take n)
 | _,_,0,_=>.nil
 | _,_,_+1,.nil=>.nil
 | _,_,n+1,.cons r t=>.cons r (Vals.take n t)
theorem Vals.drop:∀ {xs:List V}{us:List Value}(n:Nat),Vals xs us->Vals (xs.drop n) (us.drop n)
 | _,_,0,r=>r
 | _,_,_+1,.nil=>.nil
 | _,_,n+1,.cons _ t=>Vals.drop n t
def RelO:Option V->Option Value->Prop
 | some v,some u=>RelV v u
 | none,none=>True
 | _,_=>False
def KV{κ:Type}:List (κ×V)->List (κ×Value)->Prop:=Paired fun (p:κ×V) (q:κ×Value)=>p.1=q.1/\RelV p.2 q.2
def kV:Key->V
 | .inl i=>.int i
 | .inr x=>.str x
inductive HO where
 | lst (xs:List V)
 | tup (xs:List V)
 | dK (kvs:List (Key×V)) | dT (kvs:List (List Key×V))
 | set (S:Int->Bool) (n:Nat)
 | ins (C dx:Addr) (fs:List (Str×V))
 | own (x:Addr)
 | xd (fs:List (Str×V))
 | met (f x:Addr)
 | rng (lo hi:Int)
 | frz (o:Obj) (u:HO)
 | tbl (ps:Array Value)
 | ext (φ:Heap->Prop)
variable {o:HO}
abbrev Hp:=Addr->Option HO
variable {H:Hp}
def upd(H:Hp)(a:Addr)(o:HO):Hp:=fun b=>if b=a then some o else H b
theorem zb5{a:Addr}:upd H a o a=some o:=by unfold upd;rw[if_pos rfl]
theorem zb1{a b:Addr}(h:b≠a):upd H a o b=H b:=by unfold upd;rw[if_neg h]
theorem ne_of{a b:Addr}{u:HO}(h:H a=some o)(h':H b=some u)(d:o≠u):a≠b:=by
 intro e;subst e;rw[h] at h';exact d (Option.some.inj h')
theorem za4{a b:Addr}(h:H a=some o)(h':H b=none):a≠b:=by
 intro e;subst e;rw[h] at h';cases h'
section
variable (P:Program) (w:World)
def ze9(H:Hp)(h:Heap)(a:Addr):HO->Prop
 | .lst xs=>xs.length<=sizeLine/\∃ (its:List Value) (n:Nat),Vals xs its/\h.get? a=some { cls:=.type "list",data:=.seq its.toArray n }
 | .tup xs=>xs.length<=sizeLine/\∃ its:List Value,Vals xs its/\IsTup h a its.toArray
 | .dK kvs=>kvs.length<=sizeLine/\(a==sysModules)=false/\∃ vs,KV kvs vs/\h.DictOf (zg7 P w) a vs
 | .dT kvs=>kvs.length<=sizeLine/\(a==sysModules)=false/\∃ xs:List (List Key×Addr×Value),
   Paired (fun (p:List Key×V) (q:List Key×Addr×Value)=>p.1=q.1/\H q.2.1=some (.tup (p.1.map kV))/\RelV p.2 q.2.2) kvs xs /\
   ∃ o es ep,h.get? a=some o/\o.ExactDict/\o.data=.dict es ep/\es.toList=xs.map (entryOfKey (tupleKind (zg7 P w)))/\(xs.map (·.1)).Nodup
 | .set S n=>h.SetOf (intKind P w) a S n
 | .ins C dx fs=>H dx=some (.own a)/\fs.length<=1000/\dx≠a/\h.get? a=some (PySem.W.instObj C dx) /\
   ∃ mA,h.Ns1 dx mA/\(∀ f,RelO (fs.lookup f) (mA f))/\PySem.Within mA (fs.map (·.1))
 | .own _=>∃ o,h.get? a=some o
 | .xd fs=>∃ mA,h.Ns1 a mA/\∀ f,RelO (fs.lookup f) (mA f)
 | .rng lo hi=>∃ t u v,h.get? a=some { cls:=.type "range",data:=.fields #[.int lo t,.int hi u,.int 1 v] }
 | .frz o u=>h.get? a=some o/\ze9 H h a u
 | .tbl ps=>h.get? a=some { cls:=.none,data:=.fields ps }
 | .met f x=>h.get? a=some (PySem.W.methodObj (.ref f) (.ref x))
 | .ext φ=>φ h/\(∃ o,h.get? a=some o)/\∀ h1 h2:Heap,φ h1->(∀ o,h1.get? a=some o->h2.get? a=some o)->φ h2
def HOk(H:Hp)(h:Heap):Prop:=∀ a o,H a=some o->ze9 P w H h a o
end
section
variable {P:Program}{w:World}{H H':Hp}{h h':Heap}{a:Addr}{o:HO}
theorem ze9.lt(x:ze9 P w H h a o):a<h.objs.size:=by
 cases o with
 | lst xs=>obtain⟨_,_,_,_,e⟩:=x;exact zcn3 e
 | tup xs=>obtain⟨_,_,_,p⟩:=x;exact p.lt
 | dK kvs=>obtain⟨_,_,_,_,o,_,_,e,_⟩:=x;exact zcn3 e
 | dT kvs=>obtain⟨_,_,_,_,o,_,_,e,_⟩:=x;exact zcn3 e
 | set S n=>obtain⟨o,_,_,_,e,_⟩:=x;exact zcn3 e
 | ins C dx fs=>obtain⟨_,_,_,e,_⟩:=x;exact zcn3 e
 | own y=>obtain⟨_,e⟩:=x;exact zcn3 e
 | xd fs=>obtain⟨_,⟨_,_,_,e,_⟩,_⟩:=x;exact zcn3 e
 | rng lo hi=>obtain⟨_,_,_,e⟩:=x;exact zcn3 e
 | frz ob u=>obtain⟨e,_⟩:=x;exact zcn3 e
 | tbl ps=>exact zcn3 (show h.get? a=some _ from x)
 | met f y=>exact zcn3 (show h.get? a=some _ from x)
 | ext φ=>obtain⟨_,⟨_,e⟩,_⟩:=x;exact zcn3 e
theorem Paired.mapP{α β:Type}{F G:α->β->Prop}:∀ {l₁:List α}{l₂:List β},Paired F l₁ l₂->(∀ a b,F a b->G a b)->Paired G l₁ l₂
 | _,_,.nil,_=>.nil
 | _,_,.cons r t,f=>.cons (f _ _ r) (Paired.mapP t f)
theorem ze9.stay(x:ze9 P w H h a o)(k:∀ b u,(b=a∨H b=some (.own a))->h.get? b=some u->h'.get? b=some u)(ho:∀ b,H b=some (.own a)->H' b=some (.own a))(ht:∀ b xs,H b=some (.tup xs)->H' b=some (.tup xs)):ze9 P w H' h' a o:=by
 induction o with
 | lst xs=>obtain⟨z,its,n,r,e⟩:=x;exact⟨z,its,n,r,k _ _ (.inl rfl) e⟩
 | tup xs=>obtain⟨z,its,r,ob,e,c⟩:=x;exact⟨z,its,r,ob,k _ _ (.inl rfl) e,c⟩
 | dK kvs=>obtain⟨z,y,vs,r,ob,es,ep,e,c⟩:=x;exact⟨z,y,vs,r,ob,es,ep,k _ _ (.inl rfl) e,c⟩
 | dT kvs=>
  obtain⟨z,y,xs,r,ob,es,ep,e,c⟩:=x
  exact⟨z,y,xs,Paired.mapP r fun p q z=>⟨z.1,ht _ _ z.2.1,z.2.2⟩,ob,es,ep,k _ _ (.inl rfl) e,c⟩
 | set S n=>obtain⟨ob,es,ep,t,e,c⟩:=x;exact⟨ob,es,ep,t,k _ _ (.inl rfl) e,c⟩
 | ins C dx fs=>
  obtain⟨d,z,ne,e,mA,⟨od,es,ep,e2,c⟩,r⟩:=x
  exact⟨ho _ d,z,ne,k _ _ (.inl rfl) e,mA,⟨od,es,ep,k _ _ (.inr d) e2,c⟩,r⟩
 | own y=>obtain⟨ob,e⟩:=x;exact⟨ob,k _ _ (.inl rfl) e⟩
 | xd fs=>obtain⟨mA,⟨od,es,ep,e,c⟩,r⟩:=x;exact⟨mA,⟨od,es,ep,k _ _ (.inl rfl) e,c⟩,r⟩
 | rng lo hi=>obtain⟨t,u,v,e⟩:=x;exact⟨t,u,v,k _ _ (.inl rfl) e⟩
 | frz ob u ih=>obtain⟨e,q⟩:=x;exact⟨k _ _ (.inl rfl) e,ih q⟩
 | tbl ps=>
  have e:h.get? a=some { cls:=.none,data:=.fields ps }:=x
  show h'.get? a=some { cls:=.none,data:=.fields ps }
  exact k a _ (.inl rfl) e
 | met f y=>
  have e:h.get? a=some (PySem.W.methodObj (.ref f) (.ref y)):=x
  show h'.get? a=some (PySem.W.methodObj (.ref f) (.ref y))
  exact k a _ (.inl rfl) e
 | ext φ=>obtain⟨p,⟨o,e⟩,st⟩:=x;exact⟨st _ _ p fun o q=>k _ _ (.inl rfl) q,⟨o,k _ _ (.inl rfl) e⟩,st⟩
theorem HOk.lt(x:HOk P w H h)(e:H a=some o):a<h.objs.size:=(x a o e).lt
theorem HOk.fresh(x:HOk P w H h)(e:h.objs.size<=a):H a=none:=by
 cases q:H a with
 | none=>rfl
 | some u=>exact absurd (zco6 (x.lt q) e) (zcs5 _)
theorem HOk.kept(x:HOk P w H h)(k:∀ b u,h.get? b=some u->h'.get? b=some u):HOk P w H h':=fun a o e=>
 (x a o e).stay (fun b u _ q=>k b u q) (fun _ q=>q) fun _ _ q=>q
theorem HOk.laid(x:HOk P w H h)(k:∀ b u,h.get? b=some u->h'.get? b=some u)(hp:h.objs.size<=a)(new:ze9 P w (upd H a o) h' a o):HOk P w (upd H a o) h':=fun b u e=>by
 have hn:=x.fresh hp
 by_cases hb:b=a
 ·subst hb;rw[zb5] at e;cases e;exact new
 ·rw[zb1 hb] at e
  exact (x b u e).stay (fun c v _ q=>k c v q) (fun c q=>by rw[zb1 (za4 q hn)];exact q) fun c xs q=>by rw[zb1 (za4 q hn)];exact q
end
def Rd(H:Hp)(a:Addr)(u:HO):Prop:=H a=some u∨∃ o,H a=some (.frz o u)
theorem Rd.of{a:Addr}{u:HO}(h:H a=some u):Rd H a u:=.inl h
theorem Rd.ok{P:Program}{w:World}{a:Addr}{u:HO}(r:Rd H a u)(x:HOk P w H h):ze9 P w H h a u:=by
 rcases r with r|⟨o,r⟩
 ·exact x a u r
 ·obtain⟨_,q⟩:=x a _ r
  exact q
def Mut:Option HO->Prop
 | some (.lst _)=>True
 | some (.dK _)=>True
 | some (.dT _)=>True
 | some (.set _ _)=>True
 | some (.ins _ _ _)=>True
 | some (.ext _)=>True
 | _=>False
section
variable {P:Program}{w:World}{H:Hp}{h h':Heap}{x e:Addr}{o':HO}
theorem HOk.write(ok:HOk P w H h)(mu:Mut (H x))(he:e=x∨H e=some (.own x))(k:∀ b u,b≠e->h.get? b=some u->h'.get? b=some u)(heo:∃ u,h'.get? e=some u)(new:ze9 P w (upd H x o') h' x o'):HOk P w (upd H x o') h':=fun b u q=>by
 have nown:∀ c y,H c=some (.own y)->c≠x:=fun c y r z=>by subst z;rw[r] at mu;exact mu
 have ntup:∀ c xs,H c=some (.tup xs)->c≠x:=fun c xs r z=>by subst z;rw[r] at mu;exact mu
 by_cases hb:b=x
 ·subst hb;rw[zb5] at q;cases q;exact new
 ·rw[zb1 hb] at q
  by_cases hbe:b=e
  ·have q':H b=some (.own x):=by
    rcases he with z|z
    ·exact absurd (hbe.trans z) hb
    ·rw[hbe];exact z
   rw[q] at q';cases q'
   obtain⟨v,hv⟩:=heo
   exact⟨v,by rw[hbe];exact hv⟩
  ·refine (ok b u q).stay (fun c v hc r=>k c v ?_ r) (fun c r=>by rw[zb1 (nown c b r)];exact r) fun c xs r=>by rw[zb1 (ntup c xs r)];exact r
   rcases hc with rfl|hc
   ·exact hbe
   ·rintro rfl
    rcases he with z|z
    ·exact nown c b hc z
    ·rw[hc] at z;cases z;exact hb rfl
end
structure Un(fs ex:List Addr)(H H':Hp)(h h':Heap):Prop where
 keep:∀ b o,h.get? b=some o->H b=none->b ∉ fs->b ∉ ex->h'.get? b=some o
 slot:∀ b o,h.get? b=some o->H b=none->b∈fs->b ∉ ex->∃ sl,h'.get? b=some { o with slots:=sl }
 free:∀ b o,h.get? b=some o->H b=none->b ∉ ex->H' b=none
 there:∀ b o,h.get? b=some o->b ∉ ex->∃ o',h'.get? b=some o'
 tups:∀ b xs,H b=some (.tup xs)->H' b=some (.tup xs)
 frzs:∀ b o u,H b=some (.frz o u)->H' b=some (.frz o u)
 tbls:∀ b ps,H b=some (.tbl ps)->∃ more,H' b=some (.tbl (ps++more))
section
variable {fs fs' ex ex':List Addr}{H H1 H2:Hp}{h h1 h2 h':Heap}{a x e:Addr}{o:HO}
theorem Un.any(u:Un fs ex H H1 h h1){b:Addr}{ob:Obj}(q:h.get? b=some ob)(n:H b=none)(hx:b ∉ ex):∃ sl,h1.get? b=some { ob with slots:=sl }:=by
 by_cases hb:b∈fs
 ·exact u.slot b ob q n hb hx
 ·exact⟨ob.slots,u.keep b ob q n hb hx⟩
theorem Un.trans(a:Un fs ex H H1 h h1)(b:Un fs ex H1 H2 h1 h2):Un fs ex H H2 h h2 where
 keep:=fun c ob q n hc hx=>b.keep c ob (a.keep c ob q n hc hx) (a.free c ob q n hx) hc hx
 slot:=fun c ob q n hc hx=>by
  obtain⟨sl,e1⟩:=a.slot c ob q n hc hx
  obtain⟨sl',e2⟩:=b.slot c _ e1 (a.free c ob q n hx) hc hx
  exact⟨sl',e2⟩
 free:=fun c ob q n hx=>by
  obtain⟨o',e1⟩:=a.there c ob q hx
  exact b.free c o' e1 (a.free c ob q n hx) hx
 there:=fun c ob q hx=>by
  obtain⟨o',e1⟩:=a.there c ob q hx
  exact b.there c o' e1 hx
 tups:=fun c xs q=>b.tups c xs (a.tups c xs q)
 frzs:=fun c ob xs q=>b.frzs c ob xs (a.frzs c ob xs q)
 tbls:=fun c ps q=>by
  obtain⟨m1,e1⟩:=a.tbls c ps q
  obtain⟨m2,e2⟩:=b.tbls c _ e1
  exact⟨m1++m2,by rw[e2,Array.append_assoc]⟩
theorem Un.kept(k:∀ b u,h.get? b=some u->h'.get? b=some u):Un fs ex H H h h':=
 ⟨fun b ob q _ _ _=>k b ob q,fun b ob q _ _ _=>⟨ob.slots,k b ob q⟩,fun _ _ _ n _=>n,fun b ob q _=>⟨ob,k b ob q⟩,fun _ _ q=>q,fun _ _ _ q=>q,fun _ ps q=>⟨#[],by rw[q];simp⟩⟩
theorem Un.refl:Un fs ex H H h h:=Un.kept fun _ _ q=>q
theorem Un.laid(k:∀ b u,h.get? b=some u->h'.get? b=some u)(hp:h.objs.size<=a)(hn:H a=none):Un fs ex H (upd H a o) h h' where
 keep:=fun b u q _ _ _=>k b u q
 slot:=fun b u q _ _ _=>⟨u.slots,k b u q⟩
 free:=fun b u q n _=>by rw[zb1 (zcp2 (zco6 (zcn3 q) hp))];exact n
 there:=fun b u q _=>⟨u,k b u q⟩
 tups:=fun b xs q=>by rw[zb1 (za4 q hn)];exact q
 frzs:=fun b u xs q=>by rw[zb1 (za4 q hn)];exact q
 tbls:=fun b ps q=>⟨#[],by rw[zb1 (za4 q hn),q];simp⟩
theorem Un.write(mu:Mut (H x))(he:e=x∨H e=some (.own x))(k:∀ b u,b≠e->h.get? b=some u->h'.get? b=some u)(heo:∃ u,h'.get? e=some u):Un fs ex H (upd H x o) h h':=by
 have hx:∀ b,H b=none->b≠x:=fun b n z=>by subst z;rw[n] at mu;exact mu
 have hb:∀ b,H b=none->b≠e:=fun b n z=>by
  subst z
  rcases he with r|r
  ·exact hx b n r
  ·rw[n] at r;cases r
 have hm:∀ b u,H b=some u->¬ Mut (some u)->b≠x:=fun b u q nm z=>by subst z;rw[q] at mu;exact nm mu
 refine⟨fun b u q n _ _=>k b u (hb b n) q,fun b u q n _ _=>⟨u.slots,k b u (hb b n) q⟩,fun b u q n _=>by rw[zb1 (hx b n)];exact n,fun b u q _=>?_,
  fun b xs q=>by rw[zb1 (hm b _ q fun z=>z)];exact q,fun b u xs q=>by rw[zb1 (hm b _ q fun z=>z)];exact q,fun b ps q=>⟨#[],by rw[zb1 (hm b _ q fun z=>z),q];simp⟩⟩
 by_cases hbe:b=e
 ·subst hbe;exact heo
 ·exact⟨u,k b u hbe q⟩
theorem Un.mono(u:Un fs ex H H1 h h1)(hs:∀ b∈fs,b∈fs')(hx:∀ b∈ex,b∈ex'):Un fs' ex' H H1 h h1:=
 ⟨fun b ob q n hb he=>u.keep b ob q n (fun z=>hb (hs b z)) fun z=>he (hx b z),fun _ _ q n _ he=>u.any q n fun z=>he (hx _ z),fun b ob q n he=>u.free b ob q n fun z=>he (hx b z),fun b ob q he=>u.there b ob q fun z=>he (hx b z),u.tups,u.frzs,u.tbls⟩
end
def trk(h:Heap)(H:Hp):List Addr:=(List.range h.objs.size).filter fun a=>(H a).isSome
def hidT(h:Heap)(H:Hp):Heap:=PySem.W.hideAll h (trk h H)
theorem zbm8(h:Heap)(H:Hp):(hidT h H).objs.size=h.objs.size:=PySem.W.hideAll_size _ _
theorem zbv4{b:Addr}{o:Obj}(e:h.get? b=some o)(n:H b=none):(hidT h H).get? b=some o:=
 zct9 _ e fun hm=>by
  have q:(H b).isSome=true:=(List.mem_filter.mp hm).2
  rw[n] at q;simp at q
theorem zca1{b:Addr}{o:Obj}(e:(hidT h H).get? b=some o):h.get? b=some o/\H b=none:=by
 have e':h.get? b=some o:=PySem.W.of_hideAll (trk h H) e
 refine⟨e',?_⟩
 cases q:H b with
 | none=>rfl
 | some x=>
  have hm:b∈trk h H:=List.mem_filter.mpr ⟨zcq6.mpr (zcn3 e'),by simp[q]⟩
  have z:(hidT h H).get? b=none:=PySem.W.hideAll_none (trk h H) hm
  rw[z] at e;cases e
def zcb2(g h:Heap)(L:Addr):List (Addr×Obj):=(List.range h.objs.size).filterMap fun a=>if a=L∨(g.get? a).isSome=true then none else (h.get? a).map fun o=>(a,o)
def rest(g h:Heap)(L d:Addr):List (Addr×Obj):=(zcb2 g h L).filter fun p=>decide (p.1≠d)
structure Mod(K:zcm2)(mg:Str->Option Value)(base:Heap):Prop where
 kin:K.In base
 glob:base.Ns zcv9 mg
 blt:∃ mb,base.Ns builtinsNs mb/\∀ x:Str,x≠"__name__"->mb x=bootBuiltins x
 nolimit:base.NoLimit
structure Cx where
 prog:Program
 w:World
 K:zcm2
 mg:Str->Option Value
 base:Heap
 A:Around
 N:List Str
 s₀:Shared
 H₀:Hp
 env:Env
 outer:List Env
 stack:List Env
 ex:List Addr
 fn:Str->Bool
 calm:Bool
 pn:List (Addr×Obj)
 xe:Value->Shared->Prop
def frs(l:List Env):List Addr:=l.filterMap (·.frame)
abbrev Cx.fs(X:Cx):List Addr:=frs X.outer
def Vis(sc:Scope)(x:Str):Prop:=sc.names.lookup x=some .local∨sc.names.lookup x=some .cell∨sc.names.lookup x=some .free
def Loc(sc:Scope)(x:Str):Prop:=sc.names.lookup x=some .local∨sc.names.lookup x=some .cell
def Look(env:Env)(h:Heap)(m:Str->Option Value)(x:Str)(u:Value):Prop:=
 (env.kindOf x=some .local/\m x=some u)∨((env.kindOf x=some .cell∨env.kindOf x=some .free)/\∃ c,env.cells.lookup x=some c/\h.IsCell c (some u))
structure Cx.Ok(X:Cx):Prop where
 mod:Mod X.K X.mg X.base
 kind:X.env.scope.kind=.function
 glob:X.env.globals=zcv9
 blt:X.env.builtins=builtinsNs
 above:X.s₀.heap.objs.size<=X.env.locals
 inj:∀ x y c,X.env.cells.lookup x=some c->X.env.cells.lookup y=some c->x=y
 has:∀ x,(X.env.kindOf x=some .cell∨X.env.kindOf x=some .free)->∃ c,X.env.cells.lookup x=some c
 cab:∀ x c,X.fn x=true->X.env.cells.lookup x=some c->X.s₀.heap.objs.size<=c
 hd:X.calm=true->X.A.handled=none
 frames:X.A.frames=some X.stack
 stk:X.stack=X.outer∨(X.stack=X.env :: X.outer/\X.env.frame=some X.env.locals)
 exf:∀ b∈X.ex,b≠X.env.locals/\∀ x c,X.env.cells.lookup x=some c->c≠b
 bs:∀ b o,X.base.get? b=some o->X.s₀.heap.get? b=some o/\X.H₀ b=none
 bsz:X.base.objs.size<=X.s₀.heap.objs.size
 noex:∀ b o,X.base.get? b=some o->b ∉ X.ex
 exfs:∀ b∈X.ex,b ∉ X.fs
 funs:X.s₀.heap.FunFrames X.base X.outer
 frf:∀ b∈X.fs,X.H₀ b=none
structure Inv(X:Cx)(pins:List (Addr×Obj))(σ:List (Option V))(H:Hp)(s:Shared):Prop where
 ok:X.Ok
 os:s.os=X.s₀.os
 bare:AllBare s.gens
 base:Un X.fs X.ex X.H₀ H X.s₀.heap s.heap
 loc:∃ m,s.heap.Ns X.env.locals m/\∀ (i:Nat) (x:Str) (v:V),X.N[i]?=some x->σ[i]?=some (some v)->Vis X.env.scope x->∃ u,RelV v u/\Look X.env s.heap m x u
 cell:∀ x c,X.env.cells.lookup x=some c->∃ v,s.heap.IsCell c v
 free:H X.env.locals=none
 freeC:∀ x c,X.env.cells.lookup x=some c->H c=none
 pin:∀ p∈X.pn++pins,s.heap.get? p.1=some p.2/\H p.1=none/\p.1≠X.env.locals/\p.1 ∉ X.fs/\∀ v,p.2.data≠.cell v
 hok:HOk X.prog X.w H s.heap
 len:σ.length=X.N.length
section
variable {X:Cx}{pins:List (Addr×Obj)}{σ:List (Option V)}{H H':Hp}{s:Shared}{h':Heap}
theorem Cx.Ok.nofr(ok:X.Ok){b:Addr}{o:Obj}(e:X.base.get? b=some o):b ∉ X.fs:=fun hb=>by
 have:=(ok.funs.mem hb).1
 rw[e] at this;cases this
theorem Inv.bs(I:Inv X pins σ H s):∀ b o,X.base.get? b=some o->s.heap.get? b=some o/\H b=none:=fun b o e=>
 ⟨I.base.keep b o (I.ok.bs b o e).1 (I.ok.bs b o e).2 (I.ok.nofr e) (I.ok.noex b o e),I.base.free b o (I.ok.bs b o e).1 (I.ok.bs b o e).2 (I.ok.noex b o e)⟩
theorem Inv.bk(I:Inv X pins σ H s):∀ b o,X.base.get? b=some o->s.heap.get? b=some o:=fun b o e=>(I.bs b o e).1
theorem Inv.mod(I:Inv X pins σ H s):Mod X.K X.mg X.base:=I.ok.mod
theorem Inv.kIn(I:Inv X pins σ H s):X.K.In s.heap:=I.ok.mod.kin.keeps I.bk
theorem Inv.lt(I:Inv X pins σ H s):X.env.locals<s.heap.objs.size:=let ⟨_,hn,_⟩:=I.loc;hn.lt
theorem Inv.sz(I:Inv X pins σ H s):X.s₀.heap.objs.size<=s.heap.objs.size:=zcr3 I.ok.above (Nat.le_of_lt I.lt)
theorem Inv.nofs(I:Inv X pins σ H s){a:Addr}(h:s.heap.objs.size<=a):a ∉ X.fs:=fun hb=>by
 obtain⟨_,o,ho,_⟩:=I.ok.funs.mem hb
 exact absurd (zco6 (zcn3 ho) (zcr3 I.sz h)) (zcs5 _)
theorem Inv.cne(I:Inv X pins σ H s):∀ x c,X.env.cells.lookup x=some c->c≠X.env.locals:=fun x c e z=>by
 obtain⟨v,o,ho,hd⟩:=I.cell x c e
 obtain⟨m,⟨o',es,ep,ho',hd',_⟩,_⟩:=I.loc
 rw[z,ho'] at ho;cases ho;rw[hd'] at hd;cases hd
theorem Inv.funs(I:Inv X pins σ H s):s.heap.FunFrames X.base X.outer:=by
 have all:∀ (l:List Env),(∀ b∈frs l,b∈X.fs)->X.s₀.heap.FunFrames X.base l->s.heap.FunFrames X.base l:=by
  intro l
  induction l with
  | nil=>intro _ _;trivial
  | cons env r ih=>
   intro hs hl
   obtain⟨hk,⟨L,o,hf,hn,ho,hd⟩,hr⟩:=hl
   have hL:L∈X.fs:=hs L (by unfold frs;rw[List.filterMap_cons,hf];exact zcr0)
   obtain⟨sl,e⟩:=I.base.slot L o ho (I.ok.frf L hL) hL fun z=>I.ok.exfs L z hL
   exact⟨hk,⟨L,_,hf,hn,e,hd⟩,ih (fun b hb=>hs b (by unfold frs;rw[List.filterMap_cons,hf];exact zcq4 _ hb)) hr⟩
 exact all X.outer (fun _ hb=>hb) I.ok.funs
theorem Inv.stack(I:Inv X pins σ H s):s.heap.FunFrames X.base X.stack:=by
 rcases I.ok.stk with e|⟨e,hf⟩
 ·rw[e];exact I.funs
 ·rw[e]
  obtain⟨m,hn,_⟩:=I.loc
  refine .cons (by rw[I.ok.kind];decide) hf hn ?_ I.funs
  exact Heap.get?_none_of_le (zcr3 I.ok.bsz I.ok.above)
theorem Inv.stkSub(I:Inv X pins σ H s):∀ b∈frs X.stack,b∈X.env.locals :: X.fs:=fun b hb=>by
 rcases I.ok.stk with e|⟨e,hf⟩
 ·rw[e] at hb;exact zcq4 _ hb
 ·rw[e] at hb
  unfold frs at hb
  rw[List.filterMap_cons,hf] at hb
  exact hb
theorem Inv.stkFree(I:Inv X pins σ H s):∀ b∈frs X.stack,H b=none:=fun b hb=>by
 rcases zcm9.mp (I.stkSub b hb) with e|hb
 ·rw[e];exact I.free
 ·obtain⟨_,o,ho,_⟩:=I.ok.funs.mem hb
  exact I.base.free b o ho (I.ok.frf b hb) fun z=>I.ok.exfs b z hb
theorem Inv.step{g':Array GenState}{t':Nat}{d':Drawn}{ch:List Addr}(I:Inv X pins σ H s)(hch:∀ b∈ch,(b∈X.ex∨X.s₀.heap.objs.size<=b)/\b≠X.env.locals/\(∀ x c,X.env.cells.lookup x=some c->c≠b)/\∀ p∈X.pn++pins,p.1≠b)(keep:∀ b o,b≠X.env.locals->b ∉ X.fs->b ∉ ch->s.heap.get? b=some o->H b=none->h'.get? b=some o)(slot:∀ b o,b≠X.env.locals->b∈X.fs->b ∉ ch->s.heap.get? b=some o->H b=none->∃ sl,h'.get? b=some { o with slots:=sl })(free:∀ b o,b ∉ ch->s.heap.get? b=some o->H b=none->H' b=none)(there:∀ b o,b ∉ ch->s.heap.get? b=some o->∃ o',h'.get? b=some o')(tups:∀ b xs,H b=some (.tup xs)->H' b=some (.tup xs))(frzs:∀ b o u,H b=some (.frz o u)->H' b=some (.frz o u))(tbls:∀ b ps,H b=some (.tbl ps)->∃ more,H' b=some (.tbl (ps++more)))(ns:∀ m,s.heap.Ns X.env.locals m->h'.Ns X.env.locals m)(hok:HOk X.prog X.w H' h')(hg:AllBare g') :
  Inv X pins σ H' { s with heap:=h',gens:=g',drawn:=d',toks:=t' }:=by
 have neL:∀ b o,X.s₀.heap.get? b=some o->b≠X.env.locals:=fun b o e=>zcp2 (zco6 (zcn3 e) I.ok.above)
 have neC:∀ b o,X.s₀.heap.get? b=some o->b ∉ X.ex->b ∉ ch:=fun b o e hx hb=>by
  rcases (hch b hb).1 with z|z
  ·exact hx z
  ·exact absurd (zco6 (zcn3 e) z) (zcs5 _)
 have cellK:∀ x c,X.env.cells.lookup x=some c->∀ v,s.heap.IsCell c v->h'.IsCell c v:=fun x c e v ⟨o,ho,hd⟩=>by
  have nch:c ∉ ch:=fun z=>(hch c z).2.2.1 x c e rfl
  by_cases hc:c∈X.fs
  ·obtain⟨sl,q⟩:=slot c o (I.cne x c e) hc nch ho (I.freeC x c e)
   exact⟨_,q,hd⟩
  ·exact⟨o,keep c o (I.cne x c e) hc nch ho (I.freeC x c e),hd⟩
 refine⟨I.ok,I.os,hg,⟨fun b o e n hb hx=>?_,fun b o e n hb hx=>?_,fun b o e n hx=>?_,fun b o e hx=>?_,fun b xs e=>tups b xs (I.base.tups b xs e),fun b o xs e=>frzs b o xs (I.base.frzs b o xs e),fun b ps e=>?_⟩,?_,fun x c e=>?_,?_,fun x c e=>?_,fun p hp=>?_,hok,I.len⟩
 ·exact keep b o (neL b o e) hb (neC b o e hx) (I.base.keep b o e n hb hx) (I.base.free b o e n hx)
 ·obtain⟨sl,e1⟩:=I.base.slot b o e n hb hx
  obtain⟨sl',e2⟩:=slot b _ (neL b o e) hb (neC b o e hx) e1 (I.base.free b o e n hx)
  exact⟨sl',e2⟩
 ·obtain⟨o',e1⟩:=I.base.there b o e hx
  exact free b o' (neC b o e hx) e1 (I.base.free b o e n hx)
 ·obtain⟨o',e1⟩:=I.base.there b o e hx
  exact there b o' (neC b o e hx) e1
 ·obtain⟨m1,e1⟩:=I.base.tbls b ps e
  obtain⟨m2,e2⟩:=tbls b _ e1
  exact⟨m1++m2,by rw[e2,Array.append_assoc]⟩
 ·obtain⟨m,hn,hl⟩:=I.loc
  refine⟨m,ns m hn,fun i x v e1 e2 e3=>?_⟩
  obtain⟨u,r,l⟩:=hl i x v e1 e2 e3
  refine⟨u,r,?_⟩
  rcases l with l|⟨k,c,e,z⟩
  ·exact .inl l
  ·exact .inr ⟨k,c,e,cellK x c e _ z⟩
 ·obtain⟨v,z⟩:=I.cell x c e
  exact⟨v,cellK x c e v z⟩
 ·obtain⟨m,⟨o,_,_,ho,_⟩,_⟩:=I.loc
  exact free _ o (fun z=>(hch _ z).2.1 rfl) ho I.free
 ·obtain⟨v,o,ho,hd⟩:=I.cell x c e
  exact free c o (fun z=>(hch c z).2.2.1 x c e rfl) ho (I.freeC x c e)
 ·obtain⟨e,n,ne,nf,d⟩:=I.pin p hp
  have nch:p.1 ∉ ch:=fun z=>(hch p.1 z).2.2.2 p hp rfl
  exact⟨keep p.1 p.2 ne nf nch e n,free p.1 p.2 nch e n,ne,nf,d⟩
theorem Inv.un{t':Nat}(I:Inv X pins σ H s)(u:Un X.fs [] H H' s.heap h')(hok:HOk X.prog X.w H' h'):Inv X pins σ H' { s with heap:=h',toks:=t' }:=by
 obtain⟨m,⟨o,es,ep,ho,r⟩,_⟩:=id I.loc
 obtain⟨sl,hL⟩:=u.any ho I.free (by simp)
 exact I.step (g':=s.gens) (d':=s.drawn) (ch:=[]) (fun _ z=>nomatch z) (fun b o _ hb _ e n=>u.keep b o e n hb (by simp)) (fun b o _ hb _ e n=>u.slot b o e n hb (by simp)) (fun b o _ e n=>u.free b o e n (by simp)) (fun b o _ e=>u.there b o e (by simp)) u.tups u.frzs u.tbls (fun m' hm=>by
  obtain⟨o',es',ep',ho',r'⟩:=hm
  rw[ho] at ho';cases ho'
  exact⟨_,es',ep',hL,r'⟩) hok I.bare
theorem Inv.call{g':Array GenState}{t':Nat}{d':Drawn}{ch:List Addr}(I:Inv X pins σ H s)(u:Un (frs X.stack) ch H H' s.heap h')(hok:HOk X.prog X.w H' h')(hg:AllBare g')(hch:∀ b∈ch,(b∈X.ex∨X.s₀.heap.objs.size<=b)/\b≠X.env.locals/\(∀ x c,X.env.cells.lookup x=some c->c≠b)/\∀ p∈X.pn++pins,p.1≠b) :
  Inv X pins σ H' { s with heap:=h',gens:=g',drawn:=d',toks:=t' }:=by
 obtain⟨m,⟨o,es,ep,ho,r⟩,_⟩:=id I.loc
 obtain⟨sl,hL⟩:=u.any ho I.free fun z=>(hch _ z).2.1 rfl
 exact I.step (ch:=ch) hch (fun b o hL hb hc e n=>u.keep b o e n (fun z=>(zcm9.mp (I.stkSub b z)).elim hL hb) hc) (fun b o _ _ hc e n=>u.any e n hc) (fun b o hc e n=>u.free b o e n hc) (fun b o hc e=>u.there b o e hc) u.tups u.frzs u.tbls (fun m' hm=>by
  obtain⟨o',es',ep',ho',r'⟩:=hm
  rw[ho] at ho';cases ho'
  exact⟨_,es',ep',hL,r'⟩) hok hg
theorem Inv.turned{t':Nat}{it:Addr}(I:Inv X pins σ H s)(k:∀ b o,b≠it->s.heap.get? b=some o->h'.get? b=some o)(hn:H it=none)(hL:it≠X.env.locals)(h1:it∈X.ex∨X.s₀.heap.objs.size<=it)(h2:∀ x c,X.env.cells.lookup x=some c->c≠it)(h3:∀ p∈X.pn++pins,p.1≠it):Inv X pins σ H { s with heap:=h',toks:=t' }:=by
 have nit:∀ b u,H b=some u->b≠it:=fun b u e z=>by rw[z,hn] at e;cases e
 refine I.step (g':=s.gens) (d':=s.drawn) (ch:=[it]) (fun b hb=>?_) (fun b o _ _ hc e _=>k b o (fun z=>hc (by simp[z])) e) (fun b o _ _ hc e _=>⟨o.slots,k b o (fun z=>hc (by simp[z])) e⟩) (fun _ _ _ _ n=>n)
  (fun b o hc e=>⟨o,k b o (fun z=>hc (by simp[z])) e⟩) (fun _ _ e=>e) (fun _ _ _ e=>e) (fun b ps e=>⟨#[],by rw[e];simp⟩) (fun m hm=>?_) (fun b u e=>?_) I.bare
 ·have e:b=it:=by simpa using hb
  subst e
  exact⟨h1,hL,h2,h3⟩
 ·obtain⟨o,es,ep,ho,r⟩:=hm
  exact⟨o,es,ep,k _ o (Ne.symm hL) ho,r⟩
 ·refine (I.hok b u e).stay (fun c v hc q=>k c v ?_ q) (fun _ q=>q) fun _ _ q=>q
  rcases hc with z|z
  ·rw[z];exact nit b u e
  ·exact nit c _ z
theorem Inv.tok(I:Inv X pins σ H s)(t:Nat):Inv X pins σ H { s with toks:=t }:=I.un (h':=s.heap) (t':=t) Un.refl I.hok
theorem Inv.kept{t':Nat}(I:Inv X pins σ H s)(k:∀ b u,s.heap.get? b=some u->h'.get? b=some u):Inv X pins σ H { s with heap:=h',toks:=t' }:=I.un (Un.kept k) (I.hok.kept k)
theorem Inv.laid{a:Addr}{o:HO}{t':Nat}(I:Inv X pins σ H s)(k:∀ b u,s.heap.get? b=some u->h'.get? b=some u)(hp:s.heap.objs.size<=a)(new:ze9 X.prog X.w (upd H a o) h' a o) :
  Inv X pins σ (upd H a o) { s with heap:=h',toks:=t' }:=I.un (Un.laid k hp (I.hok.fresh hp)) (I.hok.laid k hp new)
theorem Inv.write{x e:Addr}{o:HO}{t':Nat}(I:Inv X pins σ H s)(mu:Mut (H x))(he:e=x∨H e=some (.own x))(k:∀ b u,b≠e->s.heap.get? b=some u->h'.get? b=some u)(heo:∃ u,h'.get? e=some u)(new:ze9 X.prog X.w (upd H x o) h' x o):Inv X pins σ (upd H x o) { s with heap:=h',toks:=t' }:=I.un (Un.write mu he k heo) (I.hok.write mu he k heo new)
theorem Inv.pins_of{pins':List (Addr×Obj)}(I:Inv X pins σ H s)(h:∀ p∈pins',s.heap.get? p.1=some p.2/\H p.1=none/\p.1≠X.env.locals/\p.1 ∉ X.fs/\∀ v,p.2.data≠.cell v):Inv X pins' σ H s:=
 ⟨I.ok,I.os,I.bare,I.base,I.loc,I.cell,I.free,I.freeC,fun p hp=>(zcq0.mp hp).elim (fun z=>I.pin p (zcu7 _ z)) (h p),I.hok,I.len⟩
theorem zba8{N:List Str}(hN:N.Nodup){j:Nat}{x:Str}(a:N[i]?=some x)(b:N[j]?=some x):i=j:=by
 obtain⟨h1,e1⟩:=zcm1.mp a
 obtain⟨h2,e2⟩:=zcm1.mp b
 exact (List.getElem_inj hN).mp (e1.trans e2.symm)
theorem zbi6{M:Model}{A:Around}{x:Str}{v:V}{Q:Unit->Shared->Prop}(I:Inv X pins σ H s)(hN:X.N.Nodup)(hi:X.N[i]?=some x)(hx:Loc X.env.scope x)(r:RelV v u)(h:∀ s',Inv X pins (σ.set i (some v)) H s'->(∃ a,Heap.SameBut a s.heap s'.heap/\(a=X.env.locals∨X.env.cells.lookup x=some a))->Q () s')(hf:X.fn x=true∨X.env.scope.names.lookup x=some .local:=by first|exact .inl rfl|exact .inr rfl|assumption):wpAny M A (storeName X.env x u) Q E s:=by
 obtain⟨m,hn,hl⟩:=id I.loc
 have hcls:(X.env.scope.kind==.class || (X.env.scope.kind==.module&&X.env.locals != X.env.globals))=false:=by rw[I.ok.kind];rfl
 have hiσ:i<σ.length:=by rw[I.len];exact (zcm1.mp hi).1
 have cne:=I.cne
 have tracked:∀ {a:Addr}{h':Heap},(∃ o,s.heap.get? a=some o/\H a=none)->Heap.SameBut a s.heap h'->HOk X.prog X.w H h':=fun {a h'} ha hs b ob e=>by
  obtain⟨_,_,hfree⟩:=ha
  refine (I.hok b ob e).stay (fun c w' hc q=>(hs.2 c ?_).trans q) (fun _ q=>q) fun _ _ q=>q
  rintro rfl
  rcases hc with rfl|hc
  ·rw[hfree] at e;cases e
  ·rw[hfree] at hc;cases hc
 rcases hx with hk|hk
 ·refine wpAny_storeName_local hk hn (fun h' hn' hs=>?_) hcls
  obtain⟨oL,_,_,hoL,_⟩:=id hn
  refine h _ ⟨I.ok,I.os,I.bare,⟨fun b o e n hb hx=>?_,fun b o e n hb hx=>?_,I.base.free,fun b o e hx=>?_,I.base.tups,I.base.frzs,I.base.tbls⟩,⟨_,hn',fun j y v' e1 e2 e3=>?_⟩,fun y c e=>?_,I.free,I.freeC,fun p hp=>?_,tracked ⟨oL,hoL,I.free⟩ hs,by simpa using I.len⟩ ⟨_,hs,.inl rfl⟩
  ·exact (hs.2 b (zcp2 (zco6 (zcn3 e) I.ok.above))).trans (I.base.keep b o e n hb hx)
  ·obtain⟨sl,e1⟩:=I.base.slot b o e n hb hx
   exact⟨sl,(hs.2 b (zcp2 (zco6 (zcn3 e) I.ok.above))).trans e1⟩
  ·obtain⟨o',e1⟩:=I.base.there b o e hx
   exact⟨o',(hs.2 b (zcp2 (zco6 (zcn3 e) I.ok.above))).trans e1⟩
  ·by_cases hj:j=i
   ·subst hj
    rw[hi] at e1;cases e1
    rw[List.getElem?_set_self hiσ] at e2
    cases e2
    exact⟨u,r,.inl ⟨hk,by simp⟩⟩
   ·rw[List.getElem?_set_ne (Ne.symm hj)] at e2
    obtain⟨u',r',q⟩:=hl j y v' e1 e2 e3
    refine⟨u',r',?_⟩
    rcases q with ⟨k,e⟩|⟨k,c,e,z⟩
    ·refine .inl ⟨k,?_⟩
     have:y≠x:=fun e=>hj (zba8 hN e1 (e▸hi))
     simp[this,e]
    ·exact .inr ⟨k,c,e,z.sameBut hs (cne y c e)⟩
  ·obtain⟨w',z⟩:=I.cell y c e
   exact⟨w',z.sameBut hs (cne y c e)⟩
  ·obtain⟨e,n,ne,nf,d⟩:=I.pin p hp
   exact⟨(hs.2 p.1 ne).trans e,n,ne,nf,d⟩
 ·have hfn:X.fn x=true:=by
   rcases hf with z|z
   ·exact z
   ·rw[z] at hk;cases hk
  obtain⟨c,hc⟩:=I.ok.has x (.inl hk)
  obtain⟨w',z⟩:=I.cell x c hc
  refine wpAny_storeName_cell I.ok.kind hk hc z (fun h' hc' hs=>?_)
  obtain⟨oc,hoc,hocd⟩:=id z
  refine h { s with heap:=h' } ⟨I.ok,I.os,I.bare,⟨fun b o e n hb hx=>?_,fun b o e n hb hx=>?_,I.base.free,fun b o e hx=>?_,I.base.tups,I.base.frzs,I.base.tbls⟩,⟨m,hn.sameBut hs (Ne.symm (cne x c hc)),fun j y v' e1 e2 e3=>?_⟩,fun y c' e=>?_,I.free,I.freeC,fun p hp=>?_,tracked ⟨oc,hoc,I.freeC x c hc⟩ hs,by simpa using I.len⟩ ⟨c,hs,.inr hc⟩
  ·exact (hs.2 b (zcp2 (zco6 (zcn3 e) (I.ok.cab x c hfn hc)))).trans (I.base.keep b o e n hb hx)
  ·obtain⟨sl,e1⟩:=I.base.slot b o e n hb hx
   exact⟨sl,(hs.2 b (zcp2 (zco6 (zcn3 e) (I.ok.cab x c hfn hc)))).trans e1⟩
  ·obtain⟨o',e1⟩:=I.base.there b o e hx
   exact⟨o',(hs.2 b (zcp2 (zco6 (zcn3 e) (I.ok.cab x c hfn hc)))).trans e1⟩
  ·by_cases hj:j=i
   ·subst hj
    rw[hi] at e1;cases e1
    rw[List.getElem?_set_self hiσ] at e2
    cases e2
    exact⟨u,r,.inr ⟨.inl hk,c,hc,hc'⟩⟩
   ·rw[List.getElem?_set_ne (Ne.symm hj)] at e2
    obtain⟨u',r',q⟩:=hl j y v' e1 e2 e3
    refine⟨u',r',?_⟩
    rcases q with q|⟨k,c',e,z'⟩
    ·exact .inl q
    ·refine .inr ⟨k,c',e,z'.sameBut hs ?_⟩
     rintro rfl
     exact hj (zba8 hN e1 (I.ok.inj _ _ _ e hc▸hi))
  ·by_cases hcc:c'=c
   ·subst hcc;exact⟨_,hc'⟩
   ·obtain⟨w2,z2⟩:=I.cell y c' e
    exact⟨w2,z2.sameBut hs hcc⟩
  ·obtain⟨e,n,ne,nf,d⟩:=I.pin p hp
   refine⟨(hs.2 p.1 ?_).trans e,n,ne,nf,d⟩
   intro q
   rw[q,hoc] at e
   have q':oc=p.2:=Option.some.inj e
   exact d w' (by rw[← q'];exact hocd)
theorem zam2{M:Model}{A:Around}{x:Str}{v:V}{Q:Unit->Shared->Prop}(I:Inv X pins σ H s)(hN:X.N.Nodup)(hi:X.N[i]?=some x)(hx:Loc X.env.scope x)(r:RelV v u)(h:∀ s',Inv X pins (σ.set i (some v)) H s'->Q () s')(hf:X.fn x=true∨X.env.scope.names.lookup x=some .local:=by first|exact .inl rfl|exact .inr rfl|assumption):wpAny M A (storeName X.env x u) Q E s:=
 zbi6 I hN hi hx r (fun s' I' _=>h s' I') hf
theorem Inv.call'{s':Shared}{ch:List Addr}(I:Inv X pins σ H s)(ho:s'.os=s.os)(u:Un (frs X.stack) ch H H' s.heap s'.heap)(hok:HOk X.prog X.w H' s'.heap)(hg:AllBare s'.gens)(hch:∀ b∈ch,(b∈X.ex∨X.s₀.heap.objs.size<=b)/\b≠X.env.locals/\(∀ x c,X.env.cells.lookup x=some c->c≠b)/\∀ p∈X.pn++pins,p.1≠b):Inv X pins σ H' s':=by
 obtain⟨h',g',d',t',o'⟩:=s'
 have e:o'=s.os:=ho
 subst e
 exact I.call (g':=g') (t':=t') (d':=d') u hok hg hch
end
abbrev XK:=Value->Option Addr->Hp->Prop
abbrev St:=List (Option V)
variable {σ:St}
abbrev VK:=V->Hp->Prop
abbrev TE:=St->Hp->VK->Prop
abbrev TT:=St->Hp->(Bool->Hp->Prop)->Prop
abbrev TA:=St->Hp->(List V->Hp->Prop)->Prop
structure Ends where
 nx:St->Hp->Prop
 rt:VK
 bk:St->Hp->Prop:=fun _ _=>False
 ct:St->Hp->Prop:=fun _ _=>False
abbrev TS:=Ends->St->Hp->Prop
def EP(X:Cx)(pins:List (Addr×Obj))(σ:St)(Q:VK)(u:Value)(s':Shared):Prop:=∃ v H',Inv X pins σ H' s'/\RelV v u/\Q v H'
def TP(X:Cx)(pins:List (Addr×Obj))(σ:St)(Q:Bool->Hp->Prop)(b:Bool)(s':Shared):Prop:=∃ H',Inv X pins σ H' s'/\Q b H'
def AP(X:Cx)(pins:List (Addr×Obj))(σ:St)(Q:List V->Hp->Prop)(us:List Value)(s':Shared):Prop:=∃ vs H',Inv X pins σ H' s'/\Vals vs us/\Q vs H'
def SP(X:Cx)(pins:List (Addr×Obj))(D:Ends)(f:Flow)(s':Shared):Prop:=
 match f with
 | .next=>∃ σ' H',Inv X pins σ' H' s'/\D.nx σ' H'
 | .brk=>∃ σ' H',Inv X pins σ' H' s'/\D.bk σ' H'
 | .cont=>∃ σ' H',Inv X pins σ' H' s'/\D.ct σ' H'
 | .ret u=>∃ v σ' H',Inv X pins σ' H' s'/\RelV v u/\D.rt v H'
def PE(X:Cx)(e:Expr)(t:TE):Prop:=
 ∀ (pins:List (Addr×Obj)) (s:Shared) (σ:St) (H:Hp) (Q:VK),Inv X pins σ H s->t σ H Q->wpAny (model X.prog X.w) X.A (eval e X.env) (EP X pins σ Q) X.xe s
def PT(X:Cx)(e:Expr)(t:TT):Prop:=
 ∀ (pins:List (Addr×Obj)) (s:Shared) (σ:St) (H:Hp) (Q:Bool->Hp->Prop),Inv X pins σ H s->t σ H Q->wpAny (model X.prog X.w) X.A (isTrue e X.env (eval e X.env)) (TP X pins σ Q) X.xe s
def PW(X:Cx)(e:Expr)(t:TT):Prop:=
 ∀ (whole:Sem Value) (pins:List (Addr×Obj)) (s:Shared) (σ:St) (H:Hp) (Q:Bool->Hp->Prop),Inv X pins σ H s->t σ H Q->wpAny (model X.prog X.w) X.A (isTrue e X.env whole) (TP X pins σ Q) X.xe s
theorem PW.pt{X:Cx}{t:TT}(h:PW X e t):PT X e t:=h _
def PA(X:Cx)(es:List Expr)(t:TA):Prop:=
 ∀ (pos:Pos) (pins:List (Addr×Obj)) (s:Shared) (σ:St) (H:Hp) (Q:List V->Hp->Prop),Inv X pins σ H s->t σ H Q->wpAny (model X.prog X.w) X.A (spliced (backTo pos (starEach es X.env))) (AP X pins σ Q) X.xe s
def PS(X:Cx)(st:Stmt)(t:TS):Prop:=
 ∀ (pins:List (Addr×Obj)) (s:Shared) (σ:St) (H:Hp) (D:Ends),Inv X pins σ H s->t D σ H->wpAny (model X.prog X.w) X.A (exec st X.env) (SP X pins D) X.xe s
def PSs(X:Cx)(st:List Stmt)(t:TS):Prop:=
 ∀ (pins:List (Addr×Obj)) (s:Shared) (σ:St) (H:Hp) (D:Ends),Inv X pins σ H s->t D σ H->wpAny (model X.prog X.w) X.A (execs st X.env) (SP X pins D) X.xe s
theorem thn{α:Type}{t:Sem α}{Q Q':α->Shared->Prop}{M:Model}{A:Around}(h:wpAny M A t Q E s)(hQ:∀ a s,Q a s->Q' a s):wpAny M A t Q' E s:=wpAny_mono h hQ fun _ _ x=>x
section
variable {X:Cx}
theorem bin{a b:Expr}{ta tb:TE}(ha:PE X a ta)(hb:PE X b tb){R:V->V->Hp->Prop}(I:Inv X pins σ H s)(h:ta σ H fun x H1=>tb σ H1 fun y H2=>R x y H2){α:Type}{Q:α->Shared->Prop}{f:Value->Value->Sem α}(hf:∀ v u s2 x y H2,Inv X pins σ H2 s2->RelV x v->RelV y u->R x y H2->wpAny (model X.prog X.w) X.A (f v u) Q X.xe s2) :
  wpAny (model X.prog X.w) X.A (eval a X.env) (fun v s₁=>wpAny (model X.prog X.w) X.A (eval b X.env) (fun u s₂=>wpAny (model X.prog X.w) X.A (f v u) Q X.xe s₂) X.xe s₁) X.xe s:=by
 refine thn (ha pins s σ H _ I h) fun v s1 ⟨x,H1,I1,r1,q1⟩=>?_
 refine thn (hb pins s1 σ H1 _ I1 q1) fun u s2 ⟨y,H2,I2,r2,q2⟩=>?_
 exact hf v u s2 x y H2 I2 r1 r2 q2
def tVar(i:Nat):TE:=fun σ H Q=>∃ v,σ[i]?=some (some v)/\Q v H
def tC(v:V):TE:=fun _ H Q=>Q v H
theorem pe_var{x:Str}{pos:Pos}(hN:X.N[i]?=some x)(hv:Vis X.env.scope x)(hd:(x==("__debug__":Str))=false:=by decide)(hcd:(x==("__classdict__":Str))=false:=by decide):PE X (.Name x pos) (tVar i):=by
 intro pins s σ H Q I h
 obtain⟨v,e,h⟩:=h
 obtain⟨m,hn,hl⟩:=I.loc
 obtain⟨u,r,l⟩:=hl i x v hN e hv
 have fin:EP X pins σ Q u s:=⟨v,H,I,r,h⟩
 rcases l with ⟨hk,hm⟩|⟨hk,c,hc,hcell⟩
 ·exact wpAny_Name (wpAny_loadName_local I.ok.kind hk hn hm fin) hd
 ·rcases hk with hk|hk
  ·exact wpAny_Name (wpAny_loadName_cell I.ok.kind hk hc hcell fin) hd
  ·exact wpAny_Name (wpAny_loadName_free I.ok.kind hk hc hcell fin hcd) hd
theorem za2{i j pos}:PE X (.Constant (.int i) j pos) (tC (.int i)):=fun _ _ _ H _ I h=>wpAny_Constant_int ⟨.int i,H,I.tok _,⟨_,rfl⟩,h⟩
theorem zab6{b j pos}:PE X (.Constant (.bool b) j pos) (tC (.bl b)):=fun _ _ _ H _ I h=>Constant_bool ⟨.bl b,H,I,rfl,h⟩
theorem zr3{x j pos}:PE X (.Constant (.str x) j pos) (tC (.str x)):=fun _ _ _ H _ I h=>Calls.Constant_str ⟨.str x,H,I.tok _,⟨_,rfl⟩,h⟩
def Gl(X:Cx)(x:Str):Prop:=X.env.kindOf x=some .globalImplicit
theorem zak8{x:Str}{pos:Pos}{Q:Value->Shared->Prop}(I:Inv X pins σ H s)(hg:Gl X x)(hm:X.mg x=some u)(h:Q u s)(hd:(x==("__debug__":Str))=false:=by decide):wpAny (model X.prog X.w) X.A (eval (.Name x pos) X.env) Q E s:=
 Calls.Name_function_global I.ok.kind hg (Calls.loadGlobal_global (by rw[I.ok.glob];exact I.mod.glob.keeps I.bk) hm h) hd
theorem zaa2{x:Str}{pos:Pos}{Q:Value->Shared->Prop}(I:Inv X pins σ H s)(hg:Gl X x)(hm:X.mg x=none)(hv:bootBuiltins x=some u)(h:Q u s)(hn:x≠"__name__":=by decide)(hd:(x==("__debug__":Str))=false:=by decide):wpAny (model X.prog X.w) X.A (eval (.Name x pos) X.env) Q E s:=by
 obtain⟨mb,h1,h2⟩:=I.mod.blt
 exact Calls.Name_function_global I.ok.kind hg (Calls.loadGlobal_builtin (by rw[I.ok.glob];exact I.mod.glob.keeps I.bk) hm (by rw[I.ok.blt];exact h1.keeps I.bk) ((h2 x hn).trans hv) h) hd
theorem zab2{x:Str}{v:V}{pos:Pos}(hg:Gl X x)(hm:X.mg x=some u)(r:RelV v u)(hd:(x==("__debug__":Str))=false:=by decide):PE X (.Name x pos) (tC v):=
 fun _ _ _ H _ I h=>zak8 I hg hm ⟨v,H,I,r,h⟩ hd
theorem zcb8{x:Str}{v:V}{pos:Pos}(hg:Gl X x)(hm:X.mg x=none)(hv:bootBuiltins x=some u)(r:RelV v u)(hn:x≠"__name__":=by decide)(hd:(x==("__debug__":Str))=false:=by decide):PE X (.Name x pos) (tC v):=
 fun _ _ _ H _ I h=>zaa2 I hg hm hv ⟨v,H,I,r,h⟩ hn hd
variable {a b:Expr}{ta tb:TE}{pos:Pos}
variable {tA tB':TT}{rest:List Expr}
def tAnd(t u:TT):TT:=fun σ H Q=>t σ H fun c H1=>if c=true then u σ H1 Q else Q false H1
def tOr(t u:TT):TT:=fun σ H Q=>t σ H fun c H1=>if c=true then Q true H1 else u σ H1 Q
def tNot(t:TT):TT:=fun σ H Q=>t σ H fun c H1=>Q (!c) H1
theorem zav9(ha:PT X a tA):PW X (.BoolOp .And [a] pos) tA:=by
 intro wh pins s σ H Q I h
 refine isTrue_and (thn (ha pins s σ H Q I h) fun c s1 e=>?_)
 cases c with
 | true=>exact isTrue_and_nil e
 | false=>exact e
theorem zz5(ha:PT X a tA):PW X (.BoolOp .Or [a] pos) tA:=by
 intro wh pins s σ H Q I h
 refine isTrue_or (thn (ha pins s σ H Q I h) fun c s1 e=>?_)
 cases c with
 | false=>exact isTrue_or_nil e
 | true=>exact e
theorem pw_and(ha:PT X a tA)(hb:PW X (.BoolOp .And (b :: rest) pos) tB'):PW X (.BoolOp .And (a :: b :: rest) pos) (tAnd tA tB'):=by
 intro wh pins s σ H Q I h
 refine isTrue_and (thn (ha pins s σ H _ I h) fun c s1 ⟨H1,I1,q1⟩=>?_)
 cases c with
 | true=>exact hb wh pins s1 σ H1 Q I1 q1
 | false=>exact⟨H1,I1,q1⟩
theorem pw_or(ha:PT X a tA)(hb:PW X (.BoolOp .Or (b :: rest) pos) tB'):PW X (.BoolOp .Or (a :: b :: rest) pos) (tOr tA tB'):=by
 intro wh pins s σ H Q I h
 refine isTrue_or (thn (ha pins s σ H _ I h) fun c s1 ⟨H1,I1,q1⟩=>?_)
 cases c with
 | true=>exact⟨H1,I1,q1⟩
 | false=>exact hb wh pins s1 σ H1 Q I1 q1
theorem zh4(ha:PT X a tA):PT X (.UnaryOp .Not a pos) (tNot tA):=by
 intro pins s σ H Q I h
 exact isTrue_not (ha pins s σ H (fun c H1=>Q (!c) H1) I h)
theorem zk6{op}{t:TE}(h:PE X a t):PE X (.BoolOp op [a] pos) t:=fun pins s σ H Q I hw=>BoolOp_one (h pins s σ H Q I hw)
def tIf(t:TT)(ta tb:TE):TE:=fun σ H Q=>t σ H fun c H1=>if c=true then ta σ H1 Q else tb σ H1 Q
theorem zbs3{c:Expr}(hc:PT X c tA)(ha:PE X a ta)(hb:PE X b tb):PE X (.IfExp c a b pos) (tIf tA ta tb):=by
 intro pins s σ H Q I h
 refine wpAny_IfExp (thn (hc pins s σ H _ I h) fun d s1 ⟨H1,I1,q1⟩=>?_)
 cases d with
 | true=>exact ha pins s1 σ H1 Q I1 q1
 | false=>exact hb pins s1 σ H1 Q I1 q1
end
def SqL(K:zcm2)(H:Hp)(a:Addr)(xs:List V):Prop:=
 Rd H a (.lst xs) ∨
  ∃ (o:Obj) (its:Array Value) (n:Nat),K.lookup a=some o/\o.cls=.type "list"/\o.dict=none/\o.data=.seq its n/\its.size<=sizeLine/\Vals xs its.toList
def SqT(K:zcm2)(H:Hp)(a:Addr)(xs:List V):Prop:=
 Rd H a (.tup xs) ∨
  ∃ (o:Obj) (its:Array Value) (n:Nat),K.lookup a=some o/\o.cls=.type "tuple"/\o.data=.seq its n/\its.size<=sizeLine/\Vals xs its.toList
def absV:Value->Option V
 | .none=>some .non
 | .bool b=>some (.bl b)
 | .int i _=>some (.int i)
 | .str x _=>some (.str x)
 | .bytes b _=>some (.byt b)
 | .float b _=>some (.flt b)
 | .ref a=>some (.ref a)
 | .type n=>some (.ty n)
 | _=>none
theorem RelV.abs{x:V}(r:RelV x u):absV u=some x:=by
 cases x with
 | non=>cases r;rfl
 | bl _=>cases r;rfl
 | int _=>obtain⟨t,rfl⟩:=r;rfl
 | str _=>obtain⟨t,rfl⟩:=r;rfl
 | byt _=>obtain⟨t,rfl⟩:=r;rfl
 | flt _=>obtain⟨t,rfl⟩:=r;rfl
 | ref _=>cases r;rfl
 | ty _=>cases r;rfl
theorem RelV.inj{x y:V}{u:Value}(r:RelV x u)(q:RelV y u):x=y:=Option.some.inj (r.abs.symm.trans q.abs)
theorem Vals.inj:∀ {xs ys:List V}{us:List Value},Vals xs us->Vals ys us->xs=ys
 | _,_,_,.nil,.nil=>rfl
 | _,_,_,.cons r t,.cons r' t'=>by rw[r.inj r',Vals.inj t t']
section
variable {X:Cx}{pins:List (Addr×Obj)}{σ:St}{H:Hp}{s:Shared}{a:Addr}{xs ys:List V}
theorem SqL.of{K:zcm2}(h:H a=some (.lst xs)):SqL K H a xs:=.inl (.inl h)
theorem SqT.of{K:zcm2}(h:H a=some (.tup xs)):SqT K H a xs:=.inl (.inl h)
theorem Inv.list(I:Inv X pins σ H s)(h:SqL X.K H a xs):∃ its:List Value,Vals xs its/\PlainL s.heap a its.toArray/\xs.length<=sizeLine:=by
 rcases h with h|⟨o,its,n,hk,hc,hd,hs,hz,r⟩
 ·obtain⟨z,its,n,r,e⟩:=h.ok I.hok
  exact⟨its,r,⟨_,n,e,rfl,rfl,rfl⟩,z⟩
 ·refine⟨its.toList,r,⟨o,n,I.kIn a o hk,hc,hd,by simpa using hs⟩,?_⟩
  have e:=r.length
  simp only[zco9] at e
  omega
theorem Inv.tuple(I:Inv X pins σ H s)(h:SqT X.K H a xs):∃ its:List Value,Vals xs its/\IsTup s.heap a its.toArray/\xs.length<=sizeLine:=by
 rcases h with h|⟨o,its,n,hk,hc,hs,hz,r⟩
 ·obtain⟨z,its,r,p⟩:=h.ok I.hok
  exact⟨its,r,p,z⟩
 ·refine⟨its.toList,r,⟨o,I.kIn a o hk,hc,n,by simpa using hs⟩,?_⟩
  have e:=r.length
  simp only[zco9] at e
  omega
theorem Inv.list_inj(I:Inv X pins σ H s)(h:SqL X.K H a xs)(h':SqL X.K H a ys):xs=ys:=by
 obtain⟨its,r,⟨o,n,e,_,_,d⟩,_⟩:=I.list h
 obtain⟨its',r',⟨o',n',e',_,_,d'⟩,_⟩:=I.list h'
 rw[e] at e';cases e'
 rw[d] at d'
 injection d' with d1 _
 have:its=its':=by simpa using congrArg Array.toList d1
 subst this
 exact r.inj r'
theorem Inv.tuple_inj(I:Inv X pins σ H s)(h:SqT X.K H a xs)(h':SqT X.K H a ys):xs=ys:=by
 obtain⟨its,r,⟨o,e,_,n,d⟩,_⟩:=I.tuple h
 obtain⟨its',r',⟨o',e',_,n',d'⟩,_⟩:=I.tuple h'
 rw[e] at e';cases e'
 rw[d] at d'
 injection d' with d1 _
 have:its=its':=by simpa using congrArg Array.toList d1
 subst this
 exact r.inj r'
end
abbrev Cx.wish(X:Cx)(E:Value->Shared->Prop):Cx:={ X with xe:=E }
abbrev Cx.nox(X:Cx):Cx:=X.wish fun _ _=>False
theorem Cx.Ok.wish{X:Cx}(ok:X.Ok)(E:Value->Shared->Prop):(X.wish E).Ok:=
 ⟨ok.mod,ok.kind,ok.glob,ok.blt,ok.above,ok.inj,ok.has,ok.cab,ok.hd,ok.frames,ok.stk,ok.exf,ok.bs,ok.bsz,ok.noex,ok.exfs,ok.funs,ok.frf⟩
theorem Cx.Ok.unwish{X:Cx}(ok:(X.wish E).Ok):X.Ok:=
 ⟨ok.mod,ok.kind,ok.glob,ok.blt,ok.above,ok.inj,ok.has,ok.cab,ok.hd,ok.frames,ok.stk,ok.exf,ok.bs,ok.bsz,ok.noex,ok.exfs,ok.funs,ok.frf⟩
section
variable {X:Cx}{pins:List (Addr×Obj)}{σ:St}{H:Hp}{s:Shared}{E:Value->Shared->Prop}
theorem Inv.wish(I:Inv X pins σ H s)(E:Value->Shared->Prop):Inv (X.wish E) pins σ H s:=⟨I.ok.wish E,I.os,I.bare,I.base,I.loc,I.cell,I.free,I.freeC,I.pin,I.hok,I.len⟩
theorem Inv.unwish(I:Inv (X.wish E) pins σ H s):Inv X pins σ H s:=⟨I.ok.unwish,I.os,I.bare,I.base,I.loc,I.cell,I.free,I.freeC,I.pin,I.hok,I.len⟩
theorem SP.unwish{D:Ends}{f:Flow}{s':Shared}(h:SP (X.wish E) pins D f s'):SP X pins D f s':=by
 cases f with
 | next=>obtain⟨σ',H',I,q⟩:=h;exact⟨σ',H',I.unwish,q⟩
 | brk=>obtain⟨σ',H',I,q⟩:=h;exact⟨σ',H',I.unwish,q⟩
 | cont=>obtain⟨σ',H',I,q⟩:=h;exact⟨σ',H',I.unwish,q⟩
 | ret u=>obtain⟨v,σ',H',I,r,q⟩:=h;exact⟨v,σ',H',I.unwish,r,q⟩
theorem PSs.nox{st:List Stmt}{t:TS}(h:PSs X.nox st t):PSs X st t:=fun pins s σ H D I hw=>
 wpAny_mono (h pins s σ H D (I.wish _) hw) (fun _ _ q=>q.unwish) fun _ _ z=>False.elim z
end
section
variable {X:Cx}{st:Stmt}{rest:List Stmt}{t u:TS}{e:Expr}{te:TE}{pos:Pos}
def tNext:TS:=fun D σ H=>D.nx σ H
def tSeq(t u:TS):TS:=fun D σ H=>t { D with nx:=u D } σ H
theorem zc0:PSs X [] tNext:=fun _ _ σ H _ I h=>wpAny_execs_nil ⟨σ,H,I,h⟩
theorem za3(h1:PS X st t)(h2:PSs X rest u):PSs X (st :: rest) (tSeq t u):=by
 intro pins s σ H D I h
 refine wpAny_execs_cons (thn (h1 pins s σ H { D with nx:=u D } I h) fun f s1 q=>?_)
 cases f with
 | next=>
  obtain⟨σ',H',I',q⟩:=q
  exact h2 pins s1 σ' H' D I' q
 | ret v=>exact q
 | brk=>exact q
 | cont=>exact q
theorem za5(h1:PS X st t):PSs X [st] t:=by
 intro pins s σ H D I h
 refine wpAny_execs_cons (thn (h1 pins s σ H D I h) fun f s1 q=>?_)
 cases f with
 | next=>exact wpAny_execs_nil q
 | ret v=>exact q
 | brk=>exact q
 | cont=>exact q
theorem Inv.quiet(I:Inv X pins σ H s):interactive X.env=false:=by simp[interactive,I.ok.kind]
def tDrop(te:TE):TS:=fun D σ H=>te σ H fun _ H1=>D.nx σ H1
theorem zn8(he:PE X e te)(hs:swapsWith e none pos.line X.env=pure false:=by rfl):PS X (.Expr e pos) (tDrop te):=by
 intro pins s σ H D I h
 exact wpAny_Expr_any (thn (he pins s σ H _ I h) fun v s1 ⟨x,H1,I1,r1,q1⟩=>⟨σ,H1,I1,q1⟩) I.quiet hs
def tRet(te:TE):TS:=fun D σ H=>te σ H D.rt
theorem za9(he:PE X e te):PS X (.Return (some e) pos) (tRet te):=by
 intro pins s σ H D I h
 exact wpAny_Return_some (thn (he pins s σ H _ I h) fun v s1 ⟨x,H1,I1,r1,q1⟩=>⟨x,σ,H1,I1,r1,q1⟩)
def tIfS(c:TT)(t u:TS):TS:=fun D σ H=>c σ H fun b H1=>if b=true then t D σ H1 else u D σ H1
theorem ps_if{c:Expr}{a b:List Stmt}{tc:TT}(hc:PT X c tc)(ha:PSs X a t)(hb:PSs X b u):PS X (.If c a b pos) (tIfS tc t u):=by
 intro pins s σ H D I h
 refine wpAny_If (thn (hc pins s σ H _ I h) fun d s1 ⟨H1,I1,q1⟩=>?_)
 cases d with
 | true=>exact ha pins s1 σ H1 D I1 q1
 | false=>exact hb pins s1 σ H1 D I1 q1
def tNever:TS:=fun _ _ _=>False
theorem zal1:PS X st tNever:=fun _ _ _ _ _ _ h=>h.elim
end
abbrev TG:=V->St->Hp->(St->Hp->Prop)->Prop
abbrev TGs:=List V->St->Hp->(St->Hp->Prop)->Prop
def PG(X:Cx)(target:Expr)(t:TG):Prop:=
 ∀ (pins:List (Addr×Obj)) (s:Shared) (σ:St) (H:Hp) (v:V) (u:Value) (Q:St->Hp->Prop),Inv X pins σ H s->RelV v u->t v σ H Q ->
  wpAny (model X.prog X.w) X.A (assign target X.env u) (fun _ s'=>∃ σ' H',Inv X pins σ' H' s'/\Q σ' H') X.xe s
def PGs(X:Cx)(ts:List Expr)(t:TGs):Prop:=
 ∀ (pins:List (Addr×Obj)) (s:Shared) (σ:St) (H:Hp) (vs:List V) (us:List Value) (Q:St->Hp->Prop),Inv X pins σ H s->Vals vs us->t vs σ H Q ->
  wpAny (model X.prog X.w) X.A (assignInOrder ((assignEach ts X.env).map (·.2)) us) (fun _ s'=>∃ σ' H',Inv X pins σ' H' s'/\Q σ' H') X.xe s
abbrev TSet:=V->V->V->Hp->(Hp->Prop)->Prop
def PSet(X:Cx)(t:TSet):Prop:=
 ∀ (pins:List (Addr×Obj)) (s:Shared) (σ:St) (H:Hp) (o i v:V) (ov iv u:Value) (Q:Hp->Prop),Inv X pins σ H s->RelV o ov->RelV i iv->RelV v u->t o i v H Q ->
  wpAny (model X.prog X.w) X.A (setItem ov iv u) (fun _ s'=>∃ H',Inv X pins σ H' s'/\Q H') X.xe s
abbrev TIp:=V->V->Hp->VK->Prop
def PIp(X:Cx)(op:Operator)(t:TIp):Prop:=
 ∀ (pins:List (Addr×Obj)) (s:Shared) (σ:St) (H:Hp) (x y:V) (v u:Value) (Q:VK),Inv X pins σ H s->RelV x v->RelV y u->t x y H Q ->
  wpAny (model X.prog X.w) X.A (inplaceOp op v u) (EP X pins σ Q) X.xe s
section
variable {X:Cx}{pos:Pos}
def gName(i:Nat):TG:=fun v σ H Q=>Q (σ.set i (some v)) H
theorem za7{x:Str}(hN:X.N.Nodup)(hi:X.N[i]?=some x)(hx:Loc X.env.scope x)(hf:X.fn x=true∨X.env.scope.names.lookup x=some .local:=by first|exact .inl rfl|exact .inr rfl|assumption):PG X (.Name x pos) (gName i):=by
 intro pins s σ H v u Q I r h
 exact wpAny_assign_Name (zam2 I hN hi hx r (fun s' I'=>⟨_,H,I',h⟩) hf)
def gNil:TGs:=fun vs σ H Q=>vs=[]/\Q σ H
def gCons(t:TG)(u:TGs):TGs:=fun vs σ H Q=>∃ v r,vs=v :: r/\t v σ H fun σ' H'=>u r σ' H' Q
theorem zcf1:PGs X [] gNil:=by
 intro pins s σ H vs us Q I r h
 obtain⟨e,h⟩:=h
 subst e
 cases r
 exact assignInOrder_nil ⟨σ,H,I,h⟩
theorem zbs2{es:List Expr}{t:TG}{u:TGs}(h1:PG X e t)(h2:PGs X es u)(hs:(assignEach (e :: es) X.env).map (·.2)=assign e X.env :: (assignEach es X.env).map (·.2):=by rfl):PGs X (e :: es) (gCons t u):=by
 intro pins s σ H vs us Q I r h
 obtain⟨v,vr,e1,h⟩:=h
 subst e1
 cases r with
 | cons r rr=>
  rw[hs]
  refine assignInOrder_cons (thn (h1 pins s σ H _ _ _ I r h) fun _ s1 ⟨σ1,H1,I1,q1⟩=>?_)
  exact h2 pins s1 σ1 H1 _ _ Q I1 rr q1
def gTup(K:zcm2)(n:Nat)(t:TGs):TG:=fun v σ H Q=>∃ a xs,v=.ref a/\SqT K H a xs/\xs.length=n/\t xs σ H Q
theorem pg_tup{es:List Expr}{k:Nat}{t:TGs}{n:Nat}(hc:X.calm=true)(h:PGs X es t)(hn:(assignEach es X.env).length=n:=by rfl)(hst:(assignEach es X.env).findIdx? (·.1)=none:=by rfl):PG X (.Tuple es k pos) (gTup X.K n t):=by
 intro pins s σ H v u Q I r hw
 obtain⟨a,xs,e1,hq,hl,hw⟩:=hw
 subst e1
 cases r
 obtain⟨its,rv,ht,hz⟩:=I.tuple hq
 refine assign_Tuple_tuple (I.ok.hd hc) ht (by simp[hn,← hl,rv.length]) hst fun h' hx=>?_
 have I1:Inv X pins σ H { s with heap:=h' }:=I.kept (t':=s.toks) fun b o e=>hx b o (zcp2 (zcn3 e)) e
 exact h pins _ σ H xs _ Q I1 (by simpa using rv) hw
def gSub(to ti:TE)(t:TSet):TG:=fun v σ H Q=>to σ H fun o H1=>ti σ H1 fun i H2=>t o i v H2 fun H3=>Q σ H3
theorem zbw3{o i:Expr}{to ti:TE}{t:TSet}(ho:PE X o to)(hi:PE X i ti)(hs:PSet X t)(ha:∀ v,assign (.Subscript o i pos) X.env v=(do
   let ov ← holding [v] (eval o X.env)
   let iv ← holding [v,ov] (eval i X.env)
   standAt pos
   holding [v,ov,iv] (setItem ov iv v)
   release [v,ov,iv] []):=by intro _;rfl):PG X (.Subscript o i pos) (gSub to ti t):=by
 intro pins s σ H v u Q I r h
 rw[ha]
 refine zcv3 (zcv8 (thn (ho pins s σ H _ I h) fun ov s1 ⟨x,H1,I1,r1,q1⟩=>?_))
 refine zcv3 (zcv8 (thn (hi pins s1 σ H1 _ I1 q1) fun iv s2 ⟨y,H2,I2,r2,q2⟩=>?_))
 refine zcv3 (wpAny_standAt (zcv3 (zcv8 (thn (hs pins s2 σ H2 x y v ov iv u _ I2 r1 r2 r q2) fun _ s3 ⟨H3,I3,q3⟩=>?_))))
 exact wpAny_release ⟨σ,H3,I3,q3⟩
def tAsg(te:TE)(g:TG):TS:=fun D σ H=>te σ H fun x H1=>g x σ H1 D.nx
theorem zbn5{te:TE}{g:TG}(he:PE X e te)(hg:PG X tg g)(hs:swapsWithSole [tg] e pos.line X.env=pure false:=by rfl)(hw:swappedStores [tg] e X.env=pure none:=by rfl)(h1:(assignEach [tg] X.env).map (·.2)=[assign tg X.env]:=by rfl):PS X (.Assign [tg] e pos) (tAsg te g):=by
 intro pins s σ H D I h
 refine wpAny_Assign_stores (thn (he pins s σ H _ I h) fun v s1 ⟨x,H1,I1,r1,q1⟩=>?_) hs hw
 rw[h1]
 exact thn (hg pins s1 σ H1 x v _ I1 r1 q1) fun _ s2 q=>q
theorem ps_set{x:Str}{te:TE}{pos':Pos}(hN:X.N.Nodup)(hi:X.N[i]?=some x)(hx:Loc X.env.scope x)(he:PE X e te)(hs:swapsWith e (some (.Name x pos')) pos.line X.env=pure false:=by rfl)(hf:X.fn x=true∨X.env.scope.names.lookup x=some .local:=by first|exact .inl rfl|exact .inr rfl|assumption) :
  PS X (.Assign [.Name x pos'] e pos) (tAsg te (gName i)):=by
 intro pins s σ H D I h
 refine wpAny_Assign_Name (thn (he pins s σ H _ I h) fun v s1 ⟨y,H1,I1,r1,q1⟩=>?_) hs
 exact zam2 I1 hN hi hx r1 (fun s2 I2=>⟨_,H1,I2,q1⟩) hf
def tAug(i:Nat)(te:TE)(ti:TIp):TS:=fun D σ H=>∃ x,σ[i]?=some (some x)/\te σ H fun y H1=>ti x y H1 fun z H2=>D.nx (σ.set i (some z)) H2
theorem ps_aug{x:Str}{te:TE}{op:Operator}{ti:TIp}{pos':Pos}(hN:X.N.Nodup)(hi:X.N[i]?=some x)(hx:Loc X.env.scope x)(he:PE X e te)(ho:PIp X op ti)(hf:X.fn x=true∨X.env.scope.names.lookup x=some .local:=by first|exact .inl rfl|exact .inr rfl|assumption) :
  PS X (.AugAssign (.Name x pos') op e pos) (tAug i te ti):=by
 intro pins s σ H D I h
 obtain⟨v,e1,h⟩:=h
 obtain⟨m,hn,hl⟩:=I.loc
 have vis:Vis X.env.scope x:=by rcases hx with k|k;exact .inl k;exact .inr (.inl k)
 obtain⟨u,r,l⟩:=hl i x v hi e1 vis
 refine wpAny_AugAssign_Name ?_
 have go:wpAny (model X.prog X.w) X.A (eval e X.env) (fun w s₂=>wpAny (model X.prog X.w) X.A (inplaceOp op u w) (fun r s₃=>wpAny (model X.prog X.w) X.A (storeName X.env x r) (fun _=>SP X pins D .next) X.xe s₃) X.xe s₂) X.xe s:=by
  refine thn (he pins s σ H _ I h) fun w s1 ⟨y,H1,I1,r1,q1⟩=>?_
  refine thn (ho pins s1 σ H1 v y u w _ I1 r r1 q1) fun z s2 ⟨zv,H2,I2,r2,q2⟩=>?_
  exact zam2 I2 hN hi hx r2 (fun s3 I3=>⟨_,H2,I3,q2⟩) hf
 rcases l with ⟨hk,hm⟩|⟨hk,c,hc,hcell⟩
 ·exact wpAny_loadName_local I.ok.kind hk hn hm go
 ·rcases hk with hk|hk
  ·exact wpAny_loadName_cell I.ok.kind hk hc hcell go
  ·rcases hx with k|k
   ·have:X.env.scope.names.lookup x=some .free:=hk
    rw[k] at this;cases this
   ·have:X.env.scope.names.lookup x=some .free:=hk
    rw[k] at this;cases this
end
section
variable {X:Cx}{pos:Pos}
def tWhile(c:TT)(tb:TS):TS:=fun D σ H=>∃ W:Nat->St->Hp->Prop,(∃ m,W m σ H)/\∀ m σ H,W m σ H ->
 c σ H fun b H1=>if b=true then ∃ N:St->Hp->Prop,(∀ σ' H',N σ' H'->∃ m',m'<m/\W m' σ' H')/\tb { D with nx:=N,ct:=N,bk:=D.nx } σ H1 else D.nx σ H1
theorem zbu9{c:Expr}{body:List Stmt}{tc:TT}{tb:TS}(hp:PassesOwn (model X.prog X.w) X.A X.env X.xe)(hc:PT X c tc)(hb:PSs X body tb):PS X (.While c body [] pos) (tWhile tc tb):=by
 intro pins s σ H D I h
 obtain⟨W,⟨m0,w0⟩,turn⟩:=h
 refine wpAny_While (codeAny_whileLoop (fun n s'=>∃ σ' H',Inv X pins σ' H' s'/\W n σ' H') ?_ m0 ⟨σ,H,I,w0⟩)
 rintro n s1 ⟨σ1,H1,I1,w1⟩
 refine wpAny_passesOwn hp (thn (hc pins s1 σ1 H1 _ I1 (turn n σ1 H1 w1)) fun b s2 ⟨H2,I2,q2⟩=>?_)
 cases b with
 | true=>
  obtain⟨N,hN,q2⟩:=q2
  rw[if_pos rfl]
  refine wpAny_passesOwn hp (thn (hb pins s2 σ1 H2 _ I2 q2) fun f s3 q3=>?_)
  cases f with
  | next=>
   obtain⟨σ3,H3,I3,n3⟩:=q3
   obtain⟨m',hm,w3⟩:=hN σ3 H3 n3
   exact⟨m',hm,σ3,H3,I3,w3⟩
  | cont=>
   obtain⟨σ3,H3,I3,n3⟩:=q3
   obtain⟨m',hm,w3⟩:=hN σ3 H3 n3
   exact⟨m',hm,σ3,H3,I3,w3⟩
  | brk=>exact q3
  | ret v=>exact q3
 | false=>
  rw[if_neg zcn0]
  exact wpAny_execs_nil ⟨σ1,H2,I2,q2⟩
end
structure It where
 go:Nat->Hp->Prop
 yld:Nat->Hp->V->Hp->Prop
 stop:Nat->Hp->Prop
def FpOk(X:Cx)(pins:List (Addr×Obj))(H:Hp)(b:Addr):Prop:=
 H b=none/\b≠X.env.locals/\b ∉ X.fs/\(b∈X.ex∨X.s₀.heap.objs.size<=b)/\(∀ x c,X.env.cells.lookup x=some c->c≠b)/\∀ p∈X.pn++pins,p.1≠b
theorem Inv.fpOk{X:Cx}{H':Hp}{b:Addr}(I:Inv X pins σ H s)(hb:s.heap.objs.size<=b)(hn:H' b=none):FpOk X pins H' b:=by
 refine⟨hn,zcs7 (zco6 I.lt hb),I.nofs hb,.inr (zcr3 I.sz hb),fun x c e z=>?_,fun p hp z=>?_⟩
 ·obtain⟨v,q⟩:=I.cell x c e
  exact absurd (zco6 q.lt (by rw[z];exact hb)) (zcs5 _)
 ·exact absurd (zco6 (zcn3 (I.pin p hp).1) (by rw[z];exact hb)) (zcs5 _)
structure Turn(P:Program)(w:World)(K:zcm2)(tg:Expr)(J:It)(fp:List Addr)(it:Addr)(tn:Nat->Heap->Prop):Prop where
 mem:it∈fp
 obj:∀ i h,tn i h->∀ b∈fp,∃ o,h.get? b=some o/\∀ v,o.data≠.cell v
 keep:∀ i h h',tn i h->(∀ b∈fp,∀ o,h.get? b=some o->h'.get? b=some o)->tn i h'
 item:∀ (X:Cx),X.prog=P->X.w=w->X.K=K->X.calm=true->∀ (i:Nat) (pins:List (Addr×Obj)) (s:Shared) (σ:St) (H:Hp) (E:Value->Shared->Prop),Inv X pins σ H s->(∀ b∈fp,FpOk X pins H b)->tn i s.heap->J.go i H ->
  wpAny (model P w) X.A (pyNext (.ref it)) (fun r s1=>∃ u,r=some u /\
   wpAny (model P w) X.A (letOwnedTupleGo tg (.ref it) u) (fun _ s2=>∃ x H',Inv X pins σ H' s2/\RelV x u/\J.yld i H x H'/\tn (i+1) s2.heap/\∀ b∈fp,H' b=none) E s1) E s
 done:∀ (X:Cx),X.prog=P->X.w=w->X.K=K->X.calm=true->∀ (i:Nat) (pins:List (Addr×Obj)) (s:Shared) (σ:St) (H:Hp) (E:Value->Shared->Prop),Inv X pins σ H s->(∀ b∈fp,FpOk X pins H b)->tn i s.heap->J.stop i H ->
  wpAny (model P w) X.A (pyNext (.ref it)) (fun r s1=>r=none/\Inv X pins σ H s1) E s
 self:∀ (A:Around) (i:Nat) (s:Shared) (Q:Value->Shared->Prop) (E:Value->Shared->Prop),tn i s.heap->Q (.ref it) s->wpAny (model P w) A (pyIter (.ref it)) Q E s
abbrev TI:=St->Hp->(It->Hp->Prop)->Prop
def PIE(X:Cx)(pins:List (Addr×Obj))(σ:St)(tg:Expr)(R:It->Hp->Prop)(itv:Value)(s2:Shared):Prop:=
 ∃ (it:Addr) (fp:List Addr) (tn:Nat->Heap->Prop) (J:It) (H':Hp),itv=.ref it/\Inv X pins σ H' s2/\Turn X.prog X.w X.K tg J fp it tn/\tn 0 s2.heap/\(∀ b∈fp,FpOk X pins H' b)/\R J H'
def PI(X:Cx)(tg iter:Expr)(wi:TI):Prop:=
 ∀ (pins:List (Addr×Obj)) (s:Shared) (σ:St) (H:Hp) (R:It->Hp->Prop),Inv X pins σ H s->wi σ H R ->
  wpAny (model X.prog X.w) X.A (eval iter X.env) (fun v s1=>wpAny (model X.prog X.w) X.A (pyIter v) (PIE X pins σ tg R) X.xe s1) X.xe s
theorem go_of{M:Model}{A:Around}{it:Addr}{o:Obj}{n:String}{vs:Array Value}{Q:Unit->Shared->Prop}(ho:s.heap.get? it=some o)(hc:o.cls=.type n)(hd:o.data=.fields vs)(hn:["enumerate","zip","dict_itemiterator","dict_reverseitemiterator","odict_iterator","itertools.zip_longest","itertools.pairwise"].contains n=false)(hQ:Q () s):wpAny M A (letOwnedTupleGo tg (.ref it) u) Q E s:=by
 unfold letOwnedTupleGo
 cases tg<;>first
  | exact zcv4 hQ
  | (cases u<;>first
    | exact zcv4 hQ
    | (refine zcv3 (wpAny_load ho ?_);rw[hc,hd];show wpAny M A (if (["enumerate","zip","dict_itemiterator","dict_reverseitemiterator","odict_iterator","itertools.zip_longest","itertools.pairwise"].contains n&&vs[0]?==some (rawInt _))=true then _ else _) Q E s;rw[if_neg (by intro h;rw[hn,Bool.false_and] at h;cases h)];exact zcv4 hQ))
def Itl(K:zcm2)(a:Addr):It:=
 ⟨fun i H=>∃ xs x,SqL K H a xs/\xs[i]?=some x,fun i H x H'=>H'=H/\∀ xs,SqL K H a xs->xs[i]?=some x,fun i H=>∃ xs,SqL K H a xs/\xs.length<=i⟩
def Itt(K:zcm2)(a:Addr):It:=
 ⟨fun i H=>∃ xs x,SqT K H a xs/\xs[i]?=some x,fun i H x H'=>H'=H/\∀ xs,SqT K H a xs->xs[i]?=some x,fun i H=>∃ xs,SqT K H a xs/\xs.length<=i⟩
def Itr(lo:Int)(n:Nat):It:=⟨fun i _=>i<n,fun i H x H'=>H'=H/\x=.int (lo+i),fun i _=>n<=i⟩
theorem zbm6{P:Program}{w:World}{K:zcm2}(a it:Addr):Turn P w K tg (Itl K a) [it] it (fun i h=>h.IsListIter it a i) where
 mem:=by simp
 obj:=fun i h st b hb=>by
  have e:b=it:=by simpa using hb
  subst e
  obtain⟨o,e,c,d⟩:=st
  exact⟨o,e,fun v z=>by rw[d] at z;cases z⟩
 keep:=fun i h h' st k=>st.at fun o e=>k it (by simp) o e
 item:=by
  intro X hP hw hK hc i pins s σ H E I hf st hg
  subst hP hw hK
  obtain⟨xs,x,hq,hx⟩:=hg
  obtain⟨its,rv,p,hz⟩:=I.list hq
  obtain⟨u,hu,ru⟩:=rv.get hx
  obtain⟨f0,f1,f2,f3,f4,f5⟩:=hf it (by simp)
  refine wpAny_pyNext_list_item st p.isList (x:=u) (by simpa using hu) fun h' st' sb=>?_
  have I1:Inv X pins σ H { s with heap:=h' }:=I.turned (t':=s.toks) (fun b o hb e=>(sb.2 b hb).trans e) f0 f1 f3 f4 f5
  obtain⟨o,e,c,d⟩:=id st'
  exact⟨u,rfl,go_of (s:={ s with heap:=h' }) e c d (by decide) ⟨x,H,I1,ru,⟨rfl,fun ys hy=>by rw[I.list_inj hy hq];exact hx⟩,st',fun b hb=>(hf b hb).1⟩⟩
 done:=by
  intro X hP hw hK hc i pins s σ H E I hf st hg
  subst hP hw hK
  obtain⟨xs,hq,hx⟩:=hg
  obtain⟨its,rv,p,hz⟩:=I.list hq
  obtain⟨f0,f1,f2,f3,f4,f5⟩:=hf it (by simp)
  have hl:=rv.length
  exact wpAny_pyNext_list_end (I.ok.hd hc) st p.isList (by simp;omega) fun h' eb=>⟨rfl,I.turned (t':=s.toks) (fun b o hb e=>eb b o hb e) f0 f1 f3 f4 f5⟩
 self:=fun _ _ _ _ _ st h=>wpAny_pyIter_listiter st h
theorem zbd1{P:Program}{w:World}{K:zcm2}(a it:Addr):Turn P w K tg (Itt K a) [it] it (fun i h=>h.IsTupleIter it a i) where
 mem:=by simp
 obj:=fun i h st b hb=>by
  have e:b=it:=by simpa using hb
  subst e
  obtain⟨o,e,c,d⟩:=st
  exact⟨o,e,fun v z=>by rw[d] at z;cases z⟩
 keep:=fun i h h' st k=>st.at fun o e=>k it (by simp) o e
 item:=by
  intro X hP hw hK hc i pins s σ H E I hf st hg
  subst hP hw hK
  obtain⟨xs,x,hq,hx⟩:=hg
  obtain⟨its,rv,p,hz⟩:=I.tuple hq
  obtain⟨u,hu,ru⟩:=rv.get hx
  obtain⟨f0,f1,f2,f3,f4,f5⟩:=hf it (by simp)
  refine wpAny_pyNext_tuple_item st (show s.heap.IsTuple a its.toArray from p) (x:=u) (by simpa using hu) fun h' st' sb=>?_
  have I1:Inv X pins σ H { s with heap:=h' }:=I.turned (t':=s.toks) (fun b o hb e=>(sb.2 b hb).trans e) f0 f1 f3 f4 f5
  obtain⟨o,e,c,d⟩:=id st'
  exact⟨u,rfl,go_of (s:={ s with heap:=h' }) e c d (by decide) ⟨x,H,I1,ru,⟨rfl,fun ys hy=>by rw[I.tuple_inj hy hq];exact hx⟩,st',fun b hb=>(hf b hb).1⟩⟩
 done:=by
  intro X hP hw hK hc i pins s σ H E I hf st hg
  subst hP hw hK
  obtain⟨xs,hq,hx⟩:=hg
  obtain⟨its,rv,p,hz⟩:=I.tuple hq
  obtain⟨f0,f1,f2,f3,f4,f5⟩:=hf it (by simp)
  have hl:=rv.length
  exact wpAny_pyNext_tuple_end (I.ok.hd hc) st (show s.heap.IsTuple a its.toArray from p) (by simp;omega) fun h' eb=>⟨rfl,I.turned (t':=s.toks) (fun b o hb e=>eb b o hb e) f0 f1 f3 f4 f5⟩
 self:=fun _ _ _ _ _ st h=>wpAny_pyIter_tupleiter st h
theorem zbd3{P:Program}{w:World}{K:zcm2}(it:Addr)(lo:Int)(n:Nat):Turn P w K tg (Itr lo n) [it] it (fun i h=>IsRangeIter h it (lo+(i:Nat)*1) ((n:Int) - (i:Nat)) 1) where
 mem:=by simp
 obj:=fun i h st b hb=>by
  have e:b=it:=by simpa using hb
  subst e
  exact⟨_,st,fun v z=>by
   have z':Data.fields _=Data.cell v:=z
   cases z'⟩
 keep:=fun i h h' st k=>k it (by simp) _ st
 item:=by
  intro X hP hw hK hc i pins s σ H E I hf st hg
  subst hP hw hK
  obtain⟨f0,f1,f2,f3,f4,f5⟩:=hf it (by simp)
  have W:=Walks.range (prog:=X.prog) (w:=X.w) (I.ok.hd hc) it lo 1 n
  refine W.item i s _ _ hg st fun v h' tk hv st' kk=>?_
  obtain⟨t,rfl⟩:=hv
  have I1:Inv X pins σ H { s with heap:=h',toks:=tk }:=I.turned (fun b o hb e=>kk b o (by simpa using hb) e) f0 f1 f3 f4 f5
  refine⟨_,rfl,go_of (s:={ s with heap:=h',toks:=tk }) (n:="range_iterator") st' rfl rfl (by decide) ⟨.int (lo+i),H,I1,⟨t,?_⟩,⟨rfl,rfl⟩,st',fun b hb=>(hf b hb).1⟩⟩
  rw[Int.mul_one]
 done:=by
  intro X hP hw hK hc i pins s σ H E I hf st hg
  subst hP hw hK
  obtain⟨f0,f1,f2,f3,f4,f5⟩:=hf it (by simp)
  exact wpAny_pyNext_range_end (I.ok.hd hc) st (by have:n<=i:=hg;omega) fun h' eb=>⟨rfl,I.turned (t':=s.toks) (fun b o hb e=>eb b o hb e) f0 f1 f3 f4 f5⟩
 self:=fun _ _ _ _ _ st h=>wpAny_pyIter_rangeiter st h
section
variable {X:Cx}{tg:Expr}
theorem zay1{R:It->Hp->Prop}{lo hi:Int}{t u v:Tok}{tk:Nat}(I:Inv X pins σ H s)(h1:-(2 ^ 62)<=lo)(h2:lo<2 ^ 62)(h3:-(2 ^ 62)<=hi)(h4:hi<2 ^ 62)(q:R (Itr lo (hi - lo).toNat) H):wpAny (model X.prog X.w) X.A (pyIter (.ref s.heap.objs.size)) (PIE X pins σ tg R) E { s with heap:=s.heap.push { cls:=.type "range",data:=.fields #[.int lo t,.int hi u,.int 1 v] },toks:=tk }:=by
 refine wpAny_pyIter_range (IsRange.new ..) (small_one h1 h2 h3 h4) ?_
 have I1:Inv X pins σ H { s with heap:=s.heap.push { cls:=.type "range",data:=.fields #[.int lo t,.int hi u,.int 1 v] },toks:=tk }:=I.kept fun b o e=>zcm3 _ e
 refine⟨(s.heap.push { cls:=.type "range",data:=.fields #[.int lo t,.int hi u,.int 1 v] }).objs.size,[(s.heap.push { cls:=.type "range",data:=.fields #[.int lo t,.int hi u,.int 1 v] }).objs.size],_,_,H,rfl,
  I1.kept (t':=tk) fun b o e=>zcm3 _ e,zbd3 _ lo (hi - lo).toNat,?_,fun b hb=>?_,q⟩
 ·have e1:lo+((0:Nat):Int)*1=lo:=by simp
  have e2:(((hi - lo).toNat:Nat):Int) - ((0:Nat):Int)=Builtin.Range.rangeSize lo hi 1:=by rw[rangeSize_one];split<;>omega
  show IsRangeIter _ _ (lo+((0:Nat):Int)*1) ((((hi - lo).toNat:Nat):Int) - ((0:Nat):Int)) 1
  rw[e1,e2]
  exact zcn8 _ rfl
 ·have e:b=(s.heap.push { cls:=.type "range",data:=.fields #[.int lo t,.int hi u,.int 1 v] }).objs.size:=by simpa using hb
  subst e
  exact I1.fpOk (zcn4 _) (I1.hok.fresh (zcn4 _))
def tFor(wi:TI)(g:TG)(tb:TS):TS:=fun D σ H=>wi σ H fun J H1=>∃ W:Nat->Nat->St->Hp->Prop,(∃ m,W 0 m σ H1)/\∀ i m σ H,W i m σ H ->
 (J.stop i H/\D.nx σ H)∨(J.go i H/\∃ N:St->Hp->Prop,(∀ σ' H',N σ' H'->∃ m',m'<m/\W (i+1) m' σ' H')/\∀ x H',J.yld i H x H'->g x σ H' fun σ2 H2=>tb { D with nx:=N,ct:=N,bk:=D.nx } σ2 H2)
def zao1(fp:List Addr)(h:Heap):List (Addr×Obj):=fp.filterMap fun b=>(h.get? b).map fun o=>(b,o)
theorem zs8{fp:List Addr}{b:Addr}{o:Obj}(hb:b∈fp)(e:h.get? b=some o):(b,o)∈zao1 fp h:=zcu4.mpr ⟨b,hb,by rw[e];rfl⟩
theorem zbi1{fp:List Addr}{p:Addr×Obj}(hp:p∈zao1 fp h):p.1∈fp/\h.get? p.1=some p.2:=by
 obtain⟨b,hb,e⟩:=zcu4.mp hp
 cases q:h.get? b with
 | none=>rw[q] at e;cases e
 | some o=>
  rw[q] at e
  have e':(b,o)=p:=Option.some.inj e
  subst e'
  exact⟨hb,q⟩
theorem Inv.pinned{fp:List Addr}(I:Inv X pins σ H s)(hf:∀ b∈fp,FpOk X pins H b)(ho:∀ b∈fp,∃ o,s.heap.get? b=some o/\∀ v,o.data≠.cell v):Inv X (pins++zao1 fp s.heap) σ H s:=
 I.pins_of fun p hp=>(zcq0.mp hp).elim (fun z=>I.pin p (zcq1 _ z)) fun z=>by
  obtain⟨hb,e⟩:=zbi1 z
  obtain⟨f0,f1,f2,_⟩:=hf p.1 hb
  obtain⟨o,e',d⟩:=ho p.1 hb
  rw[e] at e';cases e'
  exact⟨e,f0,f1,f2,d⟩
theorem Inv.unpinned{pl:List (Addr×Obj)}(I:Inv X (pins++pl) σ H s):Inv X pins σ H s:=I.pins_of fun p hp=>I.pin p (zcq1 _ (zcu7 _ hp))
theorem ps_for{iter:Expr}{body:List Stmt}{wi:TI}{g:TG}{tb:TS}{pos:Pos}(hp:PassesOwn (model X.prog X.w) X.A X.env X.xe)(hc:X.calm=true)(hi:PI X tg iter wi)(hg:PG X tg g)(hb:PSs X body tb)(hs:∀ x,foldedSetIterable iter X.env x=pure x:=by intro _;rfl):PS X (.For tg iter body [] pos) (tFor wi g tb):=by
 intro pins s σ H D I h
 refine wpAny_For (thn (hi pins s σ H _ I h) fun v s1 h1=>thn h1 fun itv s2 h2=>?_) hs
 obtain⟨it,fp,tn,J,H2,e,I2,T,st2,f2,W,⟨m0,w0⟩,turn⟩:=h2
 subst e
 have stat:∀ {H':Hp},(∀ b∈fp,H' b=none)->∀ b∈fp,FpOk X pins H' b:=fun hn b hb=>⟨hn b hb,(f2 b hb).2⟩
 refine codeAny_forLoop_any (fun n s'=>∃ i σ' H',Inv X pins σ' H' s'/\tn i s'.heap/\(∀ b∈fp,H' b=none)/\W i n σ' H') ?_ m0 ⟨0,σ,H2,I2,st2,fun b hb=>(f2 b hb).1,w0⟩
 rintro n s3 ⟨i,σ3,H3,I3,st3,fr3,w3⟩
 rcases turn i n σ3 H3 w3 with ⟨stop,qn⟩|⟨go,N,hN,step⟩
 ·refine wpAny_passesOwn hp (thn (T.done X rfl rfl rfl hc i pins s3 σ3 H3 X.xe I3 (stat fr3) st3 stop) fun r s4 ⟨hr,I4⟩=>?_)
  subst hr
  exact wpAny_execs_nil ⟨σ3,H3,I4,qn⟩
 ·refine wpAny_passesOwn hp (thn (T.item X rfl rfl rfl hc i pins s3 σ3 H3 X.xe I3 (stat fr3) st3 go) fun r s4 ⟨u,hr,h4⟩=>?_)
  subst hr
  refine wpAny_passesOwn hp (thn h4 fun _ s5 ⟨x,H5,I5,r5,y5,st5,fr5⟩=>?_)
  have I5':=I5.pinned (stat fr5) (T.obj _ _ st5)
  refine wpAny_passesOwn hp (thn (hg _ s5 σ3 H5 x u _ I5' r5 (step x H5 y5)) fun _ s6 ⟨σ6,H6,I6,q6⟩=>?_)
  refine wpAny_passesOwn hp (thn (hb _ s6 σ6 H6 _ I6 q6) fun f s7 q7=>?_)
  have again:∀ {σ7:St}{H7:Hp},Inv X (pins++zao1 fp s5.heap) σ7 H7 s7->N σ7 H7->∃ m,m<n/\∃ i σ' H',Inv X pins σ' H' s7/\tn i s7.heap/\(∀ b∈fp,H' b=none)/\W i m σ' H':=fun {σ7 H7} I7 n7=>by
   obtain⟨m',hm,w7⟩:=hN σ7 H7 n7
   refine⟨m',hm,i+1,σ7,H7,I7.unpinned,T.keep _ _ _ st5 fun b hb o e=>(I7.pin (b,o) (zcq1 _ (zcq1 _ (zs8 hb e)))).1,fun b hb=>?_,w7⟩
   obtain⟨o,e,d⟩:=T.obj _ _ st5 b hb
   exact (I7.pin (b,o) (zcq1 _ (zcq1 _ (zs8 hb e)))).2.1
  cases f with
  | next=>obtain⟨σ7,H7,I7,n7⟩:=q7;exact again I7 n7
  | cont=>obtain⟨σ7,H7,I7,n7⟩:=q7;exact again I7 n7
  | brk=>obtain⟨σ7,H7,I7,q7⟩:=q7;exact⟨σ7,H7,I7.unpinned,q7⟩
  | ret v=>obtain⟨x7,σ7,H7,I7,r7,q7⟩:=q7;exact⟨x7,σ7,H7,I7.unpinned,r7,q7⟩
end
theorem zbr1{K:zcm2}{a:Addr}{xs:List V}{g:TG}{tb:TS}{D:Ends}(Pv:Nat->St->Hp->Prop)(h0:Pv 0 σ H)(hl:∀ i σ H,i<=xs.length->Pv i σ H->SqL K H a xs)(hs:∀ i x σ H,xs[i]?=some x->Pv i σ H->g x σ H fun σ2 H2=>tb { D with nx:=Pv (i+1),ct:=Pv (i+1),bk:=D.nx } σ2 H2)(hd:∀ σ H,Pv xs.length σ H->D.nx σ H) :
  ∃ W:Nat->Nat->St->Hp->Prop,(∃ m,W 0 m σ H)/\∀ i m σ H,W i m σ H ->
   ((Itl K a).stop i H/\D.nx σ H)∨((Itl K a).go i H/\∃ N:St->Hp->Prop,(∀ σ' H',N σ' H'->∃ m',m'<m/\W (i+1) m' σ' H')/\∀ x H',(Itl K a).yld i H x H'->g x σ H' fun σ2 H2=>tb { D with nx:=N,ct:=N,bk:=D.nx } σ2 H2):=by
 refine⟨fun i m σ H=>m=xs.length - i/\i<=xs.length/\Pv i σ H,⟨xs.length,by simp,zcp5 _,h0⟩,?_⟩
 rintro i m σ H ⟨rfl,hi,p⟩
 have q:=hl i σ H hi p
 by_cases hlt:i<xs.length
 ·refine .inr ⟨⟨xs,xs[i],q,by simp[hlt]⟩,Pv (i+1),fun σ' H' p'=>⟨xs.length - (i+1),by omega,rfl,hlt,p'⟩,fun x H' y=>?_⟩
  obtain⟨e,y⟩:=y
  subst e
  exact hs i x σ _ (y xs q) p
 ·have e:i=xs.length:=by omega
  subst e
  exact .inl ⟨⟨xs,q,zcn4 _⟩,hd σ H p⟩
theorem zbg9{lo:Int}{n:Nat}{g:TG}{tb:TS}{D:Ends}(Pv:Nat->St->Hp->Prop)(h0:Pv 0 σ H)(hs:∀ i σ H,i<n->Pv i σ H->g (.int (lo+i)) σ H fun σ2 H2=>tb { D with nx:=Pv (i+1),ct:=Pv (i+1),bk:=D.nx } σ2 H2)(hd:∀ σ H,Pv n σ H->D.nx σ H) :
  ∃ W:Nat->Nat->St->Hp->Prop,(∃ m,W 0 m σ H)/\∀ i m σ H,W i m σ H ->
   ((Itr lo n).stop i H/\D.nx σ H)∨((Itr lo n).go i H/\∃ N:St->Hp->Prop,(∀ σ' H',N σ' H'->∃ m',m'<m/\W (i+1) m' σ' H')/\∀ x H',(Itr lo n).yld i H x H'->g x σ H' fun σ2 H2=>tb { D with nx:=N,ct:=N,bk:=D.nx } σ2 H2):=by
 refine⟨fun i m σ H=>m=n - i/\i<=n/\Pv i σ H,⟨n,by simp,zcp5 _,h0⟩,?_⟩
 rintro i m σ H ⟨rfl,hi,p⟩
 by_cases hlt:i<n
 ·refine .inr ⟨hlt,Pv (i+1),fun σ' H' p'=>⟨n - (i+1),by omega,rfl,hlt,p'⟩,fun x H' y=>?_⟩
  obtain⟨e,y⟩:=y
  subst e y
  exact hs i σ _ hlt p
 ·have e:i=n:=by omega
  subst e
  exact .inl ⟨zcn4 _,hd σ H p⟩
abbrev R2:=V->V->Hp->VK->Prop
def OpR(X:Cx)(f:Value->Value->Sem Value)(r:R2):Prop:=
 ∀ (pins:List (Addr×Obj)) (s:Shared) (σ:St) (H:Hp) (x y:V) (v u:Value) (Q:VK),Inv X pins σ H s->RelV x v->RelV y u->r x y H Q ->
  wpAny (model X.prog X.w) X.A (f v u) (EP X pins σ Q) X.xe s
def UnR(X:Cx)(f:Value->Sem Value)(r:V->Hp->VK->Prop):Prop:=
 ∀ (pins:List (Addr×Obj)) (s:Shared) (σ:St) (H:Hp) (x:V) (v:Value) (Q:VK),Inv X pins σ H s->RelV x v->r x H Q ->
  wpAny (model X.prog X.w) X.A (f v) (EP X pins σ Q) X.xe s
def zo8(X:Cx)(f:Value)(r:List V->Hp->VK->Prop):Prop:=
 ∀ (pins:List (Addr×Obj)) (s:Shared) (σ:St) (H:Hp) (xs:List V) (us:List Value) (Q:VK),Inv X pins σ H s->Vals xs us->r xs H Q ->
  wpAny (model X.prog X.w) X.A (call f us) (EP X pins σ Q) X.xe s
def TruR(X:Cx)(r:V->Hp->(Bool->Hp->Prop)->Prop):Prop:=
 ∀ (pins:List (Addr×Obj)) (s:Shared) (σ:St) (H:Hp) (x:V) (v:Value) (Q:Bool->Hp->Prop),Inv X pins σ H s->RelV x v->r x H Q ->
  wpAny (model X.prog X.w) X.A (truthy v) (TP X pins σ Q) X.xe s
def tOp(r:R2)(ta tb:TE):TE:=fun σ H Q=>ta σ H fun x H1=>tb σ H1 fun y H2=>r x y H2 Q
def tUn(r:V->Hp->VK->Prop)(ta:TE):TE:=fun σ H Q=>ta σ H fun x H1=>r x H1 Q
def rI(C:Int->Int->Prop)(g:Int->Int->V):R2:=fun x y H Q=>∃ i j,x=.int i/\y=.int j/\C i j/\Q (g i j) H
def rI0(g:Int->Int->V):R2:=fun x y H Q=>∃ i j,x=.int i/\y=.int j/\Q (g i j) H
def rU(g:Int->V):V->Hp->VK->Prop:=fun x H Q=>∃ i,x=.int i/\Q (g i) H
section
variable {X:Cx}{a b c:Expr}{ta tb tc:TE}{pos:Pos}
theorem binT(ha:PE X a ta)(hb:PE X b tb){R:V->V->Hp->Prop}(I:Inv X pins σ H s)(h:ta σ H fun x H1=>tb σ H1 fun y H2=>R x y H2){Q:Value->Shared->Prop}{f:Value->Value->Sem Value}(hf:∀ v u s2 x y H2,Inv X pins σ H2 s2->RelV x v->RelV y u->R x y H2->wpAny (model X.prog X.w) X.A (f v u) Q X.xe s2) :
  wpAny (model X.prog X.w) X.A (eval a X.env) (fun v s₁=>wpAny (model X.prog X.w) X.A (eval b X.env) (fun u s₂=>wpAny (model X.prog X.w) X.A (f v u) Q X.xe s₂) X.xe s₁) X.xe s:=by
 refine thn (ha pins s σ H _ I h) fun v s1 ⟨x,H1,I1,r1,q1⟩=>?_
 refine thn (hb pins s1 σ H1 _ I1 q1) fun u s2 ⟨y,H2,I2,r2,q2⟩=>?_
 exact hf v u s2 x y H2 I2 r1 r2 q2
theorem zb8{op:Operator}{r:R2}(ho:OpR X (binaryOp op) r)(ha:PE X a ta)(hb:PE X b tb):PE X (.BinOp a op b pos) (tOp r ta tb):=by
 intro pins s σ H Q I h
 exact wpAny_BinOp (binT ha hb I h fun v u s2 x y H2 I2 rx ry q=>ho pins s2 σ H2 x y v u Q I2 rx ry q)
theorem zbc4{op:UnaryOp}{r:V->Hp->VK->Prop}(ho:UnR X (unaryOp op) r)(ha:PE X a ta):PE X (.UnaryOp op a pos) (tUn r ta):=by
 intro pins s σ H Q I h
 exact UnaryOp_ (thn (ha pins s σ H _ I h) fun v s1 ⟨x,H1,I1,r1,q1⟩=>ho pins s1 σ H1 x v Q I1 r1 q1)
theorem opI{f:Value->Value->Sem Value}{C:Int->Int->Prop}{g:Int->Int->Int}(rule:∀ (i j:Int) (t u:Tok) (s:Shared) (Q:Value->Shared->Prop) (E:Value->Shared->Prop),C i j->Q (.int (g i j) s.toks) { s with toks:=s.toks+1 }->wpAny (model X.prog X.w) X.A (f (.int i t) (.int j u)) Q E s) :
  OpR X f (rI C fun i j=>.int (g i j)):=by
 intro pins s σ H x y v u Q I rx ry h
 obtain⟨i,j,rfl,rfl,hc,q⟩:=h
 obtain⟨t,rfl⟩:=rx
 obtain⟨t',rfl⟩:=ry
 exact rule i j t t' s _ _ hc ⟨.int (g i j),H,I.tok _,⟨_,rfl⟩,q⟩
theorem opI0{f:Value->Value->Sem Value}{g:Int->Int->Int}(rule:∀ (i j:Int) (t u:Tok) (s:Shared) (Q:Value->Shared->Prop) (E:Value->Shared->Prop),Q (.int (g i j) s.toks) { s with toks:=s.toks+1 }->wpAny (model X.prog X.w) X.A (f (.int i t) (.int j u)) Q E s) :
  OpR X f (rI0 fun i j=>.int (g i j)):=by
 intro pins s σ H x y v u Q I rx ry h
 obtain⟨i,j,rfl,rfl,q⟩:=h
 obtain⟨t,rfl⟩:=rx
 obtain⟨t',rfl⟩:=ry
 exact rule i j t t' s _ _ ⟨.int (g i j),H,I.tok _,⟨_,rfl⟩,q⟩
theorem opB0{f:Value->Value->Sem Value}{g:Int->Int->Bool}(rule:∀ (i j:Int) (t u:Tok) (s:Shared) (Q:Value->Shared->Prop) (E:Value->Shared->Prop),Q (.bool (g i j)) s->wpAny (model X.prog X.w) X.A (f (.int i t) (.int j u)) Q E s) :
  OpR X f (rI0 fun i j=>.bl (g i j)):=by
 intro pins s σ H x y v u Q I rx ry h
 obtain⟨i,j,rfl,rfl,q⟩:=h
 obtain⟨t,rfl⟩:=rx
 obtain⟨t',rfl⟩:=ry
 exact rule i j t t' s _ _ ⟨.bl (g i j),H,I,rfl,q⟩
def CPow(i j:Int):Prop:=0<=j/\j<=1000000/\i.natAbs<2 ^ 64
def CMul(i j:Int):Prop:=(-(2 ^ 64)<i/\i<2 ^ 64)∨(-(2 ^ 64)<j/\j<2 ^ 64)
theorem CMul.ok{i j:Int}(h:CMul i j):IntMulOk i j:=by
 rcases h with ⟨h1,h2⟩|⟨h1,h2⟩
 ·exact .of_left (intBits_le_64 h1 h2)
 ·exact .of_right (intBits_le_64 h1 h2)
theorem op_add:OpR X (binaryOp .Add) (rI0 fun i j=>.int (i+j)):=opI0 fun _ _ _ _ _ _ _ q=>add_int q
theorem op_sub:OpR X (binaryOp .Sub) (rI0 fun i j=>.int (i - j)):=opI0 fun _ _ _ _ _ _ _ q=>sub_int q
theorem zby4:OpR X (binaryOp .Mod) (rI (fun _ j=>j≠0) fun i j=>.int (i.fmod j)):=opI fun _ _ _ _ _ _ _ hc q=>mod_int' hc q
theorem op_pow:OpR X (binaryOp .Pow) (rI CPow fun i j=>.int (i ^ j.toNat)):=opI fun _ _ _ _ _ _ _ hc q=>pow_int_small hc.1 hc.2.1 hc.2.2 q
theorem zby8:OpR X (inplaceOp .Add) (rI0 fun i j=>.int (i+j)):=opI0 fun _ _ _ _ _ _ _ q=>iadd_int q
theorem zce3:OpR X (inplaceOp .Sub) (rI0 fun i j=>.int (i - j)):=opI0 fun _ _ _ _ _ _ _ q=>isub_int q
theorem unI{f:Value->Sem Value}{g:Int->Int}(rule:∀ (i:Int) (t:Tok) (s:Shared) (Q:Value->Shared->Prop) (E:Value->Shared->Prop),Q (.int (g i) s.toks) { s with toks:=s.toks+1 }->wpAny (model X.prog X.w) X.A (f (.int i t)) Q E s) :
  UnR X f (rU fun i=>.int (g i)):=by
 intro pins s σ H x v Q I rx h
 obtain⟨i,rfl,q⟩:=h
 obtain⟨t,rfl⟩:=rx
 exact rule i t s _ _ ⟨.int (g i),H,I.tok _,⟨_,rfl⟩,q⟩
theorem un_neg:UnR X (unaryOp .USub) (rU fun i=>.int (-i)):=unI fun _ _ _ _ _ q=>neg_int q
end
def scal:V->V->Bool
 | .non,.non=>true | .non,.int _=>true | .int _,.non=>true | .non,.bl _=>true | .bl _,.non=>true | .non,.str _=>true | .str _,.non=>true
 | .int _,.int _=>true | .bl _,.bl _=>true | .str _,.str _=>true | .byt _,.byt _=>true
 | .int _,.str _=>true | .str _,.int _=>true | .bl _,.str _=>true | .str _,.bl _=>true
 | _,_=>false
def rEq:R2:=fun x y H Q=>scal x y=true/\Q (.bl (decide (x=y))) H
def rNe:R2:=fun x y H Q=>scal x y=true/\Q (.bl (!decide (x=y))) H
theorem zbn9{i j:Int}:decide (V.int i=V.int j)=(i==j):=by
 rw[Bool.eq_iff_iff]
 simp
theorem zbw6{i j:Bool}:decide (V.bl i=V.bl j)=(i==j):=by
 rw[Bool.eq_iff_iff]
 simp
theorem zbn7{i j:Str}:decide (V.str i=V.str j)=(i==j):=by
 rw[Bool.eq_iff_iff]
 simp
theorem zbl4{i j:Array UInt8}:decide (V.byt i=V.byt j)=(i.toList==j.toList):=by
 rw[Bool.eq_iff_iff]
 cases i
 cases j
 simp
section
variable {X:Cx}{a b c:Expr}{ta tb tc:TE}{pos:Pos}
theorem zd2{Q:VK}{k k':Bool}(I:Inv X pins σ H s)(q:Q (.bl k) H)(e:k=k'):EP X pins σ Q (.bool k') s:=by
 subst e
 exact⟨.bl k,H,I,rfl,q⟩
theorem zau8:OpR X (compareOp .Eq) rEq:=by
 intro pins s σ H x y v u Q I rx ry h
 obtain⟨hs,q⟩:=h
 cases x with
 | non=>
  cases rx
  cases y with
  | non=>cases ry;exact PySem.EqNone.eq_none_none (zd2 I q (by simp))
  | bl j=>cases ry;exact PySem.EqNone.eq_none_bool (zd2 I q (by simp))
  | int j=>obtain⟨t',rfl⟩:=ry;exact PySem.EqNone.eq_none_int (zd2 I q (by simp))
  | str j=>obtain⟨t',rfl⟩:=ry;exact PySem.EqNone.eq_none_str (zd2 I q (by simp))
  | _=>exact absurd (show false=true from hs) zcn0
 | bl i=>
  cases rx
  cases y with
  | non=>cases ry;exact PySem.EqNone.eq_bool_none (zd2 I q (by simp))
  | bl j=>cases ry;exact eq_bool (zd2 I q zbw6)
  | str j=>obtain⟨t',rfl⟩:=ry;exact PySem.EqMixed.eq_bool_str (zd2 I q (by simp))
  | _=>exact absurd (show false=true from hs) zcn0
 | int i=>
  obtain⟨t,rfl⟩:=rx
  cases y with
  | non=>cases ry;exact PySem.EqNone.eq_int_none (zd2 I q (by simp))
  | int j=>obtain⟨t',rfl⟩:=ry;exact eq_int (zd2 I q zbn9)
  | str j=>obtain⟨t',rfl⟩:=ry;exact PySem.EqMixed.eq_int_str (zd2 I q (by simp))
  | _=>exact absurd (show false=true from hs) zcn0
 | str i=>
  obtain⟨t,rfl⟩:=rx
  cases y with
  | non=>cases ry;exact PySem.EqNone.eq_str_none (zd2 I q (by simp))
  | bl j=>cases ry;exact PySem.EqMixed.eq_str_bool (zd2 I q (by simp))
  | int j=>obtain⟨t',rfl⟩:=ry;exact PySem.EqMixed.eq_str_int (zd2 I q (by simp))
  | str j=>obtain⟨t',rfl⟩:=ry;exact eq_str (zd2 I q zbn7)
  | _=>exact absurd (show false=true from hs) zcn0
 | byt i=>
  obtain⟨t,rfl⟩:=rx
  cases y with
  | byt j=>obtain⟨t',rfl⟩:=ry;exact PySem.W.eq_bytes (zd2 I q zbl4)
  | _=>exact absurd (show false=true from hs) zcn0
 | _=>cases y<;>exact absurd (show false=true from hs) zcn0
theorem zax0:OpR X (compareOp .NotEq) rNe:=by
 intro pins s σ H x y v u Q I rx ry h
 obtain⟨hs,q⟩:=h
 cases x with
 | non=>
  cases rx
  cases y with
  | non=>cases ry;exact PySem.EqNone.ne_none_none (zd2 I q (by simp))
  | bl j=>cases ry;exact PySem.EqNone.ne_none_bool (zd2 I q (by simp))
  | int j=>obtain⟨t',rfl⟩:=ry;exact PySem.EqNone.ne_none_int (zd2 I q (by simp))
  | str j=>obtain⟨t',rfl⟩:=ry;exact PySem.EqNone.ne_none_str (zd2 I q (by simp))
  | _=>exact absurd (show false=true from hs) zcn0
 | bl i=>
  cases rx
  cases y with
  | non=>cases ry;exact PySem.EqNone.ne_bool_none (zd2 I q (by simp))
  | bl j=>cases ry;exact ne_bool (zd2 I q (congrArg not zbw6))
  | str j=>obtain⟨t',rfl⟩:=ry;exact PySem.EqMixed.ne_bool_str (zd2 I q (by simp))
  | _=>exact absurd (show false=true from hs) zcn0
 | int i=>
  obtain⟨t,rfl⟩:=rx
  cases y with
  | non=>cases ry;exact PySem.EqNone.ne_int_none (zd2 I q (by simp))
  | int j=>obtain⟨t',rfl⟩:=ry;exact ne_int (zd2 I q (congrArg not zbn9))
  | str j=>obtain⟨t',rfl⟩:=ry;exact PySem.EqMixed.ne_int_str (zd2 I q (by simp))
  | _=>exact absurd (show false=true from hs) zcn0
 | str i=>
  obtain⟨t,rfl⟩:=rx
  cases y with
  | non=>cases ry;exact PySem.EqNone.ne_str_none (zd2 I q (by simp))
  | bl j=>cases ry;exact PySem.EqMixed.ne_str_bool (zd2 I q (by simp))
  | int j=>obtain⟨t',rfl⟩:=ry;exact PySem.EqMixed.ne_str_int (zd2 I q (by simp))
  | str j=>obtain⟨t',rfl⟩:=ry;exact ne_str (zd2 I q (congrArg not zbn7))
  | _=>exact absurd (show false=true from hs) zcn0
 | byt i=>
  obtain⟨t,rfl⟩:=rx
  cases y with
  | byt j=>obtain⟨t',rfl⟩:=ry;exact PySem.W.ne_bytes (zd2 I q (congrArg not zbl4))
  | _=>exact absurd (show false=true from hs) zcn0
 | _=>cases y<;>exact absurd (show false=true from hs) zcn0
theorem op_lt:OpR X (compareOp .Lt) (rI0 fun i j=>.bl (decide (i<j))):=opB0 fun _ _ _ _ _ _ _ q=>lt_int q
theorem op_le:OpR X (compareOp .LtE) (rI0 fun i j=>.bl (decide (i<=j))):=opB0 fun _ _ _ _ _ _ _ q=>le_int q
theorem op_gt:OpR X (compareOp .Gt) (rI0 fun i j=>.bl (decide (j<i))):=opB0 fun _ _ _ _ _ _ _ q=>gt_int q
theorem op_ge:OpR X (compareOp .GtE) (rI0 fun i j=>.bl (decide (j<=i))):=opB0 fun _ _ _ _ _ _ _ q=>ge_int q
theorem zbv9(b:Expr){op:CmpOp}(h:op≠.In:=by decide)(h2:op≠.NotIn:=by decide):behindInMarks op b=false:=by
 have e1:(op==CmpOp.In)=false:=by cases op<;>first|rfl|exact absurd rfl h
 have e2:(op==CmpOp.NotIn)=false:=by cases op<;>first|rfl|exact absurd rfl h2
 cases b<;>simp[behindInMarks,e1,e2]
theorem zbz7{op:CmpOp}{r:R2}(ho:OpR X (compareOp op) r)(ha:PE X a ta)(hb:PE X b tb)(hm:behindInMarks op b=false):PE X (.Compare a [op] [b] pos) (tOp r ta tb):=by
 intro pins s σ H Q I h
 exact wpAny_Compare1 (binT ha hb I h fun v u s2 x y H2 I2 rx ry q=>ho pins s2 σ H2 x y v u Q I2 rx ry q) hm
def TruV(K:zcm2)(x:V)(H:Hp)(k:Bool):Prop:=
 match x with
 | .non=>k=false
 | .bl b=>k=b
 | .int i=>k=(i != 0)
 | .str y=>y.length<=sizeLine/\k=((y.length:Int) != 0)
 | .byt y=>y.size<=sizeLine/\k=((y.size:Int) != 0)
 | .ref p=>(∃ xs,SqL K H p xs/\k=!xs.isEmpty)∨(∃ xs,SqT K H p xs/\k=!xs.isEmpty)∨∃ kvs,H p=some (.dK kvs)/\k=!kvs.isEmpty
 | _=>False
theorem zbb6{κ:Type}{kvs:List (κ×V)}{vs:List (κ×Value)}(r:KV kvs vs):(!vs.isEmpty)=!kvs.isEmpty:=by
 cases r<;>rfl
theorem zaj1{xs:List V}{its:List Value}(r:Vals xs its):(!its.toArray.isEmpty)=!xs.isEmpty:=by
 cases r<;>simp
theorem zaf4:(sizeLine:Nat)<2 ^ 63:=by rw[zcv5];decide
theorem zbh1:TruR X (fun x H Q=>∃ k,TruV X.K x H k/\Q k H):=by
 intro pins s σ H x v Q I rx h
 obtain⟨k,e,q⟩:=h
 have hl:=zaf4
 have hs:sizeLine=16777216:=zcv5
 cases x with
 | non=>
  cases rx
  have e':k=false:=e
  subst e'
  exact truthy_none ⟨H,I,q⟩
 | bl b=>
  cases rx
  have e':k=b:=e
  subst e'
  exact wpAny_truthy_bool ⟨H,I,q⟩
 | int i=>
  obtain⟨t,rfl⟩:=rx
  have e':k=(i != 0):=e
  subst e'
  exact PySem.P.truthy_int ⟨H,I,q⟩
 | str y=>
  obtain⟨t,rfl⟩:=rx
  obtain⟨hy,e'⟩:y.length<=sizeLine/\k=((y.length:Int) != 0):=e
  subst e'
  exact PySem.P.truthy_str (by omega) ⟨H,I.tok _,q⟩
 | byt y=>
  obtain⟨t,rfl⟩:=rx
  obtain⟨hy,e'⟩:y.size<=sizeLine/\k=((y.size:Int) != 0):=e
  subst e'
  exact PySem.W.truthy_bytes (by omega) ⟨H,I.tok _,q⟩
 | ref p=>
  cases rx
  have e':(∃ xs,SqL X.K H p xs/\k=!xs.isEmpty)∨(∃ xs,SqT X.K H p xs/\k=!xs.isEmpty)∨∃ kvs,H p=some (.dK kvs)/\k=!kvs.isEmpty:=e
  rcases e' with ⟨xs,hx,e'⟩|⟨xs,hx,e'⟩|⟨kvs,hx,e'⟩
  ·subst e'
   obtain⟨its,r,pl,hz⟩:=I.list hx
   have hlen:=r.length
   exact wpAny_truthy_list pl.isList (by simp only[zcm8];omega) ⟨H,I.tok _,by rw[zaj1 r];exact q⟩
  ·subst e'
   obtain⟨its,r,pl,hz⟩:=I.tuple hx
   have hlen:=r.length
   exact truthy_tuple pl (by simp only[zcm8];omega) ⟨H,I.tok _,by rw[zaj1 r];exact q⟩
  ·subst e'
   obtain⟨hz,hS,vs,r,m⟩:kvs.length<=sizeLine/\(p==sysModules)=false/\∃ vs,KV kvs vs/\s.heap.DictOf (zg7 X.prog X.w) p vs:=I.hok p _ hx
   have hlen:kvs.length=vs.length:=Paired.length r
   exact wpAny_truthy_dict hS m (by omega) ⟨H,I.tok _,by rw[zbb6 r];exact q⟩
 | _=>exact (show False from e).elim
theorem zbc1:OpR X (binaryOp .Add) (fun x y H Q=>∃ i j,x=.str i/\y=.str j/\i.length+j.length<=sizeLine/\Q (.str (i++j)) H):=by
 intro pins s σ H x y v u Q I rx ry h
 obtain⟨i,j,rfl,rfl,hz,q⟩:=h
 obtain⟨t,rfl⟩:=rx
 obtain⟨t',rfl⟩:=ry
 exact add_str (fun t' tk=>⟨.str (i++j),H,I.tok _,⟨_,rfl⟩,q⟩) hz
theorem zaj8{x:V}(r:Vals [x] us):∃ u,us=[u]/\RelV x u:=by
 cases r with
 | cons r1 r2=>cases r2;exact⟨_,rfl,r1⟩
theorem vals2{x y:V}(r:Vals [x,y] us):∃ u w',us=[u,w']/\RelV x u/\RelV y w':=by
 cases r with
 | cons r1 r2=>
  cases r2 with
  | cons r3 r4=>cases r4;exact⟨_,_,rfl,r1,r3⟩
theorem zbh7(hc:X.calm=true):zo8 X (.builtin "min") (fun xs H Q=>∃ i j,xs=[.int i,.int j]/\Q (.int (if j<i then j else i)) H):=by
 intro pins s σ H xs us Q I r h
 obtain⟨i,j,rfl,q⟩:=h
 obtain⟨u,w',rfl,⟨t,rfl⟩,⟨t',rfl⟩⟩:=vals2 r
 refine min_two_ints (I.ok.hd hc) fun h' tk k=>⟨_,H,I.kept k,?_,q⟩
 by_cases hj:j<i
 ·rw[if_pos hj,if_pos hj];exact⟨_,rfl⟩
 ·rw[if_neg hj,if_neg hj];exact⟨_,rfl⟩
end
structure ObjM(h:Heap)(x dx C:Addr)(mA:Str->Option Value):Prop where
 obj:h.get? x=some (PySem.W.instObj C dx)
 ns:h.Ns1 dx mA
 ne:dx≠x
theorem zbi7{dx:Addr}{mA:Str->Option Value}(n:h.Ns1 dx mA):∃ od,h.get? dx=some od/\∀ name,PySem.W.lookIn name od=some (mA name):=by
 obtain⟨o,es,ep,ho,hd,hk,_,hm⟩:=n
 refine⟨o,ho,fun name=>?_⟩
 have e:=hm name
 unfold nsFind findBy at e
 rw[← Array.find?_toList] at e
 unfold PySem.W.lookIn
 rw[hd]
 dsimp only
 split
 ·rename_i y q
  rw[q] at e
  exact congrArg some e
 ·rename_i q
  rw[q] at e
  have a:es.toList.any (·.refKey)=false:=by
   rw[List.any_eq_false]
   intro y hy
   obtain⟨z,t,hkey⟩:=hk y (zcu8.mp hy)
   simp[DictEntry.refKey,hkey]
  have a':¬ es.toList.any (·.refKey)=true:=by rw[a];exact zcn0
  rw[if_neg a']
  exact congrArg some e
theorem ObjM.look{x dx:Addr}{mA:Str->Option Value}(I:ObjM h x dx C mA):∃ od,PySem.W.InstAt h x (PySem.W.instObj C dx) C (some od)/\∀ name,PySem.W.lookIn name od=some (mA name):=
 let ⟨od,ho,hl⟩:=zbi7 I.ns
 ⟨od,⟨I.obj,rfl,rfl,ho⟩,hl⟩
section
variable {prog:Program}{w:World}{A:Around}{E:Value->Shared->Prop}{s:Shared}{K:zcm2}{x dx C f:Addr}{mA:Str->Option Value}{name:Str}{v:Value}
end
theorem RelO.some_of{v:V}{o:Option Value}(r:RelO (some v) o):∃ u,o=some u/\RelV v u:=by
 cases o with
 | none=>exact (show False from r).elim
 | some u=>exact⟨u,rfl,r⟩
section
variable {P:Program}{w:World}{H H':Hp}{h h':Heap}{a C dx:Addr}{fs fs':List (Str×V)}
theorem zcc2(hok:HOk P w H h)(e:H a=some (.ins C dx fs)):∃ mA,ObjM h a dx C mA/\(∀ f,RelO (fs.lookup f) (mA f))/\PySem.Within mA (fs.map (·.1))/\fs.length<=1000/\H dx=some (.own a):=by
 obtain⟨d,z,ne,ob,mA,n,r,q⟩:=(show ze9 P w H h a (.ins C dx fs) from hok a _ e)
 exact⟨mA,⟨ob,n,ne⟩,r,q,z,d⟩
end
structure Cls(K:zcm2)(C:Addr):Prop where
 pg:PySem.W.plainGet K C Str.empty=true
 hd:PySem.W.hasDictIn K C=true
 po:PySem.W.plainOver K C=true
 sa:zcp0 K (.ref C) "__setattr__"=some (some (.builtin "object.__setattr__"))
theorem Cls.get{K:zcm2}(c:Cls K C)(f:Str):PySem.W.plainGet K C f=true:=c.pg
section
variable {X:Cx}{pins:List (Addr×Obj)}{σ:St}{H:Hp}{s:Shared}{a C dx:Addr}{fs:List (Str×V)}{f:Str}{v:V}{A:Around}{E:Value->Shared->Prop}
end
section
variable {X:Cx}{pins:List (Addr×Obj)}{σ:St}{H:Hp}{s:Shared}{A:Around}{E:Value->Shared->Prop}{Q:Value->Shared->Prop}{c:Value}{b:Bool}
inductive TyOf(K:zcm2)(H:Hp):V->Value->Prop where
 | non:TyOf K H .non (.type "NoneType")
 | bl (x:Bool):TyOf K H (.bl x) (.type "bool")
 | int (i:Int):TyOf K H (.int i) (.type "int")
 | str (x:Str):TyOf K H (.str x) (.type "str")
 | flt (x:UInt64):TyOf K H (.flt x) (.type "float")
 | lst {a:Addr}{xs:List V}(e:H a=some (.lst xs)):TyOf K H (.ref a) (.type "list")
 | frz {a:Addr}{o:Obj}{xs:List V}(e:H a=some (.frz o (.lst xs))):TyOf K H (.ref a) (.type "list")
 | tup {a:Addr}{xs:List V}(e:H a=some (.tup xs)):TyOf K H (.ref a) (.type "tuple")
 | dK {a:Addr}{kvs:List (Key×V)}(e:H a=some (.dK kvs)):TyOf K H (.ref a) (.type "dict")
 | dT {a:Addr}{kvs:List (List Key×V)}(e:H a=some (.dT kvs)):TyOf K H (.ref a) (.type "dict")
 | ins {a C dx:Addr}{fs:List (Str×V)}(e:H a=some (.ins C dx fs)) (cl:Cls K C) (ha:zcp0 K (.ref C) "__class__"=some (some (.builtin "object.__class__")))
   (hn:PySem.W.specialIn K (.builtin "object.__class__") "__get__"=some (some (.builtin "getset_descriptor.__get__"))) (htk:PySem.W.takesIn K (.builtin "object.__class__")=some true)
   (hm:PySem.W.mroIn K C (.type "object")=some true):TyOf K H (.ref a) (.ref C)
theorem zbk5{x:V}{t:Value}(I:Inv X pins σ H s)(rx:RelV x u)(ty:TyOf X.K H x t)(e:zco3 X.K t c=some b)(h:∀ tk,Q (.bool b) { s with toks:=tk }) :
  wpAny (model X.prog X.w) A (call (.builtin "isinstance") [u,c]) Q E s:=by
 cases ty with
 | non=>cases (show u=Value.none from rx);exact zcr2 PySem.W.kitx_none I.kIn True.intro e (fun z=>nomatch z) h
 | bl y=>cases (show u=Value.bool y from rx);exact zcr2 PySem.W.kitx_bool I.kIn True.intro e (fun z=>nomatch z) h
 | int i=>obtain⟨t,q⟩:=(show ∃ t,u=Value.int i t from rx);cases q;exact zcr2 PySem.W.kitx_int I.kIn True.intro e (fun z=>nomatch z) h
 | str y=>obtain⟨t,q⟩:=(show ∃ t,u=Value.str y t from rx);cases q;exact zcr2 PySem.W.kitx_str I.kIn True.intro e (fun z=>nomatch z) h
 | flt y=>obtain⟨t,q⟩:=(show ∃ t,u=Value.float y t from rx);cases q;exact zcr2 PySem.W.kitx_float I.kIn True.intro e (fun z=>nomatch z) h
 | @lst a xs ea=>
  cases (show u=Value.ref a from rx)
  obtain⟨_,_,n,_,h1⟩:=(show ze9 X.prog X.w H s.heap a (.lst xs) from I.hok a _ ea)
  exact zcr2 PySem.W.kitx_list I.kIn ⟨_,h1,rfl⟩ e (fun z=>nomatch z) h
 | @frz a ob xs ea=>
  cases (show u=Value.ref a from rx)
  obtain⟨_,_,_,n,_,h1⟩:=(show ze9 X.prog X.w H s.heap a (.frz ob (.lst xs)) from I.hok a _ ea)
  exact zcr2 PySem.W.kitx_list I.kIn ⟨_,h1,rfl⟩ e (fun z=>nomatch z) h
 | @tup a xs ea=>
  cases (show u=Value.ref a from rx)
  obtain⟨_,_,_,p⟩:=(show ze9 X.prog X.w H s.heap a (.tup xs) from I.hok a _ ea)
  obtain⟨o,h1,h2,_⟩:=p
  exact zcr2 PySem.W.kitx_tuple I.kIn ⟨o,h1,h2⟩ e (fun z=>nomatch z) h
 | @dK a kvs ea=>
  cases (show u=Value.ref a from rx)
  obtain⟨_,_,vs,_,p⟩:=(show ze9 X.prog X.w H s.heap a (.dK kvs) from I.hok a _ ea)
  obtain⟨o,es,ep,h1,h2,_⟩:=p
  exact zcr2 PySem.W.kitx_dict I.kIn ⟨o,h1,h2.1⟩ e (fun z=>nomatch z) h
 | @dT a kvs ea=>
  cases (show u=Value.ref a from rx)
  obtain⟨_,_,xs,_,o,es,ep,h1,h2,_⟩:=(show ze9 X.prog X.w H s.heap a (.dT kvs) from I.hok a _ ea)
  exact zcr2 PySem.W.kitx_dict I.kIn ⟨o,h1,h2.1⟩ e (fun z=>nomatch z) h
 | @ins a C dx fs ea cl ha hn htk hm=>
  cases (show u=Value.ref a from rx)
  obtain⟨mA,O,_⟩:=zcc2 I.hok ea
  obtain⟨od,J,_⟩:=O.look
  exact zcr2 (PySem.W.kitx_own (cl.get _) cl.hd ha hn htk hm) I.kIn J e (fun z=>nomatch z) h
end
structure Room(k:Nat)(A:Around):Prop where
 hd:A.handled=none
 dp:A.depth+3*k+5<recursionLimit
 un:A.units+16*k+200<cLine
 gd:A.guards=some []
theorem Room.mono{j k:Nat}{A:Around}(r:Room k A)(h:j<=k):Room j A:=⟨r.hd,by have:=r.dp;omega,by have:=r.un;omega,r.gd⟩
theorem Room.deeper{k:Nat}{A:Around}(r:Room (k+1) A)(env:Env):Room k (A.deeper env):=
 ⟨r.hd,by have:=r.dp;show A.depth+1+3*k+5<_;omega,by have:=r.un;show A.units+3+16*k+200<_;omega,r.gd⟩
theorem zbc5{A:Around}{kw:List (Str×Value)}:(A.under (.builtin "type.__call__" ⟨.ref C :: us,kw⟩)).depth=A.depth+1:=by
 first|rfl|simp[Around.under,Code.weight,Code.isCreation,Code.isGuard,Code.isCaller,Code.frames,Code.isFrame,guardIds]
theorem zbe2{A:Around}{kw:List (Str×Value)}:(A.under (.builtin "type.__call__" ⟨.ref C :: us,kw⟩)).units=A.units+1:=by
 first|rfl|simp[Around.under,Code.cUnits,Code.frames,Code.isFrame]
theorem zaw8{A:Around}{kw:List (Str×Value)}:(A.under (.builtin "type.__call__" ⟨.ref C :: us,kw⟩)).guards=A.guards:=by
 first|rfl|(cases A;simp[Around.under,pushGuards,Code.guards,Code.isGuard,guardIds])
theorem Room.make{k:Nat}{A:Around}(r:Room (k+1) A)(C:Addr)(us:List Value)(kw:List (Str×Value)):Room k (A.under (.builtin "type.__call__" ⟨.ref C :: us,kw⟩)):=
 ⟨r.hd,by have:=r.dp;rw[zbc5];omega,by have:=r.un;rw[zbe2];omega,zaw8.trans r.gd⟩
theorem Room.depth{k:Nat}{A:Around}(r:Room k A):A.depth<recursionLimit:=by have:=r.dp;omega
theorem Room.units{k:Nat}{A:Around}(r:Room k A):A.units+64<cLine:=by have:=r.un;omega
def tNil:TA:=fun _ H Q=>Q [] H
def tCons(ta:TE)(tr:TA):TA:=fun σ H Q=>ta σ H fun x H1=>tr σ H1 fun xs H2=>Q (x :: xs) H2
section
variable {X:Cx}{e:Expr}{es:List Expr}{te:TE}{t:TA}{pos:Pos}
theorem za1:PA X [] tNil:=fun _ _ _ _ H Q I h=>Calls.spliced_nil ⟨[],H,I,.nil,h⟩
theorem za0(ha:PE X e te)(hr:PA X es t)(hs:starEach (e :: es) X.env=(false,eval e X.env) :: starEach es X.env:=by rfl):PA X (e :: es) (tCons te t):=by
 intro pos pins s σ H Q I h
 rw[hs]
 show wpAny _ _ (spliced ((false,eval e X.env) :: backTo pos (starEach es X.env))) _ _ s
 refine Calls.spliced_cons (thn (ha pins s σ H _ I h) fun u s1 ⟨x,H1,I1,r1,q1⟩=>?_)
 exact thn (hr pos pins s1 σ H1 _ I1 q1) fun us s2 ⟨xs,H2,I2,r2,q2⟩=>⟨x :: xs,H2,I2,.cons r1 r2,q2⟩
end
abbrev Sp:=List V->Hp->VK->XK->Prop
abbrev CXT:=List Env->Hp->Shared->XK->Value->Shared->Prop
structure Env0(P:Program)(w:World)(K:zcm2)(mg:Str->Option Value)(base:Heap)(A:Around)(outer:List Env)(s:Shared)(H:Hp):Prop where
 frames:A.frames=some outer
 mod:Mod K mg base
 bs:∀ b o,base.get? b=some o->s.heap.get? b=some o/\H b=none
 bsz:base.objs.size<=s.heap.objs.size
 funs:s.heap.FunFrames base outer
 frf:∀ b∈frs outer,H b=none
 hok:HOk P w H s.heap
 bare:AllBare s.gens
def CE(outer:List Env)(P:Program)(w:World)(H:Hp)(s:Shared)(Q:VK)(u:Value)(s':Shared):Prop:=
 ∃ v H',s'.os=s.os/\AllBare s'.gens/\Un (frs outer) [] H H' s.heap s'.heap/\HOk P w H' s'.heap/\RelV v u/\Q v H'
def CR(CX:CXT)(outer:List Env)(P:Program)(w:World)(H:Hp)(s:Shared)(Q:VK)(E:XK)(r:Result)(s':Shared):Prop:=
 match r with
 | .ok (.ret u)=>CE outer P w H s Q u s'
 | .ok _=>False
 | .error e=>CX outer H s E e s'
structure FnOk(P:Program)(w:World)(K:zcm2)(mg:Str->Option Value)(base:Heap)(CX:CXT)(k:Nat)(f:Addr)(fd:FuncData)(ps:List Str)(sp:Sp):Prop where
 len:∀ vs H Q E,sp vs H Q E->vs.length=ps.length
 run:∀ (A:Around) (outer:List Env) (s:Shared) (H:Hp) (args:Args) (us:List Value) (vs:List V) (Q:VK) (E:XK),Room k A->Env0 P w K mg base A outer s H->BindsTo s fd args (ps.zip us)->Vals vs us->sp vs H Q E ->
  codeAny (model P w) A (.call (.ref f) args) (CR CX outer P w H s Q E) s
theorem FnOk.mono{P:Program}{w:World}{K:zcm2}{mg:Str->Option Value}{base:Heap}{CX:CXT}{j k:Nat}{f:Addr}{fd:FuncData}{ps:List Str}{sp:Sp}(F:FnOk P w K mg base CX j f fd ps sp)(h:j<=k) :
  FnOk P w K mg base CX k f fd ps sp:=⟨F.len,fun A outer s H args us vs Q E hr=>F.run A outer s H args us vs Q E (hr.mono h)⟩
theorem Env0.make{P:Program}{w:World}{K:zcm2}{mg:Str->Option Value}{base:Heap}{A:Around}{outer:List Env}(e:Env0 P w K mg base A outer s H)(C:Addr)(us:List Value)(kw:List (Str×Value)) :
  Env0 P w K mg base (A.under (.builtin "type.__call__" ⟨.ref C :: us,kw⟩)) outer s H:=⟨by first|exact e.frames|(simpa [Around.under,Code.envs,Code.isFrame,pushEnvs] using e.frames),e.mod,e.bs,e.bsz,e.funs,e.frf,e.hok,e.bare⟩
section
variable {X:Cx}{pins:List (Addr×Obj)}{σ:St}{H:Hp}{s s':Shared}
theorem Inv.env0(I:Inv X pins σ H s):Env0 X.prog X.w X.K X.mg X.base X.A X.stack s H:=
 ⟨I.ok.frames,I.ok.mod,I.bs,zcr3 I.ok.bsz I.sz,I.stack,I.stkFree,I.hok,I.bare⟩
theorem Inv.after{Q:VK}(I:Inv X pins σ H s)(h:CE X.stack X.prog X.w H s Q u s'):EP X pins σ Q u s':=by
 obtain⟨v,H',os,bare,un,hok,r,q⟩:=h
 obtain⟨hh,g,d,t,os'⟩:=s'
 obtain rfl:os'=s.os:=os
 exact⟨v,H',I.call (h':=hh) (g':=g) (d':=d) (t':=t) (ch:=[]) un hok bare (fun b z=>absurd z (by simp)),r,q⟩
end
def tCall(sp:Sp)(dvs:List V)(E:XK)(t:TA):TE:=fun σ H Q=>t σ H fun vs H1=>sp (vs++dvs) H1 Q E
def zag6(K:zcm2)(fd:FuncData)(ps:List Str)(ds:List Value):Prop:=
 ∀ (s:Shared) (us:List Value),K.In s.heap->(us++ds).length=ps.length->BindsTo s fd ⟨us,[]⟩ (ps.zip (us++ds))
theorem zag6.all{K:zcm2}{fd:FuncData}{ps:List Str}(h:∀ us:List Value,us.length=ps.length->bindArgs fd ⟨us,[]⟩=pure (ps.zip us)):zag6 K fd ps []:=fun s us _ hl=>by
 rw[List.append_nil] at hl ⊢
 exact .of_eq (h us hl)
def zai9(CX:CXT)(X:Cx)(E:XK):Prop:=∀ (pins:List (Addr×Obj)) (σ:St) (H:Hp) (s:Shared) (e:Value) (s':Shared),Inv X pins σ H s->CX X.stack H s E e s'->X.xe e s'
section
variable {X:Cx}{CX:CXT}{k:Nat}{f C:Addr}{fd:FuncData}{ps:List Str}{sp:Sp}{dvs:List V}{ds:List Value}{E:XK}{x m:Str}{p pos apos:Pos}{e o:Expr}{es:List Expr}{ta:TE}{t:TA}
theorem run_fn{Q:VK}{vs:List V}(F:FnOk X.prog X.w X.K X.mg X.base CX k f fd ps sp)(hr:Room k X.A)(hb:zag6 X.K fd ps ds)(hd:Vals dvs ds)(hx:zai9 CX X E)(I:Inv X pins σ H s)(r:Vals vs us)(h:sp (vs++dvs) H Q E):wpAny (model X.prog X.w) X.A (call (.ref f) us) (EP X pins σ Q) X.xe s:=by
 have r2:Vals (vs++dvs) (us++ds):=r.append hd
 have hl:(us++ds).length=ps.length:=by rw[← r2.length];exact F.len _ _ _ _ h
 refine wpAny_call (codeAny_mono (F.run X.A X.stack s H ⟨us,[]⟩ (us++ds) (vs++dvs) Q E hr I.env0 (hb s us I.kIn hl) r2 h) fun r s' hq=>?_)
 cases r with
 | error e=>exact hx pins σ H s e s' I hq
 | ok fl=>
  cases fl with
  | ret u=>exact I.after hq
  | next=>exact False.elim hq
  | brk=>exact False.elim hq
  | cont=>exact False.elim hq
theorem zbz6(F:FnOk X.prog X.w X.K X.mg X.base CX k f fd ps sp)(hr:Room k X.A)(hg:Gl X x)(hm:X.mg x=some (.ref f))(hk:zct4 X.K (.ref f)=true)(hb:zag6 X.K fd ps ds)(hd:Vals dvs ds)(hx:zai9 CX X E)(ha:PA X (e :: es) t)(hdb:(x==("__debug__":Str))=false:=by decide)(he:starEach (e :: es) X.env=(false,eval e X.env) :: starEach es X.env:=by rfl)(hpl:(backTo pos (starEach es X.env)).any (·.1)=false:=by rfl) :
  PE X (.Call (.Name x p) (e :: es) [] pos) (tCall sp dvs E t):=by
 intro pins s σ H Q I h
 refine wpAny_Call_Name_kw (zak8 I hg hm ?_ hdb)
 refine PySem.W.callWith_K (h₀:=X.base) I.ok.mod.kin hk (thn (ha pos pins s σ H _ I h) fun us s1 ⟨vs,H1,I1,r,q⟩=>⟨I1.kIn,?_⟩) he hpl
 exact run_fn F hr hb hd hx I1 r q
end
structure za8(N P:List Str)(sc:Scope):Prop where
 kind:sc.kind=.function
 co:sc.isCoroutine=false
 gen:sc.isGenerator=false
 nd:N.Nodup
 pre:N.take P.length=P
 par:∀ x∈P,sc.names.lookup x=some .local∨sc.names.lookup x=some .cell
 nofree:∀ y∈sc.names,y.2≠.free
theorem zao5{kindOf:Str->Option NameKind}{x:Str}:∀ {binds:List (Str×Value)}{m:Str->Option Value},(∀ v,(x,v) ∉ binds)->bindL kindOf binds m x=m x
 | [],_,_=>rfl
 | (n,v) :: r,m,h=>by
  unfold bindL
  rw[zao5 fun w hw=>h w (zcq4 _ hw)]
  split
  ·have:x≠n:=by rintro rfl;exact h v zcr0
   simp[this]
  ·rfl
theorem zas4{kindOf:Str->Option NameKind}{x:Str}:∀ {binds:List (Str×Value)}{m:Str->Option Value},(∀ v,(x,v) ∉ binds)->bindC kindOf binds m x=m x
 | [],_,_=>rfl
 | (n,v) :: r,m,h=>by
  unfold bindC
  rw[zas4 fun w hw=>h w (zcq4 _ hw)]
  split
  ·rfl
  ·have:x≠n:=by rintro rfl;exact h v zcr0
   simp[this]
theorem zar6{kindOf:Str->Option NameKind}{x:Str}{v:Value}:∀ {P:List Str}{vs:List Value}{i:Nat}{m:Str->Option Value},P.Nodup->P[i]?=some x->vs[i]?=some v->kindOf x=some .local ->
  bindL kindOf (P.zip vs) m x=some v
 | [],_,_,_,_,h,_,_=>by simp at h
 | _ :: _,[],_,_,_,_,h,_=>by simp at h
 | p :: P,w :: vs,0,m,nd,h1,h2,hk=>by
  simp at h1 h2;subst h1;subst h2
  show bindL kindOf ((p,w) :: P.zip vs) m p=_
  unfold bindL
  rw[zao5 fun v hv=>(zct7.mp nd).1 (List.of_mem_zip hv).1,if_pos hk]
  simp
 | p :: P,w :: vs,i+1,m,nd,h1,h2,hk=>by
  show bindL kindOf ((p,w) :: P.zip vs) m x=_
  unfold bindL
  exact zar6 (i:=i) (zct7.mp nd).2 (by simpa using h1) (by simpa using h2) hk
theorem zar1{kindOf:Str->Option NameKind}{x:Str}{v:Value}:∀ {P:List Str}{vs:List Value}{i:Nat}{m:Str->Option Value},P.Nodup->P[i]?=some x->vs[i]?=some v->kindOf x≠some .local ->
  bindC kindOf (P.zip vs) m x=some v
 | [],_,_,_,_,h,_,_=>by simp at h
 | _ :: _,[],_,_,_,_,h,_=>by simp at h
 | p :: P,w :: vs,0,m,nd,h1,h2,hk=>by
  simp at h1 h2;subst h1;subst h2
  show bindC kindOf ((p,w) :: P.zip vs) m p=_
  unfold bindC
  rw[zas4 fun v hv=>(zct7.mp nd).1 (List.of_mem_zip hv).1,if_neg hk]
  simp
 | p :: P,w :: vs,i+1,m,nd,h1,h2,hk=>by
  show bindC kindOf ((p,w) :: P.zip vs) m x=_
  unfold bindC
  exact zar1 (i:=i) (zct7.mp nd).2 (by simpa using h1) (by simpa using h2) hk
def zah6(N:List Str)(vs:List V):St:=vs.map some++List.replicate (N.length - vs.length) none
def cxOf(CX:CXT)(P:Program)(w:World)(K:zcm2)(mg:Str->Option Value)(base:Heap)(N:List Str)(qual:Str)(scope:Scope)(f:Addr)(cd:Value)(A:Around)(outer:List Env)(s:Shared)(H:Hp)(E:XK):Cx where
 prog:=P
 w:=w
 K:=K
 mg:=mg
 base:=base
 A:=A.deeper (envOfC qual scope s.heap.objs.size f cd)
 N:=N
 s₀:=s
 H₀:=H
 env:=envOfC qual scope s.heap.objs.size f cd
 outer:=outer
 stack:=envOfC qual scope s.heap.objs.size f cd :: outer
 ex:=[]
 calm:=true
 fn:=fun _=>true
 pn:=[]
 xe:=fun e s'=>wpAny (model P w) (A.deeper (envOfC qual scope s.heap.objs.size f cd)) (leaving (envOfC qual scope s.heap.objs.size f cd) e) (fun _ s''=>CX outer H s E e s'') (fun e' s''=>CX outer H s E e' s'') s'
theorem zba6{sc:Scope}{n:Nat}{x:Str}(h:sc.names.lookup x=some .cell):∃ c,(cellsFrom n sc.names []).lookup x=some c:=by
 have q:=PySem.W.cellsFrom_some sc.names n [] (.inl h)
 exact Option.isSome_iff_exists.mp q
theorem zbi9{CX:CXT}{P:Program}{w:World}{K:zcm2}{mg:Str->Option Value}{base:Heap}{N ps:List Str}{qual:Str}{scope:Scope}{f:Addr}{cd:Value}{A:Around}{outer:List Env}{s1:Shared}{E:XK}{vs:List V}(S:za8 N ps scope)(hd:A.handled=none)(e0:Env0 P w K mg base A outer s H)(hl:vs.length=ps.length)(r:Vals vs us)(x:InCallC s s.heap.objs.size (bindL (envOfC qual scope s.heap.objs.size f cd).kindOf (ps.zip us) fun _=>none) (cellsFrom (s.heap.objs.size+1) scope.names []) (bindC (envOfC qual scope s.heap.objs.size f cd).kindOf (ps.zip us) fun _=>none) s1) :
  Inv (cxOf CX P w K mg base N qual scope f cd A outer s H E) [] (zah6 N vs) H s1:=by
 have hpl:ps.length<=N.length:=by have:=congrArg List.length S.pre;rw[zcr6] at this;omega
 obtain⟨h1,tk,rfl,hk⟩:=x.done
 have noA:∀ b:Addr,b ∉ (cxOf CX P w K mg base N qual scope f cd A outer s H E).ex:=fun b z=>absurd (show b∈([]:List Addr) from z) (by simp)
 refine⟨⟨e0.mod,S.kind,rfl,rfl,zcn4 _,fun y z c h1 h2=>?_,fun y hy=>?_,fun y c _ h=>?_,fun _=>hd,Around.frames_deeper e0.frames,.inr ⟨rfl,rfl⟩,fun b z=>absurd z (noA b),e0.bs,e0.bsz,fun b _ _=>noA b,fun b z=>absurd z (noA b),e0.funs,e0.frf⟩,
  rfl,e0.bare,Un.kept hk,⟨_,x.toInCall.ns,fun i y v h1 h2 h3=>?_⟩,fun y c h=>⟨_,x.cell y c h⟩,e0.hok.fresh (zcn4 _),fun y c h=>?_,fun p hp=>absurd (show p∈([]:List (Addr×Obj)) from hp) (by simp),e0.hok.kept hk,?_⟩
 ·exact name_of_addr x.apart (PySem.mem_of_lookup h1) (PySem.mem_of_lookup h2)
 ·have hy:scope.names.lookup y=some .cell∨scope.names.lookup y=some .free:=hy
  rcases hy with hy|hy
  ·exact zba6 hy
  ·exact absurd rfl (S.nofree _ (PySem.mem_of_lookup hy))
 ·exact Nat.le_of_lt (x.above y c (PySem.mem_of_lookup h))
 ·have hi:i<vs.length:=by
   unfold zah6 at h2
   by_cases hi:i<vs.length
   ·exact hi
   ·rw[zco5 (by simpa using hi)] at h2
    rw[List.getElem?_replicate] at h2
    split at h2<;>cases h2
  have ha:vs[i]?=some v:=by
   unfold zah6 at h2
   rw[zco2 (by simpa using hi),zcm5] at h2
   cases e:vs[i]? with
   | none=>rw[e] at h2;cases h2
   | some a=>rw[e] at h2;cases h2;rfl
  obtain⟨u,hu,rv⟩:=r.get ha
  have hp:ps[i]?=some y:=by
   rw[← S.pre,List.getElem?_take_of_lt (by omega)];exact h1
  have ndP:ps.Nodup:=by rw[← S.pre];exact S.nd.sublist (List.take_sublist _ _)
  refine⟨u,rv,?_⟩
  rcases S.par y (zcm6 hp) with k|k
  ·exact .inl ⟨k,zar6 ndP hp hu k⟩
  ·obtain⟨c,e⟩:=zba6 (n:=s.heap.objs.size+1) k
   refine .inr ⟨.inl k,c,e,?_⟩
   have q:=x.cell y c e
   rw[zar1 ndP hp hu (by show scope.names.lookup y≠_;rw[k];decide)] at q
   exact q
 ·exact e0.hok.fresh (Nat.le_of_lt (x.above y c (PySem.mem_of_lookup h)))
 ·unfold zah6
  show _=N.length
  rw[zcn1,zcl9,List.length_replicate]
  omega
theorem fn_of{CX:CXT}{P:Program}{w:World}{K:zcm2}{mg:Str->Option Value}{base:Heap}{k:Nat}{f:Addr}{name qual:Str}{params:Arguments}{body:List Stmt}{scope:Scope}{dV kV doc pm cdv ct oc:Value}{an od:Option Addr}{osl:Array (Option Value)}{N ps:List Str}{sp:Sp}(lk:K.lookup f=some ⟨oc,od,.func (zcs1 name qual params body scope dV kV doc pm an cdv ct),osl⟩)(hcd:zcv1 K cdv qual=true)(S:za8 N ps scope)(len:∀ vs H Q E,sp vs H Q E->vs.length=ps.length)(hbody:∀ (A:Around) (outer:List Env) (s:Shared) (H:Hp) (vs:List V) (Q:VK) (E:XK),Room k (A.deeper (envOfC qual scope s.heap.objs.size f cdv))->sp vs H Q E ->
   ∃ t,PSs (cxOf CX P w K mg base N qual scope f cdv A outer s H E) body t/\t { nx:=fun _ H'=>Q .non H',rt:=Q } (zah6 N vs) H) :
  FnOk P w K mg base CX (k+1) f (zcs1 name qual params body scope dV kV doc pm an cdv ct) ps sp:=by
 refine⟨len,fun A outer s H args us vs Q E hr e0 hb r hsp=>?_⟩
 have hl:=len _ _ _ _ hsp
 have KX:K.In s.heap:=e0.mod.kin.keeps fun b o e=>(e0.bs b o e).1
 have lim:s.heap.NoLimit:=e0.mod.nolimit.keeps fun b o e=>(e0.bs b o e).1
 have hkind:∀ y∈ps.zip us,scope.names.lookup y.1=some .local∨(scope.names.lookup y.1=some .cell/\((cellsFrom (s.heap.objs.size+1) scope.names []).lookup y.1).isSome=true):=fun ⟨n,v⟩ hy=>by
  rcases S.par n (List.of_mem_zip hy).1 with q|q
  ·exact .inl q
  ·exact .inr ⟨q,PySem.W.cellsFrom_some _ _ _ (.inl q)⟩
 refine codeAny_call_function hr.depth (KX _ _ lk) rfl S.co S.gen rfl (PySem.W.codeRec_of KX hcd) (hb _ _ _ _ ?_)
 refine wpAny_newFunctionEnv_cells S.kind hkind fun env he s1 x=>?_
 subst he
 refine⟨lim.keeps x.toInCall.keep,codeAny_func ?_⟩
 obtain⟨t,ht,hq⟩:=hbody A outer s H vs Q E (hr.deeper _) hsp
 have I:Inv (cxOf CX P w K mg base N qual scope f cdv A outer s H E) [] (zah6 N vs) H s1:=zbi9 S hr.hd e0 hl r x
 refine wpAny_mono (ht [] s1 (zah6 N vs) H _ I hq) (fun fl s' hs=>?_) fun e s' hs=>hs
 have fin:∀ {σ':St}{H':Hp}{v:V}{u:Value},Inv (cxOf CX P w K mg base N qual scope f cdv A outer s H E) [] σ' H' s'->RelV v u->Q v H'->CE outer P w H s Q u s':=
  fun {σ' H' v u} J rv q=>⟨v,H',J.os,J.bare,J.base,J.hok,rv,q⟩
 cases fl with
 | ret u=>
  obtain⟨v,σ',H',J,rv,q⟩:=hs
  exact fin J rv q
 | next=>
  obtain⟨σ',H',J,q⟩:=hs
  exact fin (v:=V.non) (u:=Value.none) J rfl q
 | brk=>
  obtain⟨_,_,_,q⟩:=hs
  exact False.elim q
 | cont=>
  obtain⟨_,_,_,q⟩:=hs
  exact False.elim q
section
variable {X:Cx}{x:Str}{p pos:Pos}{e:Expr}{es:List Expr}{t:TA}{id T:String}{r:List V->Hp->VK->Prop}
def tCB(r:List V->Hp->VK->Prop)(t:TA):TE:=fun σ H Q=>t σ H fun vs H1=>r vs H1 Q
theorem zbt8(hc:zo8 X (.builtin id) r)(hg:Gl X x)(hm:X.mg x=none)(hv:bootBuiltins x=some (.builtin id))(ha:PA X (e :: es) t)(hn:x≠"__name__":=by decide)(hdb:(x==("__debug__":Str))=false:=by decide)(he:starEach (e :: es) X.env=(false,eval e X.env) :: starEach es X.env:=by rfl)(hpl:(backTo pos (starEach es X.env)).any (·.1)=false:=by rfl):PE X (.Call (.Name x p) (e :: es) [] pos) (tCB r t):=by
 intro pins s σ H Q I h
 refine wpAny_Call_Name_kw (zaa2 I hg hm hv ?_ hn hdb)
 exact PyProof.Rows.callWith_builtin1 (thn (ha pos pins s σ H _ I h) fun us s1 ⟨vs,H1,I1,r1,q1⟩=>hc pins s1 σ H1 vs us Q I1 r1 q1) he hpl
theorem zbj9(hc:zo8 X (.type T) r)(hg:Gl X x)(hm:X.mg x=none)(hv:bootBuiltins x=some (.type T))(ha:PA X (e :: es) t)(hn:x≠"__name__":=by decide)(hdb:(x==("__debug__":Str))=false:=by decide)(he:starEach (e :: es) X.env=(false,eval e X.env) :: starEach es X.env:=by rfl)(hpl:(backTo pos (starEach es X.env)).any (·.1)=false:=by rfl):PE X (.Call (.Name x p) (e :: es) [] pos) (tCB r t):=by
 intro pins s σ H Q I h
 refine wpAny_Call_Name_kw (zaa2 I hg hm hv ?_ hn hdb)
 exact PyProof.Rows.callWith_type1 (thn (ha pos pins s σ H _ I h) fun us s1 ⟨vs,H1,I1,r1,q1⟩=>hc pins s1 σ H1 vs us Q I1 r1 q1) he hpl
end
end L2
namespace HT
open PySem PyProof.Rows
section
open PySem.SeqAt
open PySem.AutoSeq1 (wpAny_loadPart')
open PySem.MeetsSeq PySem.MeetsSeq2 PySem.MeetsSeq3
end
section
variable {prog:Program}{w:World}{A:Around}{E:Value->Shared->Prop}{s:Shared}
def sIx(n d:Nat):Option Int->Nat
 | none=>d
 | some v=>if v<0 then (v+(n:Int)).toNat else min v.toNat n
theorem sIx_le(n d:Nat)(hd:d<=n)(o:Option Int):sIx n d o<=n:=by
 cases o with
 | none=>exact hd
 | some v=>
  show (if v<0 then (v+(n:Int)).toNat else min v.toNat n)<=n
  by_cases hv:v<0
  ·rw[if_pos hv];omega
  ·rw[if_neg hv];exact Nat.min_le_right _ _
theorem zbg4(v:Int)(n d:Nat):(if v<0 then max (v+(n:Int)) 0 else min v (n:Int))=((sIx n d (some v):Nat):Int):=by
 show (if v<0 then max (v+(n:Int)) 0 else min v (n:Int))=(((if v<0 then (v+(n:Int)).toNat else min v.toNat n):Nat):Int)
 by_cases hv:v<0
 ·simp only[if_pos hv];omega
 ·simp only[if_neg hv];omega
theorem zbe5(lo hi:Option Int)(n:Nat):Builtin.Slice.sliceAdjust lo hi 1 (n:Int)=(((sIx n 0 lo:Nat):Int),((sIx n n hi:Nat):Int)):=by
 have h1:¬ ((1:Int)<0):=by omega
 unfold Builtin.Slice.sliceAdjust
 simp only[h1,if_false]
 refine Prod.ext ?_ ?_
 ·cases lo with
  | none=>rfl
  | some v=>exact zbg4 v n 0
 ·cases hi with
  | none=>rfl
  | some v=>exact zbg4 v n n
theorem zbb9(i j:Nat):Builtin.Slice.slicePlaces (i:Int) (j:Int) 1=j - i:=by
 unfold Builtin.Slice.slicePlaces
 have h1:(1:Int)>0:=by omega
 simp only[h1,if_true,Int.ediv_one]
 split<;>omega
theorem zai6{v:Value}{o:Option Int}{Q:Option Int->Shared->Prop}(p:IsPart v o)(h:Q o s):wpAny (model prog w) A (Builtin.Slice.slicePartIndex v) Q E s:=by
 cases p with
 | none=>exact slicePart_none h
 | int i t=>exact slicePart_int h
theorem zaa5{sl:Addr}{vl vu:Value}{lo hi:Option Int}{n:Nat}{Q:Int×Int×Nat->Shared->Prop}(hs:s.heap.IsSliceOf sl vl vu .none)(pl:IsPart vl lo)(pu:IsPart vu hi)(h:Q (((sIx n 0 lo:Nat):Int),1,sIx n n hi - sIx n 0 lo) s):wpAny (model prog w) A (Builtin.Slice.sliceApplied (.ref sl) (pure (n:Int))) Q E s:=by
 obtain⟨os,hos,hcs,hds⟩:=id hs
 unfold Builtin.Slice.sliceApplied Builtin.Slice.sliceFields
 refine zcv3 (zcv3 (wpAny_field hos hds (x:=vl) rfl (zcv3 (wpAny_field hos hds (x:=vu) rfl (zcv3 (wpAny_field hos hds (x:=.none) rfl (zcv4 ?_)))))))
 refine zcv3 (slicePart_none ?_)
 show wpAny _ _ (if ((1:Int)==0)=true then _ else _) _ _ s
 rw[if_neg (by decide)]
 refine zcv3 (zai6 pl (zcv3 (zai6 pu (zcv3 (zcv4 ?_)))))
 show wpAny _ _ (match Builtin.Slice.sliceAdjust lo hi 1 (n:Int) with|(lo,hi)=>pure (lo,(1:Int),Builtin.Slice.slicePlaces lo hi 1)) _ _ s
 rw[zbe5 lo hi n]
 show wpAny _ _ (pure (((sIx n 0 lo:Nat):Int),(1:Int),Builtin.Slice.slicePlaces ((sIx n 0 lo:Nat):Int) ((sIx n n hi:Nat):Int) 1)) _ _ s
 rw[zbb9]
 exact zcv4 h
theorem zbv3(xs:Array Value)(i k:Nat):((List.range k).filterMap fun (m:Nat)=>xs[((i:Int)+(m:Int)*1).toNat]?).toArray=((xs.toList.drop i).take k).toArray:=by
 have e:(fun (m:Nat)=>xs[((i:Int)+(m:Int)*1).toNat]?)=fun m=>xs[i+m]?:=by
  funext m
  have:((i:Int)+(m:Int)*1).toNat=i+m:=by omega
  rw[this]
 rw[e]
 have:=pick_run xs i k
 rw[List.filterMap_map] at this
 have e2:((fun x=>xs[x]?)∘fun x=>i+x)=fun m=>xs[i+m]?:=rfl
 rw[e2] at this
 rw[this]
theorem getItem_tuple_cut{t sl:Addr}{items:Array Value}{vl vu:Value}{lo hi:Option Int}{Q:Value->Shared->Prop}(ht:IsTup s.heap t items)(hs:s.heap.IsSliceOf sl vl vu .none)(pl:IsPart vl lo)(pu:IsPart vu hi)(hw:¬ (sIx items.size 0 lo=0/\sIx items.size items.size hi=items.size))(h:Q (.ref s.heap.objs.size) { s with heap:=s.heap.push { cls:=.type "tuple",data:=.seq ((items.toList.drop (sIx items.size 0 lo)).take (sIx items.size items.size hi - sIx items.size 0 lo)).toArray } })(hsz:items.size<=sizeLine):wpAny (model prog w) A (getItem (.ref t) (.ref sl)) Q E s:=by
 have htake:sizeOk (.seq ((items.toList.drop (sIx items.size 0 lo)).take (sIx items.size items.size hi - sIx items.size 0 lo)).toArray):=by
  show ((items.toList.drop (sIx items.size 0 lo)).take (sIx items.size items.size hi - sIx items.size 0 lo)).toArray.size<=sizeLine
  rw[zcm8,zcr6,zcr7,zco9]
  omega
 have hj:sIx items.size items.size hi<=items.size:=sIx_le _ _ (zcn4 _) hi
 obtain⟨os,hos,hcs,hds⟩:=id hs
 have hTs:s.TypeIs (.ref sl) "slice":=⟨os,hos,hcs⟩
 unfold getItem
 try with_reducible refine zcv8 ?_
 first|refine zcv3 (zcv4 ?_)|skip
 refine zcv3 (wpAny_sequenceKey ht.typeIs (by decide) ?_)
 refine zcv3 (wpAny_callSpecial?_slot (name:=Str.ofString "__getitem__") ht.typeIs PyProof.Rows.slot_tuple_getitem
  (wpAny_call_entry PyProof.Rows.slot_tuple_getitem ht.typeIs entry_tuple_getitem ?_ (args_tuple_getitem _ _)))
 show wpAny _ _ (Builtin.Tuple.tupleItemsOf (.ref t) >>= _) _ _ s
 refine zcv3 (tupleItemsOf_ ht ?_)
 refine zcv3 (wpAny_typeOf hTs ?_)
 rw[if_pos (by decide)]
 refine zcv3 (zaa5 hs pl pu ?_)
 have hno:¬ ((((sIx items.size 0 lo:Nat):Int)==0&&(1:Int)==1&&(sIx items.size items.size hi - sIx items.size 0 lo)==items.size)=true):=by
  intro q
  rw[zcn2,zcn2] at q
  have q1:((sIx items.size 0 lo:Nat):Int)=0:=eq_of_beq q.1.1
  have q2:sIx items.size items.size hi - sIx items.size 0 lo=items.size:=eq_of_beq q.2
  exact hw ⟨by omega,by omega⟩
 show wpAny _ _ (if (((sIx items.size 0 lo:Nat):Int)==0&&(1:Int)==1&&(sIx items.size items.size hi - sIx items.size 0 lo)==items.size)=true then _ else _) _ _ s
 rw[if_neg hno,zbv3]
 first
  | exact zcv3 (m:=Builtin.Tuple.tupleExact _) (wpAny_newObj_type (zcv4 ⟨_,rfl,zcv4 h⟩) htake)
  | exact zcv3 (m:=Builtin.Tuple.tupleExact _) (wpAny_newObj_type (zcv3 (zcv4 (zcv4 ⟨_,rfl,zcv4 h⟩))) htake)
  | exact zcv3 (zcv3 (m:=Builtin.Tuple.tupleExact _) (wpAny_newObj_type (zcv4 (zcv4 ⟨_,rfl,zcv4 h⟩)) htake))
  | exact zcv3 (zcv3 (m:=Builtin.Tuple.tupleExact _) (wpAny_newObj_type (zcv4 ⟨_,rfl,zcv4 h⟩) htake))
end
end HT
namespace L2
open PySem PySem.Spec PyProof.Rows
abbrev TO:=St->Hp->(Option Int->Hp->Prop)->Prop
def PO(X:Cx)(e:Option Expr)(t:TO):Prop:=
 ∀ (pins:List (Addr×Obj)) (s:Shared) (σ:St) (H:Hp) (Q:Option Int->Hp->Prop),Inv X pins σ H s->t σ H Q ->
  wpAny (model X.prog X.w) X.A (evalPart e X.env) (fun u s'=>∃ o H',Inv X pins σ H' s'/\IsPart u o/\Q o H') X.xe s
def zcc0:TO:=fun _ H Q=>Q none H
theorem zy8{ns:List Int}:∀ {us:List Value},Vals (ns.map V.int) us->IntsAre us ns:=by
 induction ns with
 | nil=>intro us r;rw[zcu1] at r;cases r;exact .nil
 | cons n ns ih=>
  intro us r
  rw[zcn9] at r
  cases r with
  | cons r1 r2=>
   obtain⟨t,e⟩:=r1
   subst e
   exact .cons n t (ih r2)
section
variable {X:Cx}{e:Expr}{te:TE}{lo hi:Option Expr}{tl th:TO}{pos p2:Pos}
theorem zs0:PO X none zcc0:=by
 intro pins s σ H Q I h
 rw[evalPart_none]
 exact zcv4 ⟨none,H,I,.none,h⟩
def SlR(X:Cx)(r:V->Option Int->Option Int->Hp->VK->Prop):Prop:=
 ∀ (pins:List (Addr×Obj)) (s:Shared) (σ:St) (H:Hp) (x:V) (v vl vu:Value) (lo hi:Option Int) (sl:Addr) (Q:VK),Inv X pins σ H s->RelV x v->s.heap.IsSliceOf sl vl vu .none->IsPart vl lo->IsPart vu hi->r x lo hi H Q ->
  ∃ T id,typeLookup (.type T) "__getitem__"=pure (some (.builtin id))/\s.TypeIs v T/\wpAny (model X.prog X.w) X.A (getItem v (.ref sl)) (EP X pins σ Q) X.xe s
def tSl(r:V->Option Int->Option Int->Hp->VK->Prop)(te:TE)(tl th:TO):TE:=fun σ H Q=>te σ H fun x H1=>tl σ H1 fun l H2=>th σ H2 fun u H3=>r x l u H3 Q
theorem zm4{r:V->Option Int->Option Int->Hp->VK->Prop}(hr:SlR X r)(he:PE X e te)(hl:PO X lo tl)(hu:PO X hi th):PE X (.Subscript e (.Slice lo hi none p2) pos) (tSl r te tl th):=by
 intro pins s σ H Q I h
 refine Subscript_ (thn (he pins s σ H _ I h) fun v s1 ⟨x,H1,I1,r1,q1⟩=>?_)
 refine wpAny_Slice (thn (hl pins s1 σ H1 _ I1 q1) fun vl s2 ⟨l,H2,I2,pl,q2⟩=>thn (hu pins s2 σ H2 _ I2 q2) fun vu s3 ⟨u,H3,I3,pu,q3⟩=>?_)
 rw[evalPart_none]
 refine zcv4 ?_
 have I4:Inv X pins σ H3 { s3 with heap:=s3.heap.push { cls:=.type "slice",data:=.fields #[vl,vu,.none] } }:=I3.kept (t':=s3.toks) fun b ob q=>zcm3 _ q
 obtain⟨T,id,hT,ht,hg⟩:=hr pins { s3 with heap:=s3.heap.push { cls:=.type "slice",data:=.fields #[vl,vu,.none] } } σ H3 x v vl vu l u s3.heap.objs.size Q I4 r1 (Heap.IsSliceOf.new ..) pl pu q3
 show wpAny (model X.prog X.w) X.A (subscriptTail e (.Slice lo hi none p2) v (.ref s3.heap.objs.size)) (EP X pins σ Q) X.xe { s3 with heap:=s3.heap.push { cls:=.type "slice",data:=.fields #[vl,vu,.none] } }
 exact tail_any (ops:=[.ref s3.heap.objs.size,v]) ht hT hg (by with_unfolding_all rfl)
def cutV(xs:List V)(lo hi:Option Int):List V:=(xs.drop (HT.sIx xs.length 0 lo)).take (HT.sIx xs.length xs.length hi - HT.sIx xs.length 0 lo)
theorem zaf7(xs:List V)(lo hi:Option Int):(cutV xs lo hi).length<=xs.length:=by
 unfold cutV
 rw[zcr6,zcr7]
 omega
def rSlT(K:zcm2):V->Option Int->Option Int->Hp->VK->Prop:=fun x lo hi H Q=>∃ a xs,x=.ref a/\SqT K H a xs /\
 ¬ (HT.sIx xs.length 0 lo=0/\HT.sIx xs.length xs.length hi=xs.length)/\∀ p,H p=none->Q (.ref p) (upd H p (.tup (cutV xs lo hi)))
theorem sl_tup:SlR X (rSlT X.K):=by
 intro pins s σ H x v vl vu lo hi sl Q I rx hs pl pu h
 obtain⟨a,xs,rfl,hx,hw,q⟩:=h
 cases rx
 obtain⟨its,r,ht,hz⟩:=I.tuple hx
 have hlen:its.toArray.size=xs.length:=by rw[zcm8];exact r.length.symm
 refine⟨"tuple",_,PyProof.Rows.slot_tuple_getitem.lookup,ht.typeIs,?_⟩
 refine HT.getItem_tuple_cut ht hs pl pu (by rw[hlen];exact hw) ?_ (by rw[hlen];exact hz)
 rw[hlen]
 refine⟨.ref s.heap.objs.size,_,I.laid (t':=s.toks) (o:=.tup (cutV xs lo hi)) (fun b ob q=>zcm3 _ q) (zcn4 _) ?_,rfl,q _ (I.hok.fresh (zcn4 _))⟩
 exact⟨zcr3 (zaf7 xs lo hi) hz,_,(r.drop (HT.sIx xs.length 0 lo)).take (HT.sIx xs.length xs.length hi - HT.sIx xs.length 0 lo),IsTup.new _ _⟩
end
def ixN(n:Nat)(i:Int):Option Nat:=if 0<=i then (if i<n then some i.toNat else none) else if -(n:Int)<=i then some (i+n).toNat else none
def atI{α:Type}(xs:List α)(i:Int):Option α:=(ixN xs.length i).bind fun j=>xs[j]?
theorem zbf5{n:Nat}{i:Int}{j:Nat}(h:ixN n i=some j):seqIndex? i n=some j/\j<n/\-(n:Int)<=i/\i<n:=by
 unfold ixN at h
 by_cases h0:0<=i
 ·rw[if_pos h0] at h
  by_cases h1:i<n
  ·rw[if_pos h1] at h
   have e:i.toNat=j:=Option.some.inj h
   exact⟨by rw[seqIndex_of h0 h1,e],by omega,by omega,h1⟩
  ·rw[if_neg h1] at h;cases h
 ·rw[if_neg h0] at h
  by_cases h1:-(n:Int)<=i
  ·rw[if_pos h1] at h
   have e:(i+n).toNat=j:=Option.some.inj h
   exact⟨by rw[seqIndex_neg (by omega) h1,e],by omega,h1,by omega⟩
  ·rw[if_neg h1] at h;cases h
theorem zau3{α:Type}{xs:List α}{i:Int}{v:α}(h:atI xs i=some v):∃ j,seqIndex? i xs.length=some j/\xs[j]?=some v/\j<xs.length/\-(xs.length:Int)<=i/\i<xs.length:=by
 unfold atI at h
 cases e:ixN xs.length i with
 | none=>rw[e] at h;cases h
 | some j=>
  rw[e] at h
  obtain⟨h1,h2,h3,h4⟩:=zbf5 e
  exact⟨j,h1,h,h2,h3,h4⟩
theorem zg2{α:Type}{xs:List α}{j:Nat}{v:α}(h:xs[j]?=some v):atI xs (j:Int)=some v:=by
 have hj:j<xs.length:=(zcm1.mp h).1
 have e:ixN xs.length (j:Int)=some j:=by
  unfold ixN
  rw[if_pos (by omega),if_pos (by omega)];simp
 unfold atI;rw[e];exact h
def zaw9(b:Expr):Prop:=∀ o i,subscripted b false o i=operate [o,i] (getItem o i)
def IxR(X:Cx)(r:R2):Prop:=
 ∀ (value slice:Expr) (pins:List (Addr×Obj)) (s:Shared) (σ:St) (H:Hp) (x y:V) (v u:Value) (Q:VK),Inv X pins σ H s->RelV x v->RelV y u->r x y H Q ->
  subscripted slice false v u=operate [v,u] (getItem v u)->wpAny (model X.prog X.w) X.A (subscriptTail value slice v u) (EP X pins σ Q) X.xe s
def MtR(X:Cx)(id:String)(r:V->List V->Hp->VK->Prop):Prop:=
 ∀ (pins:List (Addr×Obj)) (s:Shared) (σ:St) (H:Hp) (x:V) (xs:List V) (v:Value) (us:List Value) (Q:VK),Inv X pins σ H s->RelV x v->Vals xs us->r x xs H Q ->
  wpAny (model X.prog X.w) X.A (call (.builtin id) (v :: us)) (EP X pins σ Q) X.xe s
section
variable {X:Cx}{a b:Expr}{ta tb:TE}{pos:Pos}
theorem pe_ix{r:R2}(hr:IxR X r)(ha:PE X a ta)(hb:PE X b tb)(hs:zaw9 b):PE X (.Subscript a b pos) (tOp r ta tb):=by
 intro pins s σ H Q I h
 exact Subscript_ (binT ha hb I h fun v u s2 x y H2 I2 rx ry q=>hr a b pins s2 σ H2 x y v u Q I2 rx ry q (hs _ _))
def rIxL(K:zcm2):R2:=fun x y H Q=>∃ p xs i v,x=.ref p/\y=.int i/\SqL K H p xs/\atI xs i=some v/\Q v H
def rIxT(K:zcm2):R2:=fun x y H Q=>∃ p xs i v,x=.ref p/\y=.int i/\SqT K H p xs/\atI xs i=some v/\Q v H
def rIxS:R2:=fun x y H Q=>∃ z i c,x=.str z/\y=.int i/\z.length<=sizeLine/\atI z.cps.toList i=some c/\Q (.str ⟨#[c]⟩) H
theorem zce7:IxR X (rIxL X.K):=by
 intro value slice pins s σ H x y v u Q I rx ry h hs
 obtain⟨p,xs,i,z,rfl,rfl,hq,he,q⟩:=h
 cases rx
 obtain⟨t,rfl⟩:=ry
 obtain⟨its,r,pl,hz⟩:=I.list hq
 obtain⟨j,h1,h2,h3,h4,h5⟩:=zau3 he
 obtain⟨w,ew,rw'⟩:=r.get h2
 have hl:=r.length
 have hn:=zaf4
 have fin:EP X pins σ Q w s:=⟨z,H,I,rw',q⟩
 by_cases h0:0<=i
 ·have hj:i.toNat=j:=by
   rw[seqIndex_of h0 h5] at h1
   exact Option.some.inj h1
  exact item_listR pl.isList h0 (by omega) (by rw[hj];simpa using ew) fin hs
 ·have hj:(i+(its.toArray.size:Int)).toNat=j:=by
   rw[seqIndex_neg (by omega) h4] at h1
   rw[zcm8,← hl]
   exact Option.some.inj h1
  exact subscriptTail_builtinR (x:=w) pl.isList.typeIs slot_list_getitem.lookup
   (wpAny_getItem_list_neg (Q:=fun r s'=>r=w/\EP X pins σ Q r s') pl.isList (by omega) (by rw[zcm8]<;>omega) (by omega) (by rw[hj];simpa using ew) ⟨rfl,fin⟩) hs
theorem ix_tup:IxR X (rIxT X.K):=by
 intro value slice pins s σ H x y v u Q I rx ry h hs
 obtain⟨p,xs,i,z,rfl,rfl,hq,he,q⟩:=h
 cases rx
 obtain⟨t,rfl⟩:=ry
 obtain⟨its,r,pl,hz⟩:=I.tuple hq
 obtain⟨j,h1,h2,h3,h4,h5⟩:=zau3 he
 obtain⟨w,ew,rw'⟩:=r.get h2
 have hl:=r.length
 have hn:=zaf4
 have fin:EP X pins σ Q w s:=⟨z,H,I,rw',q⟩
 exact subscriptTail_builtinR (x:=w) pl.typeIs slot_tuple_getitem.lookup
  (getItem_tuple (j:=j) (Q:=fun r s'=>r=w/\EP X pins σ Q r s') pl (by omega) (by omega) (by rw[zcm8,← hl];exact h1) (by simpa using ew) ⟨rfl,fin⟩) hs
theorem ix_str:IxR X rIxS:=by
 intro value slice pins s σ H x y v u Q I rx ry h hs
 obtain⟨z,i,c,rfl,rfl,hz,he,q⟩:=h
 obtain⟨t,rfl⟩:=rx
 obtain⟨t',rfl⟩:=ry
 obtain⟨j,h1,h2,h3,h4,h5⟩:=zau3 he
 have hl:z.cps.toList.length=z.length:=by simp[Str.length]
 rw[hl] at h1 h4 h5
 have hn:=zaf4
 exact tail_any (typeIs_str s z t) slot_str_getitem.lookup (getItem_str (c:=c) (by
  have e1:decide (i < -(2 ^ 63:Int))=false:=decide_eq_false (by omega)
  have e2:decide (i≥2 ^ 63)=false:=decide_eq_false (by omega)
  rw[e1,e2,Bool.or_false]) (by rw[h1];simpa using h2) ⟨.str ⟨#[c]⟩,H,I.tok _,⟨_,rfl⟩,q⟩) hs
theorem zbc6(its:List Value)(n j:Nat)(u:Value):Obj.mapSeq (·.setIfInBounds j u) { cls:=.type "list",data:=.seq its.toArray n }={ cls:=.type "list",data:=.seq (its.set j u).toArray n }:=by
 simp[Obj.mapSeq]
theorem Inv.lst{pins:List (Addr×Obj)}{σ:St}{H:Hp}{s:Shared}{p:Addr}{xs:List V}(I:Inv X pins σ H s)(h:H p=some (.lst xs)) :
  ∃ (its:List Value) (n:Nat),Vals xs its/\s.heap.get? p=some { cls:=.type "list",data:=.seq its.toArray n }/\xs.length<=sizeLine:=by
 obtain⟨z,its,n,r,e⟩:=I.hok p _ h
 exact⟨its,n,r,e,z⟩
theorem Inv.lstUpd{pins:List (Addr×Obj)}{σ:St}{H:Hp}{s:Shared}{p:Addr}{xs ys:List V}{its its':List Value}{n n':Nat}{f:Obj->Obj}(I:Inv X pins σ H s)(h:H p=some (.lst xs))(ho:s.heap.get? p=some { cls:=.type "list",data:=.seq its.toArray n })(hf:f { cls:=.type "list",data:=.seq its.toArray n }={ cls:=.type "list",data:=.seq its'.toArray n' })(r:Vals ys its')(hz:ys.length<=sizeLine)(t:Nat) :
  Inv X pins σ (upd H p (.lst ys)) { s with heap:=s.heap.update p f,toks:=t }:=by
 have e:(s.heap.update p f).get? p=some { cls:=.type "list",data:=.seq its'.toArray n' }:=by
  rw[zcq7 f ho (by rw[hf]<;>rfl),hf]
 refine I.write (x:=p) (e:=p) (by rw[h];trivial) (.inl rfl) (fun b u hb q=>(zco7 _ _ (Ne.symm hb)).trans q) ⟨_,e⟩ ?_
 exact⟨hz,its',n',r,e⟩
def rSetL:V->V->V->Hp->(Hp->Prop)->Prop:=fun o i v H Q=>∃ p xs k j,o=.ref p/\i=.int k/\H p=some (.lst xs)/\ixN xs.length k=some j/\Q (upd H p (.lst (xs.set j v)))
theorem zbu1:PSet X rSetL:=by
 intro pins s σ H o i v ov iv u Q I ro ri rv h
 obtain⟨p,xs,k,j,rfl,rfl,hp,hj,q⟩:=h
 cases ro
 obtain⟨t,rfl⟩:=ri
 obtain⟨its,n,r,ho,hz⟩:=I.lst hp
 obtain⟨h1,h2,h3,h4⟩:=zbf5 hj
 have hl:=r.length
 have hn:=zaf4
 have I':Inv X pins σ (upd H p (.lst (xs.set j v))) { s with heap:=s.heap.update p (Obj.mapSeq (·.setIfInBounds j u)) }:=
  I.lstUpd hp ho (zbc6 its n j u) (r.set rv j) (by rw[List.length_set];exact hz) s.toks
 by_cases h0:0<=k
 ·have hk:k.toNat=j:=by
   rw[seqIndex_of h0 h4] at h1
   exact Option.some.inj h1
  exact PySem.W.ki_setAt ho h0 (by omega) (by rw[zcm8,← hl];exact h4) (by rw[hk];exact⟨_,I',q⟩)
 ·have hk:(k+(its.toArray.size:Int)).toNat=j:=by
   rw[seqIndex_neg (by omega) h3] at h1
   rw[zcm8,← hl]
   exact Option.some.inj h1
  exact PySem.W.ki_setBack ho (by omega) (by rw[zcm8,← hl];exact h3) (by omega) (by rw[hk];exact⟨_,I',q⟩)
theorem zas2(lo hi:Option Int)(n:Nat):(sliceBounds lo hi none n).1=((HT.sIx n 0 lo:Nat):Int)/\(sliceBounds lo hi none n).2.1=((HT.sIx n n hi:Nat):Int)/\(sliceBounds lo hi none n).2.2=1:=by
 refine⟨?_,?_,rfl⟩
 ·cases lo with
  | none=>simp[sliceBounds,HT.sIx]
  | some i=>
   simp only[sliceBounds,HT.sIx,Option.getD_none,show (1:Int)>0 by decide,if_true]
   by_cases h:i<0
   ·simp only[h,if_true]<;>omega
   ·simp only[h,if_false]<;>omega
 ·cases hi with
  | none=>simp[sliceBounds,HT.sIx]
  | some i=>
   simp only[sliceBounds,HT.sIx,Option.getD_none,show (1:Int)>0 by decide,if_true]
   by_cases h:i<0
   ·simp only[h,if_true]<;>omega
   ·simp only[h,if_false]<;>omega
theorem zal7(its:List Value)(lo hi:Option Int):slicePick its.toArray lo hi none=((its.drop (HT.sIx its.length 0 lo)).take (HT.sIx its.length its.length hi - HT.sIx its.length 0 lo)).toArray:=by
 obtain⟨h1,h2,h3⟩:=zas2 lo hi its.toArray.size
 unfold slicePick
 rw[h1,h2,h3]
 simp only[sliceRange_one,pick_run,zcm8]<;>rfl
def rSlL(K:zcm2):V->Option Int->Option Int->Hp->VK->Prop:=fun x lo hi H Q=>∃ a xs,x=.ref a/\SqL K H a xs/\∀ p,H p=none->Q (.ref p) (upd H p (.lst (cutV xs lo hi)))
theorem zcb0:SlR X (rSlL X.K):=by
 intro pins s σ H x v vl vu lo hi sl Q I rx hs pl pu h
 obtain⟨a,xs,rfl,hx,q⟩:=h
 cases rx
 obtain⟨its,r,ht,hz⟩:=I.list hx
 have hlen:=r.length
 refine⟨"list",_,slot_list_getitem.lookup,ht.isList.typeIs,?_⟩
 refine wpAny_getItem_list_slice ht.isList hs pl pu .none (by simp) ?_ (by rw[zcm8]<;>omega)
 rw[zal7,← hlen]
 refine⟨.ref s.heap.objs.size,_,I.laid (t':=s.toks) (o:=.lst (cutV xs lo hi)) (fun b ob q=>zcm3 _ q) (zcn4 _) ?_,rfl,q _ (I.hok.fresh (zcn4 _))⟩
 exact⟨zcr3 (zaf7 xs lo hi) hz,_,0,(r.drop (HT.sIx xs.length 0 lo)).take (HT.sIx xs.length xs.length hi - HT.sIx xs.length 0 lo),zcn8 _ rfl⟩
def zbh5:V->Bool
 | .non=>true
 | .bl _=>true
 | .int _=>true
 | .str _=>true
 | _=>false
def eqV:V->V->Bool
 | .non,.non=>true
 | .bl a,.bl b=>a==b
 | .bl a,.int b=>(if a then 1 else 0)==b
 | .int a,.bl b=>a==(if b then 1 else 0)
 | .int a,.int b=>a==b
 | .str a,.str b=>a==b
 | _,_=>false
theorem zbx2{A:Around}{s:Shared}{y x:V}{u v:Value}(ry:RelV y u)(rx:RelV x v)(fy:zbh5 y=true)(fx:zbh5 x=true):SeqAt.EqAt A s u v (eqV y x):=by
 cases y with
 | non=>
  cases ry
  cases x with
  | non=>cases rx;exact SeqAt.EqAt.same _
  | bl b=>cases rx;exact SeqAt.EqAt.none_bool b
  | int b=>obtain⟨t,rfl⟩:=rx;exact SeqAt.EqAt.none_int b t
  | str b=>obtain⟨t,rfl⟩:=rx;exact SeqAt.EqAt.none_str b t
  | _=>exact absurd (show false=true from fx) zcn0
 | bl a=>
  cases ry
  cases x with
  | non=>cases rx;exact SeqAt.EqAt.bool_none a
  | bl b=>cases rx;exact SeqAt.EqAt.bool_bool a b
  | int b=>obtain⟨t,rfl⟩:=rx;exact SeqAt.EqAt.bool_int a b t
  | str b=>obtain⟨t,rfl⟩:=rx;exact SeqAt.EqAt.bool_str a b t
  | _=>exact absurd (show false=true from fx) zcn0
 | int a=>
  obtain⟨t',rfl⟩:=ry
  cases x with
  | non=>cases rx;exact SeqAt.EqAt.int_none a t'
  | bl b=>cases rx;exact SeqAt.EqAt.int_bool a t' b
  | int b=>obtain⟨t,rfl⟩:=rx;exact SeqAt.EqAt.int_int a t' b t
  | str b=>obtain⟨t,rfl⟩:=rx;exact SeqAt.EqAt.int_str a t' b t
  | _=>exact absurd (show false=true from fx) zcn0
 | str a=>
  obtain⟨t',rfl⟩:=ry
  cases x with
  | non=>cases rx;exact SeqAt.EqAt.str_none a t'
  | bl b=>cases rx;exact SeqAt.EqAt.str_bool a t' b
  | int b=>obtain⟨t,rfl⟩:=rx;exact SeqAt.EqAt.str_int a t' b t
  | str b=>obtain⟨t,rfl⟩:=rx;exact SeqAt.EqAt.str_str a t' b t
  | _=>exact absurd (show false=true from fx) zcn0
 | _=>exact absurd (show false=true from fy) zcn0
theorem zas5:zo8 X (.builtin "len") (fun xs H Q=>∃ p ys,xs=[.ref p]/\(SqL X.K H p ys∨SqT X.K H p ys)/\Q (.int ys.length) H):=by
 intro pins s σ H xs us Q I r h
 obtain⟨p,ys,rfl,hq,q⟩:=h
 obtain⟨u,rfl,rx⟩:=zaj8 r
 cases rx
 have hn:=zaf4
 rcases hq with hq|hq
 ·obtain⟨its,r',pl,hz⟩:=I.list hq
  have hlen:=r'.length
  exact Calls.call_len_list pl.isList (by simp only[zcm8]<;>omega) ⟨.int ys.length,H,I.tok _,⟨s.toks+1,by rw[zcm8,hlen]⟩,q⟩
 ·obtain⟨its,r',pl,hz⟩:=I.tuple hq
  have hlen:=r'.length
  exact len_tuple pl (by simp only[zcm8]<;>omega) ⟨.int ys.length,H,I.tok _,⟨s.toks+1,by rw[zcm8,hlen]⟩,q⟩
theorem zan7:zo8 X (.builtin "len") (fun xs H Q=>∃ z,xs=[.str z]/\z.length<=sizeLine/\Q (.int z.length) H):=by
 intro pins s σ H xs us Q I r h
 obtain⟨z,rfl,hz,q⟩:=h
 obtain⟨u,rfl,t,rfl⟩:=zaj8 r
 have hn:=zaf4
 exact len_str (by omega) ⟨.int z.length,H,I.tok _,⟨_,rfl⟩,q⟩
theorem zao0:zo8 X (.type "list") (fun xs H Q=>∃ p ys,xs=[.ref p]/\(SqL X.K H p ys∨SqT X.K H p ys)/\∀ l,H l=none->Q (.ref l) (upd H l (.lst ys))):=by
 intro pins s σ H xs us Q I r h
 obtain⟨p,ys,rfl,hq,q⟩:=h
 obtain⟨u,rfl,rx⟩:=zaj8 r
 cases rx
 have fin:∀ (its:List Value),Vals ys its->ys.length<=sizeLine->∀ (h':Heap) (c':Nat),(∀ b o',s.heap.get? b=some o'->h'.get? b=some o') ->
   h'.get? s.heap.objs.size=some { cls:=.type "list",dict:=none,data:=.seq its.toArray c',slots:=#[] }->EP X pins σ Q (.ref s.heap.objs.size) { s with heap:=h' }:=fun its r' hz h' c' kp e=>
  ⟨.ref s.heap.objs.size,_,I.laid (t':=s.toks) kp (zcn4 _) (show ze9 X.prog X.w _ h' _ (.lst ys) from ⟨hz,its,c',r',e⟩),rfl,q _ (I.hok.fresh (zcn4 _))⟩
 rcases hq with hq|hq
 ·obtain⟨its,r',pl,hz⟩:=I.list hq
  have hlen:=r'.length
  obtain⟨o,ho,hc,n,hd⟩:=pl.isList
  exact call_list_seq p (.inl rfl) ho hc hd (fun h' c' kp e=>fin its r' hz h' c' kp e) (by simp only[zcm8]<;>omega)
 ·obtain⟨its,r',pl,hz⟩:=I.tuple hq
  have hlen:=r'.length
  obtain⟨o,ho,hc,n,hd⟩:=pl
  exact call_list_seq p (.inr rfl) ho hc hd (fun h' c' kp e=>fin its r' hz h' c' kp e) (by simp only[zcm8]<;>omega)
def tyV(K:zcm2)(T:String)(x:V)(H:Hp):Prop:=match x with
 | .str _=>T="str"
 | .int _=>T="int"
 | .ref p=>(T="list"/\∃ xs,SqL K H p xs)∨(T="tuple"/\∃ o,K.lookup p=some o/\o.cls=.type "tuple"/\o.dict=none) ∨
   (T="dict"/\((∃ kvs,H p=some (.dK kvs))∨∃ kvs,H p=some (.dT kvs)))∨(T="set"/\∃ S n,H p=some (.set S n))
 | _=>False
theorem tyV_is{pins:List (Addr×Obj)}{σ:St}{H:Hp}{s:Shared}{T:String}{x:V}{v:Value}(I:Inv X pins σ H s)(r:RelV x v)(ty:tyV X.K T x H) :
  s.TypeIs v T/\∀ a,v=.ref a->∃ ob,s.heap.get? a=some ob/\ob.dict=none:=by
 cases x with
 | str z=>
  obtain⟨t,rfl⟩:=r
  cases (show T="str" from ty)
  exact⟨typeIs_str s z t,fun _ e=>nomatch e⟩
 | int i=>
  obtain⟨t,rfl⟩:=r
  cases (show T="int" from ty)
  exact⟨typeIs_int s i t,fun _ e=>nomatch e⟩
 | ref p=>
  cases r
  rcases ty with ⟨rfl,xs,hq⟩|⟨rfl,o,hk,hc,hd⟩|⟨rfl,hk⟩|⟨rfl,S,n,hk⟩
  ·obtain⟨its,_,pl,_⟩:=I.list hq
   refine⟨pl.isList.typeIs,fun a e=>?_⟩
   cases e
   obtain⟨o,n,e,c,hd,_⟩:=pl
   exact⟨o,e,hd⟩
  ·refine⟨⟨o,I.kIn p o hk,hc⟩,fun a e=>?_⟩
   cases e
   exact⟨o,I.kIn _ o hk,hd⟩
  ·have z:∃ o,s.heap.get? p=some o/\o.ExactDict:=by
    rcases hk with ⟨kvs,hk⟩|⟨kvs,hk⟩
    ·obtain⟨_,_,_,_,o,_,_,e,ex,_⟩:=I.hok p _ hk
     exact⟨o,e,ex⟩
    ·obtain⟨_,_,_,_,o,_,_,e,ex,_⟩:=I.hok p _ hk
     exact⟨o,e,ex⟩
   obtain⟨o,e,ex⟩:=z
   refine⟨⟨o,e,ex.1⟩,fun a e2=>?_⟩
   cases e2
   exact⟨o,e,ex.2.1⟩
  ·obtain⟨o,_,_,_,e,ex,_⟩:=I.hok p _ hk
   refine⟨⟨o,e,ex.1⟩,fun a e2=>?_⟩
   cases e2
   exact⟨o,e,ex.2.1⟩
 | _=>exact False.elim ty
variable {o e:Expr}{es:List Expr}{to:TE}{t:TA}{name:Str}{apos cpos:Pos}{T id:String}{r:V->List V->Hp->VK->Prop}
end
def MtM(X:Cx)(id:String)(r:V->List V->Hp->VK->Prop):Prop:=
 ∀ (pins:List (Addr×Obj)) (s:Shared) (σ:St) (H:Hp) (x:V) (xs:List V) (v:Value) (us:List Value) (Q:VK),Inv X pins σ H s->RelV x v->Vals xs us->r x xs H Q ->
  wpAny (model X.prog X.w) X.A (call (.builtin id) (v :: us)) (EP X pins σ Q) X.xe s
theorem Vals.one:∀ {x:V}{us:List Value},Vals [x] us->∃ u,us=[u]/\RelV x u
 | _,_,.cons r .nil=>⟨_,rfl,r⟩
theorem Vals.rep{xs:List V}{us:List Value}(h:Vals xs us):∀ k:Nat,Vals (List.replicate k xs).flatten (List.replicate k us).flatten
 | 0=>.nil
 | k+1=>by
  rw[zcu0,zcu0,List.flatten_cons,List.flatten_cons]
  exact Vals.append h (Vals.rep h k)
theorem zap7(its:List Value):∀ (k:Nat) (acc:List Value),
  List.foldl (fun x1 x2=>x1++x2) acc.toArray (List.replicate k its.toArray)=(acc++(List.replicate k its).flatten).toArray
 | 0,acc=>by simp
 | k+1,acc=>by
  have e:acc.toArray++its.toArray=(acc++its).toArray:=by simp
  have e2:(acc++its)++(List.replicate k its).flatten=acc++(List.replicate (k+1) its).flatten:=by
   rw[zcu0,List.flatten_cons,List.append_assoc]
  rw[← e2,← zap7 its k (acc++its),← e,zcu0,List.foldl_cons]
section
variable {X:Cx}{pins:List (Addr×Obj)}{σ:St}{H:Hp}{s:Shared}{l b:Addr}{xs ys zs:List V}
theorem Inv.lset{its its':List Value}{n:Nat}{f:Array Value->Array Value}{t':Nat}(I:Inv X pins σ H s)(hH:H l=some (.lst xs))(e:s.heap.get? l=some { cls:=.type "list",data:=.seq its.toArray n })(hf:f its.toArray=its'.toArray)(hv:Vals ys its')(hz:ys.length<=sizeLine) :
  Inv X pins σ (upd H l (.lst ys)) { s with heap:=s.heap.update l (Obj.mapSeq f),toks:=t' }:=by
 have q:=PySem.IsL.update e f
 rw[hf] at q
 refine I.write (x:=l) (e:=l) (by rw[hH];exact trivial) (.inl rfl) (fun b' u hb hu=>(zco7 s.heap (Obj.mapSeq f) (Ne.symm hb)).trans hu) ⟨_,q⟩ ?_
 exact⟨hz,its',_,hv,q⟩
theorem Inv.lnew{its:List Value}{t':Nat}(I:Inv X pins σ H s)(hv:Vals ys its)(hz:ys.length<=sizeLine) :
  Inv X pins σ (upd H s.heap.objs.size (.lst ys)) { s with heap:=s.heap.push { cls:=.type "list",data:=.seq its.toArray },toks:=t' }:=
 I.laid (fun _ _ q=>zcm3 _ q) (zcn4 _) ⟨hz,its,0,hv,zcn8 _ rfl⟩
theorem Inv.fresh(I:Inv X pins σ H s):H s.heap.objs.size=none:=I.hok.fresh (zcn4 _)
theorem Inv.lstM(I:Inv X pins σ H s)(hH:H l=some (.lst xs)):xs.length<=sizeLine/\∃ (its:List Value) (n:Nat),Vals xs its/\xs.length=its.length/\s.heap.get? l=some { cls:=.type "list",data:=.seq its.toArray n }:=by
 obtain⟨z,its,n,r,e⟩:=I.hok l _ hH
 exact⟨z,its,n,r,r.length,e⟩
theorem zba9{n:Nat}(h:n<=sizeLine):Builtin.List.listTooLong n=false:=by
 unfold Builtin.List.listTooLong
 exact decide_eq_false (by omega)
end
section
variable {X:Cx}
def zbz0:V->List V->Hp->VK->Prop:=fun x vs H Q=>∃ l xs y,x=.ref l/\vs=[y]/\H l=some (.lst xs)/\xs.length<sizeLine/\Q .non (upd H l (.lst (xs++[y])))
theorem zar9:MtM X "list.append" zbz0:=by
 intro pins s σ H x vs v us Q I rx rv h
 obtain⟨l,xs,y,rfl,rfl,hH,hz,q⟩:=h
 cases rx
 obtain⟨u,rfl,ru⟩:=rv.one
 obtain⟨z,its,n,r,hl,e⟩:=I.lstM hH
 refine call_meets F.slot_list_append ⟨_,e,rfl⟩ F.entry_list_append (F.args_list_append_2 _ _) (PySem.list_append l its.toArray n u (by rw[zcm8];omega)) ⟨e,?_⟩
 refine⟨.non,_,I.lset (its':=its++[u]) hH e (by simp) (r.append (.cons ru .nil)) ?_,rfl,q⟩
 rw[zcn1,zcs9]
 omega
def zcc6:V->List V->Hp->VK->Prop:=fun x vs H Q=>∃ l b xs zs,x=.ref l/\vs=[.ref b]/\H l=some (.lst xs)/\H b=some (.lst zs)/\xs.length+zs.length<=sizeLine/\Q .non (upd H l (.lst (xs++zs)))
theorem mt_extend:MtM X "list.extend" zcc6:=by
 intro pins s σ H x vs v us Q I rx rv h
 obtain⟨l,b,xs,zs,rfl,rfl,hH,hB,hz,q⟩:=h
 cases rx
 obtain⟨u,rfl,ru⟩:=rv.one
 cases ru
 obtain⟨z,its,n,r,hl,e⟩:=I.lstM hH
 obtain⟨z2,its2,n2,r2,hl2,e2⟩:=I.lstM hB
 have hsz:its.toArray.size+its2.toArray.size<=sizeLine:=by rw[zcm8,zcm8];omega
 have hlong:¬ (!its.toArray.isEmpty&&Builtin.List.listTooLong (its.toArray.size+its2.toArray.size))=true:=by
  rw[zba9 hsz,Bool.and_false]
  exact zcn0
 refine call_meets F.slot_list_extend ⟨_,e,rfl⟩ F.entry_list_extend (F.args_list_extend_2 _ _)
  (AutoSeq1.list_extend_list_list_0 l its.toArray n b its2.toArray n2 hlong (by rw[zcm8];omega) (by omega)) ⟨e,e2,?_⟩
 refine⟨.non,_,I.lset (its':=its++its2) hH e (by simp) (r.append r2) ?_,rfl,q⟩
 rw[zcn1]
 omega
def rCat:R2:=fun x y H Q=>∃ l b xs zs,x=.ref l/\y=.ref b/\H l=some (.lst xs)/\H b=some (.lst zs)/\xs.length+zs.length<=sizeLine/\∀ p,H p=none->Q (.ref p) (upd H p (.lst (xs++zs)))
theorem op_cat:OpR X (binaryOp .Add) rCat:=by
 intro pins s σ H x y v u Q I rx ry h
 obtain⟨l,b,xs,zs,rfl,rfl,hH,hB,hz,q⟩:=h
 cases rx
 cases ry
 obtain⟨z,its,n,r,hl,e⟩:=I.lstM hH
 obtain⟨z2,its2,n2,r2,hl2,e2⟩:=I.lstM hB
 refine PySem.P.add_list e e2 ?_ (by rw[zcm8,zcm8];omega)
 have ea:its.toArray++its2.toArray=(its++its2).toArray:=by simp
 rw[ea]
 exact⟨.ref _,_,I.lnew (t':=s.toks) (r.append r2) (by rw[zcn1];omega),rfl,q _ I.fresh⟩
def rRep:R2:=fun x y H Q=>∃ l k xs,x=.ref l/\y=.int k/\H l=some (.lst xs)/\-(2 ^ 63)<=k/\k<2 ^ 63/\xs.length*k.toNat<=sizeLine /\
 ∀ p,H p=none->Q (.ref p) (upd H p (.lst (List.replicate k.toNat xs).flatten))
theorem zcf0{α:Type}(xs:List α)(k:Nat):(List.replicate k xs).flatten.length=k*xs.length:=by
 induction k with
 | zero=>simp
 | succ k ih=>rw[zcu0,List.flatten_cons,zcn1,ih,Nat.succ_mul,Nat.add_comm]
theorem op_rep:OpR X (binaryOp .Mult) rRep:=by
 intro pins s σ H x y v u Q I rx ry h
 obtain⟨l,k,xs,rfl,rfl,hH,h1,h2,hz,q⟩:=h
 cases rx
 obtain⟨t,rfl⟩:=ry
 obtain⟨z,its,n,r,hl,e⟩:=I.lstM hH
 have hlen:its.toArray.size*k.toNat<=sizeLine:=by rw[zcm8,← hl];exact hz
 have hcap:¬ its.toArray.size*k.toNat>(2 ^ 63 - 1) / 8:=by
  have:(sizeLine:Nat)<=(2 ^ 63 - 1) / 8:=by decide
  omega
 have hfit:¬ (!Builtin.List.listFitsIndex k)=true:=by
  rw[fitsIndex_both h1 h2]
  exact zcn0
 have hlong:¬ Builtin.List.listTooLong (its.toArray.size*k.toNat)=true:=by
  rw[zba9 hlen]
  exact zcn0
 have hnew:List.foldl (fun x1 x2=>x1++x2) #[] (List.replicate (if its.toArray.isEmpty=true then 0 else k.toNat) its.toArray)=(List.replicate k.toNat its).flatten.toArray:=by
  have f0:∀ m:Nat,List.foldl (fun x1 x2=>x1++x2) #[] (List.replicate m its.toArray)=(List.replicate m its).flatten.toArray:=fun m=>by
   have:=zap7 its m []
   rw[List.nil_append] at this
   exact this
  rw[f0]
  cases its with
  | nil=>simp
  | cons a r'=>rw[if_neg (by simp)]
 refine wpAny_binaryOp_repeat_ref (T:="list") (U:="int") (by decide) ⟨_,e,rfl⟩ (fun s'=>typeIs_int s' k t) noFill_list_mul F.fills_int_mul F.slot_int_rmul repeat_list F.slot_int_index.lookup
  (call_meets F.slot_int_rmul (typeIs_int s k t) F.entry_int_rmul (F.args_int_rmul_2 _ _) (int___rmul___int_list k t l its.toArray n)
   ⟨e,rfl,⟨_,e,rfl⟩,call_meets F.slot_list_mul ⟨_,e,rfl⟩ F.entry_list_mul (F.args_list_mul_2 _ _) (AutoListH.list___mul___list_int_3 l its.toArray n k t hfit hcap hlong) ⟨e,?_⟩⟩)
 rw[hnew]
 exact⟨.ref _,_,I.lnew (t':=s.toks) (r.rep k.toNat) (by rw[zcf0,Nat.mul_comm];exact hz),rfl,q _ I.fresh⟩
end
end L2
namespace Att
open PySem PySem.W PySem.Calls PyProof.Rows
theorem zaf3{P:Params}{h:Heap}:∀ (ns:List Int) (vs:List Value),WellAll P h vs (ns.map WData.int)->IntsAre vs ns:=by
 intro ns
 induction ns with
 | nil=>
  intro vs w
  rw[zcu1] at w
  cases w
  exact .nil
 | cons n ns ih=>
  intro vs w
  rw[zcn9] at w
  cases w with
  | cons a b=>
   cases a
   exact .cons _ _ (ih _ b)
theorem zbj4{l:OpenLaw}{n:Nat}(hn:l.most=some n){P:Params}{h:Heap}{args:List WData}{vals:List Value}(hpre:l.row.toRowW.claim.pre args=true)(hwl:WellAll P h vals args) :
  ∃ a vs ns,vals=[Value.ref a]/\args=[WData.list (ns.map WData.int)]/\h.get? a=some { cls:=.type "list",data:=.seq vs.toArray }/\IntsAre vs ns/\ns.length<=n:=by
 have hsh:WShape.hasAll [] args [.list .int]=true:=(pre_splitW hpre).1
 have hc:l.pre.holds [] { args:=args }=true:=(pre_splitW hpre).2
 obtain⟨d,r,rfl,h1,h2⟩:=hasAllW_cons hsh
 obtain rfl:=hasAllW_nil h2
 obtain⟨xs,rfl,h3⟩:=hasW_list h1
 obtain⟨ns,rfl⟩:=items_int h3
 have hlen:ns.length<=n:=by
  unfold OpenLaw.pre at hc
  have h4:(WTm.not (.lt (.lit (.int (n:Int))) (.len (.arg 0)))).holds [] { args:=[.list (ns.map .int)] }=true:=by
   have h4:=(holds_andW hc).1
   rw[hn] at h4
   exact h4
  have h5:=condW_of h4 (w_not (w_lt w_lit (w_len_list (w_arg rfl))))
  rw[zcl9] at h5
  refine Nat.le_of_not_lt fun q=>?_
  have q':(n:Int)<((ns.length:Nat):Int):=by omega
  first
   | (rw[decide_eq_true q'] at h5;exact absurd h5 (by decide))
   | (simp at h5;omega)
 cases hwl with
 | cons w1 w2=>
  cases w2
  cases w1 with
  | list ho hall=>exact⟨_,_,ns,rfl,rfl,ho,zaf3 ns _ hall,hlen⟩
theorem zbl5(l:OpenLaw)(args:List WData):l.row.toRowW.claim.post args (.bool true) args=true:=
 postW_of (r:=l.row.toRowW) (X:=(true==true))
  (show WShape.has [] (.bool true) .bool=true by first|rfl|decide|simp[WShape.has,WShape.arms,WShape.armsAll])
  (show (WTm.eq .res (.lit (.bool true))).value [] { args:=args,res:=some (.bool true),after:=args }=some (.bool (true==true)) from w_eq_bool (w_res rfl) w_lit) rfl
theorem attach_call{l:OpenLaw}{n:Nat}{q:Program}{loose:List Str}{XP:(Str->Option Value)->Heap->Prop}{YP:World->Heap->Prop}{d:DefRec}(hn:l.most=some n)(hdf:d.params.defaults=[])(call:∀ (w:World) (s₀ s₁:Shared) (mg mb:Str->Option Value) (fa:Addr) (o:Obj) (pm cd doc:Value) (a:Addr) (vs:List Value) (ns:List Int),
   Ground q loose [] XP w s₀ mg mb s₁.heap->YP w s₁.heap ->
   s₁.heap.get? fa=some o->o.data=.func (docDef d.name d.params d.body d.scope pm cd doc)->s₁.heap.CodeRec cd d.name->mg d.name=some (.ref fa) ->
   s₁.heap.get? a=some { cls:=.type "list",data:=.seq vs.toArray }->IntsAre vs ns->ns.length<=n->s₁.gens=#[] ->
   codeAny (model l.prog w) callerA (.call (.ref fa) ⟨[.ref a],[]⟩) (fun r s'=>r=.ok (.ret (.bool true))/\OldK s₁.heap s'.heap/\s'.os=s₁.os/\AllBare s'.gens) s₁) :
  WalkO q loose XP YP l.row.toRowW d [] (fun f vs=>PySem.call f vs):=by
 intro w s₀ s₁ mg mb G Y fa o pm cd doc dV kV ho hd hcd hD hmg hg args vals as hpre hlay hrd hwl hlo
 obtain rfl:dV=.none:=Dflts.none hD hdf
 obtain rfl:kV=.none:=Dflts.noKw hD
 obtain⟨a,vs,ns,rfl,rfl,hobj,hints,hlen⟩:=zbj4 hn hpre hwl
 refine enter_call (codeAny_mono (call w s₀ s₁ mg mb fa o pm cd doc a vs ns G Y ho (fd_plain hd) hcd hmg hobj hints hlen hg) fun r s' hq=>?_)
 obtain⟨rfl,h2,h3,h4⟩:=hq
 exact⟨.inl ⟨.bool true,.bool true,[],rfl,fun _=>rfl,.bool true,zbl5 l _,fun _=>⟨List.Pairwise.nil,fun _ hm=>(nomatch hm)⟩⟩,h2,h3,h4⟩
section
variable {prog:Program}{w:World}{A:Around}{E:Value->Shared->Prop}{s:Shared}{K:Frag}
def noObjs(h:Heap):Heap:={ h with objs:=#[] }
theorem noObjs_get(h:Heap)(b:Addr):(noObjs h).get? b=none:=by
 cases e:(noObjs h).get? b with
 | none=>rfl
 | some o=>exact absurd (zcn3 e) (Nat.not_lt_zero _)
def ledger(h:Heap)(L d:Addr):List (Addr×Obj):=(List.range h.objs.size).filterMap fun a=>if a=L∨a=d then none else (h.get? a).map fun o=>(a,o)
theorem mem_ledger{h:Heap}{L d a:Addr}{o:Obj}:(a,o)∈ledger h L d↔a≠L/\a≠d/\h.get? a=some o:=by
 unfold ledger
 rw[zcu4]
 constructor
 ·rintro⟨b,_,e⟩
  split at e
  ·cases e
  ·rename_i hb
   obtain⟨o',ho,e'⟩:=zcm7.mp e
   cases e'
   exact⟨fun q=>hb (.inl q),fun q=>hb (.inr q),ho⟩
 ·rintro⟨n1,n2,ho⟩
  refine⟨a,zcq6.mpr (zcn3 ho),?_⟩
  rw[if_neg (show ¬ (a=L∨a=d) from fun q=>q.elim n1 n2),ho]<;>rfl
theorem fr_all{h:Heap}{L:Addr}{m:Str->Option Value}(n:h.Ns L m):Fr (noObjs h) L h m:=
 ⟨n,fun b o e=>(by rw[noObjs_get] at e;cases e),zcp5 _⟩
end
end Att
namespace L2
open PySem PySem.Spec PyProof.Rows
variable {qual:Str}{st:Stmt}{C c f:Addr}{H H' H1 H2:Hp}{xs:List V}{o:HO}{e tg:Expr}{elts es:List Expr}{i:Nat}{scope:Scope}{Q:VK}{ps:List Addr}
theorem zar8:∀ {vs:List Value}{ns:List Int},IntsAre vs ns->Vals (ns.map V.int) vs
 | _,_,.nil=>.nil
 | _,_,.cons n t h=>.cons ⟨t,rfl⟩ (zar8 h)
def zcd6(s:Stmt)(j:Nat):Stmt:=match s with
 | .ClassDef _ _ _ body _ _ _ _ _ _ _=>body.getD j (.Pass ⟨0,0,0,0⟩)
 | _=>.Pass ⟨0,0,0,0⟩
def zl9(s:Stmt):Arguments:=match s with
 | .FunctionDef _ a _ _ _ _ _ _ _ _=>a
 | _=>{ posonlyargs:=[],args:=[],vararg:=none,kwonlyargs:=[],kw_defaults:=[],kwarg:=none,defaults:=[] }
def zi8(s:Stmt):List Stmt:=match s with
 | .FunctionDef _ _ b _ _ _ _ _ _ _=>b
 | _=>[]
def za6(s:Stmt):Scope:=match s with
 | .FunctionDef _ _ _ _ _ _ sc _ _ _=>sc
 | _=>{ kind:=.function,names:=[],isGenerator:=false,isCoroutine:=false }
abbrev CX0:CXT:=fun _ _ _ _ _ _=>False
abbrev E0:XK:=fun _ _ _=>False
theorem zb3{X:Cx}:zai9 CX0 X E0:=fun _ _ _ _ _ _ _ h=>h.elim
structure Fun(K:zcm2)(x qual:Str)(st:Stmt)(f:Addr)(fd:FuncData):Prop where
 ex:∃ (oc:Value) (od:Option Addr) (kV doc pm:Value) (an:Option Addr) (cdv ct:Value) (osl:Array (Option Value)),
  fd=zcs1 x qual (zl9 st) (zi8 st) (za6 st) .none kV doc pm an cdv ct/\K.lookup f=some ⟨oc,od,.func fd,osl⟩/\zcv1 K cdv qual=true
 kp:zct4 K (.ref f)=true
section
variable {P:Program}{w:World}{K:zcm2}{mg:Str->Option Value}{base:Heap}
theorem Fun.ok{x:Str}{fd:FuncData}{N ps:List Str}{k:Nat}{sp:Sp}(F:Fun K x qual st f fd)(S:za8 N ps (za6 st))(len:∀ vs H Q E,sp vs H Q E->vs.length=ps.length)(hbody:∀ (cdv:Value) (A:Around) (outer:List Env) (s:Shared) (H:Hp) (vs:List V) (Q:VK) (E:XK),Room k (A.deeper (envOfC qual (za6 st) s.heap.objs.size f cdv))->sp vs H Q E ->
   ∃ t,PSs (cxOf CX0 P w K mg base N qual (za6 st) f cdv A outer s H E).nox (zi8 st) t/\t { nx:=fun _ H'=>Q .non H',rt:=Q } (zah6 N vs) H):FnOk P w K mg base CX0 (k+1) f fd ps sp:=by
 obtain⟨oc,od,kV,doc,pm,an,cdv,ct,osl,rfl,lk,hcd⟩:=F.ex
 refine fn_of lk hcd S len fun A outer s H vs Q E hr hsp=>?_
 obtain⟨t,h,q⟩:=hbody cdv A outer s H vs Q E hr hsp
 exact⟨t,h.nox,q⟩
theorem Fun.binds{x:Str}{fd:FuncData}{ps:List Str}(F:Fun K x qual st f fd)(h:∀ (kV doc pm:Value) (an:Option Addr) (cdv ct:Value) (us:List Value),us.length=ps.length->bindArgs (zcs1 x qual (zl9 st) (zi8 st) (za6 st) .none kV doc pm an cdv ct) ⟨us,[]⟩=pure (ps.zip us)):zag6 K fd ps []:=by
 obtain⟨oc,od,kV,doc,pm,an,cdv,ct,osl,rfl,lk,hcd⟩:=F.ex
 exact .all (h kV doc pm an cdv ct)
theorem zap4{x:Str}{oc:Value}{od an:Option Addr}{osl:Array (Option Value)}{kV doc pm cdv ct:Value}(l:K.lookup f=some ⟨oc,od,.func (zcs1 x qual (zl9 st) (zi8 st) (za6 st) .none kV doc pm an cdv ct),osl⟩)(c:zcv1 K cdv qual=true)(k:zct4 K (.ref f)=true):Fun K x qual st f (zcs1 x qual (zl9 st) (zi8 st) (za6 st) .none kV doc pm an cdv ct):=⟨⟨oc,od,kV,doc,pm,an,cdv,ct,osl,rfl,l,c⟩,k⟩
end
theorem iteF{A B:Prop}(h:B):if false=true then A else B:=by
 rw[if_neg zcn0]
 exact h
theorem iteT{A B:Prop}(h:A):if true=true then A else B:=by
 rw[if_pos rfl]
 exact h
theorem ite2{c A B:Prop}[Decidable c](h1:c->A)(h2:¬ c->B):if c then A else B:=by
 by_cases h:c
 ·rw[if_pos h]
  exact h1 h
 ·rw[if_neg h]
  exact h2 h
def Same(H H':Hp):Prop:=∀ b o,H b=some o->H' b=some o
theorem Same.refl(H:Hp):Same H H:=fun _ _ h=>h
theorem Same.trans(a:Same H H1)(b:Same H1 H2):Same H H2:=fun c o h=>b c o (a c o h)
theorem Same.free(e:Same H H'){l:Addr}(h:H' l=Option.none):H l=Option.none:=by
 cases q:H l with
 | none=>rfl
 | some o=>
  rw[e l o q] at h
  cases h
theorem Same.seq{K:zcm2}{a:Addr}(e:Same H H')(h:SqL K H a xs):SqL K H' a xs:=by
 rcases h with (h|⟨o,h⟩)|h
 ·exact .inl (.inl (e _ _ h))
 ·exact .inl (.inr ⟨o,e _ _ h⟩)
 ·exact .inr h
set_option maxHeartbeats 1000000
@[irreducible] def br(c:Bool)(A B:Prop):Prop:=if c=true then A else B
section
variable {A B p:Prop}{c:Bool}
theorem zad6:br c A B=(if c=true then A else B):=by unfold br;rfl
theorem br_T(h:A):br true A B:=by unfold br;exact iteT h
theorem br_F(h:B):br false A B:=by unfold br;exact iteF h
theorem br_any(h1:c=true->A)(h2:c=false->B):br c A B:=by
 cases c with
 | true=>exact br_T (h1 rfl)
 | false=>exact br_F (h2 rfl)
theorem zd6 [Decidable p](h1:p->A)(h2:¬ p->B):br (decide p) A B:=br_any (fun h=>h1 (of_decide_eq_true h)) fun h=>h2 (of_decide_eq_false h)
theorem zy7 [Decidable p](hp:p)(h:A):br (decide p) A B:=zd6 (fun _=>h) fun n=>absurd hp n
theorem zaa6 [Decidable p](hp:¬ p)(h:B):br (decide p) A B:=zd6 (fun n=>absurd n hp) fun _=>h
theorem zc1(h:br c B A):br (!c) A B:=by
 cases c with
 | true=>unfold br at h ⊢;simpa using h
 | false=>unfold br at h ⊢;simpa using h
end
def Chg(a:Addr)(H H':Hp):Prop:=∀ b o,b≠a->H b=some o->H' b=some o
theorem Chg.upd{H:Hp}{a:Addr}{o:HO}:Chg a H (upd H a o):=fun b u hb e=>by rw[zb1 hb];exact e
theorem Same.upd{H:Hp}{a:Addr}{o:HO}(h:H a=none):Same H (L2.upd H a o):=fun b u e=>by rw[zb1 (za4 e h)];exact e
theorem Same.chg{H0:Hp}{a:Addr}(s:Same H0 H)(n:H0 a=none)(c:Chg a H H'):Same H0 H':=fun b o e=>c b o (za4 e n) (s b o e)
theorem Chg.refl(a:Addr)(H:Hp):Chg a H H:=fun _ _ _ e=>e
theorem Chg.trans{a:Addr}(x:Chg a H H1)(y:Chg a H1 H2):Chg a H H2:=fun b o h e=>y b o h (x b o h e)
theorem Chg.same{a:Addr}(x:Chg a H H1)(y:Same H1 H2):Chg a H H2:=fun b o h e=>y b o (x b o h e)
theorem Same.toChg{a:Addr}(x:Same H H1):Chg a H H1:=fun b o _ e=>x b o e
theorem Same.at{b:Addr}(s:Same H H')(e:H b=some o):H' b=some o:=s b o e
theorem Chg.at{a b:Addr}(s:Chg a H H')(e:H b=some o)(n:b≠a):H' b=some o:=s b o n e
def qV(i:Nat):TE:=fun σ H Q=>match σ[i]? with
 | some (some v)=>Q v H
 | _=>False
section
variable {X:Cx}
theorem pq(i:Nat){x:Str}{pos:Pos}(hN:X.N[i]?=some x:=by rfl)(hv:Vis X.env.scope x:=by first|exact Or.inl rfl|exact Or.inr (Or.inl rfl)|exact Or.inr (Or.inr rfl))(hd:(x==("__debug__":Str))=false:=by decide)(hcd:(x==("__classdict__":Str))=false:=by decide):PE X (.Name x pos) (qV i):=fun pins s σ H Q I h=>by
 refine pe_var hN hv hd hcd pins s σ H Q I ?_
 unfold qV at h
 split at h
 ·rename_i v e
  exact⟨v,e,h⟩
 ·exact h.elim
@[irreducible] def zbc7(i j:Int)(H:Hp)(Q:VK):Prop:=IntMulOk i j/\Q (.int (i*j)) H
@[irreducible] def rDivI(i j:Int)(H:Hp)(Q:VK):Prop:=(j≠0/\j.natAbs.log2<9000)/\Q (.int (i.fdiv j)) H
@[irreducible] def zbn0(i j:Int)(H:Hp)(Q:VK):Prop:=j≠0/\Q (.int (i.fmod j)) H
@[irreducible] def rPowI(i j:Int)(H:Hp)(Q:VK):Prop:=CPow i j/\Q (.int (i ^ j.toNat)) H
@[irreducible] def rCatL(a b:Addr)(H:Hp)(Q:VK):Prop:=∃ xs zs,H a=some (.lst xs)/\H b=some (.lst zs)/\xs.length+zs.length<=sizeLine /\
 ∀ p H',H p=none->Same H H'->H' p=some (.lst (xs++zs))->Q (.ref p) H'
@[irreducible] def rRepL(a:Addr)(k:Int)(H:Hp)(Q:VK):Prop:=∃ xs,H a=some (.lst xs)/\-(2 ^ 63)<=k/\k<2 ^ 63/\xs.length*k.toNat<=sizeLine /\
 ∀ p H',H p=none->Same H H'->H' p=some (.lst (List.replicate k.toNat xs).flatten)->Q (.ref p) H'
def rAddM:R2:=fun x y H Q=>match x,y with
 | .int i,.int j=>Q (.int (i+j)) H
 | .ref a,.ref b=>rCatL a b H Q
 | .str a,.str b=>a.length+b.length<=sizeLine/\Q (.str (a++b)) H
 | _,_=>False
def rSubM:R2:=fun x y H Q=>match x,y with
 | .int i,.int j=>Q (.int (i - j)) H
 | _,_=>False
def rMulM:R2:=fun x y H Q=>match x,y with
 | .int i,.int j=>zbc7 i j H Q
 | .ref a,.int k=>rRepL a k H Q
 | _,_=>False
def rDivM:R2:=fun x y H Q=>match x,y with
 | .int i,.int j=>rDivI i j H Q
 | _,_=>False
def rModM:R2:=fun x y H Q=>match x,y with
 | .int i,.int j=>zbn0 i j H Q
 | _,_=>False
def rPowM:R2:=fun x y H Q=>match x,y with
 | .int i,.int j=>rPowI i j H Q
 | _,_=>False
theorem oAdd:OpR X (binaryOp .Add) rAddM:=by
 intro pins s σ H x y v u Q I rx ry h
 unfold rAddM at h
 split at h
 ·exact op_add pins s σ H _ _ v u Q I rx ry ⟨_,_,rfl,rfl,h⟩
 ·unfold rCatL at h
  obtain⟨xs,zs,h1,h2,h3,h4⟩:=h
  exact op_cat pins s σ H _ _ v u Q I rx ry ⟨_,_,xs,zs,rfl,rfl,h1,h2,h3,fun p hp=>h4 p _ hp (Same.upd hp) zb5⟩
 ·exact zbc1 pins s σ H _ _ v u Q I rx ry ⟨_,_,rfl,rfl,h.1,h.2⟩
 ·exact h.elim
theorem oSub:OpR X (binaryOp .Sub) rSubM:=by
 intro pins s σ H x y v u Q I rx ry h
 unfold rSubM at h
 split at h
 ·exact op_sub pins s σ H _ _ v u Q I rx ry ⟨_,_,rfl,rfl,h⟩
 ·exact h.elim
theorem oMul:OpR X (binaryOp .Mult) rMulM:=by
 intro pins s σ H x y v u Q I rx ry h
 unfold rMulM at h
 split at h
 ·unfold zbc7 at h
  obtain⟨t,rfl⟩:=rx
  obtain⟨t',rfl⟩:=ry
  exact mul_int ⟨.int _,H,I.tok _,⟨_,rfl⟩,h.2⟩ h.1
 ·unfold rRepL at h
  obtain⟨xs,h1,h2,h3,h4,h5⟩:=h
  exact op_rep pins s σ H _ _ v u Q I rx ry ⟨_,_,xs,rfl,rfl,h1,h2,h3,h4,fun p hp=>h5 p _ hp (Same.upd hp) zb5⟩
 ·exact h.elim
theorem oDiv:OpR X (binaryOp .FloorDiv) rDivM:=by
 intro pins s σ H x y v u Q I rx ry h
 unfold rDivM at h
 split at h
 ·unfold rDivI at h
  obtain⟨⟨h1,h2⟩,h3⟩:=h
  obtain⟨t,rfl⟩:=rx
  obtain⟨t',rfl⟩:=ry
  exact floordiv_int h1 ⟨.int _,H,I.tok _,⟨_,rfl⟩,h3⟩ (.inl (PyProof.noPylong_of_log2 h2))
 ·exact h.elim
theorem oMod:OpR X (binaryOp .Mod) rModM:=by
 intro pins s σ H x y v u Q I rx ry h
 unfold rModM at h
 split at h
 ·unfold zbn0 at h
  exact zby4 pins s σ H _ _ v u Q I rx ry ⟨_,_,rfl,rfl,h.1,h.2⟩
 ·exact h.elim
theorem oPow:OpR X (binaryOp .Pow) rPowM:=by
 intro pins s σ H x y v u Q I rx ry h
 unfold rPowM at h
 split at h
 ·unfold rPowI at h
  exact op_pow pins s σ H _ _ v u Q I rx ry ⟨_,_,rfl,rfl,h.1,h.2⟩
 ·exact h.elim
def rNegM:V->Hp->VK->Prop:=fun x H Q=>match x with
 | .int i=>Q (.int (-i)) H
 | _=>False
theorem uNeg:UnR X (unaryOp .USub) rNegM:=by
 intro pins s σ H x v Q I rx h
 unfold rNegM at h
 split at h
 ·exact un_neg pins s σ H _ v Q I rx ⟨_,rfl,h⟩
 ·exact h.elim
section
variable {i j:Int}{H:Hp}{Q:VK}
theorem zah8(h:IntMulOk i j)(q:Q (.int (i*j)) H):zbc7 i j H Q:=by unfold zbc7;exact⟨h,q⟩
theorem log2_lt{n k:Nat}(h:n<2 ^ k)(hk:0<k):n.log2<k:=by
 by_cases h0:n=0
 ·subst h0;simpa using hk
 ·exact (Nat.log2_lt h0).mpr h
theorem zbo5{j:Int}(h1:-(10 ^ 240)<j)(h2:j<10 ^ 240):j.natAbs<2 ^ 2000:=by
 have e:(10:Int) ^ 240=((10 ^ 240:Nat):Int):=by norm_cast
 have e2:(10:Nat) ^ 240<2 ^ 2000:=by decide +kernel
 rw[e] at h1 h2
 generalize hN:(10:Nat) ^ 240=N at h1 h2 e2
 generalize hM:(2:Nat) ^ 2000=M at e2
 omega
theorem zbs8(h1:-(10 ^ 240)<i)(h2:i<10 ^ 240)(h3:-(10 ^ 240)<j)(h4:j<10 ^ 240):IntMulOk i j:=by
 have f:∀ {k:Int},-(10 ^ 240)<k->k<10 ^ 240->Builtin.Int.intBits k<=2 ^ 20:=fun {k} a b=>by
  have h:=log2_lt (zbo5 a b) (by decide)
  unfold Builtin.Int.intBits
  have e:(2:Nat) ^ 20=1048576:=by decide
  rw[e]
  split<;>omega
 exact .of_bits (f h1 h2) (f h3 h4)
theorem div_rd(h1:0<j)(h2:j<10 ^ 240)(q:Q (.int (i / j)) H):rDivI i j H Q:=by
 unfold rDivI
 refine⟨⟨by omega,?_⟩,?_⟩
 ·have h:=log2_lt (zbo5 (j:=j) (by have:(0:Int)<10 ^ 240:=(by decide +kernel);generalize (10:Int) ^ 240=N at this;omega) h2) (by decide)
  omega
 ·rw[Int.fdiv_eq_ediv_of_nonneg _ (by omega)];exact q
theorem mod_rd(h1:0<j)(q:Q (.int (i % j)) H):zbn0 i j H Q:=by
 unfold zbn0
 refine⟨by omega,?_⟩
 rw[Int.fmod_eq_emod_of_nonneg _ (by omega)];exact q
theorem zbx7(h:CPow i j)(q:Q (.int (i ^ j.toNat)) H):rPowI i j H Q:=by unfold rPowI;exact⟨h,q⟩
theorem zbo2{a b:Addr}{zs:List V}(h1:H a=some (.lst xs))(h2:H b=some (.lst zs))(h3:xs.length+zs.length<=sizeLine)(q:∀ p H',H p=none->Same H H'->H' p=some (.lst (xs++zs))->Q (.ref p) H'):rCatL a b H Q:=by unfold rCatL;exact⟨xs,zs,h1,h2,h3,q⟩
end
def rLtM:R2:=fun x y H Q=>match x,y with
 | .int i,.int j=>Q (.bl (decide (i<j))) H
 | _,_=>False
def rLeM:R2:=fun x y H Q=>match x,y with
 | .int i,.int j=>Q (.bl (decide (i<=j))) H
 | _,_=>False
def rGtM:R2:=fun x y H Q=>match x,y with
 | .int i,.int j=>Q (.bl (decide (j<i))) H
 | _,_=>False
def rGeM:R2:=fun x y H Q=>match x,y with
 | .int i,.int j=>Q (.bl (decide (j<=i))) H
 | _,_=>False
theorem oLt:OpR X (compareOp .Lt) rLtM:=by
 intro pins s σ H x y v u Q I rx ry h
 unfold rLtM at h
 split at h
 ·exact op_lt pins s σ H _ _ v u Q I rx ry ⟨_,_,rfl,rfl,h⟩
 ·exact h.elim
theorem oLe:OpR X (compareOp .LtE) rLeM:=by
 intro pins s σ H x y v u Q I rx ry h
 unfold rLeM at h
 split at h
 ·exact op_le pins s σ H _ _ v u Q I rx ry ⟨_,_,rfl,rfl,h⟩
 ·exact h.elim
theorem oGt:OpR X (compareOp .Gt) rGtM:=by
 intro pins s σ H x y v u Q I rx ry h
 unfold rGtM at h
 split at h
 ·exact op_gt pins s σ H _ _ v u Q I rx ry ⟨_,_,rfl,rfl,h⟩
 ·exact h.elim
theorem oGe:OpR X (compareOp .GtE) rGeM:=by
 intro pins s σ H x y v u Q I rx ry h
 unfold rGeM at h
 split at h
 ·exact op_ge pins s σ H _ _ v u Q I rx ry ⟨_,_,rfl,rfl,h⟩
 ·exact h.elim
inductive EqR(K:zcm2)(H:Hp):Nat->V->V->Bool->Prop where
 | flat {n:Nat}{x y:V}(fx:zbh5 x=true) (fy:zbh5 y=true):EqR K H n x y (eqV x y)
 | tup {n:Nat}{a b:Addr}{xs ys:List V}(e:Nat->Bool) (ha:SqT K H a xs) (hb:SqT K H b ys) (h:∀ (j:Nat) (x y:V),xs[j]?=some x->ys[j]?=some y->EqR K H n x y (e j)) :
   EqR K H (n+1) (.ref a) (.ref b) ((List.range (min xs.length ys.length)).all e&&xs.length==ys.length)
 | lst {n:Nat}{a b:Addr}{xs ys:List V}(e:Nat->Bool) (ha:SqL K H a xs) (hb:SqL K H b ys) (hl:xs.length=ys.length) (h:∀ (j:Nat) (x y:V),xs[j]?=some x->ys[j]?=some y->EqR K H n x y (e j)) :
   EqR K H (n+1) (.ref a) (.ref b) ((List.range xs.length).all e)
 | lstN {n:Nat}{a b:Addr}{xs ys:List V}(ha:SqL K H a xs) (hb:SqL K H b ys) (hl:xs.length≠ys.length):EqR K H (n+1) (.ref a) (.ref b) false
theorem zbs5{x:V}(f:zbh5 x=true):eqV x x=true:=by
 cases x<;>first|rfl|(simp[eqV];done)|exact absurd (show false=true from f) zcn0
section
variable {pins:List (Addr×Obj)}{σ:St}{H:Hp}{s:Shared}
theorem EqR.self(I:Inv X pins σ H s){n:Nat}{x y:V}{b:Bool}(h:EqR X.K H n x y b):x=y->b=true:=by
 induction h with
 | flat fx fy=>rintro rfl;exact zbs5 fx
 | tup e ha hb h ih=>
  intro q
  cases q
  have q:=I.tuple_inj ha hb
  subst q
  rw[Nat.min_self,zcn2]
  refine⟨zcn6.mpr fun j hj=>?_,by simp⟩
  have hj:=zcq6.mp hj
  exact ih j _ _ (zcm0 hj) (zcm0 hj) rfl
 | lst e ha hb hl h ih=>
  intro q
  cases q
  have q:=I.list_inj ha hb
  subst q
  refine zcn6.mpr fun j hj=>?_
  have hj:=zcq6.mp hj
  exact ih j _ _ (zcm0 hj) (zcm0 hj) rfl
 | lstN ha hb hl=>
  intro q
  cases q
  exact absurd (congrArg List.length (I.list_inj ha hb)) hl
theorem zv6(A:Around):A.in1.units=A.units+1:=rfl
mutual
theorem EqR.at(I:Inv X pins σ H s):∀ {n:Nat}{x y:V}{b:Bool},EqR X.K H n x y b->∀ {u v:Value}{A:Around},RelV x u->RelV y v->A.units+n<cLine->SeqAt.EqAt A s u v b
 | _,_,_,_,.flat fx fy,u,v,A,rx,ry,_=>zbx2 rx ry fx fy
 | _,.ref a,.ref b,_,h,u,v,A,rx,ry,hu=>by
  cases rx
  cases ry
  by_cases e:a=b
  ·subst e
   rw[h.self I rfl]
   exact SeqAt.EqAt.same _
  ·exact SeqAt.EqAt.of_refs e (EqR.rc I h hu)
theorem EqR.rc(I:Inv X pins σ H s):∀ {n:Nat}{a b:Addr}{c:Bool},EqR X.K H n (.ref a) (.ref b) c->∀ {A:Around},A.units+n<cLine->SeqAt.RcAt A s (.ref a) (.ref b) c
 | _,_,_,_,.flat fx _,_,_=>absurd (show false=true from fx) zcn0
 | _,a,b,_,.tup (xs:=xs) (ys:=ys) e ha hb h,A,hu=>by
  obtain⟨its,r1,t1,z1⟩:=I.tuple ha
  obtain⟨its2,r2,t2,z2⟩:=I.tuple hb
  have l1:its.toArray.size=xs.length:=by rw[zcm8];exact r1.length.symm
  have l2:its2.toArray.size=ys.length:=by rw[zcm8];exact r2.length.symm
  have q:=SeqAt.RcAt.tuples (A:=A) (e:=e) t1 t2 (by omega) fun j h1 h2=>by
   rw[l1] at h1
   rw[l2] at h2
   obtain⟨u1,e1,q1⟩:=r1.get (zcm0 h1)
   obtain⟨u2,e2,q2⟩:=r2.get (zcm0 h2)
   have i1:its.toArray[j]=u1:=by
    have:=(zcm1.mp e1).2
    simpa using this
   have i2:its2.toArray[j]=u2:=by
    have:=(zcm1.mp e2).2
    simpa using this
   rw[i1,i2]
   exact EqR.at I (h j _ _ (zcm0 h1) (zcm0 h2)) q1 q2 (by rw[zv6];omega)
  rw[l1,l2] at q
  exact q
 | _,a,b,_,.lst (xs:=xs) (ys:=ys) e ha hb hl h,A,hu=>by
  obtain⟨its,r1,t1,z1⟩:=I.list ha
  obtain⟨its2,r2,t2,z2⟩:=I.list hb
  have l1:its.toArray.size=xs.length:=by rw[zcm8];exact r1.length.symm
  have l2:its2.toArray.size=ys.length:=by rw[zcm8];exact r2.length.symm
  have q:=SeqAt.RcAt.lists (A:=A) (e:=e) t1.isList t2.isList (by rw[l1,l2];exact hl) (by omega) fun j h1 h2=>by
   rw[l1] at h1
   rw[l2] at h2
   obtain⟨u1,e1,q1⟩:=r1.get (zcm0 h1)
   obtain⟨u2,e2,q2⟩:=r2.get (zcm0 h2)
   have i1:its.toArray[j]=u1:=by
    have:=(zcm1.mp e1).2
    simpa using this
   have i2:its2.toArray[j]=u2:=by
    have:=(zcm1.mp e2).2
    simpa using this
   rw[i1,i2]
   exact EqR.at I (h j _ _ (zcm0 h1) (zcm0 h2)) q1 q2 (by rw[zv6];omega)
  rw[l1] at q
  exact q
 | _,a,b,_,.lstN (xs:=xs) (ys:=ys) ha hb hl,A,hu=>by
  obtain⟨its,r1,t1,z1⟩:=I.list ha
  obtain⟨its2,r2,t2,z2⟩:=I.list hb
  have l1:its.toArray.size=xs.length:=by rw[zcm8];exact r1.length.symm
  have l2:its2.toArray.size=ys.length:=by rw[zcm8];exact r2.length.symm
  exact SeqAt.RcAt.lists_lengths t1.isList t2.isList (by rw[l1,l2];simpa using hl) (by omega)
end
theorem EqR.rcNe(I:Inv X pins σ H s):∀ {n:Nat}{a b:Addr}{c:Bool},EqR X.K H n (.ref a) (.ref b) c->∀ {A:Around},A.units+n<cLine->SeqAt.RcNeAt A s (.ref a) (.ref b) (!c)
 | _,_,_,_,.flat fx _,_,_=>absurd (show false=true from fx) zcn0
 | _,a,b,_,.tup (xs:=xs) (ys:=ys) e ha hb h,A,hu=>by
  obtain⟨its,r1,t1,z1⟩:=I.tuple ha
  obtain⟨its2,r2,t2,z2⟩:=I.tuple hb
  have l1:its.toArray.size=xs.length:=by rw[zcm8];exact r1.length.symm
  have l2:its2.toArray.size=ys.length:=by rw[zcm8];exact r2.length.symm
  have q:=SeqAt.RcNeAt.tuples (A:=A) (e:=e) t1 t2 (by omega) fun j h1 h2=>by
   rw[l1] at h1
   rw[l2] at h2
   obtain⟨u1,e1,q1⟩:=r1.get (zcm0 h1)
   obtain⟨u2,e2,q2⟩:=r2.get (zcm0 h2)
   have i1:its.toArray[j]=u1:=by
    have:=(zcm1.mp e1).2
    simpa using this
   have i2:its2.toArray[j]=u2:=by
    have:=(zcm1.mp e2).2
    simpa using this
   rw[i1,i2]
   exact EqR.at I (h j _ _ (zcm0 h1) (zcm0 h2)) q1 q2 (by rw[zv6];omega)
  rw[l1,l2] at q
  exact q
 | _,a,b,_,.lst (xs:=xs) (ys:=ys) e ha hb hl h,A,hu=>by
  obtain⟨its,r1,t1,z1⟩:=I.list ha
  obtain⟨its2,r2,t2,z2⟩:=I.list hb
  have l1:its.toArray.size=xs.length:=by rw[zcm8];exact r1.length.symm
  have l2:its2.toArray.size=ys.length:=by rw[zcm8];exact r2.length.symm
  have q:=SeqAt.RcNeAt.lists (A:=A) (e:=e) t1.isList t2.isList (by rw[l1,l2];exact hl) (by omega) fun j h1 h2=>by
   rw[l1] at h1
   rw[l2] at h2
   obtain⟨u1,e1,q1⟩:=r1.get (zcm0 h1)
   obtain⟨u2,e2,q2⟩:=r2.get (zcm0 h2)
   have i1:its.toArray[j]=u1:=by
    have:=(zcm1.mp e1).2
    simpa using this
   have i2:its2.toArray[j]=u2:=by
    have:=(zcm1.mp e2).2
    simpa using this
   rw[i1,i2]
   exact EqR.at I (h j _ _ (zcm0 h1) (zcm0 h2)) q1 q2 (by rw[zv6];omega)
  rw[l1] at q
  exact q
 | _,a,b,_,.lstN (xs:=xs) (ys:=ys) ha hb hl,A,hu=>by
  obtain⟨its,r1,t1,z1⟩:=I.list ha
  obtain⟨its2,r2,t2,z2⟩:=I.list hb
  have l1:its.toArray.size=xs.length:=by rw[zcm8];exact r1.length.symm
  have l2:its2.toArray.size=ys.length:=by rw[zcm8];exact r2.length.symm
  exact SeqAt.RcNeAt.lists_lengths t1.isList t2.isList (by rw[l1,l2];simpa using hl) (by omega)
end
@[irreducible] def rEqO(K:zcm2)(a b:Addr)(H:Hp)(Q:VK):Prop:=∃ n c,n<=40/\EqR K H n (.ref a) (.ref b) c/\Q (.bl c) H
def rEqM(K:zcm2):R2:=fun x y H Q=>match x,y with
 | .int i,.int j=>Q (.bl (decide (i=j))) H
 | .bl i,.bl j=>Q (.bl (decide (i=j))) H
 | .str i,.str j=>Q (.bl (decide (i=j))) H
 | .ref a,.ref b=>rEqO K a b H Q
 | x,y=>scal x y=true/\Q (.bl (decide (x=y))) H
def rNeM(K:zcm2):R2:=fun x y H Q=>rEqM K x y H fun v H'=>match v with
 | .bl b=>Q (.bl (!b)) H'
 | _=>False
theorem zk5{α β:Type}[DecidableEq α][DecidableEq β]{f:α->β}(hf:∀ a b,f a=f b->a=b)(a b:α):decide (f a=f b)=decide (a=b):=by
 by_cases h:a=b
 ·subst h;simp
 ·rw[decide_eq_false h,decide_eq_false fun e=>h (hf _ _ e)]
theorem oEq(hu:X.A.units+40<cLine):OpR X (compareOp .Eq) (rEqM X.K):=by
 intro pins s σ H x y v u Q I rx ry h
 unfold rEqM at h
 split at h
 ·rename_i i j
  exact zau8 pins s σ H _ _ v u Q I rx ry ⟨rfl,by rw[zk5 (f:=V.int) fun a b e=>V.int.inj e];exact h⟩
 ·exact zau8 pins s σ H _ _ v u Q I rx ry ⟨rfl,by rw[zk5 (f:=V.bl) fun a b e=>V.bl.inj e];exact h⟩
 ·exact zau8 pins s σ H _ _ v u Q I rx ry ⟨rfl,by rw[zk5 (f:=V.str) fun a b e=>V.str.inj e];exact h⟩
 ·unfold rEqO at h
  obtain⟨n,c,hn,h1,h2⟩:=h
  cases rx
  cases ry
  exact EqR.rc I h1 (A:=X.A) (by omega) _ _ _ _ ⟨.bl c,H,I,rfl,h2⟩
 ·exact zau8 pins s σ H _ _ v u Q I rx ry h
theorem oNe(hu:X.A.units+40<cLine):OpR X (compareOp .NotEq) (rNeM X.K):=by
 intro pins s σ H x y v u Q I rx ry h
 unfold rNeM rEqM at h
 split at h
 ·rename_i i j
  exact zax0 pins s σ H _ _ v u Q I rx ry ⟨rfl,by rw[zk5 (f:=V.int) fun a b e=>V.int.inj e];exact h⟩
 ·exact zax0 pins s σ H _ _ v u Q I rx ry ⟨rfl,by rw[zk5 (f:=V.bl) fun a b e=>V.bl.inj e];exact h⟩
 ·exact zax0 pins s σ H _ _ v u Q I rx ry ⟨rfl,by rw[zk5 (f:=V.str) fun a b e=>V.str.inj e];exact h⟩
 ·unfold rEqO at h
  obtain⟨n,c,hn,h1,h2⟩:=h
  cases rx
  cases ry
  exact EqR.rcNe I h1 (A:=X.A) (by omega) _ _ _ _ ⟨.bl (!c),H,I,rfl,h2⟩
 ·exact zax0 pins s σ H _ _ v u Q I rx ry ⟨h.1,h.2⟩
def qB(t:TE):TT:=fun σ H Q=>t σ H fun x H1=>match x with
 | .bl c=>Q c H1
 | .int i=>Q (!decide (i=0)) H1
 | _=>False
theorem ptV{t:TE}(h:PE X e t)(he:∀ whole,isTrue e X.env whole=(do let v ← whole;standAt e.pos;holding [v] (truthy v)):=by intro _;rfl):PT X e (qB t):=fun pins s σ H Q I hw=>by
 refine isTrue_plain (thn (h pins s σ H _ I hw) fun v s1 ⟨x,H1,I1,r1,q1⟩=>?_) (he _)
 dsimp only at q1
 split at q1
 ·exact zbh1 pins s1 σ H1 _ v Q I1 r1 ⟨_,rfl,q1⟩
 ·rename_i i
  refine zbh1 pins s1 σ H1 _ v Q I1 r1 ⟨_,rfl,?_⟩
  have e:(i != 0)=!decide (i=0):=by by_cases h:i=0<;>simp[h]
  rw[e];exact q1
 ·exact q1.elim
theorem ptC{a b:Expr}{ta tb:TE}{pos:Pos}{op:CmpOp}{r:R2}(ho:OpR X (compareOp op) r)(ha:PE X a ta)(hb:PE X b tb)(hm:behindInMarks op b=false:=by first|exact zbv9 _|with_unfolding_all rfl):PT X (.Compare a [op] [b] pos) (qB (tOp r ta tb)):=by
 intro pins s σ H Q I h
 refine wpAny_isTrue_Compare1 (thn (ha pins s σ H _ I h) fun v s1 ⟨x,H1,I1,r1,q1⟩=>thn (hb pins s1 σ H1 _ I1 q1) fun u s2 ⟨y,H2,I2,r2,q2⟩=>
  thn (ho pins s2 σ H2 x y v u _ I2 r1 r2 q2) fun c s3 ⟨z,H3,I3,r3,q3⟩=>?_) hm
 dsimp only at q3
 split at q3
 ·cases r3
  exact wpAny_truthy_bool ⟨H3,I3,q3⟩
 ·rename_i i
  refine zbh1 pins s3 σ H3 _ c Q I3 r3 ⟨_,rfl,?_⟩
  have e:(i != 0)=!decide (i=0):=by by_cases h:i=0<;>simp[h]
  rw[e];exact q3
 ·exact q3.elim
theorem peC{a b:Expr}{ta tb:TE}{pos:Pos}{op:CmpOp}{r:R2}(ho:OpR X (compareOp op) r)(ha:PE X a ta)(hb:PE X b tb)(hm:behindInMarks op b=false:=by first|exact zbv9 _|with_unfolding_all rfl):PE X (.Compare a [op] [b] pos) (tOp r ta tb):=
 zbz7 ho ha hb hm
variable {a b:Expr}{rest:List Expr}{tA tB':TT}{ta tb:TE}{pos:Pos}
def qAnd(t u:TT):TT:=fun σ H Q=>t σ H fun c H1=>br c (u σ H1 Q) (Q false H1)
def qOr(t u:TT):TT:=fun σ H Q=>t σ H fun c H1=>br c (Q true H1) (u σ H1 Q)
theorem pwAnd(ha:PT X a tA)(hb:PW X (.BoolOp .And (b :: rest) pos) tB'):PW X (.BoolOp .And (a :: b :: rest) pos) (qAnd tA tB'):=fun wh pins s σ H Q I h=>
 pw_and ha hb wh pins s σ H Q I (by unfold qAnd at h;simp only[zad6] at h;exact h)
theorem pwOr(ha:PT X a tA)(hb:PW X (.BoolOp .Or (b :: rest) pos) tB'):PW X (.BoolOp .Or (a :: b :: rest) pos) (qOr tA tB'):=fun wh pins s σ H Q I h=>
 pw_or ha hb wh pins s σ H Q I (by unfold qOr at h;simp only[zad6] at h;exact h)
def qAndV(ta tb:TE):TE:=fun σ H Q=>ta σ H fun x H1=>match x with
 | .bl c=>br c (tb σ H1 Q) (Q (.bl false) H1)
 | _=>False
def qNotV(ta:TE):TE:=fun σ H Q=>ta σ H fun x H1=>match x with
 | .bl c=>Q (.bl (!c)) H1
 | _=>False
theorem zl0(ha:PE X a ta)(hb:PE X (.BoolOp .And (b :: rest) pos) tb):PE X (.BoolOp .And (a :: b :: rest) pos) (qAndV ta tb):=by
 intro pins s σ H Q I h
 refine BoolOp_and (thn (ha pins s σ H _ I h) fun v s1 ⟨x,H1,I1,r1,q1⟩=>?_)
 dsimp only at q1
 split at q1
 ·rename_i c
  cases r1
  refine wpAny_truthy_bool ?_
  rw[zad6] at q1
  cases c with
  | true=>exact hb pins s1 σ H1 Q I1 (by simpa using q1)
  | false=>exact⟨.bl false,H1,I1,rfl,by simpa using q1⟩
 ·exact q1.elim
theorem peNot(ha:PE X a ta):PE X (.UnaryOp .Not a pos) (qNotV ta):=by
 intro pins s σ H Q I h
 refine UnaryOp_ (thn (ha pins s σ H _ I h) fun v s1 ⟨x,H1,I1,r1,q1⟩=>?_)
 dsimp only at q1
 split at q1
 ·rename_i c
  cases r1
  exact not_of (wpAny_truthy_bool ⟨.bl (!c),H1,I1,rfl,q1⟩)
 ·exact q1.elim
def qIf(t:TT)(ta tb:TE):TE:=fun σ H Q=>t σ H fun c H1=>br c (ta σ H1 Q) (tb σ H1 Q)
theorem peIf{c:Expr}(hc:PT X c tA)(ha:PE X a ta)(hb:PE X b tb):PE X (.IfExp c a b pos) (qIf tA ta tb):=fun pins s σ H Q I h=>
 zbs3 hc ha hb pins s σ H Q I (by unfold qIf at h;simp only[zad6] at h;exact h)
def qChain(r r':R2)(ta tb tc:TE):TE:=fun σ H Q=>ta σ H fun x H1=>tb σ H1 fun y H2=>r x y H2 fun z H3=>match z with
 | .bl k=>br k (tc σ H3 fun w' H4=>r' y w' H4 Q) (Q (.bl false) H3)
 | _=>False
theorem zcb1{c:Expr}{tc:TE}{op op':CmpOp}{r r':R2}(ho:OpR X (compareOp op) r)(ho':OpR X (compareOp op') r')(ha:PE X a ta)(hb:PE X b tb)(hc:PE X c tc)(hm:lastMarks [op,op'] [b,c]=false:=by with_unfolding_all rfl):PE X (.Compare a [op,op'] [b,c] pos) (qChain r r' ta tb tc):=by
 intro pins s σ H Q I h
 refine Compare_chain (thn (ha pins s σ H _ I h) fun v s1 ⟨x,H1,I1,r1,q1⟩=>chain_link (thn (hb pins s1 σ H1 _ I1 q1) fun u s2 ⟨y,H2,I2,r2,q2⟩=>
  thn (ho pins s2 σ H2 x y v u _ I2 r1 r2 q2) fun d s3 ⟨z,H3,I3,r3,q3⟩=>?_)) hm
 dsimp only at q3
 split at q3
 ·rename_i k
  cases r3
  refine wpAny_truthy_bool ?_
  rw[zad6] at q3
  cases k with
  | false=>exact ite_ff ⟨.bl false,H3,I3,rfl,by simpa using q3⟩
  | true=>exact ite_tt (chain_last (thn (hc pins s3 σ H3 _ I3 (by simpa using q3)) fun w' s4 ⟨z',H4,I4,r4,q4⟩=>ho' pins s4 σ H4 y z' u w' Q I4 r2 r4 q4))
 ·exact q3.elim
variable {st:Stmt}{t u:TS}{e:Expr}{te:TE}
def qIfS(c:TT)(t u:TS):TS:=fun D σ H=>c σ H fun b H1=>br b (t D σ H1) (u D σ H1)
theorem psIf{c:Expr}{a b:List Stmt}{tc:TT}(hc:PT X c tc)(ha:PSs X a t)(hb:PSs X b u):PS X (.If c a b pos) (qIfS tc t u):=fun pins s σ H D I h=>
 ps_if hc ha hb pins s σ H D I (by unfold qIfS at h;simp only[zad6] at h;exact h)
@[irreducible] def zap5(J:It)(g:TG)(tb:TS)(D:Ends)(σ:St)(H1:Hp):Prop:=∃ W:Nat->Nat->St->Hp->Prop,(∃ m,W 0 m σ H1)/\∀ i m σ H,W i m σ H ->
 (J.stop i H/\D.nx σ H)∨(J.go i H/\∃ N:St->Hp->Prop,(∀ σ' H',N σ' H'->∃ m',m'<m/\W (i+1) m' σ' H')/\∀ x H',J.yld i H x H'->g x σ H' fun σ2 H2=>tb { D with nx:=N,ct:=N,bk:=D.nx } σ2 H2)
def qFor(wi:TI)(g:TG)(tb:TS):TS:=fun D σ H=>wi σ H fun J H1=>zap5 J g tb D σ H1
theorem zac2{iter:Expr}{body:List Stmt}{wi:TI}{g:TG}{tb:TS}{pos:Pos}(hp:PassesOwn (model X.prog X.w) X.A X.env X.xe)(hc:X.calm=true)(hi:PI X tg iter wi)(hg:PG X tg g)(hb:PSs X body tb)(hs:∀ x,foldedSetIterable iter X.env x=pure x:=by intro _;rfl):PS X (.For tg iter body [] pos) (qFor wi g tb):=fun pins s σ H D I h=>
 ps_for hp hc hi hg hb hs pins s σ H D I (by unfold qFor at h;unfold zap5 at h;exact h)
@[irreducible] def rIter(K:zcm2)(a:Addr)(H:Hp)(R:It->Hp->Prop):Prop:=((∃ xs,SqL K H a xs)/\R (Itl K a) H)∨((∃ xs,SqT K H a xs)/\R (Itt K a) H)
def qiSeq(K:zcm2)(tl:TE):TI:=fun σ H R=>tl σ H fun x H1=>match x with
 | .ref a=>rIter K a H1 R
 | _=>False
theorem piSeq{l:Expr}{tl:TE}(hl:PE X l tl):PI X tg l (qiSeq X.K tl):=by
 intro pins s σ H R I h
 refine thn (hl pins s σ H _ I h) fun v s1 ⟨x,H1,I1,r1,q1⟩=>?_
 dsimp only at q1
 split at q1
 ·rename_i a
  unfold rIter at q1
  cases r1
  have fp:∀ b∈[s1.heap.objs.size],FpOk X pins H1 b:=fun b hb=>by
   have e:b=s1.heap.objs.size:=by simpa using hb
   subst e
   exact I1.fpOk (zcn4 _) (I1.hok.fresh (zcn4 _))
  rcases q1 with ⟨⟨xs,hq⟩,q⟩|⟨⟨xs,hq⟩,q⟩
  ·obtain⟨its,rv,p,hz⟩:=I1.list hq
   refine wpAny_pyIter_list p.isList ?_
   exact⟨s1.heap.objs.size,[s1.heap.objs.size],_,_,H1,rfl,I1.kept (t':=s1.toks) fun b o e=>zcm3 _ e,zbm6 a _,⟨_,zcn8 _ rfl,rfl,rfl⟩,fp,q⟩
  ·obtain⟨its,rv,p,hz⟩:=I1.tuple hq
   refine wpAny_pyIter_tuple (show s1.heap.IsTuple a its.toArray from p) ?_
   exact⟨s1.heap.objs.size,[s1.heap.objs.size],_,_,H1,rfl,I1.kept (t':=s1.toks) fun b o e=>zcm3 _ e,zbd1 a _,⟨_,zcn8 _ rfl,rfl,rfl⟩,fp,q⟩
 ·exact q1.elim
@[irreducible] def zai4(i j:Int)(H:Hp)(R:It->Hp->Prop):Prop:=(-(2 ^ 62)<=i/\i<2 ^ 62/\-(2 ^ 62)<=j/\j<2 ^ 62)/\R (Itr i (j - i).toNat) H
def qiRng(ta:TA):TI:=fun σ H R=>ta σ H fun vs H1=>match vs with
 | [.int j]=>zai4 0 j H1 R
 | [.int i,.int j]=>zai4 i j H1 R
 | _=>False
theorem zq0{a:Expr}{ta:TA}{p pos:Pos}(hm:X.mg "range"=none)(ha:PA X [a] ta)(hg:Gl X "range":=by rfl)(hs:starEach [a] X.env=[(false,eval a X.env)]:=by rfl):PI X tg (.Call (.Name "range" p) [a] [] pos) (qiRng ta):=by
 intro pins s σ H R I h
 refine Call_ (zaa2 I hg hm boot_range (PyProof.Rows.callWith_type1 (thn (ha pos pins s σ H _ I h) fun us s1 ⟨vs,H1,I1,r1,q1⟩=>?_) hs rfl))
 dsimp only at q1
 split at q1
 ·unfold zai4 at q1
  obtain⟨⟨a1,a2,a3,a4⟩,q⟩:=q1
  cases r1 with
  | cons r rr=>
   cases rr
   obtain⟨t,rfl⟩:=r
   exact call_range_1 (zay1 I1 a1 a2 a3 a4 q)
 ·unfold zai4 at q1
  cases r1 with
  | cons r rr=>
   cases rr with
   | cons r' rr=>
    cases rr
    obtain⟨t,rfl⟩:=r
    obtain⟨t',rfl⟩:=r'
    obtain⟨⟨a1,a2,a3,a4⟩,q⟩:=q1
    exact call_range_2 (zay1 I1 a1 a2 a3 a4 q)
 ·exact q1.elim
section
variable {K:zcm2}{g:TG}{tb:TS}{D:Ends}{σ:St}{H:Hp}{R:It->Hp->Prop}
theorem zb9{a:Addr}(h:H a=some (.lst xs))(q:R (Itl K a) H):rIter K a H R:=by unfold rIter;exact .inl ⟨⟨xs,SqL.of h⟩,q⟩
theorem zh1{i j:Int}(h1:-(2 ^ 62)<=i)(h2:i<2 ^ 62)(h3:-(2 ^ 62)<=j)(h4:j<2 ^ 62)(q:R (Itr i (j - i).toNat) H):zai4 i j H R:=by unfold zai4;exact⟨⟨h1,h2,h3,h4⟩,q⟩
theorem zo2{a:Addr}(Pv:Nat->St->Hp->Prop)(h0:Pv 0 σ H)(hl:∀ i σ H,i<=xs.length->Pv i σ H->SqL K H a xs)(hs:∀ i x σ H,xs[i]?=some x->Pv i σ H->g x σ H fun σ2 H2=>tb { D with nx:=Pv (i+1),ct:=Pv (i+1),bk:=D.nx } σ2 H2)(hd:∀ σ H,Pv xs.length σ H->D.nx σ H):zap5 (Itl K a) g tb D σ H:=by
 unfold zap5;exact zbr1 Pv h0 hl hs hd
theorem zo7{lo:Int}{n:Nat}(Pv:Nat->St->Hp->Prop)(h0:Pv 0 σ H)(hs:∀ i σ H,i<n->Pv i σ H->g (.int (lo+i)) σ H fun σ2 H2=>tb { D with nx:=Pv (i+1),ct:=Pv (i+1),bk:=D.nx } σ2 H2)(hd:∀ σ H,Pv n σ H->D.nx σ H):zap5 (Itr lo n) g tb D σ H:=by
 unfold zap5;exact zbg9 Pv h0 hs hd
end
@[irreducible] def wIf(W:Nat->St->Hp->Prop)(m:Nat)(tb:TS)(D:Ends)(σ:St)(b:Bool)(H1:Hp):Prop:=
 if b=true then ∃ N:St->Hp->Prop,(∀ σ' H',N σ' H'->∃ m',m'<m/\W m' σ' H')/\tb { D with nx:=N,ct:=N,bk:=D.nx } σ H1 else D.nx σ H1
@[irreducible] def zba0(c:TT)(tb:TS):TS:=fun D σ H=>∃ W:Nat->St->Hp->Prop,(∃ m,W m σ H)/\∀ m σ H,W m σ H->c σ H fun b H1=>wIf W m tb D σ b H1
theorem zbz4{c:Expr}{body:List Stmt}{tc:TT}{tb:TS}(hp:PassesOwn (model X.prog X.w) X.A X.env X.xe)(hc:PT X c tc)(hb:PSs X body tb):PS X (.While c body [] pos) (zba0 tc tb):=fun pins s σ H D I h=>
 zbu9 hp hc hb pins s σ H D I (by unfold zba0 at h;unfold wIf at h;exact h)
section
variable {c:TT}{tb:TS}{D:Ends}{σ:St}{H H1:Hp}{W:Nat->St->Hp->Prop}{m:Nat}{p:Prop}
theorem zbr0(Pv:St->Hp->Prop)(μ:St->Hp->Nat)(h0:Pv σ H)(hs:∀ σ H,Pv σ H->c σ H fun b H1=>wIf (fun m σ H=>m=μ σ H/\Pv σ H) (μ σ H) tb D σ b H1):zba0 c tb D σ H:=by
 unfold zba0
 refine⟨fun m σ H=>m=μ σ H/\Pv σ H,⟨_,rfl,h0⟩,?_⟩
 rintro m σ H ⟨rfl,p⟩
 exact hs σ H p
theorem zby6{Pv:St->Hp->Prop}{μ:St->Hp->Nat}[Decidable p](h1:p->tb { D with nx:=fun σ' H'=>Pv σ' H'/\μ σ' H'<m,ct:=fun σ' H'=>Pv σ' H'/\μ σ' H'<m,bk:=D.nx } σ H1)(h2:¬ p->D.nx σ H1) :
  wIf (fun m σ H=>m=μ σ H/\Pv σ H) m tb D σ (decide p) H1:=by
 unfold wIf
 refine ite2 (fun h=>⟨_,fun σ' H' ⟨a,b⟩=>⟨_,b,rfl,a⟩,h1 (of_decide_eq_true h)⟩) fun h=>h2 fun hp=>h (decide_eq_true hp)
end
@[irreducible] def rNewT(xs:List V)(H:Hp)(Q:VK):Prop:=xs.length<=sizeLine/\∀ p H',H p=none->Same H H'->H' p=some (.tup xs)->Q (.ref p) H'
@[irreducible] def rNewL(xs:List V)(H:Hp)(Q:VK):Prop:=xs.length<=sizeLine/\∀ p H',H p=none->Same H H'->H' p=some (.lst xs)->Q (.ref p) H'
def qTup(t:TA):TE:=fun σ H Q=>t σ H fun xs H1=>rNewT xs H1 Q
def qLst(t:TA):TE:=fun σ H Q=>t σ H fun xs H1=>rNewL xs H1 Q
theorem zq2{x1}{t:TA}(h:PA X es t):PE X (.Tuple es x1 pos) (qTup t):=by
 intro pins s σ H Q I hq
 refine wpAny_Tuple_spliced (thn (h pos pins s σ H _ I hq) fun us s1 ⟨xs,H1,I1,r,z⟩=>?_)
 unfold rNewT at z
 obtain⟨z,q⟩:=z
 refine⟨by rw[← r.length];exact z,?_⟩
 have hf:H1 s1.heap.objs.size=none:=I1.hok.fresh (zcn4 _)
 refine⟨.ref s1.heap.objs.size,upd H1 s1.heap.objs.size (.tup xs),I1.laid (t':=s1.toks) (fun b u e=>zcm3 _ e) (zcn4 _) ?_,rfl,q _ _ hf (Same.upd hf) zb5⟩
 exact⟨z,us,r,⟨_,zcn8 _ rfl,rfl,_,rfl⟩⟩
theorem zq5{t:TA}(h:PA X es t):PE X (.List es pos) (qLst t):=by
 intro pins s σ H Q I hq
 refine wpAny_List_spliced (thn (h pos pins s σ H _ I hq) fun us s1 ⟨xs,H1,I1,r,z⟩=>?_)
 unfold rNewL at z
 obtain⟨z,q⟩:=z
 refine⟨by rw[← r.length];exact z,?_⟩
 have hf:H1 s1.heap.objs.size=none:=I1.hok.fresh (zcn4 _)
 refine⟨.ref s1.heap.objs.size,upd H1 s1.heap.objs.size (.lst xs),I1.laid (t':=s1.toks) (fun b u e=>zcm3 _ e) (zcn4 _) ?_,rfl,q _ _ hf (Same.upd hf) zb5⟩
 exact⟨z,us,0,r,zcn8 _ rfl⟩
@[irreducible] def rIxA(K:zcm2)(p:Addr)(i:Int)(H:Hp)(Q:VK):Prop:=∃ xs v,(SqL K H p xs∨SqT K H p xs)/\atI xs i=some v/\Q v H
def rIxM(K:zcm2):R2:=fun x y H Q=>match x,y with
 | .ref p,.int i=>rIxA K p i H Q
 | .str z,.int i=>∃ c,z.length<=sizeLine/\atI z.cps.toList i=some c/\Q (.str ⟨#[c]⟩) H
 | _,_=>False
theorem ixM:IxR X (rIxM X.K):=by
 intro value slice pins s σ H x y v u Q I rx ry h hs
 unfold rIxM at h
 split at h
 ·unfold rIxA at h
  obtain⟨xs,z,h1,h2,q⟩:=h
  rcases h1 with h1|h1
  ·exact zce7 value slice pins s σ H _ _ v u Q I rx ry ⟨_,xs,_,z,rfl,rfl,h1,h2,q⟩ hs
  ·exact ix_tup value slice pins s σ H _ _ v u Q I rx ry ⟨_,xs,_,z,rfl,rfl,h1,h2,q⟩ hs
 ·obtain⟨c,h1,h2,q⟩:=h
  exact ix_str value slice pins s σ H _ _ v u Q I rx ry ⟨_,_,c,rfl,rfl,h1,h2,q⟩ hs
 ·exact h.elim
theorem peIx(ha:PE X a ta)(hb:PE X b tb)(hs:zaw9 b:=by exact fun _ _=>rfl):PE X (.Subscript a b pos) (tOp (rIxM X.K) ta tb):=pe_ix ixM ha hb hs
@[irreducible] def rSetA(p:Addr)(k:Int)(v:V)(H:Hp)(Q:Hp->Prop):Prop:=∃ xs j,H p=some (.lst xs)/\ixN xs.length k=some j/\∀ H',Chg p H H'->H' p=some (.lst (xs.set j v))->Q H'
def rSetM:TSet:=fun o i v H Q=>match o,i with
 | .ref p,.int k=>rSetA p k v H Q
 | _,_=>False
theorem setM:PSet X rSetM:=by
 intro pins s σ H o i v ov iv u Q I ro ri rv h
 unfold rSetM at h
 split at h
 ·unfold rSetA at h
  obtain⟨xs,j,h1,h2,q⟩:=h
  exact zbu1 pins s σ H _ _ v ov iv u Q I ro ri rv ⟨_,xs,_,j,rfl,rfl,h1,h2,q _ Chg.upd zb5⟩
 ·exact h.elim
def qPart(t:TE):TO:=fun σ H Q=>t σ H fun x H1=>match x with
 | .int i=>Q (some i) H1
 | _=>False
theorem zz6(h:PE X e te):PO X (some e) (qPart te):=by
 intro pins s σ H Q I hw
 rw[evalPart_some]
 refine thn (h pins s σ H _ I hw) fun u s1 ⟨x,H1,I1,r1,q1⟩=>?_
 dsimp only at q1
 split at q1
 ·rename_i i
  obtain⟨t,rfl⟩:=r1
  exact⟨some i,H1,I1,.int i t,q1⟩
 ·exact q1.elim
section
variable {K:zcm2}{H:Hp}{Q:VK}{p:Addr}{xs:List V}{v:V}{i:Int}
theorem zf2(q:∀ p H',H p=none->Same H H'->H' p=some (.tup xs)->Q (.ref p) H')(h:xs.length<=sizeLine:=by first|assumption|(simp only[zco4,zcr4,Nat.zero_add,Nat.reduceAdd];decide)):rNewT xs H Q:=by unfold rNewT;exact⟨h,q⟩
theorem zg8(q:∀ p H',H p=none->Same H H'->H' p=some (.lst xs)->Q (.ref p) H')(h:xs.length<=sizeLine:=by first|assumption|(simp only[zco4,zcr4,Nat.zero_add,Nat.reduceAdd];decide)):rNewL xs H Q:=by unfold rNewL;exact⟨h,q⟩
theorem zb6(h:H p=some (.tup xs))(e:atI xs i=some v)(q:Q v H):rIxA K p i H Q:=by unfold rIxA;exact⟨xs,v,.inr (SqT.of h),e,q⟩
theorem zc2(h:H p=some (.lst xs))(e:atI xs i=some v)(q:Q v H):rIxA K p i H Q:=by unfold rIxA;exact⟨xs,v,.inl (SqL.of h),e,q⟩
theorem zbx3{R:Hp->Prop}{j:Nat}(h:H p=some (.lst xs))(e:ixN xs.length i=some j)(q:∀ H',Chg p H H'->H' p=some (.lst (xs.set j v))->R H'):rSetA p i v H R:=by unfold rSetA;exact⟨xs,j,h,e,q⟩
end
def qgNil:TGs:=fun vs σ H Q=>match vs with
 | []=>Q σ H
 | _=>False
def zbw9(t:TG)(u:TGs):TGs:=fun vs σ H Q=>match vs with
 | v :: r=>t v σ H fun σ' H'=>u r σ' H' Q
 | _=>False
theorem zi2:PGs X [] qgNil:=fun pins s σ H vs us Q I r h=>by
 unfold qgNil at h
 split at h
 ·exact zcf1 pins s σ H _ us Q I r ⟨rfl,h⟩
 ·exact h.elim
theorem zb0{t:TG}{u:TGs}(h1:PG X e t)(h2:PGs X es u)(hs:(assignEach (e :: es) X.env).map (·.2)=assign e X.env :: (assignEach es X.env).map (·.2):=by rfl):PGs X (e :: es) (zbw9 t u):=fun pins s σ H vs us Q I r h=>by
 unfold zbw9 at h
 split at h
 ·exact zbs2 h1 h2 hs pins s σ H _ us Q I r ⟨_,_,rfl,h⟩
 ·exact h.elim
end
section
variable {X:Cx}
def rAbsM:List V->Hp->VK->Prop:=fun xs H Q=>match xs with
 | [.int i]=>Q (.int (i.natAbs:Int)) H
 | _=>False
@[irreducible] def zbe0(K:zcm2)(p:Addr)(H:Hp)(Q:VK):Prop:=∃ ys,(SqL K H p ys∨SqT K H p ys)/\Q (.int ys.length) H
def rLenM(K:zcm2):List V->Hp->VK->Prop:=fun xs H Q=>match xs with
 | [.ref p]=>zbe0 K p H Q
 | [.str z]=>z.length<=sizeLine/\Q (.int z.length) H
 | _=>False
theorem cLen:zo8 X (.builtin "len") (rLenM X.K):=fun pins s σ H xs us Q I r h=>by
 unfold rLenM at h
 split at h
 ·unfold zbe0 at h
  obtain⟨ys,h1,h2⟩:=h
  exact zas5 pins s σ H _ us Q I r ⟨_,ys,rfl,h1,h2⟩
 ·exact zan7 pins s σ H _ us Q I r ⟨_,rfl,h.1,h.2⟩
 ·exact h.elim
@[irreducible] def zu1(K:zcm2)(x c:V)(H:Hp)(Q:VK):Prop:=∃ t b,TyOf K H x t/\(∀ cv,RelV c cv->zco3 K t cv=some b)/\Q (.bl b) H
def rIsiM(K:zcm2):List V->Hp->VK->Prop:=fun xs H Q=>match xs with
 | [x,c]=>zu1 K x c H Q
 | _=>False
theorem cIsi:zo8 X (.builtin "isinstance") (rIsiM X.K):=fun pins s σ H xs us Q I r h=>by
 unfold rIsiM at h
 split at h
 ·unfold zu1 at h
  obtain⟨t,b,h1,h2,h3⟩:=h
  obtain⟨u,w,rfl,r1,r2⟩:=vals2 r
  exact zbk5 I r1 h1 (h2 _ r2) fun tk=>⟨.bl b,H,I.tok _,rfl,h3⟩
 ·exact h.elim
section
variable {K:zcm2}{H:Hp}{Q:VK}{p:Addr}{xs:List V}
theorem ze8(h:H p=some (.lst xs))(q:Q (.int xs.length) H):zbe0 K p H Q:=by unfold zbe0;exact⟨xs,.inl (SqL.of h),q⟩
theorem zl4(h:H p=some (.tup xs))(q:Q (.int xs.length) H):zbe0 K p H Q:=by unfold zbe0;exact⟨xs,.inr (SqT.of h),q⟩
theorem zat8{i:Int}{n:String}{b:Bool}(q:Q (.bl b) H)(e:zco3 K (.type "int") (.type n)=some b:=by rfl):zu1 K (.int i) (.ty n) H Q:=by
 unfold zu1;exact⟨_,b,.int i,fun cv r=>by cases r;exact e,q⟩
theorem zaw7{i:Bool}{n:String}{b:Bool}(q:Q (.bl b) H)(e:zco3 K (.type "bool") (.type n)=some b:=by rfl):zu1 K (.bl i) (.ty n) H Q:=by
 unfold zu1;exact⟨_,b,.bl i,fun cv r=>by cases r;exact e,q⟩
theorem zcb3{n:String}{b:Bool}(q:Q (.bl b) H)(e:zco3 K (.type "NoneType") (.type n)=some b:=by rfl):zu1 K .non (.ty n) H Q:=by
 unfold zu1;exact⟨_,b,.non,fun cv r=>by cases r;exact e,q⟩
theorem zbz9{x:Str}{n:String}{b:Bool}(q:Q (.bl b) H)(e:zco3 K (.type "str") (.type n)=some b:=by rfl):zu1 K (.str x) (.ty n) H Q:=by
 unfold zu1;exact⟨_,b,.str x,fun cv r=>by cases r;exact e,q⟩
theorem zal3{n:String}{b:Bool}(h:H p=some (.tup xs))(q:Q (.bl b) H)(e:zco3 K (.type "tuple") (.type n)=some b:=by rfl):zu1 K (.ref p) (.ty n) H Q:=by
 unfold zu1;exact⟨_,b,.tup h,fun cv r=>by cases r;exact e,q⟩
theorem zan1{n:String}{b:Bool}(h:H p=some (.lst xs))(q:Q (.bl b) H)(e:zco3 K (.type "list") (.type n)=some b:=by rfl):zu1 K (.ref p) (.ty n) H Q:=by
 unfold zu1;exact⟨_,b,.lst h,fun cv r=>by cases r;exact e,q⟩
end
theorem bt_min:bootBuiltins "min"=some (.builtin "min"):=by decide +kernel
theorem zg1:bootBuiltins "len"=some (.builtin "len"):=by decide +kernel
theorem zz8:bootBuiltins "sum"=some (.builtin "sum"):=by decide +kernel
theorem zq8:bootBuiltins "all"=some (.builtin "all"):=by decide +kernel
theorem zc5:bootBuiltins "isinstance"=some (.builtin "isinstance"):=by decide +kernel
theorem zan8:bootBuiltins "sorted"=some (.builtin "sorted"):=by decide +kernel
theorem bt_int:bootBuiltins "int"=some (.type "int"):=by decide +kernel
theorem zca7:bootBuiltins "bool"=some (.type "bool"):=by decide +kernel
theorem zt7:bootBuiltins "list"=some (.type "list"):=by decide +kernel
theorem zaj7:bootBuiltins "tuple"=some (.type "tuple"):=by decide +kernel
theorem pTy{x:Str}{n:String}{pos:Pos}(hm:X.mg x=none)(hv:bootBuiltins x=some (.type n))(hg:Gl X x:=by rfl)(hn:x≠"__name__":=by decide)(hd:(x==("__debug__":Str))=false:=by decide):PE X (.Name x pos) (tC (.ty n)):=
 zcb8 hg hm hv rfl hn hd
theorem pB{x:Str}{p pos:Pos}{t:TA}{id:String}{r:List V->Hp->VK->Prop}(hc:zo8 X (.builtin id) r)(hm:X.mg x=none)(hv:bootBuiltins x=some (.builtin id))(ha:PA X (e :: es) t)(hg:Gl X x:=by rfl)(hn:x≠"__name__":=by decide)(hdb:(x==("__debug__":Str))=false:=by decide)(he:starEach (e :: es) X.env=(false,eval e X.env) :: starEach es X.env:=by rfl)(hpl:(backTo pos (starEach es X.env)).any (·.1)=false:=by rfl):PE X (.Call (.Name x p) (e :: es) [] pos) (tCB r t):=zbt8 hc hg hm hv ha hn hdb he hpl
theorem pT{x:Str}{p pos:Pos}{t:TA}{id:String}{r:List V->Hp->VK->Prop}(hc:zo8 X (.type id) r)(hm:X.mg x=none)(hv:bootBuiltins x=some (.type id))(ha:PA X (e :: es) t)(hg:Gl X x:=by rfl)(hn:x≠"__name__":=by decide)(hdb:(x==("__debug__":Str))=false:=by decide)(he:starEach (e :: es) X.env=(false,eval e X.env) :: starEach es X.env:=by rfl)(hpl:(backTo pos (starEach es X.env)).any (·.1)=false:=by rfl):PE X (.Call (.Name x p) (e :: es) [] pos) (tCB r t):=zbj9 hc hg hm hv ha hn hdb he hpl
structure Def(P:Program)(w:World)(K:zcm2)(mg:Str->Option Value)(base:Heap)(CX:CXT)(k:Nat)(x:Str)(ps:List Str)(sp:Sp):Prop where
 ex:∃ (f:Addr) (fd:FuncData),FnOk P w K mg base CX k f fd ps sp/\mg x=some (.ref f)/\zct4 K (.ref f)=true/\zag6 K fd ps []
def qCall(sp:Sp)(E:XK)(t:TA):TE:=fun σ H Q=>t σ H fun vs H1=>sp vs H1 Q E
theorem pD{CX:CXT}{k j:Nat}{x:Str}{ps:List Str}{sp:Sp}{E:XK}{p pos:Pos}{t:TA}(F:Def X.prog X.w X.K X.mg X.base CX k x ps sp)(hr:Room j X.A)(hx:zai9 CX X E)(ha:PA X (e :: es) t)(hk:k<=j:=by decide)(hg:Gl X x:=by rfl)(hdb:(x==("__debug__":Str))=false:=by decide)(he:starEach (e :: es) X.env=(false,eval e X.env) :: starEach es X.env:=by rfl)(hpl:(backTo pos (starEach es X.env)).any (·.1)=false:=by rfl) :
  PE X (.Call (.Name x p) (e :: es) [] pos) (qCall sp E t):=by
 obtain⟨f,fd,F1,F2,F3,F4⟩:=F.ex
 intro pins s σ H Q I h
 refine zbz6 F1 (hr.mono hk) hg F2 F3 F4 .nil hx ha hdb he hpl pins s σ H Q I ?_
 unfold tCall
 simp only[List.append_nil]
 exact h
theorem psS{x:Str}{te:TE}{pos' pos:Pos}(hN:X.N.Nodup)(he:PE X e te)(hi:X.N[i]?=some x:=by rfl)(hx:Loc X.env.scope x:=by first|exact Or.inl rfl|exact Or.inr rfl)(hs:swapsWith e (some (.Name x pos')) pos.line X.env=pure false:=by rfl)(hf:X.fn x=true∨X.env.scope.names.lookup x=some .local:=by first|exact .inl rfl|exact .inr rfl|assumption) :
  PS X (.Assign [.Name x pos'] e pos) (tAsg te (gName i)):=ps_set hN hi hx he hs hf
section
variable {K:zcm2}{H:Hp}{Q:VK}{p:Addr}{xs:List V}{i j:Int}
theorem zac7(h1:-18446744073709551616<i)(h2:i<18446744073709551616)(q:Q (.int (i*j)) H):zbc7 i j H Q:=zah8 (.of_left (intBits_le_64 (by simpa using h1) (by simpa using h2))) q
theorem zce1(h1:-18446744073709551616<j)(h2:j<18446744073709551616)(q:Q (.int (i*j)) H):zbc7 i j H Q:=zah8 (.of_right (intBits_le_64 (by simpa using h1) (by simpa using h2))) q
theorem zab4(h:0<j)(q:∀ r:Int,0<=r->r<j->Q (.int r) H):zbn0 i j H Q:=mod_rd h (q _ (Int.emod_nonneg _ (by omega)) (Int.emod_lt_of_pos _ h))
theorem zw9(h:H p=some (.lst xs))(h0:0<=i)(h1:i<xs.length)(q:∀ v,v∈xs->Q v H):rIxA K p i H Q:=by
 have hl:i.toNat<xs.length:=by omega
 refine zc2 h (v:=xs[i.toNat]) ?_ (q _ (zcs4 hl))
 have e:((i.toNat:Nat):Int)=i:=by omega
 have z:=zg2 (zcm0 hl)
 rw[e] at z
 exact z
theorem hu40{A:Around}{k:Nat}(hr:Room k A):A.units+40<cLine:=by have:=hr.units;omega
end
end
set_option maxHeartbeats 2000000
theorem zx4{env:Env}:∀ (names:List (Str×NameKind)) (acc:List (Str×Addr)),(∀ x∈names,x.2=.free->∃ c,env.cells.lookup x.1=some c) ->
  ∃ acc',(forIn (m:=Sem) names acc (fun (x:Str×NameKind) (r:List (Str×Addr))=>if (x.2==.free)=true then (do let c ← cellOf env x.1;pure (ForInStep.yield ((x.1,c) :: r))) else pure (ForInStep.yield r)))=pure acc' /\
   (∀ x c,acc'.lookup x=some c->acc.lookup x=some c∨env.cells.lookup x=some c)/\(∀ x c,acc.lookup x=some c->∃ c',acc'.lookup x=some c')/\∀ x∈names,x.2=.free->∃ c,acc'.lookup x.1=some c
 | [],acc,_=>⟨acc,rfl,fun _ _ h=>.inl h,fun _ c h=>⟨c,h⟩,fun _ h=>by cases h⟩
 | (n,k) :: r,acc,h=>by
  by_cases hk:k=.free
  ·subst hk
   obtain⟨c,hc⟩:=h (n,.free) zcr0 rfl
   obtain⟨acc',e,h1,h2,h3⟩:=zx4 r ((n,c) :: acc) fun x hx=>h x (zcq4 _ hx)
   have hco:cellOf env n=pure c:=by unfold cellOf;rw[hc]
   refine⟨acc',?_,fun x d hd=>?_,fun x d hd=>?_,fun x hx hf=>?_⟩
   ·rw[List.forIn_cons]
    simp only[hco]
    exact e
   ·rcases h1 x d hd with q|q
    ·rw[zcq5] at q
     split at q
     ·rename_i hx
      have hx:x=n:=by simpa using hx
      subst hx
      cases q
      exact .inr hc
     ·exact .inl q
    ·exact .inr q
   ·by_cases hx:x=n
    ·subst hx
     exact h2 x c (by simp[zcq5])
    ·refine h2 x d ?_
     rw[zcq5]
     have:(x==n)=false:=by simpa using hx
     rw[this];exact hd
   ·rcases zcm9.mp hx with rfl|hx
    ·exact h2 n c (by simp[zcq5])
    ·exact h3 x hx hf
  ·obtain⟨acc',e,h1,h2,h3⟩:=zx4 r acc fun x hx=>h x (zcq4 _ hx)
   refine⟨acc',?_,h1,h2,fun x hx hf=>?_⟩
   ·rw[List.forIn_cons]
    have:(k==NameKind.free)=false:=by simpa using hk
    simp only[this]
    exact e
   ·rcases zcm9.mp hx with rfl|hx
    ·exact absurd hf hk
    ·exact h3 x hx hf
theorem zbd0{env:Env}(h:∀ x∈scope.names,x.2=.free->∃ c,env.cells.lookup x.1=some c) :
  ∃ cl,closureFor scope env=pure cl/\(∀ x c,cl.lookup x=some c->env.cells.lookup x=some c)/\∀ x∈scope.names,x.2=.free->∃ c,cl.lookup x.1=some c:=by
 obtain⟨cl,e,h1,_,h3⟩:=zx4 (env:=env) scope.names [] h
 refine⟨cl,?_,fun x c hc=>(h1 x c hc).elim (fun q=>by cases q) id,h3⟩
 unfold closureFor
 show (forIn (m:=Sem) scope.names ([]:List (Str×Addr)) _ >>= fun r=>pure r)=_
 rw[e]
 rfl
theorem zaa0{env:Env}:∀ {names:List (Str×NameKind)}{x:Str},names.lookup x=some .free ->
  (names.map fun (n,k)=>if (k==NameKind.free&&env.scope.kind==.function&&env.kindOf n==some .cell) then (n,NameKind.cell) else (n,k)).lookup x=some .cell ∨
  (names.map fun (n,k)=>if (k==NameKind.free&&env.scope.kind==.function&&env.kindOf n==some .cell) then (n,NameKind.cell) else (n,k)).lookup x=some .free
 | [],_,h=>by simp at h
 | (n,k) :: r,x,h=>by
  have ih:=@zaa0 env r x
  show List.lookup x ((if (k==NameKind.free&&env.scope.kind==.function&&env.kindOf n==some .cell)=true then (n,NameKind.cell) else (n,k)) :: _)=_∨List.lookup x ((if (k==NameKind.free&&env.scope.kind==.function&&env.kindOf n==some .cell)=true then (n,NameKind.cell) else (n,k)) :: _)=_
  cases hx:x==n with
  | true=>
   simp only[zcq5,hx] at h
   cases h
   by_cases hc:(NameKind.free==NameKind.free&&env.scope.kind==.function&&env.kindOf n==some .cell)=true
   ·left;rw[if_pos hc];simp only[zcq5,hx]
   ·right;rw[if_neg hc];simp only[zcq5,hx]
  | false=>
   simp only[zcq5,hx] at h
   by_cases hc:(k==NameKind.free&&env.scope.kind==.function&&env.kindOf n==some .cell)=true
   ·rw[if_pos hc];simp only[zcq5,hx];exact ih h
   ·rw[if_neg hc];simp only[zcq5,hx];exact ih h
theorem zr4{env:Env}:∀ {names:List (Str×NameKind)}{x:Str}{k':NameKind},(∀ y∈names,y.2≠.cell)->(k'=.cell∨k'=.free) ->
  (names.map fun (n,k)=>if (k==NameKind.free&&env.scope.kind==.function&&env.kindOf n==some .cell) then (n,NameKind.cell) else (n,k)).lookup x=some k'->∃ y∈names,y.1=x/\y.2=.free
 | [],_,_,_,_,h=>by simp at h
 | (n,k) :: r,x,k',hn,hk,h=>by
  have ih:=@zr4 env r x k' (fun y hy=>hn y (zcq4 _ hy)) hk
  replace h:List.lookup x ((if (k==NameKind.free&&env.scope.kind==.function&&env.kindOf n==some .cell)=true then (n,NameKind.cell) else (n,k)) :: List.map (fun (n,k)=>if (k==NameKind.free&&env.scope.kind==.function&&env.kindOf n==some .cell) then (n,NameKind.cell) else (n,k)) r)=some k':=h
  cases hx:x==n with
  | true=>
   have hx':x=n:=by simpa using hx
   by_cases hf:k=.free
   ·exact⟨(n,k),zcr0,hx'.symm,hf⟩
   ·have hc:¬ (k==NameKind.free&&env.scope.kind==.function&&env.kindOf n==some .cell)=true:=by
     have:(k==NameKind.free)=false:=by simpa using hf
     rw[this];simp
    rw[if_neg hc] at h
    simp only[zcq5,hx] at h
    have:k=k':=Option.some.inj h
    subst this
    rcases hk with hk|hk
    ·exact absurd hk (hn (n,k) zcr0)
    ·exact absurd hk hf
  | false=>
   have h':List.lookup x (List.map (fun (n,k)=>if (k==NameKind.free&&env.scope.kind==.function&&env.kindOf n==some .cell) then (n,NameKind.cell) else (n,k)) r)=some k':=by
    by_cases hc:(k==NameKind.free&&env.scope.kind==.function&&env.kindOf n==some .cell)=true
    ·rw[if_pos hc] at h;simp only[zcq5,hx] at h;exact h
    ·rw[if_neg hc] at h;simp only[zcq5,hx] at h;exact h
   obtain⟨y,hy,h1,h2⟩:=ih h'
   exact⟨y,zcq4 _ hy,h1,h2⟩
def blk(X:Cx)(N:List Str)(scope:Scope)(cl:List (Str×Addr))(C:Addr)(s3:Shared)(H3:Hp)(fp:List Addr):Cx:=
 { X with N:=N,s₀:=s3,H₀:=H3,env:=compEnvC scope cl C X.env,outer:=X.stack,ex:=fp,fn:=fun _=>false,pn:=[],xe:=fun _ _=>False }
def PTs(X:Cx)(ifs:List Expr)(t:TT):Prop:=
 ∀ (pins:List (Addr×Obj)) (s:Shared) (σ:St) (H:Hp) (Q:Bool->Hp->Prop),Inv X pins σ H s->t σ H Q ->
  wpAny (model X.prog X.w) X.A (forIn ifs true fun c r=>if r=true then do let ok ← isTrue c X.env (eval c X.env);pure (ForInStep.yield ok) else pure (ForInStep.yield r)) (TP X pins σ Q) X.xe s
theorem zc6{X:Cx}:PTs X [] (fun _ H Q=>Q true H):=fun _ _ _ H _ I h=>wpAny_tests_nil ⟨H,I,h⟩
@[irreducible] def cPut(W:Nat->Nat->List V->St->Hp->Prop)(acc:Addr)(ys:List V)(i m:Nat)(σ2:St)(v:V)(H5:Hp):Prop:=
 H5 acc=some (.lst ys)/\∀ H6,Chg acc H5 H6->H6 acc=some (.lst (ys++[v]))->∃ m',m'<m/\W (i+1) m' (ys++[v]) σ2 H6
@[irreducible] def zaq0(W:Nat->Nat->List V->St->Hp->Prop)(ys:List V)(i m:Nat)(σ2:St)(H4:Hp):Prop:=∃ m',m'<m/\W (i+1) m' ys σ2 H4
@[irreducible] def zad9(J:It)(g:TG)(tt:TT)(te:TE)(σ0:St)(H1:Hp)(Q:VK):Prop:=
 ∀ acc H2,H1 acc=none->Same H1 H2->H2 acc=some (.lst [])->∃ W:Nat->Nat->List V->St->Hp->Prop,(∃ m,W 0 m [] σ0 H2)/\∀ i m ys σ H,W i m ys σ H->H acc=some (.lst ys)/\ys.length<sizeLine /\
  ((J.stop i H/\Q (.ref acc) H)∨(J.go i H/\∀ x H',J.yld i H x H'->g x σ H' fun σ2 H3=>tt σ2 H3 fun b H4=>
   br b (te σ2 H4 fun v H5=>cPut W acc ys i m σ2 v H5) (zaq0 W ys i m σ2 H4)))
section
variable {X:Cx}{pins:List (Addr×Obj)}{σ:St}{H:Hp}{s2:Shared}
theorem zcc8{N:List Str}{cl:List (Str×Addr)}{s3 s4:Shared}{H3:Hp}{fp:List Addr}{σc:St}(I:Inv X pins σ H3 s3)(hcl1:∀ x c,cl.lookup x=some c->X.env.cells.lookup x=some c)(hcl2:∀ x∈scope.names,x.2=.free->∃ c,cl.lookup x.1=some c)(hkind:scope.kind=.function)(hcell:∀ y∈scope.names,y.2≠.cell)(hcap:∀ (i:Nat) (x:Str) (v:V),N[i]?=some x->σc[i]?=some (some v)->∃ j:Nat,X.N[j]?=some x/\σ[j]?=some (some v)/\scope.names.lookup x=some .free/\(X.env.kindOf x=some .cell∨X.env.kindOf x=some .free))(hlen:σc.length=N.length)(hC:s3.heap.objs.size=C)(hfp:∀ b∈fp,FpOk X pins H3 b)(hfpl:∀ b∈fp,b<C)(hex:∀ b o,X.base.get? b=some o->b ∉ fp)(hns:∃ m,s4.heap.Ns C m)(hk:∀ b o,s3.heap.get? b=some o->s4.heap.get? b=some o)(h4:s4.os=s3.os)(h5:s4.gens=s3.gens) :
  Inv (blk X N scope cl C s3 H3 fp) [] σc H3 s4:=by
 subst hC
 have look:∀ x,(blk X N scope cl s3.heap.objs.size s3 H3 fp).env.kindOf x=(relabel scope X.env).names.lookup x:=fun x=>rfl
 have cne:∀ x c,cl.lookup x=some c->c<s3.heap.objs.size:=fun x c h=>by
  obtain⟨v,o,ho,_⟩:=I.cell x c (hcl1 x c h)
  exact zcn3 ho
 refine⟨⟨I.ok.mod,?_,I.ok.glob,I.ok.blt,zcn4 _,fun x y c h1 h2=>I.ok.inj x y c (hcl1 _ _ h1) (hcl1 _ _ h2),fun x hx=>?_,fun x c h=>?_,I.ok.hd,I.ok.frames,.inl rfl,fun b hb=>⟨zcp2 (hfpl b hb),fun x c h=>?_⟩,fun b o e=>I.bs b o e,zcr3 I.ok.bsz I.sz,fun b o e=>hex b o e,fun b hb=>?_,I.stack,I.stkFree⟩,
  h4,by rw[h5];exact I.bare,Un.kept hk,?_,fun x c h=>?_,I.hok.fresh (zcn4 _),fun x c h=>I.freeC x c (hcl1 _ _ h),fun p hp=>(by cases hp),I.hok.kept hk,hlen⟩
 ·exact hkind
 ·have hx':(relabel scope X.env).names.lookup x=some .cell∨(relabel scope X.env).names.lookup x=some .free:=hx
  have hz:∃ y∈scope.names,y.1=x/\y.2=.free:=by
   rcases hx' with q|q
   ·exact zr4 hcell (.inl rfl) q
   ·exact zr4 hcell (.inr rfl) q
  obtain⟨y,hy,rfl,hf⟩:=hz
  exact hcl2 y hy hf
 ·exact absurd (show false=true from h) zcn0
 ·exact (hfp b hb).2.2.2.2.1 x c (hcl1 x c h)
 ·have:=(hfp b hb).1
  intro hz
  obtain⟨f0,f1,f2,_⟩:=hfp b hb
  have hz:b∈frs X.stack:=hz
  rcases zcm9.mp (I.stkSub b hz) with q|q
  ·exact f1 q
  ·exact f2 q
 ·obtain⟨m,hm⟩:=hns
  refine⟨m,hm,fun i x v h1 h2 h3=>?_⟩
  obtain⟨j,e1,e2,e3,e4⟩:=hcap i x v h1 h2
  obtain⟨mX,_,hl⟩:=I.loc
  obtain⟨u,r,q⟩:=hl j x v e1 e2 (by rcases e4 with e4|e4;exact .inr (.inl e4);exact .inr (.inr e4))
  refine⟨u,r,.inr ⟨zaa0 e3,?_⟩⟩
  obtain⟨c,hc⟩:=hcl2 (x,.free) (PySem.mem_of_lookup e3) rfl
  refine⟨c,hc,?_⟩
  have hc':=hcl1 x c hc
  rcases q with ⟨k,_⟩|⟨_,c2,e5,o,ho,hd⟩
  ·rcases e4 with e4|e4<;>rw[e4] at k<;>cases k
  ·rw[hc'] at e5
   cases e5
   exact⟨o,hk _ _ ho,hd⟩
 ·obtain⟨v,o,ho,hd⟩:=I.cell x c (hcl1 x c h)
  exact⟨v,o,hk _ _ ho,hd⟩
theorem zbm3{prog:Program}{w:World}{A:Around}{R:Result->Shared->Prop}{s:Shared}{elt target iter:Expr}{ifs:List Expr}{pos:Pos}{it acc:Value}{env:Env}(I:Nat->Shared->Prop)(turn:∀ n s,I n s->wpAny (model prog w) A (pyNext it) (fun r s₁=>match r with
   | none=>R (.ok .next) s₁
   | some v=>wpAny (model prog w) A (letOwnedTupleGo target it v) (fun _ s₁'=>wpAny (model prog w) A (assign target env v) (fun _ s₂=>
     wpAny (model prog w) A (forIn ifs true fun c r=>if r=true then do let ok ← isTrue c env (eval c env);pure (ForInStep.yield ok) else pure (ForInStep.yield r)) (fun ok s₃=>
      if ok=true then wpAny (model prog w) A (eval elt env) (fun x s₄=>
       wpAny (model prog w) A (call (.builtin "list.append") [acc,x]) (fun _ s₅=>∃ m,m<n/\I m s₅) (fun _ _=>False) s₄) (fun _ _=>False) s₃
      else ∃ m,m<n/\I m s₃) (fun _ _=>False) s₂) (fun _ _=>False) s₁') (fun _ _=>False) s₁) (fun _ _=>False) s)(n:Nat)(h:I n s):codeAny (model prog w) A (.compLoop (.ListComp elt [⟨target,iter,ifs,0⟩] scope pos) 0 it acc env) R s:=by
 refine codeAny_loop rfl I (fun n s hI=>?_) n h
 show wpAny _ A ((compTurn (.ListComp elt [⟨target,iter,ifs,0⟩] scope pos) 0 it acc env).onRaise (fun x=>do noteFrame x env;theTreesLotGoes x)) _ _ s
 refine wpAny_noted ?_
 rw[compTurn_list]
 refine zcv3 (wpAny_standAt (zcv3 (wpAny_mono (turn n s hI) (fun r s₁ h₁=>?_) fun _ _ h'=>h'.elim)))
 cases r with
 | none=>exact zcv4 h₁
 | some v=>
  refine zcv3 (wpAny_mono h₁ (fun _ s₁' h₁'=>?_) fun _ _ h'=>h'.elim)
  refine zcv3 (wpAny_mono h₁' (fun _ s₂ h₂=>zcv3 (wpAny_mono h₂ (fun ok s₃ h₃=>?_) fun _ _ h'=>h'.elim)) fun _ _ h'=>h'.elim)
  cases ok with
  | false=>exact zcv4 ⟨rfl,h₃⟩
  | true=>
   exact zcv3 (zcv3 (wpAny_mono h₃ (fun x s₄ h₄=>zcv3 (wpAny_mono h₄ (fun _ s₅ h₅=>zcv4 (zcv4 ⟨rfl,h₅⟩)) fun _ _ h'=>h'.elim)) fun _ _ h'=>h'.elim))
theorem zbi5{E:Value->Shared->Prop}{elt iter:Expr}{ifs:List Expr}{pos:Pos}{cl:List (Str×Addr)}{N:List Str}{σc:St}{J:It}{fp:List Addr}{it:Addr}{tn:Nat->Heap->Prop}{g:TG}{tt:TT}{te:TE}{RR:Value->Addr->Result->Shared->Prop}(hcl1:∀ x c,cl.lookup x=some c->X.env.cells.lookup x=some c)(hcl2:∀ x∈scope.names,x.2=.free->∃ c,cl.lookup x.1=some c)(hkind:scope.kind=.function)(hcell:∀ y∈scope.names,y.2≠.cell)(hcap:∀ (i:Nat) (x:Str) (v:V),N[i]?=some x->σc[i]?=some (some v)->∃ j:Nat,X.N[j]?=some x/\σ[j]?=some (some v)/\scope.names.lookup x=some .free/\(X.env.kindOf x=some .cell∨X.env.kindOf x=some .free))(hlen:σc.length=N.length)(hc:X.calm=true)(I:Inv X pins σ H s2)(T:Turn X.prog X.w X.K tg J fp it tn)(st:tn 0 s2.heap)(fpok:∀ b∈fp,FpOk X pins H b)(hg:∀ C s3 H3 fp,PG (blk X N scope cl C s3 H3 fp) tg g)(ht:∀ C s3 H3 fp,PTs (blk X N scope cl C s3 H3 fp) ifs tt)(he:∀ C s3 H3 fp,PE (blk X N scope cl C s3 H3 fp) elt te)(h:zad9 J g tt te σc H Q)(hRR:∀ (acc C:Addr) (H':Hp) (s':Shared),Inv X pins σ H' s'->FpOk X pins H' C->(∃ m,s'.heap.Ns C m)->Q (.ref acc) H'->RR (.ref acc) C (.ok .next) s') :
  wpAny (model X.prog X.w) X.A (newList []) (fun acc s₃=>wpAny (model X.prog X.w) X.A (newFunctionEnv scope X.env.globals cl [] X.env.qual none .none (some X.env)) (fun cenv s₄=>
   codeAny (model X.prog X.w) X.A (.compStart (.ListComp elt [⟨tg,iter,ifs,0⟩] scope pos) 0 (.ref it) acc { cenv with scope:=relabel scope X.env }) (RR acc cenv.locals) s₄) E s₃) E s2:=by
 refine wpAny_newObj_type (wpAny_newFunctionEnv hcell (by intro y hy;simp at hy) (fun h₁ hns₁ hsb₁=>?_) hkind)
 dsimp only at hns₁ hsb₁ ⊢
 have hf:H s2.heap.objs.size=none:=I.fresh
 have I3:Inv X pins σ (upd H s2.heap.objs.size (.lst [])) { s2 with heap:=s2.heap.push { cls:=.type "list",data:=.seq ([]:List Value).toArray } }:=I.lnew (t':=s2.toks) (its:=[]) .nil (zcp5 _)
 generalize hs3:({ s2 with heap:=s2.heap.push { cls:=.type "list",data:=.seq ([]:List Value).toArray } }:Shared)=s3 at I3
 have hH:s2.heap.push { cls:=.type "list",dict:=none,data:=.seq ([]:List Value).toArray }=s3.heap:=by rw[← hs3]
 rw[hH] at hns₁ hsb₁ ⊢
 have hsz:s3.heap.objs.size=s2.heap.objs.size+1:=by rw[← hH,zcu5]
 have old23:∀ b o,s2.heap.get? b=some o->s3.heap.get? b=some o:=fun b o e=>by rw[← hH];exact zcm3 _ e
 have fplt:∀ b∈fp,b<s2.heap.objs.size:=fun b hb=>by
  obtain⟨o,e,_⟩:=T.obj 0 _ st b hb
  exact zcn3 e
 have fp3:∀ b∈fp,FpOk X pins (upd H s2.heap.objs.size (.lst [])) b:=fun b hb=>by
  obtain⟨f0,f1⟩:=fpok b hb
  refine⟨?_,f1⟩
  rw[zb1 (zcp2 (fplt b hb))]
  exact f0
 have old34:∀ b o,s3.heap.get? b=some o->h₁.get? b=some o:=fun b o e=>hsb₁.extBut b o (zcp2 (zcn3 e)) (zcm3 _ e)
 have nob:∀ b o,X.base.get? b=some o->b ∉ fp:=fun b o e hb=>by
  obtain⟨_,_,_,f3,_,_⟩:=fpok b hb
  rcases f3 with f3|f3
  ·exact I.ok.noex b o e f3
  ·exact absurd (zco6 (zcn3 e) I.ok.bsz) (Nat.not_lt.mpr f3)
 have hs4e:({ s2 with heap:=h₁,toks:=s2.toks+([]:List (Str×Value)).length }:Shared).os=s3.os:=by rw[← hs3]
 have hs4g:({ s2 with heap:=h₁,toks:=s2.toks+([]:List (Str×Value)).length }:Shared).gens=s3.gens:=by rw[← hs3]
 have I4:Inv (blk X N scope cl s3.heap.objs.size s3 (upd H s2.heap.objs.size (.lst [])) fp) [] σc (upd H s2.heap.objs.size (.lst [])) { s2 with heap:=h₁,toks:=s2.toks+([]:List (Str×Value)).length }:=
  zcc8 (s4:={ s2 with heap:=h₁,toks:=s2.toks+([]:List (Str×Value)).length }) I3 hcl1 hcl2 hkind hcell hcap hlen rfl fp3 (fun b hb=>zco6 (fplt b hb) (by rw[hsz];exact Nat.le_succ _)) nob ⟨_,hns₁⟩ old34 hs4e hs4g
 have st4:tn 0 h₁:=T.keep _ _ _ st fun b hb o e=>old34 b o (old23 b o e)
 unfold zad9 at h
 obtain⟨W,⟨m0,w0⟩,turn⟩:=h s2.heap.objs.size _ hf (Same.upd hf) zb5
 have loop:codeAny (model X.prog X.w) X.A (.compLoop (.ListComp elt [⟨tg,iter,ifs,0⟩] scope pos) 0 (.ref it) (.ref s2.heap.objs.size) (blk X N scope cl s3.heap.objs.size s3 (upd H s2.heap.objs.size (.lst [])) fp).env)
   (RR (.ref s2.heap.objs.size) s3.heap.objs.size) { s2 with heap:=h₁,toks:=s2.toks+([]:List (Str×Value)).length }:=by
  refine zbm3 (fun n s'=>∃ i ys σ' H',Inv (blk X N scope cl s3.heap.objs.size s3 (upd H s2.heap.objs.size (.lst [])) fp) [] σ' H' s'/\tn i s'.heap/\(∀ b∈fp,H' b=none)/\W i n ys σ' H') ?_ m0 ⟨0,[],σc,_,I4,st4,fun b hb=>(fp3 b hb).1,w0⟩
  rintro n s5 ⟨i,ys,σ5,H5,I5,st5,fr5,w5⟩
  obtain⟨hacc,hl5,hcase⟩:=turn i n ys σ5 H5 w5
  have stat:∀ {H':Hp},(∀ b∈fp,H' b=none)->∀ b∈fp,FpOk (blk X N scope cl s3.heap.objs.size s3 (upd H s2.heap.objs.size (.lst [])) fp) [] H' b:=fun hn b hb=>by
   obtain⟨_,f1,f2,f3,f4,_⟩:=fpok b hb
   refine⟨hn b hb,zcp2 (zco6 (fplt b hb) (by rw[hsz];exact Nat.le_succ _)),fun hz=>?_,.inl hb,fun x c hx=>f4 x c (hcl1 x c hx),fun p hp=>by cases hp⟩
   rcases zcm9.mp (I.stkSub b hz) with q|q
   ·exact f1 q
   ·exact f2 q
  rcases hcase with ⟨stop,hq⟩|⟨go,step⟩
  ·refine thn (T.done (blk X N scope cl s3.heap.objs.size s3 (upd H s2.heap.objs.size (.lst [])) fp) rfl rfl rfl hc i [] s5 σ5 H5 (fun _ _=>False) I5 (stat fr5) st5 stop) fun r s6 ⟨hr,I6⟩=>?_
   subst hr
   have u1:Un (frs X.stack) fp H (upd H s2.heap.objs.size (.lst [])) s2.heap s3.heap:=Un.laid old23 (zcn4 _) hf
   have u2:Un (frs X.stack) fp (upd H s2.heap.objs.size (.lst [])) H5 s3.heap s6.heap:=I6.base
   have hC:H5 s3.heap.objs.size=none:=I6.free
   obtain⟨m6,hm6,_⟩:=I6.loc
   have hos:s6.os=s2.os:=by rw[I6.os];show s3.os=s2.os;rw[← hs3]
   have hok6:=I6.hok
   have bare6:=I6.bare
   obtain⟨hh,gg,dd,tt',os'⟩:=s6
   obtain rfl:os'=s2.os:=hos
   exact hRR _ _ H5 _ (I.call (h':=hh) (g':=gg) (d':=dd) (t':=tt') (ch:=fp) (u1.trans u2) hok6 bare6 fun b hb=>⟨(fpok b hb).2.2.2.1,(fpok b hb).2.1,(fpok b hb).2.2.2.2.1,(fpok b hb).2.2.2.2.2⟩)
    (I.fpOk (by rw[hsz];exact Nat.le_succ _) hC) ⟨m6,hm6⟩ hq
  ·refine thn (T.item (blk X N scope cl s3.heap.objs.size s3 (upd H s2.heap.objs.size (.lst [])) fp) rfl rfl rfl hc i [] s5 σ5 H5 (fun _ _=>False) I5 (stat fr5) st5 go) fun r s6 ⟨u,hr,h6⟩=>?_
   subst hr
   refine thn h6 fun _ s7 ⟨x,H7,I7,r7,y7,st7,fr7⟩=>?_
   have I7':=I7.pinned (stat fr7) (T.obj _ _ st7)
   refine thn (hg _ _ _ _ _ s7 σ5 H7 x u _ I7' r7 (step x H7 y7)) fun _ s8 ⟨σ8,H8,I8,q8⟩=>?_
   refine thn (ht _ _ _ _ _ s8 σ8 H8 _ I8 q8) fun ok s9 ⟨H9,I9,q9⟩=>?_
   have again:∀ {s10:Shared}{σ10:St}{H10:Hp}{zs:List V},Inv (blk X N scope cl s3.heap.objs.size s3 (upd H s2.heap.objs.size (.lst [])) fp) ([]++zao1 fp s7.heap) σ10 H10 s10->(∃ m',m'<n/\W (i+1) m' zs σ10 H10) ->
     ∃ m,m<n/\∃ i ys σ' H',Inv (blk X N scope cl s3.heap.objs.size s3 (upd H s2.heap.objs.size (.lst [])) fp) [] σ' H' s10/\tn i s10.heap/\(∀ b∈fp,H' b=none)/\W i m ys σ' H':=fun {s10 σ10 H10 zs} I10 ⟨m',hm,w10⟩=>by
    refine⟨m',hm,i+1,zs,σ10,H10,I10.unpinned,T.keep _ _ _ st7 fun b hb o e=>(I10.pin (b,o) (zcq1 _ (zcq1 _ (zs8 hb e)))).1,fun b hb=>?_,w10⟩
    obtain⟨o,e,d⟩:=T.obj _ _ st7 b hb
    exact (I10.pin (b,o) (zcq1 _ (zcq1 _ (zs8 hb e)))).2.1
   dsimp only at q9
   rw[zad6] at q9
   cases ok with
   | false=>
    have q9:∃ m',m'<n/\W (i+1) m' ys σ8 H9:=by rw[if_neg zcn0] at q9;unfold zaq0 at q9;exact q9
    exact again I9 q9
   | true=>
    have q9:=(if_pos rfl▸q9:te σ8 H9 _)
    refine thn (he _ _ _ _ _ s9 σ8 H9 _ I9 q9) fun v s10 ⟨y,H10,I10,r10,q10⟩=>?_
    unfold cPut at q10
    obtain⟨e10,q10⟩:=q10
    refine thn (zar9 _ s10 σ8 H10 (.ref s2.heap.objs.size) [y] (.ref s2.heap.objs.size) [v] (fun _ H11=>∃ m',m'<n/\W (i+1) m' (ys++[y]) σ8 H11) I10 rfl (.cons r10 .nil) ⟨_,ys,y,rfl,rfl,e10,hl5,q10 _ Chg.upd zb5⟩) fun _ s11 ⟨z,H11,I11,_,q11⟩=>?_
    exact again I11 q11
 exact codeAny_compStart_list loop (T.self _ 0 _ _ _ st4 loop)
def capS(ks:List (Option Nat))(σ:St):St:=ks.map fun k=>match k with
 | none=>none
 | some j=>(σ[j]?).join
inductive zah0(X:Cx)(scope:Scope):List Str->List (Option Nat)->Prop where
 | nil:zah0 X scope [] []
 | skip {x:Str}{N:List Str}{ks:List (Option Nat)}(t:zah0 X scope N ks):zah0 X scope (x :: N) (none :: ks)
 | take {x:Str}{N:List Str}{ks:List (Option Nat)}{j:Nat}(h1:X.N[j]?=some x) (h2:scope.names.lookup x=some .free) (h3:X.env.kindOf x=some .cell∨X.env.kindOf x=some .free) (t:zah0 X scope N ks):zah0 X scope (x :: N) (some j :: ks)
theorem zah0.cap{N:List Str}{ks:List (Option Nat)}(h:zah0 X scope N ks)(σ:St):∀ (i:Nat) (x:Str) (v:V),N[i]?=some x->(capS ks σ)[i]?=some (some v)->∃ j:Nat,X.N[j]?=some x/\σ[j]?=some (some v)/\scope.names.lookup x=some .free/\(X.env.kindOf x=some .cell∨X.env.kindOf x=some .free):=by
 induction h with
 | nil=>intro i x v h;simp at h
 | skip t ih=>
  intro i x v h1 h2
  cases i with
  | zero=>simp[capS] at h2
  | succ i=>exact ih i x v (by simpa using h1) (by simpa [capS] using h2)
 | take a b c t ih=>
  intro i x v h1 h2
  cases i with
  | zero=>
   simp only[List.getElem?_cons_zero,Option.some.injEq] at h1
   subst h1
   refine⟨_,a,?_,b,c⟩
   simpa [capS,Option.join_eq_some_iff] using h2
  | succ i=>exact ih i x v (by simpa using h1) (by simpa [capS] using h2)
theorem zah0.len{N:List Str}{ks:List (Option Nat)}(h:zah0 X scope N ks)(σ:St):(capS ks σ).length=N.length:=by
 have:ks.length=N.length:=by
  induction h with
  | nil=>rfl
  | skip t ih=>simp[ih]
  | take a b c t ih=>simp[ih]
 simp[capS,this]
def qComp(ks:List (Option Nat))(wi:TI)(g:TG)(tt:TT)(te:TE):TE:=fun σ H Q=>wi σ H fun J H1=>zad9 J g tt te (capS ks σ) H1 Q
def freeB(scope:Scope)(f:Str->Option NameKind):Bool:=scope.names.all fun x=>x.2 != .free || (f x.1==some .cell || f x.1==some .free)
def zbl1(scope:Scope):Bool:=scope.names.all (fun x=>x.2 != .cell)&&scope.names.all fun x=>x.2 != .local || scope.names.lookup x.1==some .local
theorem zbv1{f:Str->Option NameKind}(h:freeB scope f=true):∀ x∈scope.names,x.2=.free->f x.1=some .cell∨f x.1=some .free:=fun x hx hf=>by
 have:=zcn6.mp h x hx
 simpa [hf] using this
theorem zbo4(h:zbl1 scope=true):(∀ y∈scope.names,y.2≠.cell)/\∀ x∈scope.names,x.2=.local->scope.names.lookup x.1=some .local:=by
 unfold zbl1 at h
 rw[zcn2] at h
 refine⟨fun y hy=>?_,fun x hx hl=>?_⟩
 ·have:=zcn6.mp h.1 y hy
  simpa using this
 ·have:=zcn6.mp h.2 x hx
  simpa [hl] using this
theorem zd5{elt iter:Expr}{ifs:List Expr}{pos:Pos}{N:List Str}{ks:List (Option Nat)}{wi:TI}{g:TG}{tt:TT}{te:TE}(hi:PI X tg iter wi)(hg:∀ cl C s3 H3 fp,PG (blk X N scope cl C s3 H3 fp) tg g)(ht:∀ cl C s3 H3 fp,PTs (blk X N scope cl C s3 H3 fp) ifs tt)(he:∀ cl C s3 H3 fp,PE (blk X N scope cl C s3 H3 fp) elt te)(hcap:zah0 X scope N ks)(hc:X.calm=true:=by rfl)(hkind:scope.kind=.function:=by rfl)(hb:freeB scope X.env.kindOf=true:=by rfl)(hn:zbl1 scope=true:=by rfl)(hs:∀ x,foldedSetIterable iter X.env x=pure x:=by intro _;rfl) :
  PE X (.ListComp elt [⟨tg,iter,ifs,0⟩] scope pos) (qComp ks wi g tt te):=by
 intro pins s σ H Q I h
 obtain⟨hcell,hnames⟩:=zbo4 hn
 obtain⟨cl,hcl,hcl1,hcl2⟩:=zbd0 (scope:=scope) (env:=X.env) fun x hx hf=>I.ok.has x.1 (zbv1 hb x hx hf)
 rw[eval_ListComp]
 refine wpAny_comprehension_free (use:=none) rfl hs hcl hkind hnames ?_
 show wpAny _ _ (eval iter X.env) _ _ s
 refine thn (hi pins s σ H _ I h) fun v s1 h1=>thn h1 fun itv s2 h2=>?_
 obtain⟨it,fp,tn,J,H2,e,I2,T,st2,f2,q2⟩:=h2
 subst e
 refine zbi5 (RR:=fun acc C=>compPost (model X.prog X.w) X.A X.xe none (EP X pins σ Q) acc C) hcl1 hcl2 hkind hcell (hcap.cap σ) (hcap.len σ) hc I2 T st2 f2 (hg cl) (ht cl) (he cl) q2 ?_
 rintro acc C H' s' I' hC ⟨m,hm⟩ hq
 refine⟨m,hm,fun h' hsb=>⟨.ref acc,H',?_,rfl,hq⟩⟩
 exact I'.turned (t':=s'.toks) (fun b o hb e=>hsb.extBut b o hb e) hC.1 hC.2.1 hC.2.2.2.1 hC.2.2.2.2.1 hC.2.2.2.2.2
end
section
variable {X:Cx}
@[irreducible] def rSumA(K:zcm2)(p:Addr)(H:Hp)(Q:VK):Prop:=∃ ns:List Int,SqL K H p (ns.map V.int)/\Q (.int ns.sum) H
def rSumM(K:zcm2):List V->Hp->VK->Prop:=fun xs H Q=>match xs with
 | [.ref p]=>rSumA K p H Q
 | _=>False
theorem cSum(hc:X.calm=true):zo8 X (.builtin "sum") (rSumM X.K):=fun pins s σ H xs us Q I r h=>by
 unfold rSumM at h
 split at h
 ·unfold rSumA at h
  obtain⟨ns,h1,h2⟩:=h
  obtain⟨u,rfl,rx⟩:=zaj8 r
  cases rx
  obtain⟨its,r',pl,hz⟩:=I.list h1
  have hi:=zy8 r'
  obtain⟨ys,hx⟩:=hi.allInts.items
  have hl':s.heap.IsList _ (intItems ys):=hx▸pl.isList
  refine sum_intListG (I.ok.hd hc) hl' fun h' tk t' hk=>?_
  have e1:ns=ys.toList.map (·.1):=by
   rw[← nums_intItems,← hx]
   exact (show numsOf its.toArray.toList=ns from hi.numsOf).symm
  have e2:preSum (numAt ys) ys.size=ns.sum:=by
   rw[preSum_eq,zcr1 (by simp),e1]
  rw[e2]
  exact⟨.int ns.sum,H,I.kept hk,⟨_,rfl⟩,h2⟩
 ·exact h.elim
theorem zab3{K:zcm2}{p:Addr}{ns:List Int}(h:H p=some (.lst (ns.map V.int)))(q:Q (.int ns.sum) H):rSumA K p H Q:=by unfold rSumA;exact⟨ns,SqL.of h,q⟩
theorem zac6:∀ {bs:List Bool}{us:List Value},Vals (bs.map V.bl) us->LSm.BoolsAre us bs
 | [],us,r=>by rw[zcu1] at r;cases r;exact .nil
 | b :: bs,us,r=>by
  rw[zcn9] at r
  cases r with
  | cons r1 r2=>
   cases r1
   exact .cons b (zac6 r2)
@[irreducible] def rAllA(K:zcm2)(p:Addr)(H:Hp)(Q:VK):Prop:=∃ bs:List Bool,SqL K H p (bs.map V.bl)/\Q (.bl (bs.all id)) H
def rAllM(K:zcm2):List V->Hp->VK->Prop:=fun xs H Q=>match xs with
 | [.ref p]=>rAllA K p H Q
 | _=>False
theorem cAll(hc:X.calm=true):zo8 X (.builtin "all") (rAllM X.K):=fun pins s σ H xs us Q I r h=>by
 unfold rAllM at h
 split at h
 ·rename_i p
  unfold rAllA at h
  obtain⟨bs,h1,h2⟩:=h
  obtain⟨u,rfl,rx⟩:=zaj8 r
  cases rx
  obtain⟨its,r',pl,hz⟩:=I.list h1
  have hb:=zac6 r'
  have hlt:p<s.heap.objs.size:=by obtain⟨_,e,_⟩:=pl.isList;exact zcn3 e
  refine call_all_walk (wpAny_pyIter_list pl.isList ?_)
  refine⟨s.heap.objs.size,[s.heap.objs.size,_],[s.heap.objs.size],its.toArray.size,_,_,fun i=>(bs[i]?).getD true,rfl,Walks.list (A:=X.A.in1) (I.ok.hd hc) _ _ (zcp2 hlt) its.toArray,
   ⟨⟨_,zcn8 _ rfl,rfl,rfl⟩,pl.isList.push _⟩,fun i v s' Q' E' hP hQ=>?_,fun h' tk hk=>?_⟩
  ·obtain⟨b,e,rfl⟩:=hb.get i v (by simpa using hP)
   simp only[e,Option.getD_some] at hQ
   exact wpAny_truthy_bool hQ
  ·have e:((List.range its.toArray.size).all fun i=>(bs[i]?).getD true)=bs.all id:=by
    rw[zcm8,hb.length];exact LSm.range_all bs
   rw[e]
   exact⟨.bl _,H,I.kept (LSm.kept_iter hk),rfl,h2⟩
 ·exact h.elim
theorem zs2{K:zcm2}{p:Addr}{bs:List Bool}(h:H p=some (.lst (bs.map V.bl)))(q:Q (.bl (bs.all id)) H):rAllA K p H Q:=by unfold rAllA;exact⟨bs,SqL.of h,q⟩
@[irreducible] def zaz7(K:zcm2)(p:Addr)(H:Hp)(Q:VK):Prop:=∃ ys,(SqL K H p ys∨SqT K H p ys)/\∀ l H',H l=none->Same H H'->H' l=some (.lst ys)->Q (.ref l) H'
def zbo3(K:zcm2):List V->Hp->VK->Prop:=fun xs H Q=>match xs with
 | [.ref p]=>zaz7 K p H Q
 | _=>False
theorem cList:zo8 X (.type "list") (zbo3 X.K):=fun pins s σ H xs us Q I r h=>by
 unfold zbo3 at h
 split at h
 ·unfold zaz7 at h
  obtain⟨ys,h1,h2⟩:=h
  exact zao0 pins s σ H _ us Q I r ⟨_,ys,rfl,h1,fun l hl=>h2 l _ hl (Same.upd hl) zb5⟩
 ·exact h.elim
theorem zbr5{K:zcm2}{p:Addr}{ys:List V}(h:SqL K H p ys)(q:∀ l H',H l=none->Same H H'->H' l=some (.lst ys)->Q (.ref l) H'):zaz7 K p H Q:=by unfold zaz7;exact⟨ys,.inl h,q⟩
@[irreducible] def zay4(K:zcm2)(p:Addr)(H:Hp)(R:Prop):Prop:=(∃ xs,SqL K H p xs)/\R
def qBM(K:zcm2)(r:Addr->List V->Hp->VK->Prop)(to:TE)(t:TA):TE:=fun σ H Q=>to σ H fun x H1=>match x with
 | .ref p=>zay4 K p H1 (t σ H1 fun xs H2=>r p xs H2 Q)
 | _=>False
theorem zbb4{K:zcm2}{p:Addr}{R:Prop}(h:H p=some (.lst xs))(q:R):zay4 K p H R:=by unfold zay4;exact⟨⟨xs,SqL.of h⟩,q⟩
def MtA(X:Cx)(id:String)(r:Addr->List V->Hp->VK->Prop):Prop:=
 ∀ (pins:List (Addr×Obj)) (s:Shared) (σ:St) (H:Hp) (p:Addr) (xs:List V) (us:List Value) (Q:VK),Inv X pins σ H s->Vals xs us->r p xs H Q ->
  wpAny (model X.prog X.w) X.A (call (.builtin id) (.ref p :: us)) (EP X pins σ Q) X.xe s
theorem peBM{o:Expr}{to:TE}{t:TA}{name:Str}{apos cpos:Pos}{id:String}{r:Addr->List V->Hp->VK->Prop}(slot:Slot "list" name id)(hty:typeOf (.builtin id)=pure (.type "method_descriptor"))(hm:MtA X id r)(ho:PE X o to)(ha:PA X (e :: es) t)(hbase:attributeBase o name X.env (eval o X.env)=eval o X.env:=by rfl)(hfew:((backTo cpos (starEach (e :: es) X.env)).all (fun x=>!x.1)&&(backToKw cpos (keywordEach [] X.env)).all (fun x=>x.1.isSome)
   && decide ((e :: es).length+([]:List Keyword).length+(if ([]:List Keyword).isEmpty then 0 else 1)<30))=true:=by rfl)(hline:(apos.endLine==cpos.line)=true:=by rfl)(hs:starEach (e :: es) X.env=(false,eval e X.env) :: starEach es X.env:=by rfl)(hplain:(backTo cpos (starEach es X.env)).any (·.1)=false:=by rfl) :
  PE X (.Call (.Attribute o name apos) (e :: es) [] cpos) (qBM X.K r to t):=by
 intro pins s σ H Q I h
 refine wpAny_Call_method_late hbase hfew hline rfl (thn (ho pins s σ H _ I h) fun v s1 ⟨x,H1,I1,r1,q1⟩=>?_)
 dsimp only at q1
 split at q1
 ·rename_i p
  unfold zay4 at q1
  obtain⟨hq,q1⟩:=q1
  obtain⟨h1,h2⟩:=tyV_is (T:="list") I1 r1 (.inl ⟨rfl,hq⟩)
  refine⟨"list",id,PySem.F.plainAttrs_list,slot,hty,h1,h2,?_⟩
  have hA:=ha cpos pins s1 σ H1 _ I1 q1
  rw[hs] at hA ⊢
  refine Calls.callWith_builtin (by show (false || (backTo cpos (starEach es X.env)).any (·.1))=false;rw[hplain]<;>rfl) (Calls.evalArgs_plain ?_)
  cases r1
  exact thn hA fun us s2 ⟨vs,H2,I2,r2,q2⟩=>hm pins s2 σ H2 p vs us Q I2 r2 q2
 ·exact q1.elim
@[irreducible] def rAppA(p:Addr)(v:V)(H:Hp)(Q:VK):Prop:=∃ xs,H p=some (.lst xs)/\xs.length<sizeLine/\∀ H',Chg p H H'->H' p=some (.lst (xs++[v]))->Q .non H'
def rAppM:Addr->List V->Hp->VK->Prop:=fun p vs H Q=>match vs with
 | [v]=>rAppA p v H Q
 | _=>False
theorem zcd1:MtA X "list.append" rAppM:=fun pins s σ H p xs us Q I r h=>by
 unfold rAppM at h
 split at h
 ·unfold rAppA at h
  obtain⟨ys,h1,h2,h3⟩:=h
  exact zar9 pins s σ H (.ref p) _ (.ref p) us Q I rfl r ⟨p,ys,_,rfl,rfl,h1,h2,h3 _ Chg.upd zb5⟩
 ·exact h.elim
theorem zbb0{p:Addr}{v:V}(h:H p=some (.lst xs))(hz:xs.length<sizeLine)(q:∀ H',Chg p H H'->H' p=some (.lst (xs++[v]))->Q .non H'):rAppA p v H Q:=by unfold rAppA;exact⟨xs,h,hz,q⟩
theorem zs5{o:Expr}{to:TE}{t:TA}{apos cpos:Pos}(ho:PE X o to)(ha:PA X [e] t)(hbase:attributeBase o "append" X.env (eval o X.env)=eval o X.env:=by rfl)(hfew:((backTo cpos (starEach [e] X.env)).all (fun x=>!x.1)&&(backToKw cpos (keywordEach [] X.env)).all (fun x=>x.1.isSome)
   && decide ([e].length+([]:List Keyword).length+(if ([]:List Keyword).isEmpty then 0 else 1)<30))=true:=by rfl)(hline:(apos.endLine==cpos.line)=true:=by rfl)(hs:starEach [e] X.env=(false,eval e X.env) :: starEach [] X.env:=by rfl)(hplain:(backTo cpos (starEach [] X.env)).any (·.1)=false:=by rfl):PE X (.Call (.Attribute o "append" apos) [e] [] cpos) (qBM X.K rAppM to t):=
 peBM PySem.F.slot_list_append PySem.F.type_list_append zcd1 ho ha hbase hfew hline hs hplain
def qAug(i:Nat)(te:TE)(r:R2):TS:=fun D σ H=>match σ[i]? with
 | some (some x)=>te σ H fun y H1=>r x y H1 fun z H2=>D.nx (σ.set i (some z)) H2
 | _=>False
theorem ipAdd:OpR X (inplaceOp .Add) (fun x y H Q=>match x,y with|.int i,.int j=>Q (.int (i+j)) H|_,_=>False):=by
 intro pins s σ H x y v u Q I rx ry h
 split at h
 ·exact zby8 pins s σ H _ _ v u Q I rx ry ⟨_,_,rfl,rfl,h⟩
 ·exact h.elim
theorem ipSub:OpR X (inplaceOp .Sub) (fun x y H Q=>match x,y with|.int i,.int j=>Q (.int (i - j)) H|_,_=>False):=by
 intro pins s σ H x y v u Q I rx ry h
 split at h
 ·exact zce3 pins s σ H _ _ v u Q I rx ry ⟨_,_,rfl,rfl,h⟩
 ·exact h.elim
theorem psAug{x:Str}{te:TE}{op:Operator}{r:R2}{pos pos':Pos}(hN:X.N.Nodup)(ho:OpR X (inplaceOp op) r)(he:PE X e te)(hi:X.N[i]?=some x:=by rfl)(hx:Loc X.env.scope x:=by first|exact Or.inl rfl|exact Or.inr rfl)(hf:X.fn x=true∨X.env.scope.names.lookup x=some .local:=by first|exact .inl rfl|exact .inr rfl|assumption) :
  PS X (.AugAssign (.Name x pos') op e pos) (qAug i te r):=fun pins s σ H D I h=>by
 unfold qAug at h
 split at h
 ·rename_i v e
  exact ps_aug hN hi hx he (fun pins s σ H x y v u Q I rx ry q=>ho pins s σ H x y v u Q I rx ry q) hf pins s σ H D I ⟨v,e,h⟩
 ·exact h.elim
section
variable {prog:Program}{w:World}{A:Around}{E:Value->Shared->Prop}{s:Shared}
theorem zas8{it t:Addr}{items:Array Value}(hne:t≠it):∀ (n i:Nat) (s:Shared) (Q:List Value->Shared->Prop),s.heap.IsListIter it t i->s.heap.IsList t items->i+n<=items.size ->
  (∀ h',h'.IsListIter it t (i+n)->Heap.SameBut it s.heap h'->Q ((items.toList.drop i).take n) { s with heap:=h' })->wpAny (model prog w) A (draw (.ref it) n) Q E s
 | 0,i,s,Q,hit,_,_,hQ=>by
  show wpAny _ _ (pure []) Q E s
  exact zcv4 (by simpa using hQ s.heap hit (Heap.SameBut.refl ..))
 | n+1,i,s,Q,hit,ht,hle,hQ=>by
  have hlt:i<items.size:=by omega
  show wpAny _ _ (pyNext (.ref it) >>= _) Q E s
  refine zcv3 (wpAny_pyNext_list_item hit ht (x:=items[i]) (by simp[hlt]) fun h₁ hit₁ hs₁=>?_)
  refine zcv3 (zcv8 (zas8 hne n (i+1) _ _ hit₁ (ht.extBut hs₁.extBut hne) (by omega) fun h₂ hit₂ hs₂=>zcv4 ?_))
  have hd:items.toList.drop i=items[i] :: items.toList.drop (i+1):=by simp[zcr9,hlt]
  have:=hQ h₂ (by rw[show i+(n+1)=i+1+n by omega];exact hit₂) (hs₁.trans hs₂)
  rw[hd,List.take_succ_cons] at this
  exact this
theorem zy9{env:Env}{x1}{pos:Pos}{t:Addr}{items:Array Value}{Q:Unit->Shared->Prop}(hh:A.handled=none)(ht:s.heap.IsList t items)(hn:(assignEach elts env).length=items.size)(hstar:(assignEach elts env).findIdx? (·.1)=none)(h:∀ h',Heap.ExtBut s.heap.objs.size s.heap h'->wpAny (model prog w) A (assignInOrder ((assignEach elts env).map (·.2)) items.toList) Q E { s with heap:=h' }) :
  wpAny (model prog w) A (assign (.Tuple elts x1 pos) env (.ref t)) Q E s:=by
 rw[assign_Tuple]
 refine zcv3 (wpAny_standAt ?_)
 unfold unpack
 rw[hn,hstar]
 refine zcv3 (zcv8 ?_)
 have hlt:t≠s.heap.objs.size:=by obtain⟨o,ho,_⟩:=ht;exact zcp2 (zcn3 ho)
 unfold unpackItems
 refine zcv3 ?_
 unfold notIterableAtAll
 refine zcv3 (wpAny_specialOf ht.typeIs F.slot_list_iter.lookup ?_)
 refine zcv4 ?_
 simp only[zct0,if_false]
 refine zcv3 (zcv8 (wpAny_pyIter_list ht ?_))
 refine zcv3 (zcv8 (zas8 hlt items.size 0 _ _ ⟨_,zcn8 _ rfl,rfl,rfl⟩ (ht.push _) (by omega) fun h₁ hit₁ hs₁=>?_))
 have hall:List.take items.size (List.drop 0 items.toList)=items.toList:=by
  rw[List.drop_zero];exact zcr1 (by simp)
 rw[hall]
 rw[if_neg (by simp)]
 have ht₁:h₁.IsList t items:=(ht.push _).extBut hs₁.extBut hlt
 refine zcv3 (zcv8 (wpAny_pyNext_list_end hh hit₁ ht₁ (by simp) fun h₂ he₂=>?_))
 simp only[Option.isSome_none,zct0,if_false]
 exact zcv4 (h h₂ fun b o hb e=>he₂ b o hb (hs₁.extBut b o hb (zcm3 _ e)))
end
@[irreducible] def rUnpA(K:zcm2)(a:Addr)(n:Nat)(t:TGs)(σ:St)(H:Hp)(Q:St->Hp->Prop):Prop:=∃ xs,(SqT K H a xs∨SqL K H a xs)/\xs.length=n/\t xs σ H Q
def qgAny(K:zcm2)(n:Nat)(t:TGs):TG:=fun v σ H Q=>match v with
 | .ref a=>rUnpA K a n t σ H Q
 | _=>False
theorem pgAny{pos:Pos}{k:Nat}{t:TGs}{n:Nat}(hc:X.calm=true)(h:PGs X es t)(hn:(assignEach es X.env).length=n:=by rfl)(hst:(assignEach es X.env).findIdx? (·.1)=none:=by rfl):PG X (.Tuple es k pos) (qgAny X.K n t):=fun pins s σ H v u Q I r hq=>by
 unfold qgAny at hq
 split at hq
 ·unfold rUnpA at hq
  obtain⟨xs,a1,a2,a3⟩:=hq
  rcases a1 with a1|a1
  ·exact pg_tup hc h hn hst pins s σ H _ u Q I r ⟨_,xs,rfl,a1,a2,a3⟩
  ·cases r
   obtain⟨its,rv,pl,hz⟩:=I.list a1
   refine zy9 (I.ok.hd hc) pl.isList (by simp[hn,← a2,rv.length]) hst fun h' hx=>?_
   have I1:Inv X pins σ H { s with heap:=h' }:=I.kept (t':=s.toks) fun b o e=>hx b o (zcp2 (zcn3 e)) e
   exact h pins _ σ H xs _ Q I1 (by simpa using rv) a3
 ·exact hq.elim
theorem zd0{K:zcm2}{a:Addr}{n:Nat}{t:TGs}{σ:St}{Q:St->Hp->Prop}(h:H a=some (.tup xs))(q:t xs σ H Q)(e:xs.length=n:=by rfl):rUnpA K a n t σ H Q:=by
 unfold rUnpA;exact⟨xs,.inl (SqT.of h),e,q⟩
end
def Chg2(a c:Addr)(H H':Hp):Prop:=∀ b o,b≠a->b≠c->H b=some o->H' b=some o
theorem Chg2.refl(a c:Addr)(H:Hp):Chg2 a c H H:=fun _ _ _ _ e=>e
theorem Chg2.trans{a:Addr}(x:Chg2 a c H H1)(y:Chg2 a c H1 H2):Chg2 a c H H2:=fun b o h1 h2 e=>y b o h1 h2 (x b o h1 h2 e)
theorem Chg2.same{a:Addr}(x:Chg2 a c H H1)(y:Same H1 H2):Chg2 a c H H2:=fun b o h1 h2 e=>y b o (x b o h1 h2 e)
theorem Chg.toL{a:Addr}(x:Chg a H H1):Chg2 a c H H1:=fun b o h1 _ e=>x b o h1 e
theorem Chg.toR{a:Addr}(x:Chg c H H1):Chg2 a c H H1:=fun b o _ h2 e=>x b o h2 e
theorem Same.to2{a:Addr}(x:Same H H1):Chg2 a c H H1:=fun b o _ _ e=>x b o e
theorem Chg2.at{a b:Addr}(x:Chg2 a c H H')(e:H b=some o)(h1:b≠a)(h2:b≠c):H' b=some o:=x b o h1 h2 e
def cV(n:Nat)(acc:Addr)(Pv:Nat->List V->St->Hp->Prop):Nat->Nat->List V->St->Hp->Prop:=fun i m ys σ H=>m=n - i/\i<=n/\ys.length<=i/\H acc=some (.lst ys)/\Pv i ys σ H
section
variable {K:zcm2}{g:TG}{tt:TT}{te:TE}{σ0:St}{H1:Hp}{Q:VK}
theorem zx3{n m:Nat}{acc:Addr}{Pv:Nat->List V->St->Hp->Prop}{ys:List V}{σ2:St}{v:V}{H5:Hp}(hi:i<n)(hm:m=n - i)(hl:ys.length<=i)(ha:H5 acc=some (.lst ys))(q:∀ H6,Chg acc H5 H6->H6 acc=some (.lst (ys++[v]))->Pv (i+1) (ys++[v]) σ2 H6):cPut (cV n acc Pv) acc ys i m σ2 v H5:=by
 unfold cPut
 exact⟨ha,fun H6 hc h6=>⟨n - (i+1),by omega,rfl,by omega,by rw[zcn1,zcs9];omega,h6,q H6 hc h6⟩⟩
theorem zl8{lo:Int}{n:Nat}(hn:n<sizeLine)(h:∀ acc H2,H1 acc=none->Same H1 H2->H2 acc=some (.lst [])->∃ Pv:Nat->List V->St->Hp->Prop,Pv 0 [] σ0 H2 /\
  (∀ i m ys σ H,i<n->m=n - i->ys.length<=i->H acc=some (.lst ys)->Pv i ys σ H->g (.int (lo+i)) σ H fun σ2 H3=>tt σ2 H3 fun b H4=>br b (te σ2 H4 fun v H5=>cPut (cV n acc Pv) acc ys i m σ2 v H5) (zaq0 (cV n acc Pv) ys i m σ2 H4)) /\
  ∀ ys σ H,H acc=some (.lst ys)->Pv n ys σ H->Q (.ref acc) H):zad9 (Itr lo n) g tt te σ0 H1 Q:=by
 unfold zad9
 intro acc H2 hf hs ha
 obtain⟨Pv,h0,turn,fin⟩:=h acc H2 hf hs ha
 refine⟨cV n acc Pv,⟨n,by simp,zcp5 _,zcn4 _,ha,h0⟩,?_⟩
 rintro i m ys σ H ⟨hm,hi,hl,ha',hp⟩
 refine⟨ha',by omega,?_⟩
 by_cases hlt:i<n
 ·refine .inr ⟨hlt,fun x H' y=>?_⟩
  obtain⟨e,y⟩:=y
  subst e y
  exact turn i m ys σ _ hlt hm hl ha' hp
 ·have e:i=n:=by omega
  subst e
  exact .inl ⟨zcn4 _,fin ys σ H ha' hp⟩
end
section
variable {X:Cx}{K:zcm2}
theorem zb4{a b:Expr}{ta tb:TE}{pos:Pos}(hK:X.K=K)(ha:PE X a ta)(hb:PE X b tb)(hs:zaw9 b:=by exact fun _ _=>rfl):PE X (.Subscript a b pos) (tOp (rIxM K) ta tb):=by subst hK;exact peIx ha hb hs
theorem zm1(hK:X.K=K):zo8 X (.builtin "len") (rLenM K):=by subst hK;exact cLen
theorem zae3(hK:X.K=K):zo8 X (.builtin "isinstance") (rIsiM K):=by subst hK;exact cIsi
theorem zau1(hK:X.K=K)(hc:X.calm=true):zo8 X (.builtin "sum") (rSumM K):=by subst hK;exact cSum hc
theorem zae5(hK:X.K=K)(hc:X.calm=true):zo8 X (.builtin "all") (rAllM K):=by subst hK;exact cAll hc
theorem cListK(hK:X.K=K):zo8 X (.type "list") (zbo3 K):=by subst hK;exact cList
theorem oEqK(hK:X.K=K)(hu:X.A.units+40<cLine):OpR X (compareOp .Eq) (rEqM K):=by subst hK;exact oEq hu
theorem oNeK(hK:X.K=K)(hu:X.A.units+40<cLine):OpR X (compareOp .NotEq) (rNeM K):=by subst hK;exact oNe hu
theorem zf8{l:Expr}{tl:TE}(hK:X.K=K)(hl:PE X l tl):PI X tg l (qiSeq K tl):=by subst hK;exact piSeq hl
theorem zi4{pos:Pos}{k:Nat}{t:TGs}{n:Nat}(hK:X.K=K)(hc:X.calm=true)(h:PGs X es t)(hn:(assignEach es X.env).length=n:=by rfl)(hst:(assignEach es X.env).findIdx? (·.1)=none:=by rfl):PG X (.Tuple es k pos) (qgAny K n t):=by subst hK;exact pgAny hc h hn hst
end
def Ite(K:zcm2)(a:Addr):It:=
 ⟨fun i H=>∃ xs x,SqL K H a xs/\xs[i]?=some x,fun i H v H'=>∃ p y,v=.ref p/\H p=none/\Same H H'/\H' p=some (.tup [.int i,y])/\∀ xs,SqL K H a xs->xs[i]?=some y,fun i H=>∃ xs,SqL K H a xs/\xs.length<=i⟩
theorem zbk6{P:Program}{w:World}{K:zcm2}{k:Nat}{pos:Pos}(a it e:Addr)(hne:e≠it):Turn P w K (.Tuple elts k pos) (Ite K a) [it,e] e (fun i h=>(∃ old,IsEnum h e it i old)/\h.IsListIter it a i) where
 mem:=by simp
 obj:=fun i h st b hb=>by
  obtain⟨⟨old,he⟩,o,e1,c,d⟩:=st
  rcases zcm9.mp hb with rfl|hb
  ·exact⟨o,e1,fun v z=>by rw[d] at z;cases z⟩
  ·have:b=e:=by simpa using hb
   subst this
   exact⟨_,he,fun v z=>by cases z⟩
 keep:=fun i h h' st kp=>by
  obtain⟨⟨old,he⟩,hi⟩:=st
  exact⟨⟨old,kp e (by simp) _ he⟩,hi.at fun o x=>kp it (by simp) o x⟩
 item:=by
  intro X hP hw hK hc i pins s σ H E I hf st hg
  subst hP hw hK
  obtain⟨⟨old,he⟩,hit⟩:=st
  obtain⟨xs,x,hq,hx⟩:=hg
  obtain⟨its,rv,p,hz⟩:=I.list hq
  obtain⟨u,hu,ru⟩:=rv.get hx
  obtain⟨f0,f1,f2,f3,f4,f5⟩:=hf it (by simp)
  obtain⟨g0,g1,g2,g3,g4,g5⟩:=hf e (by simp)
  refine wpAny_pyNext_enum_item he hit p.isList (x:=u) (by simpa using hu) hne fun h1 heo hit1 ht1 hz1 hk1=>?_
  refine⟨_,rfl,wpAny_letOwnedTupleGo_enum heo fun h2 he2 hs2=>?_⟩
  replace hs2:Heap.SameBut e h1 h2:=hs2
  have hel:e<s.heap.objs.size:=zcn3 he
  have kp:∀ b o,b ∉ [it,e]->s.heap.get? b=some o->h2.get? b=some o:=fun b o hb x=>by
   have b1:b≠it:=fun z=>hb (by simp[z])
   have b2:b≠e:=fun z=>hb (by simp[z])
   exact (hs2.2 b b2).trans (hk1 b o b2 b1 x)
  have ht2:h2.get? s.heap.objs.size=some { cls:=.type "tuple",data:=.seq #[.int i s.toks,u] }:=(hs2.2 _ (zcs7 hel)).trans ht1
  have hfr:H s.heap.objs.size=none:=I.fresh
  have nof:∀ b v,H b=some v->b ∉ [it,e]:=fun b v hb z=>by
   rcases zcm9.mp z with rfl|z
   ·rw[f0] at hb;cases hb
   ·have:b=e:=by simpa using z
    subst this
    rw[g0] at hb;cases hb
  have nlt:∀ b o,s.heap.get? b=some o->b≠s.heap.objs.size:=fun b o x=>zcp2 (zcn3 x)
  have hok:HOk X.prog X.w (upd H s.heap.objs.size (.tup [.int i,x])) h2:=fun b v hb=>by
   by_cases e1:b=s.heap.objs.size
   ·subst e1
    rw[zb5] at hb
    cases hb
    exact⟨by show 2<=sizeLine;decide,[.int i s.toks,u],.cons ⟨_,rfl⟩ (.cons ru .nil),⟨_,ht2,rfl,_,rfl⟩⟩
   ·rw[zb1 e1] at hb
    refine (I.hok b v hb).stay (fun c w' hc q=>?_) (fun c q=>?_) (fun c ys q=>?_)
    ·rcases hc with rfl|hc
     ·exact kp _ _ (nof _ _ hb) q
     ·exact kp _ _ (nof _ _ hc) q
    ·rw[zb1 (za4 q hfr)];exact q
    ·rw[zb1 (za4 q hfr)];exact q
  have chs:∀ b∈[it,e],(b∈X.ex∨X.s₀.heap.objs.size<=b)/\b≠X.env.locals/\(∀ x c,X.env.cells.lookup x=some c->c≠b)/\∀ p∈X.pn++pins,p.1≠b:=fun b hb=>by
   rcases zcm9.mp hb with rfl|hb
   ·exact⟨f3,f1,f4,f5⟩
   ·have:b=e:=by simpa using hb
    subst this
    exact⟨g3,g1,g4,g5⟩
  have I2:Inv X pins σ (upd H s.heap.objs.size (.tup [.int i,x])) { s with heap:=h2,toks:=s.toks+1 }:=
   I.step (g':=s.gens) (d':=s.drawn) (t':=s.toks+1) (ch:=[it,e]) chs (fun b o _ _ hb x _=>kp b o hb x) (fun b o _ _ hb x _=>⟨o.slots,kp b o hb x⟩)
    (fun b o _ x n=>by rw[zb1 (nlt b o x)];exact n) (fun b o hb x=>⟨o,kp b o hb x⟩) (fun b ys q=>by rw[zb1 (za4 q hfr)];exact q) (fun b o v q=>by rw[zb1 (za4 q hfr)];exact q)
    (fun b ps q=>⟨#[],by rw[zb1 (za4 q hfr),q];simp⟩)
    (fun m hm=>by
     obtain⟨o,es,ep,ho,r⟩:=hm
     exact⟨o,es,ep,kp _ o (fun z=>by
      rcases zcm9.mp z with z|z
      ·exact f1 z.symm
      ·exact g1 (by simpa using z:X.env.locals=e).symm) ho,r⟩) hok I.bare
  have hi1:h2.IsListIter it a (i+1):=hit1.extBut hs2.extBut (Ne.symm hne)
  have he3:IsEnum h2 e it ((i+1:Nat):Int) u:=by
   have:((i+1:Nat):Int)=(i:Int)+1:=by push_cast;rfl
   rw[this];exact he2
  refine⟨.ref s.heap.objs.size,_,I2,rfl,⟨_,x,rfl,hfr,Same.upd hfr,zb5,fun ys hy=>by rw[I.list_inj hy hq];exact hx⟩,⟨⟨u,he3⟩,hi1⟩,fun b hb=>?_⟩
  have hb0:H b=none:=(hf b hb).1
  have hlt:b≠s.heap.objs.size:=by
   rcases zcm9.mp hb with rfl|hb
   ·obtain⟨o,ho,_⟩:=hit;exact nlt _ _ ho
   ·have:b=e:=by simpa using hb
    subst this
    exact zcp2 hel
  rw[zb1 hlt];exact hb0
 done:=by
  intro X hP hw hK hc i pins s σ H E I hf st hg
  subst hP hw hK
  obtain⟨⟨old,he⟩,hit⟩:=st
  obtain⟨xs,hq,hx⟩:=hg
  obtain⟨its,rv,p,hz⟩:=I.list hq
  obtain⟨f0,f1,f2,f3,f4,f5⟩:=hf it (by simp)
  have hl:=rv.length
  exact wpAny_pyNext_enum_end (I.ok.hd hc) he hit p.isList (by simp;omega) fun h' eb=>⟨rfl,I.turned (t':=s.toks) (fun b o hb e=>eb b o hb e) f0 f1 f3 f4 f5⟩
 self:=fun _ _ _ _ _ st h=>by
  obtain⟨⟨old,he⟩,_⟩:=st
  exact wpAny_pyIter_enum he h
section
variable {X:Cx}{K:zcm2}
theorem zao7:bootBuiltins "enumerate"=some (.type "enumerate"):=by decide +kernel
@[irreducible] def rEnum(K:zcm2)(a:Addr)(H:Hp)(R:It->Hp->Prop):Prop:=(∃ xs,SqL K H a xs)/\R (Ite K a) H
def zbw7(K:zcm2)(ta:TA):TI:=fun σ H R=>ta σ H fun vs H1=>match vs with
 | [.ref a]=>rEnum K a H1 R
 | _=>False
theorem piEnum{k:Nat}{pt:Pos}{a:Expr}{ta:TA}{p pos:Pos}(hm:X.mg "enumerate"=none)(ha:PA X [a] ta)(hg:Gl X "enumerate":=by rfl)(hs:starEach [a] X.env=[(false,eval a X.env)]:=by rfl) :
  PI X (.Tuple elts k pt) (.Call (.Name "enumerate" p) [a] [] pos) (zbw7 X.K ta):=by
 intro pins s σ H R I h
 refine Call_ (zaa2 I hg hm zao7 (PyProof.Rows.callWith_type1 (thn (ha pos pins s σ H _ I h) fun us s1 ⟨vs,H1,I1,r1,q1⟩=>?_) hs rfl))
 dsimp only at q1
 split at q1
 ·rename_i l
  unfold rEnum at q1
  obtain⟨⟨xs,hq⟩,q⟩:=q1
  obtain⟨u,rfl,rx⟩:=zaj8 r1
  cases rx
  obtain⟨its,rv,pl,hz⟩:=I1.list hq
  refine call_enumerate_list pl.isList fun h' he hit hsz hk=>?_
  refine wpAny_pyIter_enum he ?_
  have I2:Inv X pins σ H1 { s1 with heap:=h' }:=I1.kept (t':=s1.toks) hk
  refine⟨s1.heap.objs.size+1,[s1.heap.objs.size,s1.heap.objs.size+1],_,Ite X.K l,H1,rfl,I2,zbk6 l _ _ (Nat.succ_ne_self _),⟨⟨_,he⟩,hit⟩,fun b hb=>?_,q⟩
  have hb':s1.heap.objs.size<=b:=by
   rcases zcm9.mp hb with rfl|hb
   ·exact zcn4 _
   ·have:b=s1.heap.objs.size+1:=by simpa using hb
    subst this
    exact Nat.le_succ _
  exact I1.fpOk hb' (I1.hok.fresh hb')
 ·exact q1.elim
theorem zce9{k:Nat}{pt:Pos}{a:Expr}{ta:TA}{p pos:Pos}(hK:X.K=K)(hm:X.mg "enumerate"=none)(ha:PA X [a] ta)(hg:Gl X "enumerate":=by rfl)(hs:starEach [a] X.env=[(false,eval a X.env)]:=by rfl) :
  PI X (.Tuple elts k pt) (.Call (.Name "enumerate" p) [a] [] pos) (zbw7 K ta):=by subst hK;exact piEnum hm ha hg hs
end
section
variable {K:zcm2}{g:TG}{tb:TS}{D:Ends}{σ:St}{H:Hp}{R:It->Hp->Prop}
theorem zbj8{a:Addr}(h:H a=some (.lst xs))(q:R (Ite K a) H):rEnum K a H R:=by unfold rEnum;exact⟨⟨xs,SqL.of h⟩,q⟩
theorem zaq9{a:Addr}(Pv:Nat->St->Hp->Prop)(h0:Pv 0 σ H)(hl:∀ i σ H,i<=xs.length->Pv i σ H->SqL K H a xs)(hs:∀ i y σ H p H',xs[i]?=some y->Pv i σ H->H p=none->Same H H'->H' p=some (.tup [.int i,y])->g (.ref p) σ H' fun σ2 H2=>tb { D with nx:=Pv (i+1),ct:=Pv (i+1),bk:=D.nx } σ2 H2)(hd:∀ σ H,Pv xs.length σ H->D.nx σ H):zap5 (Ite K a) g tb D σ H:=by
 unfold zap5
 refine⟨fun i m σ H=>m=xs.length - i/\i<=xs.length/\Pv i σ H,⟨xs.length,by simp,zcp5 _,h0⟩,?_⟩
 rintro i m σ H ⟨rfl,hi,p⟩
 have q:=hl i σ H hi p
 by_cases hlt:i<xs.length
 ·refine .inr ⟨⟨xs,xs[i],q,by simp[hlt]⟩,Pv (i+1),fun σ' H' p'=>⟨xs.length - (i+1),by omega,rfl,hlt,p'⟩,fun x H' y=>?_⟩
  obtain⟨pp,yy,rfl,y1,y2,y3,y4⟩:=y
  exact hs i yy σ H pp H' (y4 xs q) p y1 y2 y3
 ·have e:i=xs.length:=by omega
  subst e
  exact .inl ⟨⟨xs,q,zcn4 _⟩,hd σ H p⟩
end
theorem zaa8{k:Int}(h:0<=k):cutV xs (some k) none=xs.drop k.toNat:=by
 show List.take (xs.length - (if k<0 then (k+(xs.length:Int)).toNat else min k.toNat xs.length)) (List.drop (if k<0 then (k+(xs.length:Int)).toNat else min k.toNat xs.length) xs)=_
 rw[if_neg (by omega)]
 by_cases hk:k.toNat<=xs.length
 ·rw[Nat.min_eq_left hk,zcr1 (by rw[zcr7];omega)]
 ·rw[Nat.min_eq_right (by omega),List.drop_of_length_le (by omega),List.drop_of_length_le (by omega),List.take_nil]
theorem zag2{k:Int}(h:0<=k):cutV xs none (some k)=xs.take k.toNat:=by
 show List.take ((if k<0 then (k+(xs.length:Int)).toNat else min k.toNat xs.length) - 0) (List.drop 0 xs)=_
 rw[if_neg (by omega),List.drop_zero,Nat.sub_zero]
 by_cases hk:k.toNat<=xs.length
 ·rw[Nat.min_eq_left hk]
 ·rw[Nat.min_eq_right (by omega),zcr1 (zcn4 _),zcr1 (by omega)]
def rowV(n:Nat)(r:Nat->Int):List V:=(List.range n).map fun t=>V.int (r t)
theorem zbt9(n:Nat)(r:Nat->Int):(rowV n r).length=n:=by unfold rowV;simp
theorem zaz9{n:Nat}{r:Nat->Int}(h:i<n):(rowV n r)[i]?=some (.int (r i)):=by unfold rowV;simp[h]
theorem zbu6{n:Nat}{r s:Nat->Int}(h:∀ t,t<n->r t=s t):rowV n r=rowV n s:=by
 unfold rowV
 refine zcn7 fun t ht=>?_
 rw[h t (zcq6.mp ht)]
theorem zbf1(n:Nat)(r:Nat->Int):rowV n r=((List.range n).map r).map V.int:=by unfold rowV;rw[zco0];rfl
theorem ref_at{i:Int}{p:Addr}(h0:0<=i)(h:ps[i.toNat]?=some p):atI (ps.map V.ref) i=some (.ref p):=by
 have:=zg2 (xs:=ps.map V.ref) (j:=i.toNat) (v:=.ref p) (by rw[zcm5,h];rfl)
 rw[show ((i.toNat:Nat):Int)=i by omega] at this
 exact this
theorem int_at{ns:List Int}{i:Int}{n:Int}(h0:0<=i)(h:ns[i.toNat]?=some n):atI (ns.map V.int) i=some (.int n):=by
 have:=zg2 (xs:=ns.map V.int) (j:=i.toNat) (v:=.int n) (by rw[zcm5,h];rfl)
 rw[show ((i.toNat:Nat):Int)=i by omega] at this
 exact this
theorem zbj6{v:V}{n:Nat}(h:xs.length=n+1)(e:xs[n]?=some v):atI xs (-1)=some v:=by
 unfold atI ixN
 rw[if_neg (by decide),if_pos (by omega)]
 show xs[((-1:Int)+xs.length).toNat]?=_
 rw[show ((-1:Int)+xs.length).toNat=n by omega];exact e
structure zt1(H:Hp)(a:Addr)(ps:List Addr)(n h:Nat)(g:Nat->Nat->Int):Prop where
 out:H a=some (.lst (ps.map V.ref))
 len:ps.length=n
 row:∀ (i:Nat) (p:Addr),ps[i]?=some p->H p=some (.lst (rowV h (g i)))
theorem zt1.same{a:Addr}{n h:Nat}{g:Nat->Nat->Int}(G:zt1 H a ps n h g)(s:Same H H'):zt1 H' a ps n h g:=⟨s _ _ G.out,G.len,fun i p e=>s _ _ (G.row i p e)⟩
theorem zt1.ext{a:Addr}{n h:Nat}{g g':Nat->Nat->Int}(G:zt1 H a ps n h g)(e:∀ i t,i<n->t<h->g i t=g' i t):zt1 H a ps n h g':=
 ⟨G.out,G.len,fun i p q=>by rw[G.row i p q];rw[zbu6 fun t ht=>e i t (by have:=(zcm1.mp q).1;have:=G.len;omega) ht]⟩
theorem zt1.some{H:Hp}{a:Addr}{ps:List Addr}{n h:Nat}{g:Nat->Nat->Int}(G:zt1 H a ps n h g){i:Nat}(hi:i<n):∃ p,ps[i]?=.some p/\H p=.some (.lst (rowV h (g i))):=by
 have hl:i<ps.length:=by rw[G.len];exact hi
 exact⟨ps[i],zcm0 hl,G.row i _ (zcm0 hl)⟩
structure Wk(J:It)(n:Nat)(H1:Hp)(X:Nat->V->Hp->Prop):Prop where
 go:∀ i H,Same H1 H->i<n->J.go i H
 stop:∀ H,Same H1 H->J.stop n H
 yld:∀ i H x H',Same H1 H->i<n->J.yld i H x H'->Same H H'/\X i x H'
theorem Wk.range{lo:Int}{n:Nat}:Wk (Itr lo n) n H1 fun i x _=>x=.int (lo+i):=
 ⟨fun i H _ h=>h,fun H _=>zcn4 _,fun i H x H' _ _ y=>by obtain⟨rfl,rfl⟩:=y;exact⟨Same.refl _,rfl⟩⟩
theorem Wk.list{K:zcm2}{a:Addr}(h:SqL K H1 a xs):Wk (Itl K a) xs.length H1 fun i x _=>xs[i]?=some x:=
 ⟨fun i H s hi=>⟨xs,xs[i],s.seq h,by simp[hi]⟩,fun H s=>⟨xs,s.seq h,zcn4 _⟩,fun i H x H' s _ y=>by
  obtain⟨e,y⟩:=y
  subst e
  exact⟨Same.refl _,y xs (s.seq h)⟩⟩
structure zaj0(H1 H:Hp)(acc:Addr)(ps:List Addr)(n:Nat)(f:Nat->HO):Prop where
 facc:H1 acc=none
 same:Same H1 H
 out:H acc=some (.lst (ps.map V.ref))
 len:ps.length=n
 nd:ps.Nodup
 nin:acc ∉ ps
 row:∀ i p,ps[i]?=some p->H1 p=none/\H p=some (f i)
theorem zaj0.free{acc:Addr}{n:Nat}{f:Nat->HO}(F:zaj0 H1 H acc ps n f){p:Addr}(h:p∈ps):H1 p=none:=by
 obtain⟨i,hi⟩:=zcp3 h
 exact (F.row i p hi).1
theorem zaj0.some{H1 H:Hp}{acc:Addr}{ps:List Addr}{n:Nat}{f:Nat->HO}(F:zaj0 H1 H acc ps n f){i:Nat}(hi:i<n):∃ p,ps[i]?=.some p/\H p=.some (f i):=by
 have hl:i<ps.length:=by rw[F.len];exact hi
 exact⟨ps[i],zcm0 hl,(F.row i _ (zcm0 hl)).2⟩
section
variable {K:zcm2}{g:TG}{tt:TT}{te:TE}{σ0:St}{H1:Hp}{Q:VK}{J:It}{n:Nat}{X:Nat->V->Hp->Prop}
theorem zas7(w:Wk J n H1 X)(hn:n<sizeLine)(f:Nat->HO)(Ps:Nat->St->Prop)(h0:Ps 0 σ0)(turn:∀ i x σ H (R:St->V->Hp->Prop) (S:St->Hp->Prop),i<n->Same H1 H->X i x H->Ps i σ->(∀ σ2 p H5,H p=none->Same H H5->H5 p=some (f i)->Ps (i+1) σ2->R σ2 (.ref p) H5)->g x σ H fun σ2 H3=>tt σ2 H3 fun b H4=>br b (te σ2 H4 fun v H5=>R σ2 v H5) (S σ2 H4))(fin:∀ acc ps H,zaj0 H1 H acc ps n f->Q (.ref acc) H):zad9 J g tt te σ0 H1 Q:=by
 unfold zad9
 intro acc H2 hf hs ha
 refine⟨fun i m ys σ H=>m=n - i/\i<=n/\∃ ps:List Addr,ys=ps.map V.ref/\zaj0 H1 H acc ps i f/\Ps i σ,⟨n,by simp,zcp5 _,[],rfl,⟨hf,hs,ha,rfl,List.nodup_nil,by simp,fun i p e=>by simp at e⟩,h0⟩,?_⟩
 rintro i m ys σ H ⟨rfl,hi,ps,rfl,F,P⟩
 refine⟨F.out,by rw[zcl9,F.len];omega,?_⟩
 by_cases hlt:i<n
 ·refine .inr ⟨w.go i H F.same hlt,fun x H' y=>?_⟩
  obtain⟨s1,x1⟩:=w.yld i H x H' F.same hlt y
  refine turn i x σ H' (fun σ2 v H5=>cPut _ acc (ps.map V.ref) i (n - i) σ2 v H5) (fun σ2 H4=>zaq0 _ (ps.map V.ref) i (n - i) σ2 H4) hlt (F.same.trans s1) x1 P ?_
  intro σ2 p H5 fp s5 hp P2
  have fp0:H p=none:=s1.free fp
  have s15:=s1.trans s5
  have na:p≠acc:=Ne.symm (za4 F.out fp0)
  unfold cPut
  refine⟨s15 _ _ F.out,fun H6 c6 h6=>⟨n - (i+1),by omega,rfl,hlt,ps++[p],by rw[zco1];rfl,⟨F.facc,(F.same.trans s15).chg F.facc c6,by rw[zco1];exact h6,by rw[zcn1,F.len];rfl,?_,?_,?_⟩,P2⟩⟩
  ·rw[List.nodup_append]
   refine⟨F.nd,by simp,fun a ha b hb=>?_⟩
   have:b=p:=by simpa using hb
   subst this
   obtain⟨k,hk⟩:=zcp3 ha
   exact za4 (F.row k a hk).2 fp0
  ·intro hz
   rcases zcq0.mp hz with hz|hz
   ·exact F.nin hz
   ·exact na (by simpa using hz:acc=p).symm
  ·intro k q e
   by_cases hk:k<ps.length
   ·rw[zco2 hk] at e
    obtain⟨z1,z2⟩:=F.row k q e
    exact⟨z1,c6 _ _ (fun z=>F.nin (z▸zcm6 e)) (s15 _ _ z2)⟩
   ·rw[zco5 (by omega)] at e
    have hk2:k - ps.length=0:=by
     have:=(zcm1.mp e).1
     simp at this;omega
    rw[hk2] at e
    have:p=q:=by simpa using e
    subst this
    have:k=i:=by have:=F.len;omega
    subst this
    exact⟨F.same.free fp0,c6 _ _ na hp⟩
 ·have e:i=n:=by omega
  subst e
  exact .inl ⟨w.stop H F.same,fin acc ps H F⟩
theorem zk7(w:Wk J n H1 X)(hn:n<sizeLine)(f:Nat->V)(p:Nat->Bool)(Ps:Nat->St->Prop)(h0:Ps 0 σ0)(turn:∀ i x σ H (R:St->V->Hp->Prop) (S:St->Hp->Prop),i<n->Same H1 H->X i x H->Ps i σ->(p i=true->∀ σ2 H5,Same H H5->Ps (i+1) σ2->R σ2 (f i) H5)->(p i=false->∀ σ2 H5,Same H H5->Ps (i+1) σ2->S σ2 H5) ->
   g x σ H fun σ2 H3=>tt σ2 H3 fun b H4=>br b (te σ2 H4 fun v H5=>R σ2 v H5) (S σ2 H4))(fin:∀ acc H,H1 acc=none->Same H1 H->H acc=some (.lst (((List.range n).filter p).map f))->Q (.ref acc) H):zad9 J g tt te σ0 H1 Q:=by
 unfold zad9
 intro acc H2 hf hs ha
 refine⟨fun i m ys σ H=>m=n - i/\i<=n/\ys=((List.range i).filter p).map f/\Same H1 H/\H acc=some (.lst ys)/\Ps i σ,⟨n,by simp,zcp5 _,rfl,hs,ha,h0⟩,?_⟩
 rintro i m ys σ H ⟨rfl,hi,rfl,s,hy,P⟩
 have hlen:(((List.range i).filter p).map f).length<=i:=by
  rw[zcl9]
  have:=List.length_filter_le p (List.range i)
  rwa [zcq9] at this
 refine⟨hy,by omega,?_⟩
 by_cases hlt:i<n
 ·refine .inr ⟨w.go i H s hlt,fun x H' y=>?_⟩
  obtain⟨s1,x1⟩:=w.yld i H x H' s hlt y
  refine turn i x σ H' (fun σ2 v H5=>cPut _ acc _ i (n - i) σ2 v H5) (fun σ2 H4=>zaq0 _ _ i (n - i) σ2 H4) hlt (s.trans s1) x1 P ?_ ?_
  ·intro hp σ2 H5 s5 P2
   unfold cPut
   refine⟨s5 _ _ (s1 _ _ hy),fun H6 c6 h6=>⟨n - (i+1),by omega,rfl,hlt,?_,((s.trans s1).trans s5).chg hf c6,h6,P2⟩⟩
   rw[List.range_succ,List.filter_append,zco1]
   congr 1
   simp[hp]
  ·intro hp σ2 H5 s5 P2
   unfold zaq0
   refine⟨n - (i+1),by omega,rfl,hlt,?_,(s.trans s1).trans s5,s5 _ _ (s1 _ _ hy),P2⟩
   rw[List.range_succ,List.filter_append,zco1]
   simp[hp]
 ·have e:i=n:=by omega
  subst e
  exact .inl ⟨w.stop H s,fin acc H hf s hy⟩
theorem ze1(n:Nat):(List.range n).filter (fun _=>true)=List.range n:=by simp
end
def ChgS(ps:List Addr)(H H':Hp):Prop:=∀ b o,b ∉ ps->H b=some o->H' b=some o
theorem ChgS.refl(ps:List Addr)(H:Hp):ChgS ps H H:=fun _ _ _ e=>e
theorem ChgS.same(x:ChgS ps H H1)(y:Same H1 H2):ChgS ps H H2:=fun b o h e=>y b o (x b o h e)
theorem zbt3(n:Nat):(List.range n).all (fun _=>true)=true:=by simp
def Itd(hi:Int)(n:Nat):It:=⟨fun i _=>i<n,fun i H x H'=>H'=H/\x=.int (hi - i),fun i _=>n<=i⟩
section
variable {X:Cx}{tg:Expr}
@[irreducible] def zcd4(i j:Int)(H:Hp)(R:It->Hp->Prop):Prop:=(-(2 ^ 62)<=i/\i<2 ^ 62/\-(2 ^ 62)<=j/\j<2 ^ 62)/\R (Itd i (i - j).toNat) H
def qiRngD(ta:TA):TI:=fun σ H R=>ta σ H fun vs H1=>match vs with
 | [.int i,.int j,.int (-1)]=>zcd4 i j H1 R
 | _=>False
end
section
variable {X:Cx}{K:zcm2}
@[irreducible] def rMinL(K:zcm2)(p:Addr)(H:Hp)(Q:VK):Prop:=∃ ns:List Int,SqL K H p (ns.map V.int)/\0<ns.length/\∀ M:Int,M∈ns->(∀ a∈ns,M<=a)->Q (.int M) H
def zbw2(K:zcm2):List V->Hp->VK->Prop:=fun xs H Q=>match xs with
 | [.ref p]=>rMinL K p H Q
 | [.int i,.int j]=>Q (.int (if j<i then j else i)) H
 | _=>False
theorem cMinK(hK:X.K=K)(hc:X.calm=true):zo8 X (.builtin "min") (zbw2 K):=by
 subst hK
 intro pins s σ H xs us Q I r h
 unfold zbw2 at h
 split at h
 ·unfold rMinL at h
  obtain⟨ns,h1,h2,h3⟩:=h
  obtain⟨u,rfl,rx⟩:=zaj8 r
  cases rx
  obtain⟨its,r',pl,hz⟩:=I.list h1
  have hi:=zy8 r'
  obtain⟨ys,hx⟩:=hi.allInts.items
  have e1:ns=ys.toList.map (·.1):=by
   rw[← nums_intItems,← hx]
   exact (show numsOf its.toArray.toList=ns from hi.numsOf).symm
  have hs:0<ys.size:=by
   have z:ns.length=ys.size:=by
    conv=>lhs;rw[e1]
    rw[zcl9,zco9]
   omega
  have hl':s.heap.IsList _ (intItems ys):=hx▸pl.isList
  refine min_intList (I.ok.hd hc) hl' hs fun v h' tk hv hk=>?_
  obtain⟨t,rfl⟩:=intItems_at hv
  have best:=argBest_lt (numAt ys) (ys.size - 1)
  refine⟨.int _,H,I.kept hk,⟨t,rfl⟩,h3 _ ?_ fun a ha=>?_⟩
  ·rw[e1,numAt_eq]
   exact getD_mem (by rw[zcl9,zco9];omega)
  ·rw[e1] at ha
   obtain⟨j,hj,rfl⟩:=mem_getD ha
   rw[zcl9,zco9] at hj
   rw[← numAt_eq]
   exact best.2 j (by omega)
 ·exact zbh7 hc pins s σ H _ us Q I r ⟨_,_,rfl,h⟩
 ·exact h.elim
theorem ptW{t:TT}(h:PW X e t):PT X e t:=h.pt
end
def zce0(o:Obj):Bool:=match o.data with
 | .cls cd=>cd.name=="NoText"
 | _=>false
def Chd(B:Heap)(cls:Value):Prop:=∃ (C:Addr) (o:Obj),cls=.ref C/\B.get? C=some o/\zce0 o=true
def ExAt(B h:Heap)(e:Addr)(cls:Value)(dx:Option Addr):Prop:=
 ∃ (oe:Obj) (vs:Array Value),h.get? e=some oe/\oe.cls=cls/\oe.dict=dx/\oe.data=.fields vs/\1<vs.size /\
  (vs[1]?=some .none∨∃ (T:Addr) (oT:Obj) (ts:Array Value),vs[1]?=some (.ref T)/\B.get? T=none/\T≠e/\h.get? T=some oT/\oT.data=.fields ts/\3<ts.size/\ts[3]?=some .none)/\(vs[2]?=some .none∨Chd B cls)
def Th(h h':Heap):Prop:=∀ b o,h.get? b=some o->∃ o',h'.get? b=some o'
structure FlyX(B:Heap)(l:List Env)(e:Addr)(cls:Value)(dx:Option Addr)(h:Heap):Prop where
 stays:B.StaysIn h
 new:B.get? e=none
 frames:h.FunFrames B l
 ex:ExAt B h e cls dx
section
variable {M:Model}{A:Around}{E:Value->Shared->Prop}{s:Shared}{B:Heap}{env:Env}{outer:List Env}{L e:Addr}{cls:Value}{dx:Option Addr}{Q:Unit->Shared->Prop}
theorem zae0(f:Array Value->Array Value)(o:Obj):(Obj.mapFields f o).cls=o.cls/\(Obj.mapFields f o).dict=o.dict:=by
 obtain⟨c,d,dt,sl⟩:=o
 cases dt<;>exact⟨rfl,rfl⟩
theorem zat0{head:Value}{hn:Bool}{oe:Obj}{vs:Array Value}(hfr:A.frames=some (env :: outer))(hf:env.frame=some L)(f1:B.StaysIn s.heap)(f2:B.get? e=none)(f3:s.heap.FunFrames B (env :: outer))(he:s.heap.get? e=some oe)(hc:oe.cls=cls)(hdx:oe.dict=dx)(hd:oe.data=.fields vs)(hsz:1<vs.size)(h2c:vs[2]?=some .none∨Chd B cls)(hQ:∀ h',FlyX B (env :: outer) e cls dx h'->s.heap.UpToSlots h'->Th s.heap h'->Q () { s with heap:=h' }) :
  wpAny M A (do let a ← frameOf env;let pl ← entryPlaceOf L hn;let b ← EntryCells.newEntry head a .none (rawInt L) .none pl;setField (.ref e) 1 b) (fun _ s1=>wpAny M A (setFlight (.ref e) none) Q E s1) E s:=by
 have hene:e ∉ (env :: outer).filterMap (·.frame):=fun hm=>by
  obtain⟨_,o,ho,hnf⟩:=f3.mem hm
  rw[he] at ho
  cases ho
  exact hnf vs hd
 refine zcv3 (wpAny_frameOf_fun hfr f3 hf fun g hg=>zcv3 (wpAny_entryPlaceOf fun pl hpl=>?_))
 refine zcv3 (wpAny_newObj_type ?_ (hpl.sizeOk5 _ _ _ _ _))
 have e1:g.get? e=some oe:=(hg.2.1 e hene).trans he
 have lt1:=zcn3 e1
 generalize hO:({ cls:=.type "traceback",data:=.fields ([head,.ref L,.none,rawInt L,.none]++(if pl.isEmpty then List.replicate 6 Value.none else pl)).toArray }:Obj)=O
 have hOd:O.data=.fields ([head,.ref L,.none,rawInt L,.none]++(if pl.isEmpty then List.replicate 6 Value.none else pl)).toArray:=by rw[← hO]
 have hOz:3<([head,.ref L,.none,rawInt L,.none]++(if pl.isEmpty then List.replicate 6 Value.none else pl)).toArray.size:=by simp
 have hOf:O.isFreed=false:=by rw[← hO];rfl
 generalize ([head,.ref L,.none,rawInt L,.none]++(if pl.isEmpty then List.replicate 6 Value.none else pl)).toArray=ts at hOd hOz
 have e2:(g.push O).get? e=some oe:=zcm3 _ e1
 have t2:(g.push O).get? g.objs.size=some O:=zcn8 _ hOf
 have nT:g.objs.size≠e:=zcs7 lt1
 refine wpAny_setField e2 hd hsz ?_
 have d3:=Obj.data_mapFields hd (fun a=>a.setIfInBounds 1 (Value.ref g.objs.size))
 have e3:=zcq7 (Obj.mapFields fun a=>a.setIfInBounds 1 (Value.ref g.objs.size)) e2 (Obj.isFreed_of_fields d3)
 have t3:=(zco7 (g.push O) (Obj.mapFields fun a=>a.setIfInBounds 1 (Value.ref g.objs.size)) (Ne.symm nT)).trans t2
 unfold setFlight
 refine zcv3 (wpAny_field e3 d3 (x:=.ref g.objs.size) (by simp[hsz]) ?_)
 rw[if_pos (by simp)]
 refine wpAny_setField t3 hOd hOz (hQ _ ?_ ?_ ?_)
 ·have kp:∀ b o,b≠e->g.get? b=some o->(((g.push O).update e (Obj.mapFields fun a=>a.setIfInBounds 1 (Value.ref g.objs.size))).update g.objs.size (Obj.mapFields fun a=>a.setIfInBounds 3 Value.none)).get? b=some o:=fun b o hb hz=>by
   rw[zco7 _ _ (zcs7 (zcn3 hz)),zco7 _ _ (Ne.symm hb)]
   exact zcm3 _ hz
  have d4:=Obj.data_mapFields hOd (fun a=>a.setIfInBounds 3 Value.none)
  have t4:=zcq7 (Obj.mapFields fun a=>a.setIfInBounds 3 Value.none) t3 (Obj.isFreed_of_fields d4)
  have e4:=(zco7 ((g.push O).update e (Obj.mapFields fun a=>a.setIfInBounds 1 (Value.ref g.objs.size))) (Obj.mapFields fun a=>a.setIfInBounds 3 Value.none) nT).trans e3
  have pf:=zae0 (fun a=>a.setIfInBounds 1 (Value.ref g.objs.size)) oe
  refine⟨fun b o hb=>kp b o (fun z=>by rw[z,f2] at hb;cases hb) ((hg.2.1 b fun hm=>by rw[(f3.mem hm).1] at hb;cases hb).trans (f1 b o hb)),f2,f3.of_keeps fun b o hb hnf=>?_,_,_,e4,pf.1.trans hc,pf.2.trans hdx,d3,by simpa using hsz,.inr ⟨_,_,_,by simp[hsz],?_,nT,t4,d4,by simpa using hOz,by simp[hOz]⟩,h2c.imp (fun z=>by rw[Array.getElem?_setIfInBounds_ne (by decide)];exact z) id⟩
  ·obtain⟨sl,hs⟩:=hg.2.2 b o hb
   refine⟨_,kp b _ (fun z=>?_) hs,rfl⟩
   rw[z,he] at hb
   cases hb
   exact hnf vs hd
  ·cases q:B.get? g.objs.size with
   | none=>rfl
   | some o=>
    have z1:=f1 _ _ q
    have z2:=(hg.2.1 _ fun hm=>by rw[(f3.mem hm).1] at q;cases q).trans z1
    exact absurd (zcn3 z2) (zcs5 _)
 ·intro b o hb hnf
  obtain⟨sl,hs⟩:=hg.2.2 b o hb
  refine⟨sl,?_⟩
  rw[zco7 _ _ (zcs7 (zcn3 hs)),zco7 _ _ (fun z=>?_)]
  ·exact zcm3 _ hs
  ·rw[← z,he] at hb
   cases hb
   exact hnf vs hd
 ·intro b o hb
  by_cases hbe:b=e
  ·subst hbe
   exact⟨_,(zco7 _ _ nT).trans e3⟩
  ·obtain⟨sl,hs⟩:=hg.2.2 b o hb
   refine⟨{ o with slots:=sl },?_⟩
   rw[zco7 _ _ (zcs7 (zcn3 hs)),zco7 _ _ (Ne.symm hbe)]
   exact zcm3 _ hs
theorem zbu3(hfr:A.frames=some (env :: outer))(hf:env.frame=some L)(F:FlyX B (env :: outer) e cls dx s.heap)(hQ:∀ h',FlyX B (env :: outer) e cls dx h'->s.heap.UpToSlots h'->Th s.heap h'->Q () { s with heap:=h' }):wpAny M A (noteFrame (.ref e) env) (fun _ s1=>wpAny M A (setFlight (.ref e) none) Q E s1) E s:=by
 obtain⟨f1,f2,f3,oe,vs,he,hc,hdx,hd,hsz,hT,h2c⟩:=F
 unfold noteFrame
 rw[hf]
 rcases hT with h1|⟨T,oT,ts,h1,bT,nT,gT,dT,zT,vT⟩
 ·refine zcv3 (wpAny_field he hd h1 ?_)
  dsimp only
  rw[if_neg (by simp)]
  exact zat0 hfr hf f1 f2 f3 he hc hdx hd hsz h2c hQ
 ·refine zcv3 (wpAny_field he hd h1 ?_)
  dsimp only
  rw[if_pos (by simp)]
  refine zcv3 (wpAny_field gT dT vT ?_)
  rw[if_neg (by simp[rawInt])]
  refine zcv3 (wpAny_setField gT dT zT ?_)
  have ne:∀ b o,s.heap.get? b=some o->(∀ vs,o.data≠.fields vs)->b≠T:=fun b o hb hnf z=>by
   rw[z,gT] at hb
   cases hb
   exact hnf ts dT
  have kp:∀ b o,b≠T->s.heap.get? b=some o->(s.heap.update T (Obj.mapFields fun a=>a.setIfInBounds 3 Value.none)).get? b=some o:=fun b o hb hz=>by
   rw[zco7 _ _ (Ne.symm hb)];exact hz
  refine zat0 (s:={ s with heap:=s.heap.update T (Obj.mapFields fun a=>a.setIfInBounds 3 Value.none) }) hfr hf (fun b o hb=>kp b o (fun z=>by rw[z,bT] at hb;cases hb) (f1 b o hb)) f2 (f3.of_keeps fun b o hb hnf=>⟨o,kp b o (ne b o hb hnf) hb,rfl⟩)
   (kp e oe (Ne.symm nT) he) hc hdx hd hsz h2c fun h' F' U W=>hQ h' F' (fun b o hb hnf=>U b o (kp b o (ne b o hb hnf) hb) hnf) fun b o hb=>?_
  by_cases hbT:b=T
  ·subst hbT
   exact W b _ (zcq7 (Obj.mapFields fun a=>a.setIfInBounds 3 Value.none) gT (Obj.isFreed_of_fields (Obj.data_mapFields dT _)))
  ·exact W b o (kp b o hbT hb)
theorem zbo6(hfr:A.frames=some (env :: outer))(hf:env.frame=some L)(F:FlyX B (env :: outer) e cls dx s.heap)(hQ:∀ h',FlyX B outer e cls dx h'->s.heap.UpToSlots h'->Th s.heap h'->Q () { s with heap:=h' }):wpAny M A (leaving env (.ref e)) Q E s:=by
 unfold leaving
 exact zcv3 (zbu3 hfr hf F fun h' F' U W=>hQ h' ⟨F'.stays,F'.new,F'.frames.2.2,F'.ex⟩ U W)
end
structure zah2(X:Cx)(pins:List (Addr×Obj))(σ:St)(H:Hp)(B:Heap)(e:Addr)(cls:Value)(dx:Option Addr)(s:Shared):Prop where
 inv:Inv X pins σ H s
 hok:HOk X.prog X.w H B
 fly:FlyX B X.stack e cls dx s.heap
 kb:∀ b o,X.s₀.heap.get? b=some o->X.H₀ b=none->b ∉ X.fs->b ∉ X.ex->B.get? b=some o
 en:∀ o,X.s₀.heap.get? e=some o->e∈X.ex
def CXR(P:Program)(w:World):CXT:=fun outer H s E e s'=>∃ (ea:Addr) (cls:Value) (dx:Option Addr) (H':Hp) (B:Heap),e=.ref ea/\s'.os=s.os/\AllBare s'.gens/\HOk P w H' B/\FlyX B outer ea cls dx s'.heap /\
 Un (frs outer) [] H H' s.heap s'.heap/\(∀ b o,s.heap.get? b=some o->H b=none->b ∉ frs outer->B.get? b=some o)/\(∀ o,s.heap.get? ea≠some o)/\E cls dx H'
section
variable {X:Cx}{pins:List (Addr×Obj)}{σ:St}{H:Hp}{s s':Shared}
theorem zab7(I:Inv X pins σ H s){b:Addr}{o:Obj}(e:X.s₀.heap.get? b=some o)(h:b ∉ X.fs):b ∉ frs X.stack:=fun hm=>by
 rcases zcm9.mp (I.stkSub b hm) with z|z
 ·exact absurd (zco6 (zcn3 e) I.ok.above) (by rw[z];exact zcs5 _)
 ·exact h z
theorem zah2.of_call{E:XK}{e:Value}(I:Inv X pins σ H s)(h:CXR X.prog X.w X.stack H s E e s'):∃ (ea:Addr) (cls:Value) (dx:Option Addr) (H':Hp) (B:Heap),e=.ref ea/\zah2 X pins σ H' B ea cls dx s'/\E cls dx H':=by
 obtain⟨ea,cls,dx,H',B,rfl,os,bare,hok,fly,un,kb,en,hE⟩:=h
 refine⟨ea,cls,dx,H',B,rfl,⟨I.call' os un (hok.kept fly.stays) bare (fun b hb=>absurd hb (by simp)),hok,fly,fun b o e n h1 h2=>?_,fun o e=>?_⟩,hE⟩
 ·have k:=I.base.keep b o e n h1 h2
  exact kb b o k (I.base.free b o e n h2) (zab7 I e h1)
 ·apply Classical.byContradiction
  intro hx
  obtain⟨o',k⟩:=I.base.there ea o e hx
  exact en o' k
theorem zah2.of_raise{e:Addr}{cls:Value}{args:List Value}{h':Heap}{t':Nat}(I:Inv X pins σ H s)(m:Heap.MadeExcOf s.heap h' e cls args):zah2 X pins σ H (PySem.W.hideAll s.heap (frs X.stack)) e cls none { s with heap:=h',toks:=t' }:=by
 have nofr:∀ b o,H b=some o->b ∉ frs X.stack:=fun b o hb hm=>by rw[I.stkFree b hm] at hb;cases hb
 refine⟨I.kept m.keeps,fun a o ha=>?_,⟨fun b o hb=>m.keeps _ _ (PySem.W.of_hideAll _ hb),?_,?_,?_⟩,fun b o e n h1 h2=>?_,fun o hz=>?_⟩
 ·refine (I.hok a o ha).stay (fun b u hb hu=>zct9 _ hu ?_) (fun _ q=>q) fun _ _ q=>q
  rcases hb with rfl|hb
  ·exact nofr _ _ ha
  ·exact nofr _ _ hb
 ·cases q:(PySem.W.hideAll s.heap (frs X.stack)).get? e with
  | none=>rfl
  | some o=>
   have:=PySem.W.of_hideAll _ q
   rw[m.new] at this
   cases this
 ·refine Heap.FunFrames.of_keeps (fun b o hb _=>⟨o,m.keeps b o hb,rfl⟩) (PySem.W.funFrames_hide I.stack fun env he a hf=>?_)
  exact zcu4.mpr ⟨env,he,hf⟩
 ·obtain⟨t,h1,_,_⟩:=m.there
  exact⟨_,_,h1,rfl,rfl,rfl,by simp,.inl rfl,.inl rfl⟩
 ·exact zct9 _ (I.base.keep b o e n h1 h2) (zab7 I e h1)
 ·apply Classical.byContradiction
  intro hx
  obtain⟨o',k⟩:=I.base.there _ o hz hx
  rw[m.new] at k
  cases k
def XOut(X:Cx)(E:XK):Prop:=∀ (pins:List (Addr×Obj)) (σ:St) (H:Hp) (B:Heap) (e:Addr) (cls:Value) (dx:Option Addr) (s:Shared),zah2 X pins σ H B e cls dx s->E cls dx H->X.xe (.ref e) s
theorem passR{E:XK}(hx:XOut X E):zai9 (CXR X.prog X.w) X E:=fun pins σ H s e s' I h=>by
 obtain⟨ea,cls,dx,H',B,rfl,F,hE⟩:=zah2.of_call I h
 exact hx _ _ _ _ _ _ _ _ F hE
theorem zao6{P:Program}{w:World}:zai9 (CXR P w) X E0:=fun _ _ _ _ _ _ _ h=>by
 obtain⟨_,_,_,_,_,_,_,_,_,_,_,_,_,h⟩:=h
 exact (show False from h).elim
end
theorem xout{P:Program}{w:World}{K:zcm2}{mg:Str->Option Value}{base:Heap}{N:List Str}{cd:Value}{A:Around}{outer:List Env}{s:Shared}{E:XK} :
  XOut (cxOf (CXR P w) P w K mg base N qual scope f cd A outer s H E) E:=fun pins σ H' B e cls dx s' F hE=>by
 have I:=F.inv
 refine zbo6 (outer:=outer) I.ok.frames (rfl:(envOfC qual scope s.heap.objs.size f cd).frame=some s.heap.objs.size) F.fly fun h' F' U W=>?_
 have kb:∀ b o,s.heap.get? b=some o->H b=none->b ∉ frs outer->B.get? b=some o:=fun b o e n h1=>F.kb b o e n h1 (by exact zcp1)
 refine⟨e,cls,dx,H',B,rfl,I.os,I.bare,F.hok,F',?_,kb,fun o z=>absurd (F.en o z) (by exact zcp1),hE⟩
 have un:Un (frs outer) [] H H' s.heap s'.heap:=I.base
 refine⟨fun b o e n h1 _=>F'.stays _ _ (kb b o e n h1),fun b o e n h1 h2=>?_,un.free,fun b o e h2=>?_,un.tups,un.frzs,un.tbls⟩
 ·obtain⟨sl,k⟩:=un.slot b o e n h1 h2
  obtain⟨_,o2,ho2,hd⟩:=I.ok.funs.mem h1
  have:o2=o:=Option.some.inj (ho2.symm.trans e)
  subst this
  obtain⟨sl',k'⟩:=U b _ k hd
  exact⟨sl',k'⟩
 ·obtain⟨o',k⟩:=un.there b o e h2
  exact W b o' k
section
variable {X:Cx}{x:Str}{C:Addr}{bm:List Value}{B newId initId:String}{np cpos pos:Pos}{e₀:Expr}{rest:List Expr}{t:TA}{E:XK}
def qRaise(C:Addr)(E:XK)(t:TA):TS:=fun _ σ H=>t σ H fun vs H1=>vs.length<=sizeLine/\E (.ref C) none H1
theorem zbm1(O:OwnCls x C bm newId X.mg X.base)(FB:ExcBaseFacts B newId initId bm)(hc:X.calm=true)(hout:XOut X E)(ha:PA X (e₀ :: rest) t)(hg:Gl X x:=by rfl)(hd:(x==("__debug__":Str))=false:=by decide)(he:starEach (e₀ :: rest) X.env=(false,eval e₀ X.env) :: starEach rest X.env:=by rfl)(hpl:(backTo cpos (starEach rest X.env)).any (·.1)=false:=by rfl) :
  PS X (.Raise (some (.Call (.Name x np) (e₀ :: rest) [] cpos)) none pos) (qRaise C E t):=by
 intro pins s σ H D I h
 obtain⟨tl,N,nm,q,bs,hdct,sn,sub,ab,col,dd,k0,k1,k2,k3,k5,mN,hC,hN,hni,T⟩:=O.obj
 refine wpAny_Raise_call_subT (C:=C) (nm:=nm) (q:=q) (N:=N) (bs:=bs) (bm:=tl) (hdct:=hdct) (sn:=sn) (sub:=sub) (ab:=ab) (col:=col) (dd:=dd) (k0:=k0) (k1:=k1) (k2:=k2) (k3:=k3) (k5:=k5) FB (mN:=mN)
  (T.hasType FB.hasBase) (I.ok.hd hc) (by rw[he];show (false || (backTo cpos (starEach rest X.env)).any (·.1))=false;rw[hpl];rfl) hni (zak8 I hg O.bound ⟨rfl,?_⟩ hd)
 have hA:=ha cpos pins s σ H _ I h
 rw[he] at hA ⊢
 refine Calls.evalArgs_plain (thn hA fun us s2 ⟨vs,H1,I1,r,hz,q⟩=>⟨rfl,by rw[← r.length];exact hz,I1.bk _ _ hC,hN.keeps I1.bk,T.keeps I1.bk,fun h' e m=>?_⟩)
 exact hout _ _ _ _ _ _ _ _ (zah2.of_raise (t':=s2.toks) I1 m) q
end
section
variable {P:Program}{w:World}{K:zcm2}{mg:Str->Option Value}{base:Heap}
theorem Fun.okR{x:Str}{fd:FuncData}{N ps:List Str}{k:Nat}{sp:Sp}(F:Fun K x qual st f fd)(S:za8 N ps (za6 st))(len:∀ vs H Q E,sp vs H Q E->vs.length=ps.length)(hbody:∀ (cdv:Value) (A:Around) (outer:List Env) (s:Shared) (H:Hp) (vs:List V) (Q:VK) (E:XK),Room k (A.deeper (envOfC qual (za6 st) s.heap.objs.size f cdv))->XOut (cxOf (CXR P w) P w K mg base N qual (za6 st) f cdv A outer s H E) E->sp vs H Q E ->
   ∃ t,PSs (cxOf (CXR P w) P w K mg base N qual (za6 st) f cdv A outer s H E) (zi8 st) t/\t { nx:=fun _ H'=>Q .non H',rt:=Q } (zah6 N vs) H):FnOk P w K mg base (CXR P w) (k+1) f fd ps sp:=by
 obtain⟨oc,od,kV,doc,pm,an,cdv,ct,osl,rfl,lk,hcd⟩:=F.ex
 refine fn_of lk hcd S len fun A outer s H vs Q E hr hsp=>?_
 exact hbody cdv A outer s H vs Q E hr xout hsp
end
set_option maxHeartbeats 4000000
structure ExcK(K:zcm2)(D:Addr):Prop where
 h1:zcp0 K (.ref D) "__getattribute__"=some (some (.builtin "BaseException.__getattribute__"))
 h2:zcp0 K (.ref D) "__getattr__"=some none
 h3:zcp0 K (.ref D) "__class__"=some (some (.builtin "object.__class__"))
 h4:zco8 K (.ref D) (.type "BaseException")=some true
 h5:PySem.W.mroIn K D (.type "object")=some true
def ExcIs(e:Addr)(cls:Value)(dx:Option Addr)(h:Heap):Prop:=∃ (oe:Obj) (vs:Array Value),h.get? e=some oe/\oe.cls=cls/\oe.dict=dx/\oe.data=.fields vs
abbrev excO(ea:Addr)(cls:Value)(dx:Option Addr):HO:=.ext (ExcIs ea cls dx)
section
variable {X:Cx}{pins:List (Addr×Obj)}{σ:St}{H:Hp}{s:Shared}
theorem ze9.ex{P:Program}{w:World}{h:Heap}{a:Addr}(x:ze9 P w H h a o):∃ u,h.get? a=some u:=by
 cases o with
 | lst xs=>obtain⟨_,_,_,_,e⟩:=x;exact⟨_,e⟩
 | tup xs=>obtain⟨_,_,_,ob,e,_⟩:=x;exact⟨ob,e⟩
 | dK kvs=>obtain⟨_,_,_,_,ob,_,_,e,_⟩:=x;exact⟨ob,e⟩
 | dT kvs=>obtain⟨_,_,_,_,ob,_,_,e,_⟩:=x;exact⟨ob,e⟩
 | set S n=>obtain⟨ob,_,_,_,e,_⟩:=x;exact⟨ob,e⟩
 | ins C dx fs=>obtain⟨_,_,_,e,_⟩:=x;exact⟨_,e⟩
 | own y=>exact x
 | xd fs=>obtain⟨_,⟨ob,_,_,e,_⟩,_⟩:=x;exact⟨ob,e⟩
 | rng lo hi=>obtain⟨_,_,_,e⟩:=x;exact⟨_,e⟩
 | frz ob u=>obtain⟨e,_⟩:=x;exact⟨_,e⟩
 | tbl ps=>exact⟨_,(show h.get? a=some _ from x)⟩
 | met f y=>exact⟨_,(show h.get? a=some _ from x)⟩
 | ext φ=>obtain⟨_,e,_⟩:=x;exact e
end
section
open PySem.W
theorem zaz2{K:Frag}{h:Heap}{mg:Str->Option Value}{x:Str}{bmB:List Value}{newId:String}(X:K.In h)(G:h.Ns zcv9 mg)(e:nsIn K zcv9 x=some (some (.ref C)))(q:excIn K C bmB newId=true):OwnCls x C bmB newId mg h:=by
 have bd:=mg_of X G e
 unfold excIn at q
 split at q
 case h_2=>cases q
 rename_i dd cd sl ho
 split at q
 case h_2=>cases q
 rename_i C1 bm k0 k1 k2 k3 n k5 hm hs
 simp only[zcn2,beq_iff_eq,Bool.not_eq_true'] at q
 obtain⟨⟨⟨⟨⟨q1,q2⟩,q3⟩,q4⟩,q5⟩,q6⟩:=q
 have z:sl=#[k0,k1,k2,k3,some (.builtin n),k5]:=by
  cases sl with
  | mk l=>rw[show l=[k0,k1,k2,k3,some (.builtin n),k5] from hs]
 cases cd with
 | mk nm bs mro ns qn hd sn sub ab col del=>
  have hm:mro=.ref C1 :: bm:=hm
  have q3:del=false:=q3
  subst q1 q2 z hm q3
  exact⟨bd,bm,ns,nm,qn,bs,hd,sn,sub,ab,col,dd,k0,k1,k2,k3,k5,_,X _ _ ho,.of_isNs (isNs_of_in X q5),nsMap_none_of_in X q5 q6,tail_of_in X q4⟩
theorem zy2{K:Frag}{t:Value}{cd:ClassData}{b:Bool}(h1:clsIn K C=some cd)(h2:typeIn K (.ref C)=some (.type "type"))(h3:subIn K t (.ref C)=some b):kitCls K t (.ref C)=some b:=by
 unfold kitCls
 dsimp only
 rw[h1,h2,if_pos (by simp)]
 exact h3
theorem zh2{K:Frag}{t:Value}{cd:ClassData}{b:Bool}(h1:clsIn K C=some cd)(h2:typeIn K (.ref C)=some (.type "type"))(h3:subIn K t (.ref C)=some b)(h4:subIn K t t=some true):kitOne K t (.ref C)=some b:=by
 unfold kitOne
 split
 ·rename_i z
  have z:t=.ref C:=by simpa using z
  subst z
  rw[h3] at h4
  exact h4.symm
 ·exact zy2 h1 h2 h3
theorem zw0{K:Frag}{cd:ClassData}{b:Bool}(h1:clsIn K C=some cd)(h2:typeIn K (.ref C)=some (.type "type"))(h3:subIn K (.type "NoneType") (.ref C)=some b):kitOne K (.type "NoneType") (.ref C)=some b:=by
 unfold kitOne
 rw[if_neg (by simp)]
 exact zy2 h1 h2 h3
theorem zn5{K:Frag}{D:Addr}{b:Bool}(h:subIn K (.ref D) (.type "ValueError")=some b):kitOne K (.ref D) (.type "ValueError")=some b:=by
 unfold kitOne kitCls
 rw[if_neg (by simp)]
 dsimp only
 rw[if_pos (by decide +kernel)]
 exact h
theorem zau6{K:Frag}{t:Value}{cd:ClassData}{b:Bool}(h0:subIn K (.ref C) (.type "BaseException")=some true)(h1:clsIn K C=some cd)(h2:typeIn K (.ref C)=some (.type "type"))(h3:subIn K t (.ref C)=some b):exmOne K t (.ref C)=some b:=by
 unfold exmOne
 rw[if_pos (by rw[h0];simp)]
 exact zy2 h1 h2 h3
end
theorem PS.nox'{X:Cx}{t:TS}(h:PS X.nox st t):PS X st t:=fun pins s σ H D I hw=>
 wpAny_mono (h pins s σ H D (I.wish _) hw) (fun f s' q=>SP.unwish q) fun _ _ z=>(show False from z).elim
abbrev bmV:List Value:=[.type "ValueError",.type "Exception",.type "BaseException",.type "object"]
abbrev newV:String:="ValueError.__new__"
set_option maxHeartbeats 1000000
set_option maxHeartbeats 2000000
def Itz(K:zcm2)(a b:Addr):It:=
 ⟨fun i H=>∃ xs ys x y,SqL K H a xs/\SqL K H b ys/\xs[i]?=some x/\ys[i]?=some y,
  fun i H v H'=>∃ p x y,v=.ref p/\H p=none/\Same H H'/\H' p=some (.tup [x,y])/\(∀ xs,SqL K H a xs->xs[i]?=some x)/\∀ ys,SqL K H b ys->ys[i]?=some y,
  fun i H=>∃ xs ys,SqL K H a xs/\SqL K H b ys/\(xs.length<=i∨ys.length<=i)⟩
theorem zbu0{P:Program}{w:World}{K:zcm2}{k:Nat}{pos:Pos}(l1 l2 z TI TO i1 i2:Addr)(D:ZipApart z TI TO i1 i2 l1 l2) :
  Turn P w K (.Tuple elts k pos) (Itz K l1 l2) [z,TI,TO,i1,i2] z (fun i h=>IsZip h z TI TO .none/\IsPair h TI (.ref i1) (.ref i2)/\(∃ a b,IsPair h TO a b)/\h.IsListIter i1 l1 i/\h.IsListIter i2 l2 i) where
 mem:=by simp
 obj:=fun i h st b hb=>by
  obtain⟨hz,hTI,⟨a,b',hTO⟩,⟨o1,e1,c1,d1⟩,⟨o2,e2,c2,d2⟩⟩:=st
  simp only[zcm9,zcp1,or_false] at hb
  rcases hb with rfl|rfl|rfl|rfl|rfl
  ·exact⟨_,hz,fun v z=>by cases z⟩
  ·exact⟨_,hTI,fun v z=>by cases z⟩
  ·exact⟨_,hTO,fun v z=>by cases z⟩
  ·exact⟨o1,e1,fun v z=>by rw[d1] at z;cases z⟩
  ·exact⟨o2,e2,fun v z=>by rw[d2] at z;cases z⟩
 keep:=fun i h h' st kp=>by
  obtain⟨hz,hTI,⟨a,b',hTO⟩,h1,h2⟩:=st
  exact⟨kp z (by simp) _ hz,kp TI (by simp) _ hTI,⟨a,b',kp TO (by simp) _ hTO⟩,h1.at fun o x=>kp i1 (by simp) o x,h2.at fun o x=>kp i2 (by simp) o x⟩
 item:=by
  intro X hP hw hK hc i pins s σ H E I hf st hg
  subst hP hw hK
  obtain⟨hz,hTI,⟨a0,b0,hTO⟩,h1,h2⟩:=st
  obtain⟨xs,ys,x,y,hq1,hq2,hx,hy⟩:=hg
  obtain⟨its1,rv1,p1,_⟩:=I.list hq1
  obtain⟨its2,rv2,p2,_⟩:=I.list hq2
  obtain⟨u,hu,ru⟩:=rv1.get hx
  obtain⟨v,hv,rv⟩:=rv2.get hy
  have hzl:z<s.heap.objs.size:=zcn3 hz
  refine wpAny_pyNext_zip_item D hz hTI hTO h1 h2 p1.isList p2.isList (x:=u) (y:=v) (by simpa using hu) (by simpa using hv) fun h3 z3 TO3 j1 j2 T3 sz3 kp3=>?_
  refine⟨_,rfl,wpAny_letOwnedTupleGo_zip z3 fun h4 z4 hs4=>?_⟩
  replace hs4:Heap.SameBut z h3 h4:=hs4
  have kp:∀ b o,b ∉ [z,TI,TO,i1,i2]->s.heap.get? b=some o->h4.get? b=some o:=fun b o hb x=>by
   simp only[zcm9,zcp1,or_false,not_or] at hb
   obtain⟨b1,b2,b3,b4,b5⟩:=hb
   exact (hs4.2 b b1).trans (kp3 b o b1 b3 b4 b5 x)
  have ht4:h4.get? s.heap.objs.size=some { cls:=.type "tuple",data:=.seq #[u,v] }:=(hs4.2 _ (zcs7 hzl)).trans T3
  have hfr:H s.heap.objs.size=none:=I.fresh
  have nof:∀ b v,H b=some v->b ∉ [z,TI,TO,i1,i2]:=fun b v hb m=>by
   have:=(hf b m).1
   rw[this] at hb
   cases hb
  have nlt:∀ b o,s.heap.get? b=some o->b≠s.heap.objs.size:=fun b o x=>zcp2 (zcn3 x)
  have hok:HOk X.prog X.w (upd H s.heap.objs.size (.tup [x,y])) h4:=fun b v' hb=>by
   by_cases e1:b=s.heap.objs.size
   ·subst e1
    rw[zb5] at hb
    cases hb
    exact⟨by show 2<=sizeLine;decide,[u,v],.cons ru (.cons rv .nil),⟨_,ht4,rfl,_,rfl⟩⟩
   ·rw[zb1 e1] at hb
    refine (I.hok b v' hb).stay (fun c w' hc q=>?_) (fun c q=>?_) (fun c ys q=>?_)
    ·rcases hc with rfl|hc
     ·exact kp _ _ (nof _ _ hb) q
     ·exact kp _ _ (nof _ _ hc) q
    ·rw[zb1 (za4 q hfr)];exact q
    ·rw[zb1 (za4 q hfr)];exact q
  have chs:∀ b∈[z,TI,TO,i1,i2],(b∈X.ex∨X.s₀.heap.objs.size<=b)/\b≠X.env.locals/\(∀ x c,X.env.cells.lookup x=some c->c≠b)/\∀ p∈X.pn++pins,p.1≠b:=fun b hb=>by
   obtain⟨f0,f1,f2,f3,f4,f5⟩:=hf b hb
   exact⟨f3,f1,f4,f5⟩
  have I2:Inv X pins σ (upd H s.heap.objs.size (.tup [x,y])) { s with heap:=h4 }:=
   I.step (g':=s.gens) (d':=s.drawn) (t':=s.toks) (ch:=[z,TI,TO,i1,i2]) chs (fun b o _ _ hb x _=>kp b o hb x) (fun b o _ _ hb x _=>⟨o.slots,kp b o hb x⟩)
    (fun b o _ x n=>by rw[zb1 (nlt b o x)];exact n) (fun b o hb x=>⟨o,kp b o hb x⟩) (fun b ys q=>by rw[zb1 (za4 q hfr)];exact q) (fun b o v q=>by rw[zb1 (za4 q hfr)];exact q)
    (fun b ps q=>⟨#[],by rw[zb1 (za4 q hfr),q];simp⟩)
    (fun m hm=>by
     obtain⟨o,es,ep,ho,r⟩:=hm
     exact⟨o,es,ep,kp _ o (fun m=>(chs _ m).2.1 rfl) ho,r⟩) hok I.bare
  refine⟨.ref s.heap.objs.size,_,I2,rfl,⟨_,x,y,rfl,hfr,Same.upd hfr,zb5,fun ys hy'=>by rw[I.list_inj hy' hq1];exact hx,fun ys hy'=>by rw[I.list_inj hy' hq2];exact hy⟩,⟨z4,?_,⟨u,v,?_⟩,?_,?_⟩,fun b hb=>?_⟩
  ·exact (hs4.2 _ D.TIz).trans (kp3 _ _ D.TIz D.TITO D.TIi1 D.TIi2 hTI)
  ·exact (hs4.2 _ D.TOz).trans TO3
  ·exact j1.extBut hs4.extBut D.i1z
  ·exact j2.extBut hs4.extBut D.i2z
  ·have hb0:H b=none:=(hf b hb).1
   have hlt:b≠s.heap.objs.size:=by
    simp only[zcm9,zcp1,or_false] at hb
    rcases hb with rfl|rfl|rfl|rfl|rfl
    ·exact nlt _ _ hz
    ·exact nlt _ _ hTI
    ·exact nlt _ _ hTO
    ·obtain⟨o,ho,_⟩:=h1;exact nlt _ _ ho
    ·obtain⟨o,ho,_⟩:=h2;exact nlt _ _ ho
   rw[zb1 hlt];exact hb0
 done:=by
  intro X hP hw hK hc i pins s σ H E I hf st hg
  subst hP hw hK
  obtain⟨hz,hTI,⟨a0,b0,hTO⟩,h1,h2⟩:=st
  obtain⟨xs,ys,hq1,hq2,hx⟩:=hg
  obtain⟨its1,rv1,p1,_⟩:=I.list hq1
  obtain⟨its2,rv2,p2,_⟩:=I.list hq2
  have hl1:=rv1.length
  have hl2:=rv2.length
  have nof:∀ b v,H b=some v->b ∉ [z,TI,TO,i1,i2]:=fun b v hb m=>by
   have:=(hf b m).1
   rw[this] at hb
   cases hb
  have chs:∀ b∈[z,TI,TO,i1,i2],(b∈X.ex∨X.s₀.heap.objs.size<=b)/\b≠X.env.locals/\(∀ x c,X.env.cells.lookup x=some c->c≠b)/\∀ p∈X.pn++pins,p.1≠b:=fun b hb=>by
   obtain⟨f0,f1,f2,f3,f4,f5⟩:=hf b hb
   exact⟨f3,f1,f4,f5⟩
  refine wpAny_pyNext_zip_end (I.ok.hd hc) D hz hTI hTO h1 h2 p1.isList p2.isList ?_ fun h' kp3=>⟨rfl,?_⟩
  ·rcases hx with hx|hx
   ·exact .inl (by simp;omega)
   ·exact .inr (by simp;omega)
  ·have kp:∀ b o,b ∉ [z,TI,TO,i1,i2]->s.heap.get? b=some o->h'.get? b=some o:=fun b o hb x=>by
    simp only[zcm9,zcp1,or_false,not_or] at hb
    obtain⟨b1,b2,b3,b4,b5⟩:=hb
    exact kp3 b o b1 b3 b4 b5 x
   have hok:HOk X.prog X.w H h':=fun b v' hb=>by
    refine (I.hok b v' hb).stay (fun c w' hc q=>?_) (fun c q=>q) (fun c ys q=>q)
    rcases hc with rfl|hc
    ·exact kp _ _ (nof _ _ hb) q
    ·exact kp _ _ (nof _ _ hc) q
   exact I.step (g':=s.gens) (d':=s.drawn) (t':=s.toks) (ch:=[z,TI,TO,i1,i2]) chs (fun b o _ _ hb x _=>kp b o hb x) (fun b o _ _ hb x _=>⟨o.slots,kp b o hb x⟩)
    (fun b o _ x n=>n) (fun b o hb x=>⟨o,kp b o hb x⟩) (fun b ys q=>q) (fun b o v q=>q)
    (fun b ps q=>⟨#[],by rw[q];simp⟩)
    (fun m hm=>by
     obtain⟨o,es,ep,ho,r⟩:=hm
     exact⟨o,es,ep,kp _ o (fun m=>(chs _ m).2.1 rfl) ho,r⟩) hok I.bare
 self:=fun _ _ _ _ _ st h=>wpAny_pyIter_zip st.1 h
section
variable {X:Cx}{K:zcm2}
theorem zbw1:bootBuiltins "zip"=some (.type "zip"):=by decide +kernel
@[irreducible] def rZip(K:zcm2)(a b:Addr)(H:Hp)(R:It->Hp->Prop):Prop:=(∃ xs,SqL K H a xs)/\(∃ ys,SqL K H b ys)/\R (Itz K a b) H
def qiZip(K:zcm2)(ta:TA):TI:=fun σ H R=>ta σ H fun vs H1=>match vs with
 | [.ref a,.ref b]=>rZip K a b H1 R
 | _=>False
theorem zby3{k:Nat}{pt:Pos}{a b:Expr}{ta:TA}{p pos:Pos}(hK:X.K=K)(hm:X.mg "zip"=none)(ha:PA X [a,b] ta)(hg:Gl X "zip":=by rfl)(hs:starEach [a,b] X.env=(false,eval a X.env) :: starEach [b] X.env:=by rfl)(hpl:(backTo pos (starEach [b] X.env)).any (·.1)=false:=by rfl) :
  PI X (.Tuple elts k pt) (.Call (.Name "zip" p) [a,b] [] pos) (qiZip K ta):=by
 subst hK
 intro pins s σ H R I h
 refine Call_ (zaa2 I hg hm zbw1 (PyProof.Rows.callWith_type1 (thn (ha pos pins s σ H _ I h) fun us s1 ⟨vs,H1,I1,r1,q1⟩=>?_) hs hpl))
 dsimp only at q1
 split at q1
 ·rename_i l m
  unfold rZip at q1
  obtain⟨⟨xs,hq1⟩,⟨ys,hq2⟩,q⟩:=q1
  obtain⟨u1,u2,rfl,rx,ry⟩:=vals2 r1
  cases rx
  cases ry
  obtain⟨its1,rv1,p1,_⟩:=I1.list hq1
  obtain⟨its2,rv2,p2,_⟩:=I1.list hq2
  have l1:@LT.lt Nat _ l s1.heap.objs.size:=by obtain⟨o,ho,_⟩:=p1.isList;exact zcn3 ho
  have l2:@LT.lt Nat _ m s1.heap.objs.size:=by obtain⟨o,ho,_⟩:=p2.isList;exact zcn3 ho
  refine call_zip_2 p1.isList p2.isList fun h' hz hTI hTO j1 j2 hsz hk=>?_
  refine wpAny_pyIter_zip hz ?_
  have I2:Inv X pins σ H1 { s1 with heap:=h' }:=I1.kept (t':=s1.toks) hk
  have D:ZipApart (s1.heap.objs.size+4) (s1.heap.objs.size+2) (s1.heap.objs.size+3) s1.heap.objs.size (s1.heap.objs.size+1) l m:=by
   constructor<;>(intro z;have z:(_:Nat)=_:=z;omega)
  refine⟨_,_,_,Itz X.K l m,H1,rfl,I2,zbu0 l m _ _ _ _ _ D,⟨hz,hTI,⟨_,_,hTO⟩,j1,j2⟩,fun b hb=>?_,q⟩
  have hb':s1.heap.objs.size<=b:=by
   simp only[zcm9,zcp1,or_false] at hb
   rcases hb with rfl|rfl|rfl|rfl|rfl
   ·exact zcq8 _ _
   ·exact zcq8 _ _
   ·exact zcq8 _ _
   ·exact zcn4 _
   ·exact zcq8 _ _
  exact I1.fpOk hb' (I1.hok.fresh hb')
 ·exact q1.elim
end
section
variable {K:zcm2}{g:TG}{tb:TS}{D:Ends}{σ:St}{H:Hp}{R:It->Hp->Prop}
theorem zbx0{a b:Addr}{ys:List V}(h:SqL K H a xs)(h':SqL K H b ys)(q:R (Itz K a b) H):rZip K a b H R:=by unfold rZip;exact⟨⟨xs,h⟩,⟨ys,h'⟩,q⟩
end
section
variable {X:Cx}{K:zcm2}
end
section
variable {J:It}{n:Nat}{H1:Hp}{X:Nat->V->Hp->Prop}{g:TG}{tt:TT}{te:TE}{σ0:St}{Q:VK}
theorem zbf3(w:Wk J n H1 X)(hn:n<sizeLine)(Pv:Addr->Nat->List V->St->Hp->Prop)(h0:∀ acc H,H1 acc=none->Same H1 H->H acc=some (.lst [])->Pv acc 0 [] σ0 H)(hP:∀ acc i ys σ H H',Same H H'->Pv acc i ys σ H->Pv acc i ys σ H')(turn:∀ acc i x ys σ H (R:St->V->Hp->Prop) (S:St->Hp->Prop),i<n->H1 acc=none->Same H1 H->H acc=some (.lst ys)->X i x H->Pv acc i ys σ H ->
   (∀ σ2 v H5,Same H H5->(∀ H6,Chg acc H5 H6->Pv acc (i+1) (ys++[v]) σ2 H6)->R σ2 v H5)->(∀ σ2 H5,Same H H5->Pv acc (i+1) ys σ2 H5->S σ2 H5) ->
   g x σ H fun σ2 H3=>tt σ2 H3 fun b H4=>br b (te σ2 H4 fun v H5=>R σ2 v H5) (S σ2 H4))(fin:∀ acc ys σ H,H1 acc=none->Same H1 H->H acc=some (.lst ys)->Pv acc n ys σ H->Q (.ref acc) H):zad9 J g tt te σ0 H1 Q:=by
 unfold zad9
 intro acc H2 hf hs ha
 refine⟨fun i m ys σ H=>m=n - i/\i<=n/\ys.length<=i/\Same H1 H/\H acc=some (.lst ys)/\Pv acc i ys σ H,⟨n,by simp,zcp5 _,zcn4 _,hs,ha,h0 acc H2 hf hs ha⟩,?_⟩
 rintro i m ys σ H ⟨rfl,hi,hl,s,hy,P⟩
 refine⟨hy,by omega,?_⟩
 by_cases hlt:i<n
 ·refine .inr ⟨w.go i H s hlt,fun x H' y=>?_⟩
  obtain⟨s1,x1⟩:=w.yld i H x H' s hlt y
  refine turn acc i x ys σ H' (fun σ2 v H5=>cPut _ acc ys i (n - i) σ2 v H5) (fun σ2 H4=>zaq0 _ ys i (n - i) σ2 H4) hlt hf (s.trans s1) (s1 _ _ hy) x1 (hP _ _ _ _ _ _ s1 P) ?_ ?_
  ·intro σ2 v H5 s5 q
   have s15:=s1.trans s5
   unfold cPut
   refine⟨s15 _ _ hy,fun H6 c6 h6=>⟨n - (i+1),by omega,rfl,hlt,by rw[zcn1];simp;omega,(s.trans s15).chg hf c6,h6,q H6 c6⟩⟩
  ·intro σ2 H5 s5 q
   have s15:=s1.trans s5
   unfold zaq0
   exact⟨n - (i+1),by omega,rfl,hlt,by omega,s.trans s15,s15 _ _ hy,q⟩
 ·have e:i=n:=by omega
  subst e
  exact .inl ⟨w.stop H s,fin acc ys σ H hf s hy P⟩
end
end L2
set_option maxHeartbeats 2000000
namespace PySem
open Sem (wp)
namespace F
theorem zip3_typeCall(a b c:Value):checkTypeCall "zip" ⟨[a,b,c],[]⟩=pure ():=by kernel_rfl
theorem zip3_newCall(a b c:Value):checkBuiltinCall "zip.__new__" ⟨[.type "zip",a,b,c],[]⟩=pure ():=by kernel_rfl
theorem init_four(a b c d:Value):argsOk "object.__init__" ⟨[a,b,c,d],[]⟩:=by
 unfold argsOk;rw[signature?_of (id:="object.__init__") (n:=['_','_','t','i','n','i','_','_']) (o:=['t','c','e','j','b','o']) (by kernel_rfl) owner_object];kernel_rfl
end F
abbrev zm3(h:Heap)(T:Addr)(a b c:Value):Prop:=h.get? T=some { cls:=.type "tuple",data:=.seq #[a,b,c] }
theorem zbf2{a b:Nat}(h:a<b∨b<a):(a:Addr)≠(b:Addr):=fun z=>by have z:(a:Nat)=b:=z;omega
section
variable {prog:Program}{w:World}{A:Around}{E:Value->Shared->Prop}{s:Shared}
theorem zaw2{T:Addr}{a b c x:Value}{k:Nat}{Q:Unit->Shared->Prop}(gT:zm3 s.heap T a b c)(h:∀ h',h'.get? T=some { cls:=.type "tuple",data:=.seq ((#[a,b,c]:Array Value).setIfInBounds k x) }->Heap.SameBut T s.heap h'->Q () { s with heap:=h' }) :
  wpAny (model prog w) A (updateSeq T (·.setIfInBounds k x)) Q E s:=by
 refine wpAny_updateSeq gT rfl (h _ ?_ (Heap.SameBut.update ..));rw[zcq7 _ gT rfl];simp[Obj.mapSeq]
theorem zbo9{n l1 l2 l3:Nat}{k:Nat}{xs ys us:Array Value}{x y u a b c:Value}{Q:Value->Shared->Prop}(L1:l1<n)(L2:l2<n)(L3:l3<n)(gz:IsZip s.heap (n+5) (n+3) (n+4) .none)(gI:zm3 s.heap (n+3) (.ref n) (.ref (n+1)) (.ref (n+2)))(gO:zm3 s.heap (n+4) a b c)(j1:s.heap.IsListIter n l1 k)(j2:s.heap.IsListIter (n+1) l2 k)(j3:s.heap.IsListIter (n+2) l3 k)(q1:s.heap.IsList l1 xs)(q2:s.heap.IsList l2 ys)(q3:s.heap.IsList l3 us)(hx:xs[k]?=some x)(hy:ys[k]?=some y)(hv:us[k]?=some u)(hQ:∀ h',IsZip h' (n+5) (n+3) (n+4) (rawInt s.heap.objs.size)->zm3 h' (n+4) x y u->h'.IsListIter n l1 (k+1)->h'.IsListIter (n+1) l2 (k+1)->h'.IsListIter (n+2) l3 (k+1)->zm3 h' s.heap.objs.size x y u->h'.objs.size=s.heap.objs.size+1 ->
   (∀ c o,c≠n+5->c≠n+4->c≠n->c≠n+1->c≠n+2->s.heap.get? c=some o->h'.get? c=some o)->Q (.ref s.heap.objs.size) { s with heap:=h' }) :
  wpAny (model prog w) A (Builtin.«zip.__next__» ⟨[.ref (n+5)],[]⟩) (fun fin s'=>∃ v,fin=.done (.ret v)/\Q v s') E s:=by
 show wpAny _ _ (field (.ref (n+5)) 2 >>= _) _ _ _
 refine zcv3 (wpAny_field gz rfl (x:=.bool false) rfl ?_)
 show wpAny _ _ (field (.ref (n+5)) 3 >>= _) _ _ _
 refine zcv3 (wpAny_field gz rfl (x:=.ref (n+3)) rfl (zcv3 (wpAny_seqItems gI rfl ?_)))
 show wpAny _ _ (Builtin.SmallTypes.ownedTupleIsFree (.ref (n+5)) >>= _) _ _ _
 refine zcv3 ?_;unfold Builtin.SmallTypes.ownedTupleIsFree
 refine zcv3 (wpAny_field gz rfl (x:=.none) rfl (zcv4 ?_));simp only[if_true]
 refine zcv3 (wpAny_rule (zcv3 (wpAny_field gz rfl (x:=.ref (n+4)) rfl ?_)))
 refine zcv3 (wpAny_setField_rec gz (by simp) fun h1 gz1 b1=>?_)
 replace gz1:IsZip h1 (n+5) (n+3) (n+4) .ellipsis:=gz1
 refine zcv3 ?_;simp only[List.zipIdx_nil,List.zipIdx_cons,List.forIn_nil,List.forIn_cons]
 have D (p q:Nat) (h:p<q∨q<p):(p:Addr)≠(q:Addr):=zbf2 h
 refine zcv3 (zcv3 (wpAny_onRaise ?_));show wpAny _ _ (Builtin.SmallTypes.nextOf (.ref n) >>= _) _ _ _
 refine zcv3 (wpAny_nextOf_list_item (j1.extBut b1.extBut (D _ _ (by omega))) (q1.extBut b1.extBut (D _ _ (by omega))) hx fun h2 j12 b2=>zcv4 ?_)
 have gO2:zm3 h2 (n+4) a b c:=b2.extBut _ _ (D _ _ (by omega)) (b1.extBut _ _ (D _ _ (by omega)) gO)
 refine zcv3 (wpAny_seqItems gO2 rfl (zcv3 (zaw2 gO2 fun h3 gO3 b3=>?_)))
 replace gO3:zm3 h3 (n+4) x b c:=gO3
 refine zcv3 (wpAny_letGo (zcv4 ?_))
 refine zcv3 (zcv3 (wpAny_onRaise ?_));show wpAny _ _ (Builtin.SmallTypes.nextOf (.ref (n+1)) >>= _) _ _ _
 have j23:h3.IsListIter (n+1) l2 k:=((j2.extBut b1.extBut (D _ _ (by omega))).extBut b2.extBut (D _ _ (by omega))).extBut b3.extBut (D _ _ (by omega))
 have q23:h3.IsList l2 ys:=((q2.extBut b1.extBut (D _ _ (by omega))).extBut b2.extBut (D _ _ (by omega))).extBut b3.extBut (D _ _ (by omega))
 refine zcv3 (wpAny_nextOf_list_item j23 q23 hy fun h4 j24 b4=>zcv4 ?_)
 have gO4:zm3 h4 (n+4) x b c:=b4.extBut _ _ (D _ _ (by omega)) gO3
 refine zcv3 (wpAny_seqItems gO4 rfl (zcv3 (zaw2 gO4 fun h5 gO5 b5=>?_)))
 replace gO5:zm3 h5 (n+4) x y c:=gO5
 refine zcv3 (wpAny_letGo (zcv4 ?_))
 refine zcv3 (zcv3 (wpAny_onRaise ?_));show wpAny _ _ (Builtin.SmallTypes.nextOf (.ref (n+2)) >>= _) _ _ _
 have up5:∀ c o,c≠n+5->c≠n+4->c≠n->c≠n+1->s.heap.get? c=some o->h5.get? c=some o:=fun c o c1 c2 c3 c4 e=>
  b5.extBut _ _ c2 (b4.extBut _ _ c4 (b3.extBut _ _ c2 (b2.extBut _ _ c3 (b1.extBut _ _ c1 e))))
 have j35:h5.IsListIter (n+2) l3 k:=j3.at fun o e=>up5 _ o (D _ _ (by omega)) (D _ _ (by omega)) (D _ _ (by omega)) (D _ _ (by omega)) e
 have q35:h5.IsList l3 us:=q3.at fun o e=>up5 _ o (D _ _ (by omega)) (D _ _ (by omega)) (D _ _ (by omega)) (D _ _ (by omega)) e
 refine zcv3 (wpAny_nextOf_list_item j35 q35 hv fun h6 j36 b6=>zcv4 ?_)
 have gO6:zm3 h6 (n+4) x y c:=b6.extBut _ _ (D _ _ (by omega)) gO5
 refine zcv3 (wpAny_seqItems gO6 rfl (zcv3 (zaw2 gO6 fun h7 gO7 b7=>?_)))
 replace gO7:zm3 h7 (n+4) x y u:=gO7
 refine zcv3 (wpAny_letGo (zcv4 (zcv4 ?_)))
 refine zcv3 (wpAny_seqItems gO7 rfl (zcv3 (wpAny_newTuple ?_)))
 have sz:h7.objs.size=s.heap.objs.size:=by rw[b7.1,b6.1,b5.1,b4.1,b3.1,b2.1,b1.1]
 have up7:∀ c o,c≠n+5->c≠n+4->c≠n->c≠n+1->c≠n+2->s.heap.get? c=some o->h7.get? c=some o:=fun c o c1 c2 c3 c4 c5 e=>b7.extBut _ _ c2 (b6.extBut _ _ c5 (up5 c o c1 c2 c3 c4 e))
 have gz7:IsZip h7 (n+5) (n+3) (n+4) .ellipsis:=
  b7.extBut _ _ (D _ _ (by omega)) (b6.extBut _ _ (D _ _ (by omega)) (b5.extBut _ _ (D _ _ (by omega)) (b4.extBut _ _ (D _ _ (by omega)) (b3.extBut _ _ (D _ _ (by omega)) (b2.extBut _ _ (D _ _ (by omega)) gz1)))))
 have j17:h7.IsListIter n l1 (k+1):=((((j12.extBut b3.extBut (D _ _ (by omega))).extBut b4.extBut (D _ _ (by omega))).extBut b5.extBut (D _ _ (by omega))).extBut b6.extBut (D _ _ (by omega))).extBut b7.extBut (D _ _ (by omega))
 have j27:h7.IsListIter (n+1) l2 (k+1):=((j24.extBut b5.extBut (D _ _ (by omega))).extBut b6.extBut (D _ _ (by omega))).extBut b7.extBut (D _ _ (by omega))
 have j37:h7.IsListIter (n+2) l3 (k+1):=j36.extBut b7.extBut (D _ _ (by omega))
 have lz:n+5<h7.objs.size:=zcn3 gz7
 show wpAny _ _ (Builtin.SmallTypes.ownedTupleHandOut (.ref (n+5)) (.ref h7.objs.size) >>= _) _ _ _
 refine zcv3 ?_;unfold Builtin.SmallTypes.ownedTupleHandOut
 have gz8:IsZip (h7.push { cls:=.type "tuple",data:=.seq #[x,y,u] }) (n+5) (n+3) (n+4) .ellipsis:=zcm3 _ gz7
 refine zcv3 (wpAny_setField_rec gz8 (by simp) fun h9 gz9 b9=>?_)
 replace gz9:IsZip h9 (n+5) (n+3) (n+4) (rawInt h7.objs.size):=gz9
 refine wpAny_setField_rec gz9 (by simp) fun ha gza ba=>?_
 replace gza:IsZip ha (n+5) (n+3) (n+4) (rawInt h7.objs.size):=gza
 have up:∀ c o,c≠n+5->h7.get? c=some o->ha.get? c=some o:=fun c o c1 e=>ba.extBut _ _ c1 (b9.extBut _ _ c1 (zcm3 _ e))
 have gT:zm3 ha h7.objs.size x y u:=ba.extBut _ _ (zcs7 lz) (b9.extBut _ _ (zcs7 lz) (zcn8 _ rfl))
 have sa:ha.objs.size=h7.objs.size+1:=by rw[ba.1,b9.1,zcu5]
 rw[sz] at gza gT sa
 refine zcv4 ⟨_,rfl,?_⟩
 show Q (.ref h7.objs.size) _
 rw[sz]
 exact hQ ha gza (up _ _ (D _ _ (by omega)) gO7) (j17.at fun o e=>up _ o (D _ _ (by omega)) e) (j27.at fun o e=>up _ o (D _ _ (by omega)) e) (j37.at fun o e=>up _ o (D _ _ (by omega)) e) gT sa fun c o c1 c2 c3 c4 c5 e=>up c o c1 (up7 c o c1 c2 c3 c4 c5 e)
theorem zbs9{n l1:Nat}{k:Nat}{xs:Array Value}{a b c:Value}{Q:Fin->Shared->Prop}(hh:A.handled=none)(L1:l1<n)(gz:IsZip s.heap (n+5) (n+3) (n+4) .none)(gI:zm3 s.heap (n+3) (.ref n) (.ref (n+1)) (.ref (n+2)))(j1:s.heap.IsListIter n l1 k)(q1:s.heap.IsList l1 xs)(hx:xs[k]?=none)(hE:∀ h' e,(∀ c o,c≠n+5->c≠n->s.heap.get? c=some o->h'.get? c=some o)->(∃ o,h'.get? e=some o/\o.cls=.type "StopIteration")->E (.ref e) { s with heap:=h' }) :
  wpAny (model prog w) A (Builtin.«zip.__next__» ⟨[.ref (n+5)],[]⟩) Q E s:=by
 show wpAny _ _ (field (.ref (n+5)) 2 >>= _) _ _ _
 refine zcv3 (wpAny_field gz rfl (x:=.bool false) rfl ?_)
 show wpAny _ _ (field (.ref (n+5)) 3 >>= _) _ _ _
 refine zcv3 (wpAny_field gz rfl (x:=.ref (n+3)) rfl (zcv3 (wpAny_seqItems gI rfl ?_)))
 show wpAny _ _ (Builtin.SmallTypes.ownedTupleIsFree (.ref (n+5)) >>= _) _ _ _
 refine zcv3 ?_;unfold Builtin.SmallTypes.ownedTupleIsFree
 refine zcv3 (wpAny_field gz rfl (x:=.none) rfl (zcv4 ?_));simp only[if_true]
 refine zcv3 (wpAny_rule (zcv3 (wpAny_field gz rfl (x:=.ref (n+4)) rfl ?_)))
 refine zcv3 (wpAny_setField_rec gz (by simp) fun h1 gz1 b1=>?_)
 replace gz1:IsZip h1 (n+5) (n+3) (n+4) .ellipsis:=gz1
 refine zcv3 ?_;simp only[List.zipIdx_nil,List.zipIdx_cons,List.forIn_nil,List.forIn_cons]
 refine zcv3 (zcv3 (wpAny_onRaise ?_));show wpAny _ _ (Builtin.SmallTypes.nextOf (.ref n) >>= _) _ _ _
 refine zcv3 (wpAny_nextOf_list_end hh (j1.extBut b1.extBut (zbf2 (by omega))) (q1.extBut b1.extBut (zbf2 (by omega))) hx fun h2 e b2 he=>?_)
 obtain⟨oe,ge,ce⟩:=he
 have gz2:IsZip h2 (n+5) (n+3) (n+4) .ellipsis:=b2 _ _ (zbf2 (by omega)) gz1
 have ez:e≠n+5:=fun x=>by subst x;rw[gz2] at ge;cases ge;simp at ce
 refine wpAny_setField_rec gz2 (by simp) fun h3 _ b3=>hE h3 e (fun c o c1 c3 x=>b3.extBut _ _ c1 (b2 _ _ c3 (b1.extBut _ _ c1 x))) ⟨oe,b3.extBut _ _ ez ge,ce⟩
theorem zbj1{n l1 l2 l3:Nat}{k:Nat}{xs ys us:Array Value}{x y u a b c:Value}{Q:Option Value->Shared->Prop}(L1:l1<n)(L2:l2<n)(L3:l3<n)(gz:IsZip s.heap (n+5) (n+3) (n+4) .none)(gI:zm3 s.heap (n+3) (.ref n) (.ref (n+1)) (.ref (n+2)))(gO:zm3 s.heap (n+4) a b c)(j1:s.heap.IsListIter n l1 k)(j2:s.heap.IsListIter (n+1) l2 k)(j3:s.heap.IsListIter (n+2) l3 k)(q1:s.heap.IsList l1 xs)(q2:s.heap.IsList l2 ys)(q3:s.heap.IsList l3 us)(hx:xs[k]?=some x)(hy:ys[k]?=some y)(hv:us[k]?=some u)(hQ:∀ h',IsZip h' (n+5) (n+3) (n+4) (rawInt s.heap.objs.size)->zm3 h' (n+4) x y u->h'.IsListIter n l1 (k+1)->h'.IsListIter (n+1) l2 (k+1)->h'.IsListIter (n+2) l3 (k+1)->zm3 h' s.heap.objs.size x y u->h'.objs.size=s.heap.objs.size+1 ->
   (∀ c o,c≠n+5->c≠n+4->c≠n->c≠n+1->c≠n+2->s.heap.get? c=some o->h'.get? c=some o)->Q (some (.ref s.heap.objs.size)) { s with heap:=h' }) :
  wpAny (model prog w) A (pyNext (.ref (n+5))) Q E s:=by
 have gT:s.TypeIs (.ref (n+5)) "zip":=⟨_,gz,rfl⟩
 unfold pyNext
 exact zcv3 (wpAny_attempt (wpAny_callSpecial?_slot (name:=Str.ofString "__next__") gT F.slot_zip_next (wpAny_call_entry F.slot_zip_next gT F.entry_zip_next
  (zbo9 L1 L2 L3 gz gI gO j1 j2 j3 q1 q2 q3 hx hy hv fun h' a1 a2 a3 a4 a5 a6 a7 a8=>zcv4 (hQ h' a1 a2 a3 a4 a5 a6 a7 a8)) (F.args_zip_next_1 _))))
theorem zbl6{n l1:Nat}{k:Nat}{xs:Array Value}{Q:Option Value->Shared->Prop}(hh:A.handled=none)(L1:l1<n)(gz:IsZip s.heap (n+5) (n+3) (n+4) .none)(gI:zm3 s.heap (n+3) (.ref n) (.ref (n+1)) (.ref (n+2)))(j1:s.heap.IsListIter n l1 k)(q1:s.heap.IsList l1 xs)(hx:xs[k]?=none)(hQ:∀ h',(∀ c o,c≠n+5->c≠n->s.heap.get? c=some o->h'.get? c=some o)->Q none { s with heap:=h' }):wpAny (model prog w) A (pyNext (.ref (n+5))) Q E s:=by
 have gT:s.TypeIs (.ref (n+5)) "zip":=⟨_,gz,rfl⟩
 unfold pyNext
 refine zcv3 (wpAny_attempt (wpAny_callSpecial?_slot (name:=Str.ofString "__next__") gT F.slot_zip_next (wpAny_call_entry F.slot_zip_next gT F.entry_zip_next
  (zbs9 (a:=.none) (b:=.none) (c:=.none) hh L1 gz gI j1 q1 hx fun h' e up he=>?_) (F.args_zip_next_1 _))))
 obtain⟨o,ho,hc⟩:=he;refine zcv3 (wpAny_isInstance (T:="StopIteration") (b:=true) ⟨o,ho,hc⟩ isSubtype_stop (zcv4 (hQ _ up)))
end
abbrev itO(l:Addr):Obj:={ cls:=.type "list_iterator",data:=.fields #[.ref l,.int 0 0] }
abbrev z3a(h:Heap)(l1 l2 l3:Addr):Heap:=((h.push (itO l1)).push (itO l2)).push (itO l3)
abbrev z3b(h:Heap)(l1 l2 l3:Addr):Heap:=(z3a h l1 l2 l3).push { cls:=.type "tuple",data:=.seq #[.ref h.objs.size,.ref (h.push (itO l1)).objs.size,.ref ((h.push (itO l1)).push (itO l2)).objs.size] }
abbrev z3c(h:Heap)(l1 l2 l3:Addr):Heap:=(z3b h l1 l2 l3).push { cls:=.type "tuple",data:=.seq #[.none,.none,.none] }
abbrev z3d(h:Heap)(l1 l2 l3:Addr):Heap:=(z3c h l1 l2 l3).push { cls:=.type "zip",data:=.fields #[.none,.bool false,.bool false,.ref (z3a h l1 l2 l3).objs.size,.ref (z3b h l1 l2 l3).objs.size] }
theorem zbq9(l1 l2 l3:Addr)(xs ys us:Array Value):Meets (Builtin.«zip.__new__» ⟨[.type "zip",.ref l1,.ref l2,.ref l3],[]⟩) (fun _ R s=>s.heap.IsList l1 xs/\s.heap.IsList l2 ys/\s.heap.IsList l3 us /\
   R (.ok (.ret (.ref (z3c s.heap l1 l2 l3).objs.size))) { s with heap:=z3d s.heap l1 l2 l3 }):=
 .of_wp fun prog w A R s h=>by
  obtain⟨hp,g,d,tk,os⟩:=s;obtain⟨q1,q2,q3,h⟩:=h;have sub:=sub_zip
  have g1:Heap.IsList (Shared.heap ⟨hp,g,d,tk,os⟩) l1 xs:=q1
  have g2:Heap.IsList (Shared.heap ⟨hp.push (itO l1),g,d,tk,os⟩) l2 ys:=Heap.IsList.push q2 _
  have g3:Heap.IsList (Shared.heap ⟨(hp.push (itO l1)).push (itO l2),g,d,tk,os⟩) l3 us:=Heap.IsList.push (Heap.IsList.push q3 _) _
  wp_walk using wpAny_pyIter_list g1,wpAny_pyIter_list g2,wpAny_pyIter_list g3
  exact⟨_,rfl,h⟩
section
variable {prog:Program}{w:World}{A:Around}{E:Value->Shared->Prop}{s:Shared}
theorem zbh9{l1 l2 l3:Addr}{xs ys us:Array Value}{Q:Value->Shared->Prop}(q1:s.heap.IsList l1 xs)(q2:s.heap.IsList l2 ys)(q3:s.heap.IsList l3 us)(h:∀ h' (n:Nat),n=s.heap.objs.size->IsZip h' (n+5) (n+3) (n+4) .none->zm3 h' (n+3) (.ref n) (.ref (n+1)) (.ref (n+2))->zm3 h' (n+4) .none .none .none->h'.IsListIter n l1 0->h'.IsListIter (n+1) l2 0->h'.IsListIter (n+2) l3 0 ->
   (∀ c o,s.heap.get? c=some o->h'.get? c=some o)->Q (.ref (n+5)) { s with heap:=h' }):wpAny (model prog w) A (call (.type "zip") [.ref l1,.ref l2,.ref l3]) Q E s:=by
 refine callType_new F.called_zip (by decide) (F.zip3_typeCall _ _ _) (F.zip3_newCall _ _ _) (fun obj=>F.init_four obj _ _ _) F.entry_zip_new (zbq9 l1 l2 l3 xs ys us) ⟨q1,q2,q3,?_⟩
 have e1:(s.heap.push (itO l1)).objs.size=s.heap.objs.size+1:=zcu5 ..
 have e2:((s.heap.push (itO l1)).push (itO l2)).objs.size=s.heap.objs.size+2:=by rw[zcu5,e1]
 have e3:(z3a s.heap l1 l2 l3).objs.size=s.heap.objs.size+3:=by rw[zcu5,e2]
 have e4:(z3b s.heap l1 l2 l3).objs.size=s.heap.objs.size+4:=by rw[zcu5,e3]
 have e5:(z3c s.heap l1 l2 l3).objs.size=s.heap.objs.size+5:=by rw[zcu5,e4]
 have g6:(z3d s.heap l1 l2 l3).get? (z3c s.heap l1 l2 l3).objs.size=some _:=zcn8 _ rfl
 have g5:(z3d s.heap l1 l2 l3).get? (z3b s.heap l1 l2 l3).objs.size=some _:=zcm3 _ (zcn8 _ rfl)
 have g4:(z3d s.heap l1 l2 l3).get? (z3a s.heap l1 l2 l3).objs.size=some _:=zcm3 _ (zcm3 _ (zcn8 _ rfl))
 have g3:(z3d s.heap l1 l2 l3).get? ((s.heap.push (itO l1)).push (itO l2)).objs.size=some _:=zcm3 _ (zcm3 _ (zcm3 _ (zcn8 _ rfl)))
 have g2:(z3d s.heap l1 l2 l3).get? (s.heap.push (itO l1)).objs.size=some _:=zcm3 _ (zcm3 _ (zcm3 _ (zcm3 _ (zcn8 _ rfl))))
 have g1:(z3d s.heap l1 l2 l3).get? s.heap.objs.size=some _:=zcm3 _ (zcm3 _ (zcm3 _ (zcm3 _ (zcm3 _ (zcn8 _ rfl)))))
 show _/\_
 rw[e3,e4,e5] at g6
 rw[e1,e2,e3] at g4
 rw[e4] at g5
 rw[e2] at g3
 rw[e1] at g2
 rw[e5]
 exact⟨⟨_,g6,rfl⟩,h _ _ rfl g6 g4 g5 ⟨_,g1,rfl,rfl⟩ ⟨_,g2,rfl,rfl⟩ ⟨_,g3,rfl,rfl⟩ fun c o x=>
  zcm3 _ (zcm3 _ (zcm3 _ (zcm3 _ (zcm3 _ (zcm3 _ x)))))⟩
end
end PySem
namespace L2
open PySem PySem.Spec PyProof.Rows
def Itz3(K:zcm2)(a b c:Addr):It:=
 ⟨fun i H=>∃ xs ys us x y u,SqL K H a xs/\SqL K H b ys/\SqL K H c us/\xs[i]?=some x/\ys[i]?=some y/\us[i]?=some u,
  fun i H v H'=>∃ p x y u,v=.ref p/\H p=none/\Same H H'/\H' p=some (.tup [x,y,u])/\(∀ xs,SqL K H a xs->xs[i]?=some x)/\(∀ ys,SqL K H b ys->ys[i]?=some y)/\∀ us,SqL K H c us->us[i]?=some u,
  fun i H=>∃ xs,SqL K H a xs/\xs.length<=i⟩
variable {C T aH c e f:Addr}{xs:List V}{H H':Hp}{Q:Value->Shared->Prop}{h h':Heap}{u:Value}{s:Shared}{ep i j m:Nat}{vs:List Value}{o:Obj}{es:Array (Int×Value)}{qual:Str}
theorem zbl0{P:Program}{w:World}{K:zcm2}{elts:List Expr}{k:Nat}{pos:Pos}(l1 l2 l3 n:Nat)(L1:l1<n)(L2:l2<n)(L3:l3<n) :
  Turn P w K (.Tuple elts k pos) (Itz3 K l1 l2 l3) [n+5,n+3,n+4,n,n+1,n+2] (n+5) (fun i h=>IsZip h (n+5) (n+3) (n+4) .none/\zm3 h (n+3) (.ref n) (.ref (n+1)) (.ref (n+2))/\(∃ a b c,zm3 h (n+4) a b c)/\h.IsListIter n l1 i/\h.IsListIter (n+1) l2 i/\h.IsListIter (n+2) l3 i) where
 mem:=by simp
 obj:=fun i h st b hb=>by
  obtain⟨hz,hTI,⟨a,b',c',hTO⟩,⟨o1,e1,c1,d1⟩,⟨o2,e2,c2,d2⟩,⟨o3,e3,c3,d3⟩⟩:=st
  simp only[zcm9,zcp1,or_false] at hb
  rcases hb with rfl|rfl|rfl|rfl|rfl|rfl
  ·exact⟨_,hz,fun v z=>by cases z⟩
  ·exact⟨_,hTI,fun v z=>by cases z⟩
  ·exact⟨_,hTO,fun v z=>by cases z⟩
  ·exact⟨o1,e1,fun v z=>by rw[d1] at z;cases z⟩
  ·exact⟨o2,e2,fun v z=>by rw[d2] at z;cases z⟩
  ·exact⟨o3,e3,fun v z=>by rw[d3] at z;cases z⟩
 keep:=fun i h h' st kp=>by
  obtain⟨hz,hTI,⟨a,b',c',hTO⟩,h1,h2,h3⟩:=st
  exact⟨kp _ (by simp) _ hz,kp _ (by simp) _ hTI,⟨a,b',c',kp _ (by simp) _ hTO⟩,h1.at fun o x=>kp _ (by simp) o x,h2.at fun o x=>kp _ (by simp) o x,h3.at fun o x=>kp _ (by simp) o x⟩
 item:=by
  intro X hP hw hK hc i pins s σ H E I hf st hg
  subst hP hw hK
  obtain⟨hz,hTI,⟨a0,b0,c0,hTO⟩,h1,h2,h3⟩:=st
  obtain⟨xs,ys,us,x,y,u',hq1,hq2,hq3,hx,hy,hu'⟩:=hg
  obtain⟨its1,rv1,p1,_⟩:=I.list hq1
  obtain⟨its2,rv2,p2,_⟩:=I.list hq2
  obtain⟨its3,rv3,p3,_⟩:=I.list hq3
  obtain⟨u,hu,ru⟩:=rv1.get hx
  obtain⟨v,hv,rv⟩:=rv2.get hy
  obtain⟨t,ht,rt⟩:=rv3.get hu'
  have hzl:n+5<s.heap.objs.size:=zcn3 hz
  refine zbj1 L1 L2 L3 hz hTI hTO h1 h2 h3 p1.isList p2.isList p3.isList (x:=u) (y:=v) (u:=t) (by simpa using hu) (by simpa using hv) (by simpa using ht) fun h3' z3 TO3 j1 j2 j3 T3 sz3 kp3=>?_
  refine⟨_,rfl,wpAny_letOwnedTupleGo_zip z3 fun h4 z4 hs4=>?_⟩
  replace hs4:Heap.SameBut (n+5) h3' h4:=hs4
  have D (p q:Nat) (h:p<q∨q<p):(p:Addr)≠(q:Addr):=zbf2 h
  have kp:∀ b o,b ∉ [n+5,n+3,n+4,n,n+1,n+2]->s.heap.get? b=some o->h4.get? b=some o:=fun b o hb x=>by
   simp only[zcm9,zcp1,or_false,not_or] at hb
   obtain⟨b1,b2,b3,b4,b5,b6⟩:=hb
   exact (hs4.2 b b1).trans (kp3 b o b1 b3 b4 b5 b6 x)
  have ht4:h4.get? s.heap.objs.size=some { cls:=.type "tuple",data:=.seq #[u,v,t] }:=(hs4.2 _ (zcs7 hzl)).trans T3
  have hfr:H s.heap.objs.size=none:=I.fresh
  have nof:∀ b v,H b=some v->b ∉ [n+5,n+3,n+4,n,n+1,n+2]:=fun b v hb m=>by
   have:=(hf b m).1
   rw[this] at hb
   cases hb
  have nlt:∀ b o,s.heap.get? b=some o->b≠s.heap.objs.size:=fun b o x=>zcp2 (zcn3 x)
  have hok:HOk X.prog X.w (upd H s.heap.objs.size (.tup [x,y,u'])) h4:=fun b v' hb=>by
   by_cases e1:b=s.heap.objs.size
   ·subst e1
    rw[zb5] at hb
    cases hb
    exact⟨by show 3<=sizeLine;decide,[u,v,t],.cons ru (.cons rv (.cons rt .nil)),⟨_,ht4,rfl,_,rfl⟩⟩
   ·rw[zb1 e1] at hb
    refine (I.hok b v' hb).stay (fun c w' hc q=>?_) (fun c q=>?_) (fun c ys q=>?_)
    ·rcases hc with rfl|hc
     ·exact kp _ _ (nof _ _ hb) q
     ·exact kp _ _ (nof _ _ hc) q
    ·rw[zb1 (za4 q hfr)];exact q
    ·rw[zb1 (za4 q hfr)];exact q
  have chs:∀ b∈[n+5,n+3,n+4,n,n+1,n+2],(b∈X.ex∨X.s₀.heap.objs.size<=b)/\b≠X.env.locals/\(∀ x c,X.env.cells.lookup x=some c->c≠b)/\∀ p∈X.pn++pins,p.1≠b:=fun b hb=>by
   obtain⟨f0,f1,f2,f3,f4,f5⟩:=hf b hb
   exact⟨f3,f1,f4,f5⟩
  have I2:Inv X pins σ (upd H s.heap.objs.size (.tup [x,y,u'])) { s with heap:=h4 }:=
   I.step (g':=s.gens) (d':=s.drawn) (t':=s.toks) (ch:=[n+5,n+3,n+4,n,n+1,n+2]) chs (fun b o _ _ hb x _=>kp b o hb x) (fun b o _ _ hb x _=>⟨o.slots,kp b o hb x⟩)
    (fun b o _ x n=>by rw[zb1 (nlt b o x)];exact n) (fun b o hb x=>⟨o,kp b o hb x⟩) (fun b ys q=>by rw[zb1 (za4 q hfr)];exact q) (fun b o v q=>by rw[zb1 (za4 q hfr)];exact q)
    (fun b ps q=>⟨#[],by rw[zb1 (za4 q hfr),q];simp⟩)
    (fun m hm=>by
     obtain⟨o,es,ep,ho,r⟩:=hm
     exact⟨o,es,ep,kp _ o (fun m=>(chs _ m).2.1 rfl) ho,r⟩) hok I.bare
  refine⟨.ref s.heap.objs.size,_,I2,rfl,⟨_,x,y,u',rfl,hfr,Same.upd hfr,zb5,fun ys hy'=>by rw[I.list_inj hy' hq1];exact hx,fun ys hy'=>by rw[I.list_inj hy' hq2];exact hy,fun ys hy'=>by rw[I.list_inj hy' hq3];exact hu'⟩,⟨z4,?_,⟨u,v,t,?_⟩,?_,?_,?_⟩,fun b hb=>?_⟩
  ·exact (hs4.2 _ (D _ _ (by omega))).trans (kp3 _ _ (D _ _ (by omega)) (D _ _ (by omega)) (D _ _ (by omega)) (D _ _ (by omega)) (D _ _ (by omega)) hTI)
  ·exact (hs4.2 _ (D _ _ (by omega))).trans TO3
  ·exact j1.extBut hs4.extBut (D _ _ (by omega))
  ·exact j2.extBut hs4.extBut (D _ _ (by omega))
  ·exact j3.extBut hs4.extBut (D _ _ (by omega))
  ·have hb0:H b=none:=(hf b hb).1
   have hlt:b≠s.heap.objs.size:=by
    simp only[zcm9,zcp1,or_false] at hb
    rcases hb with rfl|rfl|rfl|rfl|rfl|rfl
    ·exact nlt _ _ hz
    ·exact nlt _ _ hTI
    ·exact nlt _ _ hTO
    ·obtain⟨o,ho,_⟩:=h1;exact nlt _ _ ho
    ·obtain⟨o,ho,_⟩:=h2;exact nlt _ _ ho
    ·obtain⟨o,ho,_⟩:=h3;exact nlt _ _ ho
   rw[zb1 hlt];exact hb0
 done:=by
  intro X hP hw hK hc i pins s σ H E I hf st hg
  subst hP hw hK
  obtain⟨hz,hTI,⟨a0,b0,c0,hTO⟩,h1,h2,h3⟩:=st
  obtain⟨xs,hq1,hx⟩:=hg
  obtain⟨its1,rv1,p1,_⟩:=I.list hq1
  have hl1:=rv1.length
  have nof:∀ b v,H b=some v->b ∉ [n+5,n+3,n+4,n,n+1,n+2]:=fun b v hb m=>by
   have:=(hf b m).1
   rw[this] at hb
   cases hb
  have chs:∀ b∈[n+5,n+3,n+4,n,n+1,n+2],(b∈X.ex∨X.s₀.heap.objs.size<=b)/\b≠X.env.locals/\(∀ x c,X.env.cells.lookup x=some c->c≠b)/\∀ p∈X.pn++pins,p.1≠b:=fun b hb=>by
   obtain⟨f0,f1,f2,f3,f4,f5⟩:=hf b hb
   exact⟨f3,f1,f4,f5⟩
  refine zbl6 (I.ok.hd hc) L1 hz hTI h1 p1.isList (by simp;omega) fun h' kp3=>⟨rfl,?_⟩
  have kp:∀ b o,b ∉ [n+5,n+3,n+4,n,n+1,n+2]->s.heap.get? b=some o->h'.get? b=some o:=fun b o hb x=>by
   simp only[zcm9,zcp1,or_false,not_or] at hb
   obtain⟨b1,b2,b3,b4,b5,b6⟩:=hb
   exact kp3 b o b1 b4 x
  have hok:HOk X.prog X.w H h':=fun b v' hb=>by
   refine (I.hok b v' hb).stay (fun c w' hc q=>?_) (fun c q=>q) (fun c ys q=>q)
   rcases hc with rfl|hc
   ·exact kp _ _ (nof _ _ hb) q
   ·exact kp _ _ (nof _ _ hc) q
  exact I.step (g':=s.gens) (d':=s.drawn) (t':=s.toks) (ch:=[n+5,n+3,n+4,n,n+1,n+2]) chs (fun b o _ _ hb x _=>kp b o hb x) (fun b o _ _ hb x _=>⟨o.slots,kp b o hb x⟩)
    (fun b o _ x n=>n) (fun b o hb x=>⟨o,kp b o hb x⟩) (fun b ys q=>q) (fun b o v q=>q)
    (fun b ps q=>⟨#[],by rw[q];simp⟩)
    (fun m hm=>by
     obtain⟨o,es,ep,ho,r⟩:=hm
     exact⟨o,es,ep,kp _ o (fun m=>(chs _ m).2.1 rfl) ho,r⟩) hok I.bare
 self:=fun _ _ _ _ _ st h=>wpAny_pyIter_zip st.1 h
section
variable {X:Cx}{K:zcm2}
@[irreducible] def rZip3(K:zcm2)(a b c:Addr)(H:Hp)(R:It->Hp->Prop):Prop:=(∃ xs,SqL K H a xs)/\(∃ ys,SqL K H b ys)/\(∃ us,SqL K H c us)/\R (Itz3 K a b c) H
def qiZip3(K:zcm2)(ta:TA):TI:=fun σ H R=>ta σ H fun vs H1=>match vs with
 | [.ref a,.ref b,.ref c]=>rZip3 K a b c H1 R
 | _=>False
theorem vals3{x y z:V}{us:List Value}(r:Vals [x,y,z] us):∃ u v t,us=[u,v,t]/\RelV x u/\RelV y v/\RelV z t:=by
 cases r with
 | cons r1 r=>
  cases r with
  | cons r2 r=>
   cases r with
   | cons r3 r=>
    cases r
    exact⟨_,_,_,rfl,r1,r2,r3⟩
theorem zcc3{elts:List Expr}{k:Nat}{pt:Pos}{a b c:Expr}{ta:TA}{p pos:Pos}(hK:X.K=K)(hm:X.mg "zip"=none)(ha:PA X [a,b,c] ta)(hg:Gl X "zip":=by rfl)(hs:starEach [a,b,c] X.env=(false,eval a X.env) :: starEach [b,c] X.env:=by rfl)(hpl:(backTo pos (starEach [b,c] X.env)).any (·.1)=false:=by rfl) :
  PI X (.Tuple elts k pt) (.Call (.Name "zip" p) [a,b,c] [] pos) (qiZip3 K ta):=by
 subst hK
 intro pins s σ H R I h
 refine Call_ (zaa2 I hg hm zbw1 (PyProof.Rows.callWith_type1 (thn (ha pos pins s σ H _ I h) fun us s1 ⟨vs,H1,I1,r1,q1⟩=>?_) hs hpl))
 dsimp only at q1
 split at q1
 ·rename_i l m o
  unfold rZip3 at q1
  obtain⟨⟨xs,hq1⟩,⟨ys,hq2⟩,⟨zs,hq3⟩,q⟩:=q1
  obtain⟨u1,u2,u3,rfl,rx,ry,rz⟩:=vals3 r1
  cases rx
  cases ry
  cases rz
  obtain⟨its1,rv1,p1,_⟩:=I1.list hq1
  obtain⟨its2,rv2,p2,_⟩:=I1.list hq2
  obtain⟨its3,rv3,p3,_⟩:=I1.list hq3
  have l1:@LT.lt Nat _ l s1.heap.objs.size:=by obtain⟨o,ho,_⟩:=p1.isList;exact zcn3 ho
  have l2:@LT.lt Nat _ m s1.heap.objs.size:=by obtain⟨o,ho,_⟩:=p2.isList;exact zcn3 ho
  have l3:@LT.lt Nat _ o s1.heap.objs.size:=by obtain⟨o,ho,_⟩:=p3.isList;exact zcn3 ho
  refine zbh9 p1.isList p2.isList p3.isList fun h' n hn hz hTI hTO j1 j2 j3 hk=>?_
  refine wpAny_pyIter_zip hz ?_
  have I2:Inv X pins σ H1 { s1 with heap:=h' }:=I1.kept (t':=s1.toks) hk
  rw[← hn] at l1 l2 l3
  refine⟨_,_,_,Itz3 X.K l m o,H1,rfl,I2,zbl0 l m o n l1 l2 l3,⟨hz,hTI,⟨_,_,_,hTO⟩,j1,j2,j3⟩,fun b hb=>?_,q⟩
  have hb':s1.heap.objs.size<=b:=by
   rw[← hn]
   simp only[zcm9,zcp1,or_false] at hb
   rcases hb with rfl|rfl|rfl|rfl|rfl|rfl
   ·exact zcq8 _ _
   ·exact zcq8 _ _
   ·exact zcq8 _ _
   ·exact zcn4 _
   ·exact zcq8 _ _
   ·exact zcq8 _ _
  exact I1.fpOk hb' (I1.hok.fresh hb')
 ·exact q1.elim
end
section
variable {K:zcm2}{H:Hp}{R:It->Hp->Prop}
theorem zca2{a b:Addr}{ys us:List V}(h:SqL K H a xs)(h':SqL K H b ys)(h'':SqL K H c us)(q:R (Itz3 K a b c) H):rZip3 K a b c H R:=by unfold rZip3;exact⟨⟨xs,h⟩,⟨ys,h'⟩,⟨us,h''⟩,q⟩
theorem Wk.zip3{a b:Addr}{ys us:List V}{n:Nat}{H1:Hp}(h:SqL K H1 a xs)(h':SqL K H1 b ys)(h'':SqL K H1 c us)(hx:xs.length=n)(hy:ys.length=n)(hu:us.length=n):Wk (Itz3 K a b c) n H1 fun i v H=>∃ p x y u,v=.ref p/\H p=some (.tup [x,y,u])/\xs[i]?=some x/\ys[i]?=some y/\us[i]?=some u:=
 ⟨fun i H s hi=>⟨xs,ys,us,xs[i],ys[i],us[i],s.seq h,s.seq h',s.seq h'',by simp,by simp,by simp⟩,fun H s=>⟨xs,s.seq h,Nat.le_of_eq hx⟩,fun i H v H' s _ y=>by
  obtain⟨p,x,y,u,rfl,y1,y2,y3,y4,y5,y6⟩:=y
  exact⟨y2,p,x,y,u,rfl,y3,y4 xs (s.seq h),y5 ys (s.seq h'),y6 us (s.seq h'')⟩⟩
end
theorem Same.seqT{K:zcm2}{a:Addr}(e:Same H H')(h:H a=some (.tup xs)):SqT K H' a xs:=SqT.of (e _ _ h)
theorem Wk.tup{K:zcm2}{a:Addr}{H1:Hp}(h:H1 a=some (.tup xs)):Wk (Itt K a) xs.length H1 fun i x _=>xs[i]?=some x:=
 ⟨fun i H s hi=>⟨xs,xs[i],Same.seqT s h,by simp[hi]⟩,fun H s=>⟨xs,Same.seqT s h,zcn4 _⟩,fun i H x H' s _ y=>by
  obtain⟨e,y⟩:=y
  subst e
  exact⟨Same.refl _,y xs (Same.seqT s h)⟩⟩
set_option maxHeartbeats 4000000
section
variable {prog:Program}{w:World}{A:Around}{E:Value->Shared->Prop}{h:Heap}{g:Array GenState}{d:Drawn}{t:Nat}{os:OsState}
variable {nm q:Str}{C N:Addr}{bs bm bmB:List Value}{hdct:Bool}{sn:List Str}{sub:List Value}{ab:Bool}{col:Option Bool}{dd:Option Addr}{k0 k1 k2 k3 k5:Option Value}{B newId initId:String}{K:zcm2}
theorem zag7(F:ExcBaseFacts B newId initId bmB)(T:OwnTail h bmB bm)(X:K.In h){rest:List Value}{fI:Addr}{Q:Fin->Shared->Prop}(hC:h.get? C=some (excClassObj nm q C N bs bm hdct sn sub ab col dd k0 k1 k2 k3 k5 newId))(hi:zcp0 K (.ref C) "__init__"=some (some (.ref fI)))(hf:zcs3 K (.ref fI)=some (.type "function"))(hq:∀ h' e,Heap.MadeExcOf h h' e (.ref C) rest->h.objs.size<=e->wpAny (model prog w) A (call (.ref fI) (.ref e :: rest)) (fun r s'=>r=.none/\Q (.done (.ret (.ref e))) s') E ⟨h',g,d,t,os⟩)(hrest:rest.length<=sizeLine) :
  wpAny (model prog w) A (Builtin.«type.__call__» ⟨.ref C :: rest,[]⟩) Q E ⟨h,g,d,t,os⟩:=by
 repeat (first|with_reducible refine wpAny_loadPart_at hC ?_|with_reducible refine wpAny_madeBy_exc hC ?_|wp_step)
 refine codeAny_call_builtin_code (Code.quiet_builtin _ F.quiet) (wpAny_check_new_subT F T hC ?_)
 refine codeAny_exc_new_subT F T hC ?_ hrest
 show wpAny _ _ _ _ _ _
 have kp:∀ b o,h.get? b=some o->((h.push { cls:=.type "tuple",data:=.seq rest.toArray }).push { cls:=.ref C,data:=.fields #[.ref h.objs.size,.none,.none,.none,.bool false,.none] }).get? b=some o:=fun b o e=>zcm3 _ (zcm3 _ e)
 have hC₁:=kp _ _ hC
 have X₁:=X.keeps kp
 have hget:((h.push { cls:=.type "tuple",data:=.seq rest.toArray }).push
   { cls:=.ref C,data:=.fields #[.ref h.objs.size,.none,.none,.none,.bool false,.none] }).get? (h.objs.size+1)=some
   { cls:=.ref C,data:=.fields #[.ref h.objs.size,.none,.none,.none,.bool false,.none] }:=by heap_get
 have hcC:(Value.ref C :: bm).contains (.ref C)=true:=by simp
 unfold isInstance
 repeat (first|with_reducible refine wpAny_loadPart_at hget ?_|(with_reducible refine wpAny_isSubtype_exc hC₁ ?_;rw[hcC])|wp_step)
 show wpAny _ _ (typeLookup (.ref C) _) _ _ _
 refine (PySem.W.looks_findIn X₁ hi).at ?_
 refine zcv8 (zcv3 ((PySem.W.bind_fn X₁ _ hf).at ?_))
 refine zcv3 (wpAny_mono (hq _ (h.objs.size+1) ⟨kp,Heap.get?_none_of_le (Nat.le_succ _),h.objs.size,hget,Heap.get?_none_of_le (zcn4 _),?_⟩ (Nat.le_succ _)) (fun r s' hr=>?_) fun _ _ x=>x)
 ·exact zcm3 _ (Heap.get?_push_at rfl rfl)
 ·obtain⟨rfl,hQ⟩:=hr
  wp_walk
  exact hQ
theorem zbl9(F:ExcBaseFacts B newId initId bmB)(T:OwnTail h bmB bm)(X:K.In h){rest:List Value}{fI:Addr}(hC:h.get? C=some (excClassObj nm q C N bs bm hdct sn sub ab col dd k0 k1 k2 k3 k5 newId))(hi:zcp0 K (.ref C) "__init__"=some (some (.ref fI)))(hf:zcs3 K (.ref fI)=some (.type "function"))(hq:∀ h' e,Heap.MadeExcOf h h' e (.ref C) rest->h.objs.size<=e ->
   wpAny (model prog w) (A.under (.builtin "type.__call__" ⟨.ref C :: rest,[]⟩)) (call (.ref fI) (.ref e :: rest)) (fun r s'=>r=.none/\Q (.ref e) s') E ⟨h',g,d,t,os⟩)(hrest:rest.length<=sizeLine) :
  wpAny (model prog w) A (call (.ref C) rest) Q E ⟨h,g,d,t,os⟩:=by
 have f1:=tc_lookup
 have f2:=tc_bind (.ref C)
 have hT:(⟨h,g,d,t,os⟩:Shared).TypeIs (.ref C) "type":=⟨_,hC,rfl⟩
 refine wpAny_call (codeAny_of_tree ?_)
 show wpAny _ _ (callAny (.ref C) _) _ _ _
 repeat (any_goals (first|assumption|with_reducible refine wpAny_loadPart_at hC ?_|wp_step))
 refine⟨rfl,?_⟩
 refine codeAny_call_builtin_at (Code.quiet_builtin _ (by decide +kernel)) entry_typeCall (wpAny_check_type_call_sub hC (zag7 (hrest:=hrest) F T X hC hi hf fun h' e hm hz=>?_))
 exact hq h' e hm hz
end
section
variable {prog:Program}{w:World}{A:Around}{E:Value->Shared->Prop}{s:Shared}{env:Env}
variable {nm q:Str}{C N:Addr}{bs bm bmB:List Value}{hdct:Bool}{sn:List Str}{sub:List Value}{ab:Bool}{col:Option Bool}{dd:Option Addr}{k0 k1 k2 k3 k5:Option Value}{B newId initId:String}{K:zcm2}
theorem zr9{M:Model}{x:Sem Value}{Q:Flow->Shared->Prop}(hbase:bm.contains (.type "BaseException")=true)(hh:A.handled=none)(h:wpAny M A x (fun v s₁=>∃ (e t:Addr) (dx:Option Addr),v=.ref e/\s₁.heap.get? C=some (excClassObj nm q C N bs bm hdct sn sub ab col dd k0 k1 k2 k3 k5 newId)/\s₁.heap.get? e=some { cls:=.ref C,dict:=dx,data:=.fields #[.ref t,.none,.none,.none,.bool false,.none] }/\E (.ref e) s₁) E s) :
  wpAny M A (raiseStmt env (some x) none) Q E s:=by
 have hcB:(Value.ref C :: bm).contains (.type "BaseException")=true:=by rw[List.contains_cons,hbase,Bool.or_true]
 unfold raiseStmt
 refine zcv3 (wpAny_mono h (fun v s₁ h₁=>?_) fun _ _ x=>x)
 obtain⟨e,t,dx,rfl,hC,he,hE⟩:=h₁
 obtain⟨hp,g,d,tk,os⟩:=s₁
 repeat (first|with_reducible refine wpAny_loadPart_at he ?_|with_reducible refine wpAny_loadPart_at hC ?_|(with_reducible refine wpAny_isSubtype_exc hC ?_;rw[hcB])|wp_step)
 exact wpAny_raiseNew_none hh hE
theorem zbb7(F:ExcBaseFacts B newId initId bmB){x:Str}{np cpos pos:Pos}{args:List Expr}{fI:Addr}{Q:Flow->Shared->Prop}(hbase:bm.contains (.type "BaseException")=true)(hh:A.handled=none)(hplain:(backTo cpos (starEach args env)).any (·.1)=false)(hi:zcp0 K (.ref C) "__init__"=some (some (.ref fI)))(hf:zcs3 K (.ref fI)=some (.type "function"))(h:wpAny (model prog w) A (eval (.Name x np) env) (fun f s₁=>f=.ref C/\wpAny (model prog w) A (evalArgs (.ref C) true (backTo cpos (starEach args env)) [])
   (fun a s₂=>a.kw=[]/\a.pos.length<=sizeLine/\s₂.heap.get? C=some (excClassObj nm q C N bs bm hdct sn sub ab col dd k0 k1 k2 k3 k5 newId)/\K.In s₂.heap/\OwnTail s₂.heap bmB bm /\
    ∀ h' e,Heap.MadeExcOf s₂.heap h' e (.ref C) a.pos->s₂.heap.objs.size<=e->wpAny (model prog w) (A.under (.builtin "type.__call__" ⟨.ref C :: a.pos,[]⟩)) (call (.ref fI) (.ref e :: a.pos))
     (fun r s'=>r=.none/\(∃ (t:Addr) (dx:Option Addr),s'.heap.get? e=some { cls:=.ref C,dict:=dx,data:=.fields #[.ref t,.none,.none,.none,.bool false,.none] })/\s'.heap.get? C=some (excClassObj nm q C N bs bm hdct sn sub ab col dd k0 k1 k2 k3 k5 newId)/\E (.ref e) s') E { s₂ with heap:=h' }) E s₁) E s) :
  wpAny (model prog w) A (exec (.Raise (some (.Call (.Name x np) args [] cpos)) none pos) env) Q E s:=by
 rw[arm_exec_Raise]
 first
  | refine zcv3 (wpAny_standAt (zr9 (C:=C) (nm:=nm) (q:=q) (N:=N) (bs:=bs) (bm:=bm) (hdct:=hdct) (sn:=sn) (sub:=sub) (ab:=ab) (col:=col) (dd:=dd) (k0:=k0) (k1:=k1) (k2:=k2) (k3:=k3) (k5:=k5) (newId:=newId) hbase hh (zcv3 (wpAny_mono (wpAny_Call_ofName (wpAny_mono h (fun f s₁ h₁=>?_) fun _ _ x=>x)) (fun v s₃ h₃=>zcv3 (wpAny_standAt (zcv4 h₃))) fun _ _ x=>x))))
  | (simp only[evalOpt,Option.map];refine zcv3 (wpAny_standAt (zr9 (C:=C) (nm:=nm) (q:=q) (N:=N) (bs:=bs) (bm:=bm) (hdct:=hdct) (sn:=sn) (sub:=sub) (ab:=ab) (col:=col) (dd:=dd) (k0:=k0) (k1:=k1) (k2:=k2) (k3:=k3) (k5:=k5) (newId:=newId) hbase hh (zcv3 (wpAny_mono (wpAny_Call_ofName (wpAny_mono h (fun f s₁ h₁=>?_) fun _ _ x=>x)) (fun v s₃ h₃=>zcv3 (wpAny_standAt (zcv4 h₃))) fun _ _ x=>x)))))
 obtain⟨rfl,h₁⟩:=h₁
 unfold callWith
 refine zcv3 (zcv8 (wpAny_mono h₁ (fun a s₂ h₂=>zcv3 (wpAny_standAt ?_)) fun _ _ x=>x))
 obtain⟨apos,akw⟩:=a
 obtain⟨hkw,hlen,hC,hX,T,h₂⟩:=h₂
 obtain rfl:akw=[]:=hkw
 obtain⟨hp,g,d,tk,os⟩:=s₂
 simp only[hplain]
 refine zcv3 (wpAny_keeperOf_exc hC ?_)
 refine zcv3 (zbl9 (hrest:=hlen) F T hX hC hi hf fun h' e hm hz=>wpAny_mono (h₂ h' e hm hz) (fun r s' hr=>⟨hr.1,zcv3 (zcv8 (wpAny_point (zcv4 ?_)))⟩) fun _ _ z=>z)
 obtain⟨_,⟨t,dx,ho⟩,hC',hE⟩:=hr
 exact⟨e,t,dx,rfl,hC',ho,hE⟩
end
section
open PySem.W
variable {prog:Program}{w:World}{A:Around}{E:Value->Shared->Prop}{s:Shared}{K:Frag}
theorem zcd8{x:Addr}{ox:Obj}{vs:Array Value}{name:Str}{v:Value}{cd:ClassData}{Q:Unit->Shared->Prop}(X:K.In s.heap)(hx:s.heap.get? x=some ox)(hc:ox.cls=.ref C)(hdx:ox.dict=none)(hd:ox.data=.fields vs)(hs:findIn K (.ref C) "__setattr__"=some (some (.builtin "object.__setattr__")))(hcd:clsIn K C=some cd)(hmro:cd.mro=.ref C :: .ref aH :: bmV)(hh:cd.hasDict=true)(hn:findIn K (.ref C) name=some none)(hq:∀ h' tk',h'.get? x=some { ox with dict:=some s.heap.objs.size }->h'.Ns1 s.heap.objs.size (fun y=>if y=name then some v else none)->(∀ b o,b≠x->s.heap.get? b=some o->h'.get? b=some o)->Q () { s with heap:=h',toks:=tk' }) :
  wpAny (model prog w) A (setAttr (.ref x) name v) Q E s:=by
 have I:InstAt s.heap x ox C none:=⟨hx,hc,by unfold notCls;rw[hd],by rw[hdx];trivial⟩
 refine set_plain X I hs ?_
 have SF:=PySem.F.store_object
 have hm:Looks (model prog w) s.heap (mroOf (.ref C)) cd.mro:=(looks_clsIn X hcd).andThen .now
 have ty:=I.type (M:=model prog w)
 have sub:Looks (model prog w) s.heap (isInstance (.ref x) (.type "object")) true:=ty.andThen (looks_mroIn X (by unfold mroIn;rw[hcd,Option.bind_some,hmro];rfl))
 refine codeAny_call_builtin SF.slot.plain SF.entry (@check_slot (model prog w) _ _ { s with toks:=s.toks+1 } "object.__setattr__" "object" "__setattr__" (.ref x) [.str name s.toks,v] [] _ SF.kind SF.split sub (SF.args (.ref x) (.str name s.toks) v) ?_)
 rw[osa_eq,refuse_eq]
 refine zcv3 (zcv3 (ty.here (s:={ s with toks:=s.toks+1 }) (zcv3 (hm.here (s:={ s with toks:=s.toks+1 }) ?_))))
 rw[hmro,refuseLoop_ref,refuseLoop_ref,PySem.F.store_ValueError.passes]
 refine zcv4 (zcv3 (ty.here (s:={ s with toks:=s.toks+1 }) (zcv3 ((looks_findIn X hn).here (s:={ s with toks:=s.toks+1 }) (zcv3 (zcv4 ?_))))))
 have hxs:x≠s.heap.objs.size:=zcp2 (zcn3 hx)
 have hx₁:(s.heap.push { cls:=.type "dict",data:=.dict #[] }).get? x=some ox:=zcm3 _ hx
 show wpAny _ _ (Builtin.ObjectAttr.storeInOwnDict (.ref x) (.ref C) (.str name s.toks) name v false) _ _ _
 unfold Builtin.ObjectAttr.storeInOwnDict Builtin.ObjectAttr.ownDictForStores instanceDict
 refine zcv3 (zcv4 (zcv3 (zcv3 (wpAny_loadPart (s:={ s with toks:=s.toks+1 }) hx ?_))))
 rw[hc]
 refine zcv3 ((looks_clsIn X hcd).here (s:={ s with toks:=s.toks+1 }) ?_)
 rw[hh]
 dsimp only
 rw[hdx,if_neg (by decide)]
 dsimp only
 rw[if_neg (by simp[typeHasDict]),hd]
 dsimp only
 refine zcv3 (wpAny_alloc' ?_)
 refine zcv3 (wpAny_update' hx₁ ?_)
 refine zcv4 ?_
 have hgd:((s.heap.push { cls:=.type "dict",data:=.dict #[] }).update x fun o=>{ cls:=o.cls,dict:=some s.heap.objs.size,data:=o.data,slots:=o.slots }).get? s.heap.objs.size=some { cls:=.type "dict",data:=.dict #[] }:=
  (Heap.get?_update_ne _ _ _ _ hxs.symm).trans (Heap.get?_push_at rfl rfl)
 have hnd:((s.heap.push { cls:=.type "dict",data:=.dict #[] }).update x fun o=>{ cls:=o.cls,dict:=some s.heap.objs.size,data:=o.data,slots:=o.slots }).Ns s.heap.objs.size (fun _=>none):=
  ⟨_,#[],_,hgd,rfl,fun e he=>absurd he (by simp),fun _=>rfl⟩
 show wpAny _ _ (Builtin.ObjectAttr.storeInDict s.heap.objs.size (.str name s.toks) name v) _ _ _
 unfold Builtin.ObjectAttr.storeInDict Builtin.ObjectAttr.newKeyGuard
 refine zcv3 (zcv4 (zcv3 (wpAny_nsSet1 (Heap.Ns1.of_empty hnd) fun h' hn' hs=>?_)))
 obtain⟨oD,esD,epD,hoD,hdD,hcD⟩:=hn'.count (Within.cons name v Within.nil)
 refine zcv3 (wpAny_lookBehind hoD (by rw[hdD];exact pastItsLine_dict (zcr3 hcD (by rw[zco4,zcr4,zcv5];omega))) ?_)
 refine zcv4 (hq h' _ ?_ hn' (fun b ob hbx hb=>?_))
 ·refine (hs.2 x hxs).trans (zcq7 _ hx₁ ?_)
  have hfr:=(Heap.get?_some_iff.mp hx).2
  obtain⟨oc,od,odt,osl⟩:=ox
  cases odt<;>first|rfl|exact hfr
 ·exact (hs.2 b (zcp2 (zcn3 hb))).trans ((Heap.get?_update_ne _ _ _ _ hbx).trans (zcm3 _ hb))
end
def ExNew(e:Addr)(cls:Value)(dx:Option Addr)(h:Heap):Prop:=∃ t:Addr,h.get? e=some { cls:=cls,dict:=dx,data:=.fields #[.ref t,.none,.none,.none,.bool false,.none] }
abbrev exN(e:Addr)(cls:Value)(dx:Option Addr):HO:=.ext (ExNew e cls dx)
theorem zbv7{P:Program}{w:World}{cls:Value}{dx:Option Addr}(x:ExNew e cls dx h):ze9 P w H h e (exN e cls dx):=by
 obtain⟨t,ht⟩:=id x
 exact⟨x,⟨_,ht⟩,fun h1 h2 ⟨t',e1⟩ k=>⟨t',k _ e1⟩⟩
structure IniK(K:zcm2)(C aH f:Addr)(fld:Str):Prop where
 ob:∃ (nm q:Str) (N:Addr) (bs:List Value) (sn:List Str) (sub:List Value) (ab:Bool) (col:Option Bool) (dd:Option Addr) (k0 k1 k2 k3 k5:Option Value),K.lookup C=some (excClassObj nm q C N bs (.ref aH :: bmV) true sn sub ab col dd k0 k1 k2 k3 k5 newV)
 tl:∀ h:Heap,K.In h->OwnTail h bmV (.ref aH :: bmV)
 init:zcp0 K (.ref C) "__init__"=some (some (.ref f))
 fn:zcs3 K (.ref f)=some (.type "function")
 sa:zcp0 K (.ref C) "__setattr__"=some (some (.builtin "object.__setattr__"))
 nf:zcp0 K (.ref C) fld=some none
section
variable {X:Cx}{K:zcm2}
@[irreducible] def rSetX(C:Addr)(fld:Str)(e:Addr)(y:V)(H:Hp)(R:Hp->Prop):Prop:=H e=some (exN e (.ref C) none)/\∀ d H',H d=none->d≠e->Chg e H H'->H' e=some (exN e (.ref C) (some d))->H' d=some (.xd [(fld,y)])->R H'
def sFldX(C:Addr)(fld:Str)(ta tv:TE):TS:=fun D σ H=>tv σ H fun y H1=>ta σ H1 fun x H2=>match x with
 | .ref e=>rSetX C fld e y H2 (fun H'=>D.nx σ H')
 | _=>False
theorem zce5{fld:Str}{y:V}{R:Hp->Prop}(h:H e=some (exN e (.ref C) none))(q:∀ d H',H d=none->d≠e->Chg e H H'->H' e=some (exN e (.ref C) (some d))->H' d=some (.xd [(fld,y)])->R H'):rSetX C fld e y H R:=by unfold rSetX;exact⟨h,q⟩
theorem psFldX{fld:Str}{o value:Expr}{ta tv:TE}{pos pos':Pos}(hK:X.K=K)(Z:IniK K C aH f fld)(ha:PE X o ta)(hv:PE X value tv)(hs:swapsWith value (some (.Attribute o fld pos')) pos.line X.env=pure false:=by rfl):PS X (.Assign [.Attribute o fld pos'] value pos) (sFldX C fld ta tv):=by
 subst hK
 intro pins s σ H D I h
 refine plainObj_wpAny_Assign_Attribute (thn (hv pins s σ H _ I h) fun u s1 ⟨y,H1,I1,ry,q⟩=>thn (ha pins s1 σ H1 _ I1 q) fun ov s2 ⟨x,H2,I2,rx,q2⟩=>?_) hs
 dsimp only at q2
 split at q2
 case h_2=>exact q2.elim
 rename_i e
 obtain rfl:ov=Value.ref e:=rx
 unfold rSetX at q2
 obtain⟨he,q2⟩:=q2
 obtain⟨⟨t,ht⟩,_,_⟩:=(show ze9 X.prog X.w H2 s2.heap e (exN e (.ref C) none) from I2.hok e _ he)
 obtain⟨nm,qn,N,bs,sn,sub,ab,col,dd,k0,k1,k2,k3,k5,lk⟩:=Z.ob
 have hcd:zcs6 X.K C=some { name:=nm,bases:=bs,mro:=Value.ref C :: .ref aH :: bmV,ns:=N,qualname:=qn,hasDict:=true,slotNames:=sn,subclasses:=sub,abstract:=ab,collection:=col }:=by
  unfold zcs6;rw[lk]
 refine zcd8 I2.kIn ht rfl rfl rfl Z.sa hcd rfl rfl Z.nf fun h' tk' hx' hn' hk=>?_
 have hf:H2 s2.heap.objs.size=none:=I2.hok.fresh (zcn4 _)
 have hne:s2.heap.objs.size≠e:=zcs7 (zcn3 ht)
 have e1:(h'.update e fun _=>{ cls:=.ref C,data:=.fields #[.ref t,.none,.none,.none,.bool false,.none] }).get? e=some { cls:=.ref C,data:=.fields #[.ref t,.none,.none,.none,.bool false,.none] }:=zcq7 _ hx' rfl
 have k1:∀ b u,s2.heap.get? b=some u->(h'.update e fun _=>{ cls:=.ref C,data:=.fields #[.ref t,.none,.none,.none,.bool false,.none] }).get? b=some u:=fun b u hb=>by
  by_cases hbe:b=e
  ·subst hbe
   rw[e1];exact ht.symm.trans hb
  ·rw[zco7 _ _ (Ne.symm hbe)];exact hk b u hbe hb
 have I3:=I2.laid (a:=s2.heap.objs.size) (o:=.xd [(fld,y)]) (h':=h'.update e fun _=>{ cls:=.ref C,data:=.fields #[.ref t,.none,.none,.none,.bool false,.none] }) (t':=tk') k1 (zcn4 _)
  ⟨_,hn'.at (fun o q=>by rw[zco7 _ _ (Ne.symm hne)];exact q),fun g=>by
   by_cases hg:g=fld
   ·subst hg
    have hb:(g==g)=true:=by simp
    show RelO (List.lookup g [(g,y)]) (if g=g then some u else none)
    rw[if_pos rfl,show List.lookup g [(g,y)]=some y by simp only[List.lookup,hb]];exact ry
   ·have hb:(g==fld)=false:=beq_eq_false_iff_ne.mpr hg
    show RelO (List.lookup g [(fld,y)]) (if g=fld then some u else none)
    rw[if_neg hg,show List.lookup g [(fld,y)]=none by simp only[List.lookup,hb]];exact True.intro⟩
 have heu:upd H2 s2.heap.objs.size (.xd [(fld,y)]) e=some (exN e (.ref C) none):=by rw[zb1 (Ne.symm hne)];exact he
 have I4:=I3.write (x:=e) (e:=e) (o:=exN e (.ref C) (some s2.heap.objs.size)) (h':=h') (t':=tk') (by rw[heu];exact True.intro) (.inl rfl) (fun b u hb z=>by
  have z:(h'.update e fun _=>{ cls:=.ref C,data:=.fields #[.ref t,.none,.none,.none,.bool false,.none] }).get? b=some u:=z
  rw[zco7 _ _ (Ne.symm hb)] at z;exact z) ⟨_,hx'⟩ (zbv7 ⟨t,hx'⟩)
 exact⟨σ,_,I4,q2 _ _ hf hne (fun b o hb z=>by rw[zb1 hb,zb1 (za4 z hf)];exact z) zb5 (by rw[zb1 hne,zb5])⟩
@[irreducible] def zx8(C:Addr)(fld:Str):Sp:=fun vs H Q _=>∃ (e:Addr) (v:V),vs=[.ref e,v]/\H e=some (exN e (.ref C) none)/\∀ d H',H d=none->d≠e->Chg e H H'->H' e=some (exN e (.ref C) (some d))->H' d=some (.xd [(fld,v)])->Q .non H'
def hid(e:Addr)(H:Hp):Hp:=fun b=>if b=e then none else H b
theorem zw3{b:Addr}(h:b≠e):hid e H b=H b:=by unfold hid;rw[if_neg h]
theorem zbw5:hid e H e=none:=by unfold hid;rw[if_pos rfl]
theorem hid_of{b:Addr}{o:HO}(h:hid e H b=some o):b≠e/\H b=some o:=by
 by_cases z:b=e
 ·subst z;rw[zbw5] at h;cases h
 ·rw[zw3 z] at h;exact⟨z,h⟩
theorem zab0{b:Addr}(h:H b=none):hid e H b=none:=by
 by_cases z:b=e
 ·subst z;exact zbw5
 ·rw[zw3 z];exact h
section
variable {pins:List (Addr×Obj)}{σ:St}{H:Hp}{s:Shared}{e:Addr}{φ:Heap->Prop}
theorem HOk.hid{P:Program}{w:World}{h h':Heap}(x:HOk P w H h)(he:H e=some (.ext φ))(k:∀ b u,b≠e->(∃ o,H b=some o)->h.get? b=some u->h'.get? b=some u):HOk P w (L2.hid e H) h':=fun a o ha=>by
 obtain⟨hne,ha⟩:=hid_of ha
 have n1:∀ b,H b=some (.own a)->b≠e:=fun b hb z=>by rw[z,he] at hb;cases hb
 refine (x a o ha).stay (fun b u hb hu=>?_) (fun b hb=>by rw[zw3 (n1 b hb)];exact hb) fun b xs hb=>by
  rw[zw3 fun z=>by rw[z,he] at hb;cases hb];exact hb
 rcases hb with rfl|hb
 ·exact k _ _ hne ⟨_,ha⟩ hu
 ·exact k _ _ (n1 b hb) ⟨_,hb⟩ hu
theorem Inv.hid(I:Inv X pins σ H s)(he:H e=some (.ext φ)):Inv X pins σ (L2.hid e H) s:=by
 refine⟨I.ok,I.os,I.bare,⟨I.base.keep,I.base.slot,fun b o h1 h2 h3=>zab0 (I.base.free b o h1 h2 h3),I.base.there,fun b xs q=>?_,fun b o u q=>?_,fun b ps q=>?_⟩,I.loc,I.cell,zab0 I.free,fun x c h=>zab0 (I.freeC x c h),fun p hp=>?_,I.hok.hid he fun _ _ _ _ h=>h,I.len⟩
 ·have z:=I.base.tups b xs q
  rw[zw3 fun y=>by rw[y,he] at z;cases z];exact z
 ·have z:=I.base.frzs b o u q
  rw[zw3 fun y=>by rw[y,he] at z;cases z];exact z
 ·obtain⟨more,z⟩:=I.base.tbls b ps q
  exact⟨more,by rw[zw3 fun y=>by rw[y,he] at z;cases z];exact z⟩
 ·obtain⟨a1,a2,a3,a4,a5⟩:=I.pin p hp
  exact⟨a1,zab0 a2,a3,a4,a5⟩
theorem zah2.of_init{cls:Value}{dx:Option Addr}(I:Inv X pins σ H s)(he:H e=some (exN e cls dx))(hen:∀ o,X.s₀.heap.get? e=some o->e∈X.ex):zah2 X pins σ (L2.hid e H) (PySem.W.hideAll s.heap (e :: frs X.stack)) e cls dx s:=by
 obtain⟨⟨t,ht⟩,_,_⟩:=(show ze9 X.prog X.w H s.heap e (exN e cls dx) from I.hok e _ he)
 refine⟨I.hid he,I.hok.hid he fun b u hb hh hu=>zct9 _ hu ?_,⟨fun b o hb=>PySem.W.of_hideAll _ hb,?_,?_,?_⟩,fun b o e0 n h1 h2=>?_,hen⟩
 ·intro hm
  obtain⟨o,hh⟩:=hh
  rcases zcm9.mp hm with z|hm
  ·exact hb z
  ·rw[I.stkFree b hm] at hh;cases hh
 ·exact PySem.W.hideAll_none _ zcr0
 ·refine PySem.W.funFrames_hide I.stack fun env hv a hf=>?_
  exact zcq4 _ (zcu4.mpr ⟨env,hv,hf⟩)
 ·exact⟨_,_,ht,rfl,rfl,rfl,by simp,.inl rfl,.inl rfl⟩
 ·refine zct9 _ (I.base.keep b o e0 n h1 h2) fun hm=>?_
  rcases zcm9.mp hm with rfl|hm
  ·exact h2 (hen _ e0)
  ·exact zab7 I e0 h1 hm
end
@[irreducible] def zr6(C:Addr)(fld:Str)(E:XK)(v:V)(H:Hp):Prop:=∀ d H',H d=none->Same H H'->H' d=some (.xd [(fld,v)])->E (.ref C) (some d) H'
def zbg1(C:Addr)(fld:Str)(E:XK)(t:TE):TS:=fun _ σ H=>t σ H fun v H1=>zr6 C fld E v H1
theorem zap0{fld:Str}{E:XK}{v:V}(q:∀ d H',H d=none->Same H H'->H' d=some (.xd [(fld,v)])->E (.ref C) (some d) H'):zr6 C fld E v H:=by unfold zr6;exact q
theorem zbt0{fld pn x:Str}{fd:FuncData}{k:Nat}{E:XK}{e₀:Expr}{te:TE}{np cpos pos:Pos}(Z:IniK X.K C aH f fld)(hm:X.mg x=some (.ref C))(Fi:FnOk X.prog X.w X.K X.mg X.base CX0 k f fd ["self",pn] (zx8 C fld))(hb:zag6 X.K fd ["self",pn] [])(hr:Room (k+1) X.A)(hc:X.calm=true)(hout:XOut X E)(he0:PE X e₀ te)(hg:Gl X x:=by rfl)(hd:(x==("__debug__":Str))=false:=by decide)(he:starEach [e₀] X.env=(false,eval e₀ X.env) :: starEach [] X.env:=by rfl)(hpl:(backTo cpos (starEach [] X.env)).any (·.1)=false:=by rfl) :
  PS X (.Raise (some (.Call (.Name x np) [e₀] [] cpos)) none pos) (zbg1 C fld E te):=by
 intro pins s σ H D I h
 obtain⟨nm,qn,N,bs,sn,sub,ab,col,dd,k0,k1,k2,k3,k5,lk⟩:=Z.ob
 refine zbb7 (K:=X.K) (C:=C) (nm:=nm) (q:=qn) (N:=N) (bs:=bs) (bm:=.ref aH :: bmV) (hdct:=true) (sn:=sn) (sub:=sub) (ab:=ab) (col:=col) (dd:=dd) (k0:=k0) (k1:=k1) (k2:=k2) (k3:=k3) (k5:=k5) PySem.F.excBase_ValueError
  (by rw[List.contains_cons,show List.contains bmV (Value.type "BaseException")=true by decide +kernel,Bool.or_true]) (I.ok.hd hc) (by rw[he];show (false || (backTo cpos (starEach [] X.env)).any (·.1))=false;rw[hpl];rfl) Z.init Z.fn (zak8 I hg hm ⟨rfl,?_⟩ hd)
 have hA:=za0 he0 (za1) he cpos pins s σ H (fun vs H1=>∃ v,vs=[v]/\zr6 C fld E v H1) I (by
  show te σ H fun v H1=>∃ v',[v]=[v']/\zr6 C fld E v' H1
  have e:(fun (v:V) (H1:Hp)=>∃ v',[v]=[v']/\zr6 C fld E v' H1)=fun v H1=>zr6 C fld E v H1:=by
   funext v H1
   apply propext
   exact⟨fun ⟨v',e1,e2⟩=>by cases e1;exact e2,fun e2=>⟨v,rfl,e2⟩⟩
  rw[e];exact h)
 rw[he] at hA ⊢
 refine Calls.evalArgs_plain (thn hA fun us s2 ⟨vs,H1,I1,r,v,ev,q⟩=>?_)
 subst ev
 obtain⟨u,rfl,ru⟩:=r.one
 refine⟨rfl,by show 1<=sizeLine;decide,I1.kIn _ _ lk,I1.kIn,Z.tl _ I1.kIn,fun h' e m hz=>?_⟩
 obtain⟨t,ht,_,_⟩:=m.there
 have hfe:H1 e=none:=I1.hok.fresh hz
 have I2:=I1.laid (a:=e) (o:=exN e (.ref C) none) (h':=h') (t':=s2.toks) m.keeps hz (zbv7 ⟨t,ht⟩)
 have hsp:zx8 C fld [.ref e,v] (upd H1 e (exN e (.ref C) none)) (fun w H'=>w=.non/\∃ d,H1 d=none/\d≠e/\Chg e (upd H1 e (exN e (.ref C) none)) H'/\H' e=some (exN e (.ref C) (some d))/\H' d=some (.xd [(fld,v)])) E:=by
  unfold zx8
  refine⟨e,v,rfl,zb5,fun d H' hd hne hch h1 h2=>⟨rfl,d,?_,hne,hch,h1,h2⟩⟩
  rw[zb1 hne] at hd;exact hd
 refine wpAny_call (codeAny_mono (Fi.run _ X.stack _ _ ⟨[.ref e,u],[]⟩ [.ref e,u] [.ref e,v] _ _ (hr.make C [u] []) (I2.env0.make C [u] []) (hb _ [.ref e,u] I2.kIn rfl) (.cons rfl (.cons ru .nil)) hsp) fun r s' hq'=>?_)
 cases r with
 | error e=>exact False.elim hq'
 | ok fl=>
  cases fl with
  | ret u'=>
   obtain⟨v',H3,I3,rv,rfl,d,hd1,hd2,hch,h3,h4⟩:=I2.after hq'
   cases (show u'=Value.none from rv)
   obtain⟨⟨t',ht'⟩,_,_⟩:=(show ze9 X.prog X.w H3 s'.heap e (exN e (.ref C) (some d)) from I3.hok e _ h3)
   refine⟨rfl,⟨t',some d,ht'⟩,I3.kIn _ _ lk,?_⟩
   have hen:∀ o,X.s₀.heap.get? e=some o->e∈X.ex:=fun o z=>by
    apply Classical.byContradiction
    intro hx
    obtain⟨o',k⟩:=I1.base.there e o z hx
    rw[m.new] at k
    cases k
   unfold zr6 at q
   refine hout _ _ _ _ _ _ _ _ (zah2.of_init I3 h3 hen) (q d _ hd1 (fun b o hb=>?_) (by rw[zw3 hd2];exact h4))
   have nb:=za4 hb hfe
   rw[zw3 nb]
   exact hch b o nb (by rw[zb1 nb];exact hb)
  | next=>exact False.elim hq'
  | brk=>exact False.elim hq'
  | cont=>exact False.elim hq'
end
section
variable {X:Cx}{K:zcm2}{H:Hp}{Q:VK}
end
def IniF(K:zcm2)(qual:Str)(st:Stmt)(f:Addr)(pn:Str):Prop:=∃ fd,Fun K "__init__" qual st f fd/\zag6 K fd ["self",pn] []
def IniOk(P:Program)(w:World)(K:zcm2)(mg:Str->Option Value)(base:Heap)(C f:Addr)(fld:Str):Prop:=∃ pn fd,FnOk P w K mg base CX0 1 f fd ["self",pn] (zx8 C fld)/\zag6 K fd ["self",pn] []
theorem zbg5{K:zcm2}(X:K.In h)(q:PySem.W.excIn K aH bmV newV=true):OwnTail h bmV (.ref aH :: bmV):=by
 refine PySem.W.tail_of_in X ?_
 unfold PySem.W.excIn at q
 split at q
 case h_2=>cases q
 rename_i dd cd sl ho
 split at q
 case h_2=>cases q
 simp only[zcn2,beq_iff_eq,Bool.not_eq_true'] at q
 obtain⟨⟨⟨⟨⟨q1,q2⟩,q3⟩,q4⟩,q5⟩,q6⟩:=q
 unfold PySem.W.tailIn
 dsimp only
 rw[ho]
 dsimp only
 rw[q5,q6]
 have e:PySem.W.tailIn K bmV bmV=true:=by unfold PySem.W.tailIn;rw[Bool.or_eq_true];exact .inl (by simp)
 rw[e]
 simp
theorem zba4{X:Cx}{fld x:Str}{E:XK}{e₀:Expr}{te:TE}{np cpos pos:Pos}(Z:IniK X.K C aH f fld)(hm:X.mg x=some (.ref C))(O:IniOk X.prog X.w X.K X.mg X.base C f fld)(hr:Room 2 X.A)(hc:X.calm=true)(hout:XOut X E)(he0:PE X e₀ te)(hg:Gl X x:=by rfl)(hd:(x==("__debug__":Str))=false:=by decide)(he:starEach [e₀] X.env=(false,eval e₀ X.env) :: starEach [] X.env:=by rfl)(hpl:(backTo cpos (starEach [] X.env)).any (·.1)=false:=by rfl) :
  PS X (.Raise (some (.Call (.Name x np) [e₀] [] cpos)) none pos) (zbg1 C fld E te):=by
 obtain⟨pn,fd,Fi,hb⟩:=O
 exact zbt0 Z hm Fi hb hr hc hout he0 hg hd he hpl
set_option maxHeartbeats 2000000
def zbh6(x0:Str)(names:List (Str×NameKind)):Prop:=names.filter (fun y=>y.2==.cell)=[(x0,.cell)]/\names.lookup x0=some .cell
theorem zbh6.only{x0:Str}{names:List (Str×NameKind)}(h:zbh6 x0 names):∀ y∈names,y.2=.cell->y.1=x0:=fun y hy hc=>by
 have:y∈names.filter (fun y=>y.2==.cell):=List.mem_filter.mpr ⟨hy,by rw[hc];rfl⟩
 rw[h.1] at this
 rw[zct1.mp this]
set_option maxHeartbeats 1000000
section
variable {κ:Type}[DecidableEq κ]
def valV(kvs:List (κ×V))(k:κ):Option V:=(kvs.find? fun kv=>decide (kv.1=k)).map (·.2)
def putK(kvs:List (κ×V))(k:κ)(v:V):List (κ×V):=
 if (kvs.any fun kv=>decide (kv.1=k))=true then kvs.map (fun kv=>if kv.1=k then (kv.1,v) else kv) else kvs++[(k,v)]
theorem zx1{p:κ×V}{r:List (κ×V)}{k:κ}(e:p.1=k):valV (p :: r) k=some p.2:=by simp[valV,zcr5,e]
theorem zw8{p:κ×V}{r:List (κ×V)}{k:κ}(e:¬ p.1=k):valV (p :: r) k=valV r k:=by simp[valV,zcr5,e]
theorem zay9(k:κ):∀ kvs:List (κ×V),(kvs.any fun kv=>decide (kv.1=k))=(valV kvs k).isSome
 | []=>rfl
 | p :: r=>by
  rw[List.any_cons]
  by_cases e:p.1=k
  ·simp only[zx1 e,decide_eq_true e,Bool.true_or,Option.isSome_some]
  ·rw[zw8 e,decide_eq_false e,Bool.false_or];exact zay9 k r
theorem zae2(kvs:List (κ×V))(k:κ)(v:V):(putK kvs k v).length<=kvs.length+1:=by
 unfold putK
 split
 ·rw[zcl9];omega
 ·rw[zcn1,zco4,zcr4];omega
theorem RelO.isSome_eq{o:Option V}{u:Option Value}(r:RelO o u):o.isSome=u.isSome:=by
 cases o with
 | none=>cases u with
  | none=>rfl
  | some _=>exact (show False from r).elim
 | some _=>cases u with
  | none=>exact (show False from r).elim
  | some _=>rfl
theorem RelO.getD{o:Option V}{u:Option Value}{d:V}{d':Value}(r:RelO o u)(rd:RelV d d'):RelV (o.getD d) (u.getD d'):=by
 cases o with
 | none=>cases u with
  | none=>exact rd
  | some _=>exact (show False from r).elim
 | some _=>cases u with
  | none=>exact (show False from r).elim
  | some _=>exact r
theorem KV.val{kvs:List (κ×V)}{vs:List (κ×Value)}(r:KV kvs vs)(k:κ):RelO (valV kvs k) (valueAt vs k):=by
 unfold KV at r
 induction r with
 | nil=>exact True.intro
 | @cons p q ps qs h t ih=>
  obtain⟨h1,h2⟩:=h
  by_cases e:p.1=k
  ·have e':q.1=k:=h1.symm.trans e
   have b:valueAt (q :: qs) k=some q.2:=by simp[valueAt,zcr5,e']
   rw[zx1 e,b];exact h2
  ·have e':¬ q.1=k:=fun z=>e (h1.trans z)
   have b:valueAt (q :: qs) k=valueAt qs k:=by simp[valueAt,zcr5,e']
   rw[zw8 e,b];exact ih
theorem KV.any{kvs:List (κ×V)}{vs:List (κ×Value)}(r:KV kvs vs)(k:κ):(kvs.any fun kv=>decide (kv.1=k))=vs.any fun kv=>decide (kv.1=k):=by
 unfold KV at r
 induction r with
 | nil=>rfl
 | cons h t ih=>rw[List.any_cons,List.any_cons,ih,h.1]
theorem KV.repl{kvs:List (κ×V)}{vs:List (κ×Value)}(r:KV kvs vs)(k:κ){y:V}(ry:RelV y u) :
  KV (kvs.map fun kv=>if kv.1=k then (kv.1,y) else kv) (vs.map fun kv=>if kv.1=k then (kv.1,u) else kv):=by
 unfold KV at r ⊢
 induction r with
 | nil=>exact .nil
 | @cons p q ps qs h t ih=>
  rw[zcn9,zcn9]
  refine .cons ?_ ih
  obtain⟨h1,h2⟩:=h
  by_cases e:p.1=k
  ·rw[if_pos e,if_pos (h1.symm.trans e)];exact⟨h1,ry⟩
  ·rw[if_neg e,if_neg (fun z=>e (h1.trans z))];exact⟨h1,h2⟩
theorem KV.put{kvs:List (κ×V)}{vs:List (κ×Value)}(r:KV kvs vs)(k:κ){y:V}(ry:RelV y u):KV (putK kvs k y) (stored vs k u):=by
 unfold putK stored
 rw[r.any k]
 by_cases e:(vs.any fun kv=>decide (kv.1=k))=true
 ·rw[if_pos e,if_pos e];exact r.repl k ry
 ·rw[if_neg e,if_neg e];exact Paired.snoc r ⟨rfl,ry⟩
theorem KV.keys{kvs:List (κ×V)}{vs:List (κ×Value)}(r:KV kvs vs):kvs.map (·.1)=vs.map (·.1):=by
 unfold KV at r
 induction r with
 | nil=>rfl
 | cons h t ih=>rw[zcn9,zcn9,ih,h.1]
theorem KV.length{kvs:List (κ×V)}{vs:List (κ×Value)}(r:KV kvs vs):kvs.length=vs.length:=Paired.length r
end
theorem kV_is{P:Program}{w:World}{k:Key}(r:RelV (kV k) u):(zg7 P w).is k u=true:=by
 cases k with
 | inl i=>obtain⟨t,e⟩:=(show ∃ t,u=Value.int i t from r);subst e;exact zav8 P w i t
 | inr x=>obtain⟨t,e⟩:=(show ∃ t,u=Value.str x t from r);subst e;exact zax8 P w x t
theorem zaq5{P:Program}{w:World}:∀ {ks:List Key}{us:List Value},Vals (ks.map kV) us->ItemsAre (zg7 P w) ks us
 | [],_,r=>by rw[zcu1] at r;cases r;exact .nil
 | k :: ks,_,r=>by
  rw[zcn9] at r
  cases r with
  | cons h t=>exact .cons (kV_is h) (zaq5 t)
abbrev KT(H:Hp):List (List Key×V)->List (List Key×Addr×Value)->Prop:=Paired fun p q=>p.1=q.1/\H q.2.1=some (.tup (p.1.map kV))/\RelV p.2 q.2.2
theorem KT.val{kvs:List (List Key×V)}{xs:List (List Key×Addr×Value)}(r:KT H kvs xs)(k:List Key):RelO (valV kvs k) ((atKey xs k).map (·.2)):=by
 induction r with
 | nil=>exact True.intro
 | @cons p q ps qs h t ih=>
  obtain⟨h1,_,h2⟩:=h
  by_cases e:p.1=k
  ·have e':q.1=k:=h1.symm.trans e
   have b:atKey (q :: qs) k=some q.2:=by simp[atKey,zcr5,e']
   rw[zx1 e,b];exact h2
  ·have e':¬ q.1=k:=fun z=>e (h1.trans z)
   have b:atKey (q :: qs) k=atKey qs k:=by simp[atKey,zcr5,e']
   rw[zw8 e,b];exact ih
theorem KT.repl{kvs:List (List Key×V)}{xs:List (List Key×Addr×Value)}(r:KT H kvs xs)(k:List Key){y:V}(ry:RelV y u) :
  KT H (kvs.map fun kv=>if kv.1=k then (kv.1,y) else kv) (xs.map (putAt k u)):=by
 induction r with
 | nil=>exact .nil
 | @cons p q ps qs h t ih=>
  rw[zcn9,zcn9]
  refine .cons ?_ ih
  obtain⟨h1,h2,h3⟩:=h
  unfold putAt
  by_cases e:p.1=k
  ·rw[if_pos e,if_pos (h1.symm.trans e)];exact⟨h1,h2,ry⟩
  ·rw[if_neg e,if_neg (fun z=>e (h1.trans z))];exact⟨h1,h2,h3⟩
theorem KT.put{kvs:List (List Key×V)}{xs:List (List Key×Addr×Value)}(r:KT H kvs xs)(k:List Key){b:Addr}{y:V}(hb:H b=some (.tup (k.map kV)))(ry:RelV y u) :
  KT H (putK kvs k y) (storedH xs k b u):=by
 have e:(kvs.any fun kv=>decide (kv.1=k))=(atKey xs k).isSome:=by
  rw[zay9,(r.val k).isSome_eq,Option.isSome_map]
 unfold putK storedH
 rw[e]
 by_cases q:(atKey xs k).isSome=true
 ·rw[if_pos q,if_pos q];exact r.repl k ry
 ·rw[if_neg q,if_neg q];exact Paired.snoc r ⟨rfl,hb,ry⟩
theorem KT.keeps{kvs:List (List Key×V)}{xs:List (List Key×Addr×Value)}(r:KT H kvs xs)(ht:∀ b ys,H b=some (.tup ys)->H' b=some (.tup ys)):KT H' kvs xs:=
 Paired.mapP r fun _ _ z=>⟨z.1,ht _ _ z.2.1,z.2.2⟩
section
variable {P:Program}{w:World}{H:Hp}{h:Heap}{a:Addr}
theorem rd_of{u:HO}(ok:HOk P w H h)(e:Rd H a u):ze9 P w H h a u:=e.ok ok
theorem zbm9{kvs:List (Key×V)}(ok:HOk P w H h)(e:Rd H a (.dK kvs)):kvs.length<=sizeLine/\(a==sysModules)=false/\∃ vs,KV kvs vs/\h.DictOf (zg7 P w) a vs:=
 show ze9 P w H h a (.dK kvs) from rd_of ok e
theorem zbg2{kvs:List (Key×V)}(ok:HOk P w H h)(e:H a=some (.dK kvs)):kvs.length<=sizeLine/\(a==sysModules)=false/\∃ vs,KV kvs vs/\h.DictOf (zg7 P w) a vs:=zbm9 ok (.inl e)
theorem zay3{ks:List Key}(ok:HOk P w H h)(e:H a=some (.tup (ks.map kV))):(tupleKind (zg7 P w)).is h ks a:=by
 obtain⟨_,its,r,o,h1,h2,n,h3⟩:=(show ze9 P w H h a (.tup (ks.map kV)) from ok a _ e)
 exact⟨o,its.toArray,n,h1,h2,h3,by simpa using zaq5 r⟩
theorem zbp3{kvs:List (List Key×V)}(ok:HOk P w H h)(e:Rd H a (.dT kvs)):kvs.length<=sizeLine/\(a==sysModules)=false /\
  ∃ xs,KT H kvs xs/\h.DictOfH (tupleKind (zg7 P w)) a xs:=by
 obtain⟨z,y,xs,r,o,es,ep,h1,h2,h3,h4,h5⟩:=(show ze9 P w H h a (.dT kvs) from rd_of ok e)
 refine⟨z,y,xs,r,o,es,ep,h1,h2,h3,h4,fun x hx=>?_,h5⟩
 have all:∀ {l:List (List Key×V)}{m:List (List Key×Addr×Value)},KT H l m->∀ x∈m,(tupleKind (zg7 P w)).is h x.1 x.2.1:=by
  intro l m q
  induction q with
  | nil=>intro x hx;exact nomatch hx
  | @cons p q ps qs hq t ih=>
   intro x hx
   rcases zcm9.mp hx with e|hx
   ·subst e
    exact zay3 ok (by rw[← hq.1];exact hq.2.1)
   ·exact ih x hx
 exact all r x hx
theorem dt_of{kvs:List (List Key×V)}(ok:HOk P w H h)(e:H a=some (.dT kvs)):kvs.length<=sizeLine/\(a==sysModules)=false /\
  ∃ xs,KT H kvs xs/\h.DictOfH (tupleKind (zg7 P w)) a xs:=zbp3 ok (.inl e)
end
def DGet(H:Hp)(a:Addr)(y:V)(r:Option V):Prop:=
 (∃ kvs k,Rd H a (.dK kvs)/\y=kV k/\r=valV kvs k)∨∃ kvs k b,Rd H a (.dT kvs)/\y=.ref b/\H b=some (.tup (k.map kV))/\r=valV kvs k
def DPut(H:Hp)(a:Addr)(y v:V)(H':Hp):Prop:=
 (∃ kvs k,H a=some (.dK kvs)/\y=kV k/\kvs.length<sizeLine/\H'=upd H a (.dK (putK kvs k v))) ∨
 ∃ kvs k b,H a=some (.dT kvs)/\y=.ref b/\H b=some (.tup (k.map kV))/\kvs.length<sizeLine/\H'=upd H a (.dT (putK kvs k v))
theorem DGet.k{H:Hp}{a:Addr}{kvs:List (Key×V)}{k:Key}(e:H a=some (.dK kvs)):DGet H a (kV k) (valV kvs k):=.inl ⟨kvs,k,.inl e,rfl,rfl⟩
theorem DGet.t{a b:Addr}{kvs:List (List Key×V)}{k:List Key}(e:H a=some (.dT kvs))(eb:H b=some (.tup (k.map kV))):DGet H a (.ref b) (valV kvs k):=.inr ⟨kvs,k,b,.inl e,rfl,eb,rfl⟩
theorem DPut.k{H:Hp}{a:Addr}{kvs:List (Key×V)}{k:Key}{v:V}(e:H a=some (.dK kvs))(hl:kvs.length<sizeLine):DPut H a (kV k) v (upd H a (.dK (putK kvs k v))):=.inl ⟨kvs,k,e,rfl,hl,rfl⟩
theorem DPut.t{a b:Addr}{kvs:List (List Key×V)}{k:List Key}{v:V}(e:H a=some (.dT kvs))(eb:H b=some (.tup (k.map kV)))(hl:kvs.length<sizeLine) :
  DPut H a (.ref b) v (upd H a (.dT (putK kvs k v))):=.inr ⟨kvs,k,b,e,rfl,eb,hl,rfl⟩
section
variable {X:Cx}{pins:List (Addr×Obj)}{σ:St}{H:Hp}{s:Shared}{a:Addr}{y v:V}{u r:Value}{o:Option V}{A:Around}{E:Value->Shared->Prop}
theorem Inv.big(I:Inv X pins σ H s):sysModules<s.heap.objs.size:=by
 have h:zcv9<s.heap.objs.size:=(I.mod.glob.keeps I.bk).lt
 exact Nat.lt_trans (by decide) h
theorem zbj0(hu:A.units+1<cLine)(I:Inv X pins σ H s)(g:DGet H a y (some v))(ry:RelV y u)(h:∀ w' s',Inv X pins σ H s'->RelV v w'->Q w' s') :
  wpAny (model X.prog X.w) A (getItem (.ref a) u) Q E s:=by
 rcases g with ⟨kvs,k,e,ey,l⟩|⟨kvs,k,b,e,ey,eb,l⟩
 ·subst ey
  obtain⟨z,hd,vs,rel,dd⟩:=zbm9 I.hok e
  obtain⟨w',hw,rw'⟩:=RelO.some_of (v:=v) (o:=valueAt vs k) (by rw[l];exact rel.val k)
  exact wpAny_getItem_of (kV_is ry) dd.mapOf hw (h w' _ (I.tok _) rw')
 ·subst ey
  cases (show u=Value.ref b from ry)
  obtain⟨z,hd,xs,rel,dd⟩:=zbp3 I.hok e
  obtain⟨w',hw,rw'⟩:=RelO.some_of (v:=v) (o:=(atKey xs k).map (·.2)) (by rw[l];exact rel.val k)
  obtain⟨p,hp,hp2⟩:=zcm7.mp hw
  refine wpAny_getItem_heap (tupleKind_room_in1 hu) (zay3 I.hok eb) dd hp ?_
  rw[hp2]
  exact h w' _ (I.tok _) rw'
theorem zbh0{t':Nat}{ob:HO}(I:Inv X pins σ H s)(mu:Mut (H a))(hs:Heap.SameBut a s.heap h')(he:∃ q,h'.get? a=some q)(new:ze9 X.prog X.w (upd H a ob) h' a ob) :
  Inv X pins σ (upd H a ob) { s with heap:=h',toks:=t' }:=
 I.write (x:=a) (e:=a) mu (.inl rfl) (fun b q hb z=>(hs.2 b hb).trans z) he new
theorem dk_new{P:Program}{w:World}{kvs:List (Key×V)}{vs:List (Key×Value)}(z:kvs.length<=sizeLine)(hd:(a==sysModules)=false)(rel:KV kvs vs)(dd:h'.DictOf (zg7 P w) a vs) :
  ze9 P w H' h' a (.dK kvs):=⟨z,hd,vs,rel,dd⟩
theorem zbn2{Q:Unit->Shared->Prop}(hu:A.units+1<cLine)(I:Inv X pins σ H s)(g:DPut H a y v H')(ry:RelV y u)(rv:RelV v r)(h:∀ s',Inv X pins σ H' s'->Q () s') :
  wpAny (model X.prog X.w) A (setItem (.ref a) u r) Q E s:=by
 rcases g with ⟨kvs,k,e,ey,l,eH⟩|⟨kvs,k,b,e,ey,eb,l,eH⟩
 ·subst ey eH
  obtain⟨z,hd,vs,rel,dd⟩:=zbg2 I.hok e
  have hz:vs.length<=sizeLine:=by rw[← rel.length];exact z
  have hl:(putK kvs k v).length<=sizeLine:=by have:=zae2 kvs k v;omega
  refine wpAny_setItem_pairs (hsz:=hz) (kV_is ry) dd fun h' dd' hs=>h _ ?_
  have he:∃ q,h'.get? a=some q:=let ⟨q,_,_,hq,_⟩:=dd';⟨q,hq⟩
  exact zbh0 I (by rw[e];exact True.intro) hs he (dk_new hl hd (rel.put k rv) dd')
 ·subst ey eH
  cases (show u=Value.ref b from ry)
  obtain⟨z,hd,xs,rel,dd⟩:=dt_of I.hok e
  have hz:xs.length<=sizeLine:=by rw[← Paired.length rel];exact z
  have hl:(putK kvs k v).length<=sizeLine:=by have:=zae2 kvs k v;omega
  refine wpAny_setItem_heap (hsz:=hz) (tupleKind_room_in1 hu) (zay3 I.hok eb) dd fun h' dd' hs=>h _ ?_
  obtain⟨q,es,ep,hq,h2,h3,h4,_,h5⟩:=dd'
  refine zbh0 I (by rw[e];exact True.intro) hs ⟨q,hq⟩ ⟨hl,hd,_,(rel.put k eb rv).keeps fun c ys ec=>?_,q,es,ep,hq,h2,h3,h4,h5⟩
  rw[zb1 (ne_of ec e (fun z=>nomatch z))]
  exact ec
end
def NoSl(i:Expr):Prop:=∀ ov iv,subscripted i false ov iv=operate [ov,iv] (getItem ov iv)
theorem zcc9{prog:Program}{w:World}{A:Around}{E:Value->Shared->Prop}{env:Env}{value slice:Expr}{pos:Pos}{T id:String}(hl:typeLookup (.type T) "__getitem__"=pure (some (.builtin id)))(hs:NoSl slice)(h:wpAny (model prog w) A (eval value env) (fun o s₁=>wpAny (model prog w) A (eval slice env) (fun i s₂=>s₂.TypeIs o T/\wpAny (model prog w) A (getItem o i) Q E s₂) E s₁) E s) :
  wpAny (model prog w) A (eval (.Subscript value slice pos) env) Q E s:=by
 refine Subscript_ (wpAny_mono h (fun o s₁ h₁=>wpAny_mono h₁ (fun i s₂ h₂=>?_) fun _ _ x=>x) fun _ _ x=>x)
 obtain⟨hT,h₂⟩:=h₂
 unfold subscriptTail
 refine zcv3 ?_
 rw[getitemInPython_of_ne hT.not_modules]
 refine zcv3 (wpAny_specialOf hT hl ?_)
 have fin:wpAny (model prog w) A (subscripted slice false o i) (fun r s₃=>wpAny (model prog w) A (letTemporaryGo value o r >>= fun _=>pure r) Q E s₃) E s₂:=by
  rw[hs o i]
  exact wpAny_operating (wpAny_mono h₂ (fun r s₃ h₃=>zcv3 (wpAny_letTemporaryGo (zcv4 h₃))) fun _ _ x=>x)
 first
  | exact zcv4 (zcv3 fin)
  | exact zcv3 (zcv4 (zcv3 fin))
  | exact zcv3 fin
theorem zau7{X:Cx}{pins:List (Addr×Obj)}{σ:St}{a:Addr}{y:V}{o:Option V}(I:Inv X pins σ H s)(g:DGet H a y o):s.TypeIs (.ref a) "dict":=by
 rcases g with ⟨kvs,k,e,_,_⟩|⟨kvs,k,b,e,_,_,_⟩
 ·obtain⟨_,_,vs,_,dd⟩:=zbm9 I.hok e
  exact dd.typeIs
 ·obtain⟨_,_,xs,_,dd⟩:=zbp3 I.hok e
  exact dd.typeIs
def tDGet(td ty:TE):TE:=fun σ H Q=>td σ H fun x H1=>ty σ H1 fun y H2=>∃ a v,x=.ref a/\DGet H2 a y (some v)/\Q v H2
def sDPut(td ty tv:TE):TS:=fun D σ H=>tv σ H fun v H1=>td σ H1 fun x H2=>ty σ H2 fun y H3=>∃ a H4,x=.ref a/\DPut H3 a y v H4/\D.nx σ H4
section
variable {X:Cx}{o i e value:Expr}{pos pos' tpos:Pos}{td ty tv:TE}
theorem zcd9(hu:X.A.units+1<cLine)(ho:PE X o td)(hi:PE X i ty)(hs:NoSl i):PE X (.Subscript o i pos) (tDGet td ty):=by
 intro pins s σ H Q I h
 refine zcc9 PySem.F.slot_dict_getitem.lookup hs (thn (ho pins s σ H _ I h) fun u s1 ⟨x,H1,I1,rx,q1⟩=>thn (hi pins s1 σ H1 _ I1 q1) fun iv s2 ⟨y,H2,I2,ry,a,v,ex,g,q2⟩=>?_)
 subst ex
 obtain rfl:u=Value.ref a:=rx
 exact⟨zau7 I2 g,zbj0 hu I2 g ry fun w' s3 I3 rw'=>⟨v,H2,I3,rw',q2⟩⟩
theorem zcd2(hu:X.A.units+1<cLine)(ho:PE X o td)(hi:PE X i ty)(hv:PE X value tv)(hs:swapsWith value (some (.Subscript o i pos')) pos.line X.env=pure false) :
  PS X (.Assign [.Subscript o i pos'] value pos) (sDPut td ty tv):=by
 intro pins s σ H D I h
 refine wpAny_Assign_Subscript (thn (hv pins s σ H _ I h) fun r s1 ⟨v,H1,I1,rv,q1⟩=>thn (ho pins s1 σ H1 _ I1 q1) fun u s2 ⟨x,H2,I2,rx,q2⟩=>thn (hi pins s2 σ H2 _ I2 q2) fun iv s3 ⟨y,H3,I3,ry,a,H4,ex,g,q3⟩=>?_) hs
 subst ex
 obtain rfl:u=Value.ref a:=rx
 exact zbn2 hu I3 g ry rv fun s4 I4=>⟨σ,H4,I4,q3⟩
end
theorem zbu4{P:Program}{w:World}(h:Heap)(hb:sysModules<h.objs.size):ze9 P w H (h.push { cls:=.type "dict",data:=.dict #[] }) h.objs.size (.dK []):=
 ⟨zcp5 _,beq_eq_false_iff_ne.mpr (Ne.symm (zcp2 hb)),[],.nil,Heap.DictOf.new h⟩
theorem zbs1{P:Program}{w:World}(h:Heap)(hb:sysModules<h.objs.size):ze9 P w H (h.push { cls:=.type "dict",data:=.dict #[] }) h.objs.size (.dT []):=
 ⟨zcp5 _,beq_eq_false_iff_ne.mpr (Ne.symm (zcp2 hb)),[],.nil,_,#[],0,zcn8 _ rfl,⟨rfl,rfl,rfl⟩,rfl,rfl,List.nodup_nil⟩
def tDNewK:TE:=fun _ H Q=>∀ p,H p=none->Q (.ref p) (upd H p (.dK []))
def tDNewT:TE:=fun _ H Q=>∀ p,H p=none->Q (.ref p) (upd H p (.dT []))
section
variable {X:Cx}{pos:Pos}
theorem zbq5:PE X (.Dict [] [] pos) tDNewK:=fun pins s σ H Q I h=>
 wpAny_Dict_empty ⟨.ref s.heap.objs.size,_,I.laid (a:=s.heap.objs.size) (o:=.dK []) (t':=s.toks) (fun _ _ q=>zcm3 _ q) (zcn4 _) (zbu4 s.heap I.big),rfl,h _ (I.hok.fresh (zcn4 _))⟩
theorem zbr3:PE X (.Dict [] [] pos) tDNewT:=fun pins s σ H Q I h=>
 wpAny_Dict_empty ⟨.ref s.heap.objs.size,_,I.laid (a:=s.heap.objs.size) (o:=.dT []) (t':=s.toks) (fun _ _ q=>zcm3 _ q) (zcn4 _) (zbs1 s.heap I.big),rfl,h _ (I.hok.fresh (zcn4 _))⟩
end
structure M1(X:Cx)(o:Expr)(m:Str)(apos:Pos)(e:Expr)(cpos:Pos):Prop where
 base:attributeBase o m X.env (eval o X.env)=eval o X.env
 few:((backTo cpos (starEach [e] X.env)).all (fun x=>!x.1)&&(backToKw cpos (keywordEach [] X.env)).all (fun x=>x.1.isSome)
  && decide (([e]:List Expr).length+([]:List Keyword).length+(if ([]:List Keyword).isEmpty then 0 else 1)<30))=true
 line:(apos.endLine==cpos.line)=true
 trees:backTo cpos (starEach [e] X.env)=[(false,eval e X.env)]
structure M2(X:Cx)(o:Expr)(m:Str)(apos:Pos)(e f:Expr)(cpos:Pos):Prop where
 base:attributeBase o m X.env (eval o X.env)=eval o X.env
 few:((backTo cpos (starEach [e,f] X.env)).all (fun x=>!x.1)&&(backToKw cpos (keywordEach [] X.env)).all (fun x=>x.1.isSome)
  && decide (([e,f]:List Expr).length+([]:List Keyword).length+(if ([]:List Keyword).isEmpty then 0 else 1)<30))=true
 line:(apos.endLine==cpos.line)=true
 trees:backTo cpos (starEach [e,f] X.env)=[(false,eval e X.env),(false,eval f X.env)]
def IsD(H:Hp)(a:Addr):Prop:=(∃ kvs,Rd H a (.dK kvs))∨∃ kvs,Rd H a (.dT kvs)
theorem isD_at{X:Cx}{pins:List (Addr×Obj)}{σ:St}{a:Addr}(I:Inv X pins σ H s)(d:IsD H a) :
  s.TypeIs (.ref a) "dict"/\(∀ b,Value.ref a=.ref b->∃ ob,s.heap.get? b=some ob/\ob.dict=none)/\(a==sysModules)=false:=by
 rcases d with ⟨kvs,e⟩|⟨kvs,e⟩
 ·obtain⟨_,hd,vs,_,dd⟩:=zbm9 I.hok e
  refine⟨dd.typeIs,fun b q=>?_,hd⟩
  cases q
  obtain⟨ob,_,_,h1,h2,_⟩:=dd
  exact⟨ob,h1,h2.2.1⟩
 ·obtain⟨_,hd,xs,_,dd⟩:=zbp3 I.hok e
  refine⟨dd.typeIs,fun b q=>?_,hd⟩
  cases q
  obtain⟨ob,_,_,h1,h2,_⟩:=dd
  exact⟨ob,h1,h2.2.1⟩
section
variable {X:Cx}{pins:List (Addr×Obj)}{σ:St}{H:Hp}{s:Shared}{a:Addr}{y d:V}{u r:Value}{o:Option V}{A:Around}{E:Value->Shared->Prop}
theorem d_get2(hu:A.units+1<cLine)(I:Inv X pins σ H s)(g:DGet H a y o)(ry:RelV y u)(rd:RelV d r)(h:∀ w' s',Inv X pins σ H s'->RelV (o.getD d) w'->Q w' s') :
  wpAny (model X.prog X.w) A (call (.builtin "dict.get") [.ref a,u,r]) Q E s:=by
 rcases g with ⟨kvs,k,e,ey,l⟩|⟨kvs,k,b,e,ey,eb,l⟩
 ·subst ey
  obtain⟨z,hd,vs,rel,dd⟩:=zbm9 I.hok e
  refine call_meetsIn PySem.F.slot_dict_get dd.typeIs PySem.F.entry_dict_get (PySem.F.args_dict_get_3 _ _ _) (meets_dict_get_default (zg7 X.prog X.w) a (kV_is ry) hd r) ⟨_,dd.mapOf,h _ _ (I.tok _) ?_⟩
  rw[l]
  exact (rel.val k).getD rd
 ·subst ey
  cases (show u=Value.ref b from ry)
  obtain⟨z,hd,xs,rel,dd⟩:=zbp3 I.hok e
  refine call_meetsIn PySem.F.slot_dict_get dd.typeIs PySem.F.entry_dict_get (PySem.F.args_dict_get_3 _ _ _) (meetsH_dict_get_default (tupleKind (zg7 X.prog X.w)) a b hd r) ⟨tupleKind_room_in1 hu,k,xs,zay3 I.hok eb,dd,h _ _ (I.tok _) ?_⟩
  rw[l]
  exact (rel.val k).getD rd
end
def zbn1(td ty tx:TE):TE:=fun σ H Q=>td σ H fun x H1=>∃ a,x=.ref a/\IsD H1 a/\ty σ H1 fun y H2=>tx σ H2 fun z H3=>∃ o,DGet H3 a y o/\Q (o.getD z) H3
section
variable {X:Cx}{o e f:Expr}{apos cpos:Pos}{td ty tx:TE}
theorem zbt2(hu:X.A.units+1<cLine)(ho:PE X o td)(he:PE X e ty)(hf:PE X f tx)(m:M2 X o "get" apos e f cpos):PE X (.Call (.Attribute o "get" apos) [e,f] [] cpos) (zbn1 td ty tx):=by
 intro pins s σ H Q I h
 refine wpAny_Call_method m.base m.few m.line PySem.F.plainAttrs_dict PySem.F.slot_dict_get PySem.F.type_dict_get (thn (ho pins s σ H _ I h) fun u s1 ⟨x,H1,I1,rx,a,ex,d,q1⟩=>?_)
 subst ex
 obtain rfl:u=Value.ref a:=rx
 obtain⟨t1,t2,_⟩:=isD_at I1 d
 refine⟨t1,t2,?_⟩
 rw[m.trees]
 refine Calls.callWith_builtin rfl (Calls.evalArgs_plain (Calls.spliced_cons (thn (he pins s1 σ H1 _ I1 q1) fun iv s2 ⟨y,H2,I2,ry,q2⟩=>
  Calls.spliced_cons (thn (hf pins s2 σ H2 _ I2 q2) fun fv s3 ⟨z,H3,I3,rz,ov,g,q3⟩=>Calls.spliced_nil ?_))))
 exact d_get2 hu I3 g ry rz fun w' s4 I4 rw'=>⟨_,H3,I4,rw',q3⟩
end
set_option maxHeartbeats 2000000
def RawD(h:Heap)(d:Addr)(es:Array DictEntry)(ep:Nat):Prop:=∃ o,h.get? d=some o/\o.ExactDict/\o.data=.dict es ep
theorem RawD.is{d:Addr}{es:Array DictEntry}(x:RawD s.heap d es ep):s.TypeIs (.ref d) "dict":=let ⟨o,a,b,_⟩:=x;⟨o,a,b.1⟩
theorem RawD.lt{d:Addr}{es:Array DictEntry}(x:RawD h d es ep):d<h.objs.size:=let ⟨_,a,_⟩:=x;zcn3 a
theorem RawD.to{d:Addr}{es:Array DictEntry}(x:RawD h d es ep)(k:∀ o,h.get? d=some o->h'.get? d=some o):RawD h' d es ep:=let ⟨o,a,r⟩:=x;⟨o,k _ a,r⟩
section
variable {prog:Program}{w:World}{A:Around}{E:Value->Shared->Prop}{s:Shared}{d it:Addr}{es:Array DictEntry}{ep:Nat}
theorem zbr9(lo:(d==sysModules)=false)(x:RawD s.heap d es ep)(q:Q (.ref s.heap.objs.size) { s with heap:=s.heap.push { cls:=.type "dict_keyiterator",data:=.fields #[.ref d,.int 0 0,.int es.size 0,.int ep 0] } }) :
  wpAny (model prog w) A (pyIter (.ref d)) Q E s:=by
 obtain⟨o,x1,x2,x3⟩:=id x
 have tt:=x.is
 refine wpAny_pyIter_slot tt F.slot_dict_iter (wpAny_call_entry F.slot_dict_iter tt F.entry_dict_iter ?_ (F.args_dict_iter_1 _))
 unfold Builtin.«dict.__iter__» Builtin.Dict.dictSlotNone
 refine zcv3 (zcv3 (wpAny_notOrdered_dict tt ?_))
 show wpAny (model prog w) _ (pure (Value.ref d)) _ _ s
 refine zcv4 (?_:_)
 show wpAny (model prog w) _ (Builtin.Dict.showsAll d >>= _) _ _ s
 unfold Builtin.Dict.showsAll
 rw[if_neg (fun z=>zcn0 (lo.symm.trans z))]
 refine zcv3 (zcv4 (zcv3 (wpAny_dictEntries x1 x3 (zcv3 (wpAny_dictEpoch x1 x3 ?_)))))
 exact zcv3 (wpAny_newObj_type (zcv4 ⟨_,rfl,"dict_keyiterator",_,⟨_,zcn8 _ rfl,rfl⟩,F.slot_dict_keyiterator_next.lookup,by simpa [rawInt] using q⟩))
theorem zbq7{Q:Option Value->Shared->Prop}(y:s.heap.IsKeyIter it d i es.size ep)(x:RawD s.heap d es ep)(hi:i<es.size)(q:∀ h',h'.IsKeyIter it d (i+1) es.size ep->Heap.SameBut it s.heap h'->Q (some es[i].key) { s with heap:=h' }) :
  wpAny (model prog w) A (pyNext (.ref it)) Q E s:=by
 obtain⟨o,y1,y2,y3⟩:=id y
 obtain⟨od,x1,x2,x3⟩:=id x
 have own:Builtin.Dict_items.ownsTuple "dict_keyiterator"=false:=by decide
 unfold pyNext
 refine zcv3 (wpAny_attempt (wpAny_callSpecial?_slot (name:=Str.ofString "__next__") y.typeIs F.slot_dict_keyiterator_next (wpAny_call_entry F.slot_dict_keyiterator_next y.typeIs F.entry_dict_keyiterator_next ?_ (F.args_dict_keyiterator_next_1 _))))
 refine zcv3 (zcv4 (zcv3 (zcv3 ?_)))
 first|refine zcv3 (wpAny_typeNameOfWhole_keyiter y.typeIs (zcv4 ?_))|refine zcv3 (wpAny_typeNameOf_keyiter y.typeIs (zcv4 ?_))
 refine zcv3 (wpAny_fieldsOf y1 y3 ?_)
 simp only[own,zct0,if_false]
 show wpAny (model prog w) _ (if (Value.ref d==Value.none)=true then _ else _) _ _ s
 rw[if_neg (show ¬ (Value.ref d==Value.none)=true from zcn0)]
 refine zcv3 (zcv4 (zcv3 (wpAny_dictEntries x1 x3 ?_)))
 rw[if_neg (by simp)]
 refine zcv3 (zcv4 (zcv3 (wpAny_dictEpoch x1 x3 ?_)))
 rw[if_neg (by simp)]
 refine zcv4 (?_:_)
 simp only[show ¬ ((i:Int)<0) from by omega,if_false,Int.toNat_natCast,zct2 hi]
 refine zcv3 (?_:_)
 first|refine zcv3 (wpAny_typeNameOfWhole_keyiter y.typeIs (zcv4 ?_))|refine zcv3 (wpAny_typeNameOf_keyiter y.typeIs (zcv4 ?_))
 refine zcv3 (wpAny_isOneOf_keyiter y.typeIs ?_)
 show wpAny (model prog w) _ (setField (.ref it) 1 (rawInt ((i:Int)+1)) >>= _) _ _ s
 refine zcv3 (wpAny_setField y1 y3 (by simp) ?_)
 have y':(s.heap.update it (Obj.mapFields (·.setIfInBounds 1 (rawInt ((i:Int)+1))))).IsKeyIter it d (i+1) es.size ep:=
  ⟨_,zcq7 _ y1 (Obj.isFreed_of_fields (Obj.data_mapFields y3 _)),(Obj.cls_mapFields ..).trans y2,by rw[Obj.data_mapFields y3];simp[rawInt]⟩
 refine zcv3 (zcv8 (zcv3 (wpAny_isOneOf_keyiter (s:={ s with heap:=s.heap.update it (Obj.mapFields (·.setIfInBounds 1 (rawInt ((i:Int)+1)))) }) y'.typeIs ?_)))
 show wpAny (model prog w) _ (pure es[i].key) _ _ _
 exact zcv4 (zcv4 ⟨_,rfl,zcv4 (q _ y' (Heap.SameBut.update ..))⟩)
theorem zbz1{Q:Option Value->Shared->Prop}(hh:A.handled=none)(y:s.heap.IsKeyIter it d i es.size ep)(x:RawD s.heap d es ep)(hi:es.size<=i)(q:∀ h',Heap.ExtBut it s.heap h'->Q none { s with heap:=h' }) :
  wpAny (model prog w) A (pyNext (.ref it)) Q E s:=by
 obtain⟨o,y1,y2,y3⟩:=id y
 obtain⟨od,x1,x2,x3⟩:=id x
 have own:Builtin.Dict_items.ownsTuple "dict_keyiterator"=false:=by decide
 unfold pyNext
 refine zcv3 (wpAny_attempt (wpAny_callSpecial?_slot (name:=Str.ofString "__next__") y.typeIs F.slot_dict_keyiterator_next (wpAny_call_entry F.slot_dict_keyiterator_next y.typeIs F.entry_dict_keyiterator_next ?_ (F.args_dict_keyiterator_next_1 _))))
 refine zcv3 (zcv4 (zcv3 (zcv3 ?_)))
 first|refine zcv3 (wpAny_typeNameOfWhole_keyiter y.typeIs (zcv4 ?_))|refine zcv3 (wpAny_typeNameOf_keyiter y.typeIs (zcv4 ?_))
 refine zcv3 (wpAny_fieldsOf y1 y3 ?_)
 simp only[own,zct0,if_false]
 show wpAny (model prog w) _ (if (Value.ref d==Value.none)=true then _ else _) _ _ s
 rw[if_neg (show ¬ (Value.ref d==Value.none)=true from zcn0)]
 refine zcv3 (zcv4 (zcv3 (wpAny_dictEntries x1 x3 ?_)))
 rw[if_neg (by simp)]
 refine zcv3 (zcv4 (zcv3 (wpAny_dictEpoch x1 x3 ?_)))
 rw[if_neg (by simp)]
 refine zcv4 (?_:_)
 simp only[show ¬ ((i:Int)<0) from by omega,if_false,Int.toNat_natCast,Array.getElem?_eq_none hi]
 refine zcv3 (?_:_)
 first|refine zcv3 (wpAny_typeNameOfWhole_keyiter y.typeIs (zcv4 ?_))|refine zcv3 (wpAny_typeNameOf_keyiter y.typeIs (zcv4 ?_))
 show wpAny (model prog w) _ (setField (.ref it) 0 .none >>= _) _ _ s
 refine zcv3 (wpAny_setField y1 y3 (by simp) ?_)
 show wpAny (model prog w) _ (newExc (.type "StopIteration") [] >>= _) _ _ _
 refine zcv3 (?_:_)
 unfold newExc newTuple
 refine zcv3 (wpAny_newObj_type ?_ (zcp5 _))
 refine zcv3 (m:=firstArgMember _ _) (wpAny_of_eq (a:=Value.none) (by first|rfl|(unfold firstArgMember;rfl)) ?_)
 refine wpAny_newObj_type ?_ (by size_fits)
 unfold raiseNew
 refine zcv3 (wpAny_handled ?_)
 have hn:A.in1.handled=none:=hh
 rw[hn]
 refine zcv3 (zcv4 (wpAny_throw (?_:_)))
 refine zcv3 (wpAny_isInstance (b:=true) (T:="StopIteration") ⟨_,zcn8 _ rfl,rfl⟩ isSubtype_stop ?_)
 exact zcv4 (q _ (((Heap.SameBut.update ..).extBut.push _).push _))
theorem zbv2(hh:A.handled=none)(I:Addr)(ne:d≠I) :
  Walks prog w A I [I,d] [I] es.size (fun i v=>∃ e,es[i]?=some e/\v=e.key) (fun i h=>h.IsKeyIter I d i es.size ep/\RawD h d es ep) where
 sub:=by intro b z;simp at z;simp[z]
 frame:=fun i h h' st k=>⟨st.1.at (k I (by simp)),st.2.to (k d (by simp))⟩
 item:=fun i s Q E hi st q=>zbq7 st.1 st.2 hi fun h' y' hs=>q _ h' s.toks ⟨es[i],by simp[hi],rfl⟩ ⟨y',st.2.to fun o e=>hs.extBut d o ne e⟩ fun b o hb e=>hs.extBut b o (fun z=>hb (by simp[z])) e
 done:=fun s Q E st q=>zbz1 hh st.1 st.2 (zcn4 _) fun h' he=>q h' s.toks fun b o hb e=>he b o (fun z=>hb (by simp[z])) e
 self:=fun i s Q E st q=>wpAny_pyIter_keyiter st.1 q
theorem zbz5(lo:(d==sysModules)=false):PySem.W.KdlSrc prog w "dict" d d es.size (fun i v=>∃ e,es[i]?=some e/\v=e.key) (fun h=>RawD h d es ep) where
 type:=fun s x=>x.is
 there:=fun h x=>⟨x.lt,x.lt⟩
 keep:=fun h h' x k=>x.to fun o e=>k d (Or.inl rfl) o e
 notList:=rfl
 notTuple:=rfl
 hint:=fun A E s Q x q=>PySem.W.kdl_hint_dict x.is q
 iter:=fun A s hh x=>⟨_,_,(fun E Q q=>zbr9 lo x q),zbv2 hh _ (zcp2 x.lt),⟨⟨_,zcn8 _ rfl,rfl,rfl⟩,x.to fun o e=>zcm3 _ e⟩⟩
end
open PySem.W
section
variable {lt:Nat->Nat->Bool}{n:Nat}
def KW{α:Type}(lt:Nat->Nat->Bool)(n:Nat)(Q:α->Prop):KasT α->Prop
 | .ret a=>Q a
 | .ask i j k=>i<n/\j<n/\KW lt n Q (k (lt i j))
theorem KW.bd{α β:Type}{f:α->KasT β}{Q:β->Prop}:∀ {t:KasT α},KW lt n (fun a=>KW lt n Q (f a)) t->KW lt n Q (t.bind f)
 | .ret _,h=>h
 | .ask _ _ k,⟨h1,h2,h3⟩=>⟨h1,h2,KW.bd (t:=k _) h3⟩
theorem KW.mono{α:Type}{Q Q':α->Prop}(hq:∀ a,Q a->Q' a):∀ {t:KasT α},KW lt n Q t->KW lt n Q' t
 | .ret a,h=>hq a h
 | .ask _ _ k,⟨h1,h2,h3⟩=>⟨h1,h2,KW.mono hq (t:=k _) h3⟩
theorem KW.wp{α:Type}{cmp:Nat->Nat->(Bool->Shared->Prop)->Shared->Prop}{s:Shared}{Q:α->Prop}(hc:∀ i j C,i<n->j<n->C (lt i j) s->cmp i j C s):∀ {t:KasT α},KW lt n Q t->t.kasWp cmp (fun a s'=>s'=s/\Q a) s
 | .ret a,h=>⟨rfl,h⟩
 | .ask i j k,⟨h1,h2,h3⟩=>hc i j _ h1 h2 (KW.wp hc (t:=k _) h3)
def Pm(n:Nat)(p:Array Nat):Prop:=p.toList.Perm (List.range n)
theorem Pm.low{p:Array Nat}(h:Pm n p)(hn:0<n)(i:Nat):p.getD i 0<n:=by
 unfold Array.getD
 split
 ·rename_i hi
  exact zcq6.mp (h.mem_iff.mp (Array.getElem_mem_toList hi))
 ·exact hn
theorem Pm.rev{p:Array Nat}(h:Pm n p)(i j:Nat):Pm n (kas_rev p i j):=(Array.perm_iff_toList_perm.mp (mirror_perm p i j _)).trans h
theorem Pm.bub{p:Array Nat}(h:Pm n p)(i j:Nat):Pm n (bubble p i j):=(Array.perm_iff_toList_perm.mp (bubble_perm p i j)).trans h
end
section
variable {prog:Program}{w:World}{A:Around}{E:Value->Shared->Prop}{s:Shared}
def midH(h:Heap)(a:Addr)(vs:List Value):Heap:=((h.update a (Obj.mapSeq fun _=>#[])).push (seqObj "tuple" vs.toArray 0)).push (seqObj "list" #[] 0)
theorem zbf6{a b:Addr}(ne:b≠a)(e:h.get? b=some o):(midH h a vs).get? b=some o:=
 zcm3 _ (zcm3 _ ((Heap.get?_update_ne _ _ _ _ ne).trans e))
theorem zai7{a b:Addr}{out:Array Value}(ne:b≠a)(e:h.get? b=some o):(sortedHeap h a vs out).get? b=some o:=
 (Heap.get?_update_ne _ _ _ _ ne).trans (zbf6 ne e)
theorem zbh2{a:Addr}{xs:List Value}{n:Nat}(e:h.get? a=some (seqObj "list" xs.toArray n)):∃ c,(midH h a vs).get? a=some (seqObj "list" #[] c)/\(h.update a (Obj.mapSeq fun _=>#[])).get? a=some (seqObj "list" #[] c):=
 ⟨_,zcm3 _ (zcm3 _ (get?_update_seq e fun _=>#[])),get?_update_seq e fun _=>#[]⟩
theorem zat5{a:Addr}{xs:List Value}{n:Nat}{out:Array Value}(e:h.get? a=some (seqObj "list" xs.toArray n)):∃ c,(sortedHeap h a vs out).get? a=some (seqObj "list" out c):=by
 obtain⟨c,h1,_⟩:=zbh2 (vs:=vs) e
 exact⟨_,get?_update_seq h1 fun _=>out⟩
theorem zce6{a:Addr}{n:Nat}{κ:SortKind}{lt:Nat->Nat->Bool}{R:Array Nat->Prop}{P:PySem.Fin->Shared->Prop}(ho:s.heap.get? a=some (seqObj "list" vs.toArray n))(h2:2<=vs.length)(h64:vs.length<64)(hk:∀ Q:SortKind->Shared->Prop,Q κ { s with heap:=midH s.heap a vs }->wpAny (model prog w) A (keyKind' vs.toArray) Q E { s with heap:=midH s.heap a vs })(hc:∀ i j (C:Bool->Shared->Prop),i<vs.length->j<vs.length->C (lt i j) { s with heap:=midH s.heap a vs }->wpAny (model prog w) A (keyLt' κ (vs.getD i Value.none) (vs.getD j Value.none)) C (fun _ _=>False) { s with heap:=midH s.heap a vs })(kw:KW lt vs.length R (kas_sort vs.length))(h:∀ p:Array Nat,p.size=vs.length->R p->P (.done (.ret .none)) { s with heap:=sortedHeap s.heap a vs (List.toArray (p.toList.map fun i=>vs.getD i Value.none)) }) :
  wpAny (model prog w) A (Builtin.«list.sort» ⟨[.ref a],[]⟩) P E s:=by
 obtain⟨c,m1,m2⟩:=zbh2 (vs:=vs) ho
 have zs:¬ vs.toArray.size<2:=by rw[zcm8];omega
 have zl:vs.length<=sizeLine:=by rw[zcv5];omega
 rw[list_sort_plain]
 refine zcv3 (listItems_at ho rfl (zcv3 (listUpdate_at ho rfl ?_ (by rw[zcm8];exact zl) (zcp5 _))))
 refine zcv3 (seqEpoch_at m2 rfl (zcv3 (wpAny_newTuple ?_ zl)))
 refine zcv3 (wpAny_newList ?_ (zcp5 _))
 refine zcv8 (?_:_)
 show wpAny (model prog w) A _ P E { s with heap:=midH s.heap a vs }
 dsimp only
 rw[if_neg zs,if_neg zs]
 refine zcv3 (hk _ ?_)
 have run:=kat_run (prog:=prog) (w:=w) (A:=A) (E:=E) (κ:=κ) (ks:=vs) (vs:=vs) (s:={ s with heap:=midH s.heap a vs }) (Q:=fun st' s'=>s'={ s with heap:=midH s.heap a vs }/\∃ p:Array Nat,p.size=vs.length/\R p/\arrOf st'=p.map (kas_item (vs.toArray.zip vs.toArray))/\failedOf st'=none)
  rfl h2 h64 (fun p st' s' b1 b2 b3 b4=>⟨b4.1,p,b1,b4.2,b2,b3⟩) (KW.wp (cmp:=kas_ask prog w A κ vs) (fun i j C li lj hC=>hc i j C li lj hC) kw)
 refine zcv3 (wpAny_mono run ?_ fun _ _ e=>e)
 rintro⟨⟨⟩,st'⟩ s' ⟨rfl,p,pz,pR,har,hf⟩
 have out:=kat_snds rfl har
 dsimp only
 rw[out]
 refine zcv3 (seqEpoch_at m1 rfl (zcv3 (listUpdate_at m1 rfl ?_ (zcp5 _) ?_)))
 ·rw[hf]
  simp only[bne_self_eq_false,zct0,if_false]
  exact zcv4 (h p pz pR)
 ·rw[zcm8,zcl9,zco9,pz]
  omega
theorem zbt1{a:Addr}{n:Nat}{P:PySem.Fin->Shared->Prop}(ho:s.heap.get? a=some (seqObj "list" vs.toArray n))(h2:vs.length<2)(h:P (.done (.ret .none)) { s with heap:=sortedHeap s.heap a vs vs.toArray }):wpAny (model prog w) A (Builtin.«list.sort» ⟨[.ref a],[]⟩) P E s:=by
 obtain⟨c,m1,m2⟩:=zbh2 (vs:=vs) ho
 have zs:vs.toArray.size<2:=by rw[zcm8];omega
 have zl:vs.length<=sizeLine:=by rw[zcv5];omega
 rw[list_sort_plain]
 refine zcv3 (listItems_at ho rfl (zcv3 (listUpdate_at ho rfl ?_ (by rw[zcm8];exact zl) (zcp5 _))))
 refine zcv3 (seqEpoch_at m2 rfl (zcv3 (wpAny_newTuple ?_ zl)))
 refine zcv3 (wpAny_newList ?_ (zcp5 _))
 refine zcv8 (?_:_)
 show wpAny (model prog w) A _ P E { s with heap:=midH s.heap a vs }
 dsimp only
 rw[if_pos zs,if_pos zs]
 refine zcv3 (zcv4 (?_:_))
 rw[StateT.run_pure]
 refine zcv3 (zcv4 (?_:_))
 dsimp only
 have e:(vs.toArray.zip vs.toArray).map (·.2)=vs.toArray:=by
  apply Array.toList_inj.mp
  simp[List.map_snd_zip]
 show wpAny (model prog w) A (seqEpoch a >>= _) P E _
 refine zcv3 (seqEpoch_at m1 rfl (zcv3 (listUpdate_at m1 rfl ?_ (zcp5 _) ?_)))
 ·simp only[bne_self_eq_false,zct0,if_false]
  show wpAny (model prog w) A (ret Value.none) P E { s with heap:=sortedHeap s.heap a vs ((vs.toArray.zip vs.toArray).map (·.2)) }
  rw[e]
  exact zcv4 h
 ·show ((vs.toArray.zip vs.toArray).map (·.2)).size<=_
  rw[e,zcm8];omega
end
def ltP(x y:Int×Int):Bool:=if (x.1==y.1)=true then (if (x.2==y.2)=true then false else decide (x.2<y.2)) else decide (x.1<y.1)
def TupI(h:Heap)(v:Value)(x:Int×Int):Prop:=∃ a o t u n,v=.ref a/\h.get? a=some o/\o.cls=.type "tuple"/\o.data=.seq #[.int x.1 t,.int x.2 u] n
theorem TupI.to{v:Value}{x:Int×Int}(z:TupI h v x)(k:∀ b o,h.get? b=some o->h'.get? b=some o):TupI h' v x:=
 let ⟨a,o,t,u,n,e,e1,r⟩:=z;⟨a,o,t,u,n,e,k _ _ e1,r⟩
section
variable {prog:Program}{w:World}{A:Around}{E:Value->Shared->Prop}{s:Shared}
theorem zcd5{v v':Value}{x y:Int×Int}{C:Bool->Shared->Prop}(hv:TupI s.heap v x)(hv':TupI s.heap v' y)(h:C (ltP x y) s):wpAny (model prog w) A (keyLt' (tuples' true) v v') C E s:=by
 obtain⟨a,o,t,u,n,rfl,a1,a2,a3⟩:=hv
 obtain⟨b,o',t',u',n',rfl,b1,b2,b3⟩:=hv'
 refine kat_lt a1 a3 b1 b3 ?_
 show KatLex prog w A true false C [(.int x.1 t,.int y.1 t'),(.int x.2 u,.int y.2 u')] 0 s
 unfold ltP at h
 refine kat_cons (wpAny_eqBool_int (kat_go (fun e=>?_) fun e=>?_))
 ·rw[if_pos e] at h
  refine kat_yes (kat_cons (wpAny_eqBool_int (kat_go (fun e2=>?_) fun e2=>?_)))
  ·rw[if_pos e2] at h
   exact kat_yes (kat_nil h)
  ·rw[if_neg (by rw[e2];exact zcn0)] at h
   exact kat_no (kat_one _ _ (wpAny_lt_int h))
 ·rw[if_neg (by rw[e];exact zcn0)] at h
  exact kat_no (oneLt_int h)
theorem zbl7{h:Heap}:∀ {vs:List Value},(∀ v∈vs,∃ x,TupI h v x)->∃ fs,KatTups h vs fs/\fs.length=vs.length/\∀ f∈fs,∃ n t,f=Value.int n t
 | [],_=>⟨[],.nil,rfl,fun _ z=>nomatch z⟩
 | v :: vs,H=>by
  obtain⟨fs,a1,a2,a3⟩:=zbl7 (vs:=vs) fun u hu=>H u (.tail _ hu)
  obtain⟨x,a,o,t,u,n,rfl,b1,b2,b3⟩:=H v (.head _)
  refine⟨.int x.1 t :: fs,KatTups.cons b1 b2 b3 rfl a1,congrArg (·+1) a2,fun f hf=>?_⟩
  rcases zcm9.mp hf with rfl|hf
  ·exact⟨_,_,rfl⟩
  ·exact a3 f hf
theorem zbk1{Q:SortKind->Shared->Prop}(H:∀ v∈vs,∃ x,TupI s.heap v x)(h2:2<=vs.length)(h:Q (tuples' true) s):wpAny (model prog w) A (keyKind' vs.toArray) Q E s:=by
 obtain⟨fs,a1,a2,a3⟩:=zbl7 H
 refine kat_kind (T:=.type "int") a1 (by omega) (fun v hv=>?_) rfl h
 obtain⟨n,t,rfl⟩:=a3 v hv
 exact Looks.of_pure rfl
end
section
variable {X:Cx}{K:zcm2}
@[irreducible] def rDG(a:Addr)(y:V)(H:Hp)(Q:VK):Prop:=∃ v,DGet H a y (some v)/\Q v H
def rDGV(x y:V)(H:Hp)(Q:VK):Prop:=match x with
 | .ref a=>rDG a y H Q
 | _=>False
def tDG(td ty:TE):TE:=fun σ H Q=>td σ H fun x H1=>ty σ H1 fun y H2=>rDGV x y H2 Q
theorem tDG_eq(td ty:TE):tDG td ty=tDGet td ty:=by
 funext σ H Q
 unfold tDG tDGet
 congr 1;funext x H1;congr 1;funext y H2
 unfold rDGV
 apply propext
 cases x<;>first
  | (simp only[V.ref.injEq];unfold rDG;exact⟨fun ⟨v,g,q⟩=>⟨_,v,rfl,g,q⟩,fun ⟨a,v,e,g,q⟩=>⟨v,e▸g,q⟩⟩)
  | exact⟨fun z=>z.elim,fun ⟨a,v,e,_⟩=>nomatch e⟩
theorem peDGet{o i:Expr}{td ty:TE}{pos:Pos}(hu:X.A.units+40<cLine)(ho:PE X o td)(hi:PE X i ty)(hs:NoSl i:=by exact fun _ _=>rfl):PE X (.Subscript o i pos) (tDG td ty):=tDG_eq td ty▸zcd9 (by omega) ho hi hs
theorem dgT_rd{a b:Addr}{Q:VK}{kvs:List (List Key×V)}{k:List Key}{v:V}(e:H a=some (.dT kvs))(eb:H b=some (.tup (k.map kV)))(ev:valV kvs k=some v)(q:Q v H):rDG a (.ref b) H Q:=by
 unfold rDG
 exact⟨v,ev▸DGet.t e eb,q⟩
@[irreducible] def rIsD(a:Addr)(H:Hp)(P:Prop):Prop:=IsD H a/\P
@[irreducible] def rDG2(a:Addr)(y z:V)(H:Hp)(Q:VK):Prop:=∃ o,DGet H a y o/\Q (o.getD z) H
def rDG2V(x:V)(H:Hp)(P:Addr->Prop):Prop:=match x with
 | .ref a=>rIsD a H (P a)
 | _=>False
def tDG2(td ty tx:TE):TE:=fun σ H Q=>td σ H fun x H1=>rDG2V x H1 fun a=>ty σ H1 fun y H2=>tx σ H2 fun z H3=>rDG2 a y z H3 Q
theorem zbz8(td ty tx:TE):tDG2 td ty tx=zbn1 td ty tx:=by
 funext σ H Q
 unfold tDG2 zbn1
 congr 1;funext x H1
 unfold rDG2V rIsD rDG2
 apply propext
 cases x<;>first
  | (simp only[V.ref.injEq];exact⟨fun z=>⟨_,rfl,z⟩,fun ⟨a,e,z⟩=>e▸z⟩)
  | exact⟨fun z=>z.elim,fun ⟨a,e,_⟩=>nomatch e⟩
theorem zba3{o e f:Expr}{td ty tx:TE}{apos cpos:Pos}(hu:X.A.units+40<cLine)(ho:PE X o td)(he:PE X e ty)(hf:PE X f tx)(m1:attributeBase o "get" X.env (eval o X.env)=eval o X.env:=by rfl)(m2:((backTo cpos (starEach [e,f] X.env)).all (fun x=>!x.1)&&(backToKw cpos (keywordEach [] X.env)).all (fun x=>x.1.isSome)&&decide (([e,f]:List Expr).length+([]:List Keyword).length+(if ([]:List Keyword).isEmpty then 0 else 1)<30))=true:=by rfl)(m3:(apos.endLine==cpos.line)=true:=by rfl)(m4:backTo cpos (starEach [e,f] X.env)=[(false,eval e X.env),(false,eval f X.env)]:=by rfl):PE X (.Call (.Attribute o "get" apos) [e,f] [] cpos) (tDG2 td ty tx):=
 zbz8 td ty tx▸zbt2 (by omega) ho he hf ⟨m1,m2,m3,m4⟩
theorem zby7{a:Addr}{P:Prop}{kvs:List (List Key×V)}(e:H a=some (.dT kvs))(p:P):rIsD a H P:=by unfold rIsD;exact⟨.inr ⟨kvs,.inl e⟩,p⟩
theorem zcc5{a b:Addr}{z:V}{Q:VK}{kvs:List (List Key×V)}{k:List Key}(e:H a=some (.dT kvs))(eb:H b=some (.tup (k.map kV)))(q:Q ((valV kvs k).getD z) H):rDG2 a (.ref b) z H Q:=by
 unfold rDG2
 exact⟨_,DGet.t e eb,q⟩
@[irreducible] def rDP(a:Addr)(y v:V)(H:Hp)(N:Hp->Prop):Prop:=∃ H',DPut H a y v H'/\N H'
def rDPV(x y v:V)(H:Hp)(N:Hp->Prop):Prop:=match x with
 | .ref a=>rDP a y v H N
 | _=>False
def sDP(td ty tv:TE):TS:=fun D σ H=>tv σ H fun v H1=>td σ H1 fun x H2=>ty σ H2 fun y H3=>rDPV x y v H3 (D.nx σ)
theorem sDP_eq(td ty tv:TE):sDP td ty tv=sDPut td ty tv:=by
 funext D σ H
 unfold sDP sDPut
 congr 1;funext v H1;congr 1;funext x H2;congr 1;funext y H3
 unfold rDPV
 apply propext
 cases x<;>first
  | (simp only[V.ref.injEq];unfold rDP;exact⟨fun ⟨H',g,q⟩=>⟨_,H',rfl,g,q⟩,fun ⟨a,H',e,g,q⟩=>⟨H',e▸g,q⟩⟩)
  | exact⟨fun z=>z.elim,fun ⟨a,v,e,_⟩=>nomatch e⟩
theorem psDPut{o i value:Expr}{td ty tv:TE}{pos pos':Pos}(hu:X.A.units+40<cLine)(ho:PE X o td)(hi:PE X i ty)(hv:PE X value tv)(hs:swapsWith value (some (.Subscript o i pos')) pos.line X.env=pure false:=by rfl) :
  PS X (.Assign [.Subscript o i pos'] value pos) (sDP td ty tv):=sDP_eq td ty tv▸zcd2 (by omega) ho hi hv hs
theorem dpT_rd{a b:Addr}{v:V}{N:Hp->Prop}{kvs:List (List Key×V)}{k:List Key}(e:H a=some (.dT kvs))(eb:H b=some (.tup (k.map kV)))(hl:kvs.length<sizeLine)(q:∀ H',Chg a H H'->H' a=some (.dT (putK kvs k v))->N H'):rDP a (.ref b) v H N:=by
 unfold rDP
 exact⟨_,DPut.t e eb hl,q _ Chg.upd zb5⟩
def pK(x:Int×Int):List Key:=[.inl x.1,.inl x.2]
theorem zap9{α β:Type}{R:α->β->Prop}:∀ {as:List α}{bs:List β},Paired R as bs->∀ (i:Nat) (a:α) (b:β),as[i]?=some a->bs[i]?=some b->R a b:=by
 intro as bs h
 induction h with
 | nil=>intro i a b e;simp at e
 | cons h1 _ ih=>
  intro i a b e1 e2
  cases i with
  | zero=>simp at e1 e2;subst e1;subst e2;exact h1
  | succ j=>simp at e1 e2;exact ih j a b e1 e2
theorem zaq8{α β:Type}{R:α->β->Prop}:∀ {as:List α}{bs:List β},as.length=bs.length->(∀ (i:Nat) (a:α) (b:β),as[i]?=some a->bs[i]?=some b->R a b)->Paired R as bs
 | [],[],_,_=>.nil
 | a :: as,b :: bs,hl,h=>.cons (h 0 a b rfl rfl) (zaq8 (Nat.succ.inj hl) fun i x y e1 e2=>h (i+1) x y (by simpa using e1) (by simpa using e2))
end
structure Ord(lt:Nat->Nat->Bool):Prop where
 as:∀ i j,lt i j=true->lt j i=false
 tr:∀ i j k,lt j i=false->lt k j=false->lt k i=false
section
variable {lt:Nat->Nat->Bool}{n:Nat}
def gp(p:Array Nat)(i:Nat):Nat:=p.getD i 0
theorem zbg3{p q:Array Nat}(h:p[i]?=q[j]?):gp p i=gp q j:=by
 unfold gp
 rw[zcu6,zcu6,h]
theorem zt5{p:Array Nat}(hj:j<=p.size)(k:Nat):gp (kas_rev p i j) k=if i<=k/\k<j then gp p (i+j - 1 - k) else gp p k:=by
 have h:=getElem?_mirror_all (xs:=p) (i:=i) hj k
 split
 ·rename_i c;rw[if_pos c] at h;exact zbg3 h
 ·rename_i c;rw[if_neg c] at h;exact zbg3 h
theorem zbx5{p:Array Nat}{k l:Nat}(hk:k<p.size)(hl:l<=k)(i:Nat):gp (bubble p k (k - l)) i=if i=l then gp p k else if l<i/\i<=k then gp p (i - 1) else gp p i:=by
 have h:=getElem?_bubble hk (k - l) (by omega) i
 rw[show k - (k - l)=l by omega] at h
 split
 ·rename_i c;rw[if_pos c] at h;exact zbg3 h
 ·rename_i c
  rw[if_neg c] at h
  split
  ·rename_i c2;rw[if_pos c2] at h;exact zbg3 h
  ·rename_i c2;rw[if_neg c2] at h;exact zbg3 h
def Up(lt:Nat->Nat->Bool)(p:Array Nat)(k:Nat):Prop:=∀ i j,i<=j->j<k->lt (gp p j) (gp p i)=false
def Dn(lt:Nat->Nat->Bool)(p:Array Nat)(k:Nat):Prop:=∀ i j,i<=j->j<k->lt (gp p i) (gp p j)=false
theorem Ord.rf(O:Ord lt)(i:Nat):lt i i=false:=by
 cases h:lt i i with
 | false=>rfl
 | true=>exact absurd (O.as _ _ h) (by rw[h];exact fun w=>nomatch w)
theorem Up.snoc(O:Ord lt){p:Array Nat}{k:Nat}(u:Up lt p k)(hk:1<=k)(h:lt (gp p k) (gp p (k - 1))=false):Up lt p (k+1):=fun i j hij hj=>by
 by_cases e:j=k
 ·subst e
  by_cases e2:i=j
  ·subst e2;exact O.rf _
  ·exact O.tr _ _ _ (u i (j - 1) (by omega) (by omega)) h
 ·exact u i j hij (by omega)
theorem Dn.snoc(O:Ord lt){p:Array Nat}{k:Nat}(u:Dn lt p k)(hk:1<=k)(h:lt (gp p (k - 1)) (gp p k)=false):Dn lt p (k+1):=fun i j hij hj=>by
 by_cases e:j=k
 ·subst e
  by_cases e2:i=j
  ·subst e2;exact O.rf _
  ·exact O.tr _ _ _ h (u i (j - 1) (by omega) (by omega))
 ·exact u i j hij (by omega)
theorem Pm.size{p:Array Nat}(h:Pm n p):p.size=n:=by have:=h.length_eq;rw[zco9,zcq9] at this;exact this
theorem zbn8(O:Ord lt)(hn:0<n){p:Array Nat}(h:Pm n p):∀ f m,1<=m->Up lt p m->KW lt n (fun r=>m<=r/\r<=m+f/\Up lt p r/\(r<m+f->lt (gp p r) (gp p (r - 1))=true)) (kas_asc p f m)
 | 0,m,_,u=>⟨zcn4 _,zcn4 _,u,fun z=>absurd z (zcs5 _)⟩
 | f+1,m,hm,u=>by
  refine⟨h.low hn _,h.low hn _,?_⟩
  dsimp only
  cases e:lt (p.getD m 0) (p.getD (m - 1) 0) with
  | true=>rw[if_pos rfl];exact⟨zcn4 _,zcq8 _ _,u,fun _=>e⟩
  | false=>
   rw[if_neg (by decide)]
   exact KW.mono (fun r hr=>⟨by omega,by omega,hr.2.2.1,fun z=>hr.2.2.2 (by omega)⟩) (zbn8 O hn h f (m+1) (by omega) (u.snoc O hm e))
def Al(lt:Nat->Nat->Bool)(p:Array Nat)(m q:Nat):Prop:=∀ i j,m - (q+1)<=i->i<=j->j<m->lt (gp p j) (gp p i)=false
theorem Dn.al_rev(O:Ord lt){p:Array Nat}{q:Nat}(hm:m<=p.size)(hq:q+1<=m)(d:Dn lt p m)(al:Al lt p m q):Dn lt (kas_rev p (m - (q+1)) m) m:=fun i j hij hj=>by
 rw[zt5 hm,zt5 hm]
 by_cases ci:m - (q+1)<=i/\i<m
 ·rw[if_pos ci,if_pos ⟨by omega,hj⟩]
  exact al _ _ (by omega) (by omega) (by omega)
 ·rw[if_neg ci]
  split
  ·exact d i _ (by omega) (by omega)
  ·exact d i j hij hj
theorem zak3(O:Ord lt)(hn:0<n):∀ f (p:Array Nat) m q,Pm n p->m+f<=n->q+1<=m->Dn lt p m->Al lt p m q->KW lt n (fun r=>Pm n r.1/\m<=r.2.1/\r.2.1<=m+f/\r.2.2+1<=r.2.1/\Dn lt r.1 r.2.1/\Al lt r.1 r.2.1 r.2.2) (kas_desc f p m q)
 | 0,p,m,q,h,hf,hq,d,al=>⟨h,zcn4 _,zcn4 _,hq,d,al⟩
 | f+1,p,m,q,h,hf,hq,d,al=>by
  have hz:=h.size
  refine⟨h.low hn _,h.low hn _,?_⟩
  dsimp only
  cases e:lt (p.getD m 0) (p.getD (m - 1) 0) with
  | true=>
   rw[if_pos rfl]
   have al0:∀ p':Array Nat,Al lt p' (m+1) 0:=fun p' i j h1 h2 h3=>by
    have:i=j:=by omega
    subst this;exact O.rf _
   split
   ·rename_i q0
    refine KW.mono (fun r hr=>⟨hr.1,by omega,by omega,hr.2.2.2⟩) (zak3 O hn f _ (m+1) 0 (h.rev _ _) (by omega) (by omega) ?_ (al0 _))
    refine (d.al_rev O (by omega) hq al).snoc O (by omega) ?_
    rw[zt5 (by omega),zt5 (by omega),if_pos (by omega),if_neg (by omega),show m - (q+1)+m - 1 - (m - 1)=m - (q+1) by omega]
    exact O.tr _ _ _ (O.as _ _ e) (d _ _ (by omega) (by omega))
   ·exact KW.mono (fun r hr=>⟨hr.1,by omega,by omega,hr.2.2.2⟩) (zak3 O hn f p (m+1) 0 h (by omega) (by omega) (d.snoc O (by omega) (O.as _ _ e)) (al0 _))
  | false=>
   rw[if_neg (by decide)]
   refine⟨h.low hn _,h.low hn _,?_⟩
   dsimp only
   cases e2:lt (p.getD (m - 1) 0) (p.getD m 0) with
   | true=>rw[if_pos rfl];exact⟨h,zcn4 _,zcq8 _ _,hq,d,al⟩
   | false=>
    rw[if_neg (by decide)]
    refine KW.mono (fun r hr=>⟨hr.1,by omega,by omega,hr.2.2.2⟩) (zak3 O hn f p (m+1) (q+1) h (by omega) (by omega) (d.snoc O (by omega) e2) ?_)
    intro i j h1 h2 h3
    by_cases ej:j=m
    ·subst ej
     by_cases ei:i=j
     ·subst ei;exact O.rf _
     ·exact O.tr _ _ _ (al i (j - 1) (by omega) (by omega) (by omega)) e
    ·exact al i j (by omega) h2 (by omega)
theorem Dn.rev{p:Array Nat}(hm:m<=p.size)(d:Dn lt p m):Up lt (kas_rev p 0 m) m:=fun i j hij hj=>by
 rw[zt5 hm,zt5 hm,if_pos (by omega),if_pos (by omega)]
 exact d _ _ (by omega) (by omega)
theorem zbk8(O:Ord lt)(hn:0<n){p:Array Nat}(h:Pm n p)(hm:m<=n)(m1:1<=m)(d:Dn lt p m):KW lt n (fun x=>Pm n x.2/\1<=x.1/\x.1<=n/\Up lt x.2 x.1) (kas_tail3 m n p):=
 KW.bd (KW.mono (fun r hr=>⟨h.rev 0 m,by omega,by omega,hr.2.2.1⟩) (zbn8 O hn (h.rev 0 m) (n - m) m m1 (d.rev (by rw[h.size];exact hm))))
theorem zbj5(O:Ord lt)(hn:0<n){p:Array Nat}(h:Pm n p)(hm:m+1<=n)(d:Dn lt p (m+1)):KW lt n (fun x=>Pm n x.2/\1<=x.1/\x.1<=n/\Up lt x.2 x.1) (kas_descPart m n p):=by
 refine KW.bd (KW.mono (fun r hr=>?_) (zak3 O hn (n - (m+1)) p (m+1) 0 h (by omega) (by omega) d fun i j h1 h2 h3=>?_))
 ·obtain⟨r1,r2,r3,r4,r5,r6⟩:=hr
  split
  ·exact zbk8 O hn (r1.rev _ _) (by omega) (by omega) (r5.al_rev O (by rw[Pm.size r1];omega) r4 r6)
  ·exact zbk8 O hn r1 (by omega) (by omega) r5
 ·have:i=j:=by omega
  subst this;exact O.rf _
theorem zbu2(O:Ord lt)(hn:0<n){p:Array Nat}(h:Pm n p):KW lt n (fun x=>Pm n x.2/\1<=x.1/\x.1<=n/\Up lt x.2 x.1) (kas_count n p):=by
 have u1:Up lt p 1:=fun i j h1 h2=>by
  have:i=j:=by omega
  subst this;exact O.rf _
 refine KW.bd (KW.mono (fun r hr=>?_) (zbn8 O hn h (n - 1) 1 (zcn4 _) u1))
 obtain⟨r1,r2,r3,r4⟩:=hr
 by_cases c:(r==n)=true
 ·rw[if_pos c]
  exact⟨h,r1,by omega,r3⟩
 ·rw[if_neg c]
  have rn:r<n:=by
   have:r≠n:=fun z=>c (by rw[z];exact beq_self_eq_true n)
   omega
  by_cases c2:r>1
  ·rw[if_pos c2]
   refine⟨h.low hn _,h.low hn _,?_⟩
   dsimp only
   cases e:lt (p.getD 0 0) (p.getD (r - 1) 0) with
   | true=>rw[if_pos rfl];exact⟨h,r1,by omega,r3⟩
   | false=>
    rw[if_neg (by decide)]
    have hz:r<=p.size:=by rw[Pm.size h];omega
    have st:=r4 (by omega)
    refine zbj5 O hn (h.rev 0 r) (by omega) (Dn.snoc O (fun i j hij hj=>?_) (by omega) ?_)
    ·rw[zt5 hz,zt5 hz,if_pos (by omega),if_pos (by omega)]
     exact r3 _ _ (by omega) (by omega)
    ·rw[zt5 hz,zt5 hz,if_pos (by omega),if_neg (by omega),show 0+r - 1 - (r - 1)=0 by omega]
     exact O.tr _ _ _ (O.as _ _ st) e
  ·rw[if_neg c2]
   have r0:r=1:=by omega
   subst r0
   have st:=r4 (by omega)
   exact zbj5 O hn h (by omega) (Dn.snoc O (fun i j hij hj=>by
    have:i=j:=by omega
    subst this;exact O.rf _) (zcn4 _) (O.as _ _ st))
theorem zan0(O:Ord lt)(hn:0<n){p:Array Nat}(h:Pm n p)(k:Nat)(u:Up lt p k):∀ f l r,l<=r->r<=k->r<=l+f->(∀ i,i<l->lt (gp p k) (gp p i)=false)->(∀ i,r<=i->i<k->lt (gp p k) (gp p i)=true) ->
  KW lt n (fun x=>x<=k/\(∀ i,i<x->lt (gp p k) (gp p i)=false)/\∀ i,x<=i->i<k->lt (gp p k) (gp p i)=true) (kas_place p k f l r)
 | 0,l,r,h1,h2,h3,a,b=>by
  have:r=l:=by omega
  subst this
  exact⟨h2,a,b⟩
 | f+1,l,r,h1,h2,h3,a,b=>by
  unfold kas_place
  by_cases c:l≥r
  ·rw[if_pos c]
   have:r=l:=by omega
   subst this
   exact⟨h2,a,b⟩
  ·rw[if_neg c]
   refine⟨h.low hn _,h.low hn _,?_⟩
   dsimp only
   cases e:lt (p.getD k 0) (p.getD ((l+r) / 2) 0) with
   | true=>
    rw[if_pos rfl]
    refine zan0 O hn h k u f l ((l+r) / 2) (by omega) (by omega) (by omega) a fun i hi hk=>?_
    cases e2:lt (gp p k) (gp p i) with
    | true=>rfl
    | false=>
     have:=O.tr _ _ _ (u ((l+r) / 2) i hi hk) (show lt (gp p k) (gp p i)=false from e2)
     rw[show lt (gp p k) (gp p ((l+r) / 2))=true from e] at this
     cases this
   | false=>
    rw[if_neg (by decide)]
    refine zan0 O hn h k u f ((l+r) / 2+1) r (by omega) h2 (by omega) (fun i hi=>?_) b
    exact O.tr _ _ _ (u i ((l+r) / 2) (by omega) (by omega)) e
theorem up_bub(O:Ord lt){p:Array Nat}{k l:Nat}(hk:k<p.size)(u:Up lt p k)(hl:l<=k)(a:∀ i,i<l->lt (gp p k) (gp p i)=false)(b:∀ i,l<=i->i<k->lt (gp p k) (gp p i)=true):Up lt (bubble p k (k - l)) (k+1):=fun i j hij hj=>by
 rw[zbx5 hk hl,zbx5 hk hl]
 by_cases ci:i=l
 ·rw[if_pos ci]
  by_cases cj:j=l
  ·rw[if_pos cj];exact O.rf _
  ·rw[if_neg cj,if_pos (by omega)]
   exact O.as _ _ (b (j - 1) (by omega) (by omega))
 ·rw[if_neg ci]
  by_cases cj:j=l
  ·rw[if_pos cj,if_neg (by omega)]
   exact a i (by omega)
  ·rw[if_neg cj]
   by_cases di:l<i/\i<=k
   ·rw[if_pos di,if_pos (by omega)]
    exact u _ _ (by omega) (by omega)
   ·rw[if_neg di]
    by_cases dj:l<j/\j<=k
    ·rw[if_pos dj]
     exact u _ _ (by omega) (by omega)
    ·rw[if_neg dj]
     exact u _ _ hij (by omega)
theorem zbw8(O:Ord lt)(hn:0<n):∀ f (p:Array Nat) k,Pm n p->k+f=n->Up lt p k->KW lt n (fun p'=>Pm n p'/\Up lt p' n) (kas_bin f p k)
 | 0,p,k,h,e,u=>by
  have:k=n:=by omega
  subst this
  exact⟨h,u⟩
 | f+1,p,k,h,e,u=>by
  refine KW.bd (KW.mono (fun l hl=>?_) (zan0 O hn h k u k 0 k (zcp5 _) (zcn4 _) (by omega) (fun i hi=>absurd hi (Nat.not_lt_zero _)) fun i h1 h2=>absurd h2 (by omega)))
  exact zbw8 O hn f _ (k+1) (h.bub _ _) (by omega) (up_bub O (by rw[Pm.size h];omega) u hl.1 hl.2.1 hl.2.2)
theorem zcc7(O:Ord lt)(hn:0<n):KW lt n (fun p=>Pm n p/\Up lt p n) (kas_sort n):=by
 have h0:Pm n (List.toArray (List.range n)):=List.Perm.refl _
 refine KW.bd (KW.mono (fun r hr=>?_) (zbu2 O hn h0))
 obtain⟨r1,r2,r3,r4⟩:=hr
 by_cases c:r.1<n
 ·rw[if_pos c,show max r.1 1=r.1 by omega]
  exact zbw8 O hn _ _ _ r1 (by omega) r4
 ·rw[if_neg c]
  have e:r.1=n:=by omega
  exact⟨r1,e▸r4⟩
end
theorem zag1{x y:Int×Int}:ltP x y=true↔x.1<y.1∨(x.1=y.1/\x.2<y.2):=by
 unfold ltP
 by_cases e:x.1=y.1
 ·rw[if_pos (beq_iff_eq.mpr e)]
  by_cases e2:x.2=y.2
  ·rw[if_pos (beq_iff_eq.mpr e2)]
   exact⟨(fun h=>by cases h),fun h=>by omega⟩
  ·rw[if_neg (fun h=>e2 (beq_iff_eq.mp h)),decide_eq_true_iff]
   exact⟨fun h=>.inr ⟨e,h⟩,fun h=>by omega⟩
 ·rw[if_neg (fun h=>e (beq_iff_eq.mp h)),decide_eq_true_iff]
  exact⟨fun h=>.inl h,fun h=>by omega⟩
theorem zae8{x y:Int×Int}:ltP x y=false↔¬ (x.1<y.1∨(x.1=y.1/\x.2<y.2)):=by
 rw[← zag1]
 cases ltP x y<;>simp
theorem ord_P(xs:Nat->Int×Int):Ord (fun i j=>ltP (xs i) (xs j)) where
 as:=fun i j h=>by
  have h:=zag1.mp h
  exact zae8.mpr (by omega)
 tr:=fun i j k h1 h2=>by
  have h1:=zae8.mp h1
  have h2:=zae8.mp h2
  exact zae8.mpr (by omega)
section
variable {prog:Program}{w:World}{A:Around}{E:Value->Shared->Prop}{s:Shared}
theorem zbn6{D:Addr}{xs:Nat->Int×Int}{P:PySem.Fin->Shared->Prop}(ho:s.heap.get? D=some (seqObj "list" vs.toArray 0))(h64:vs.length<64)(H:∀ i,i<vs.length->TupI s.heap (vs.getD i Value.none) (xs i))(h:∀ (p:List Nat) (c:Nat) (hF:Heap),p.Perm (List.range vs.length)->p.Pairwise (fun i j=>ltP (xs j) (xs i)=false)->(∀ b o,b≠D->s.heap.get? b=some o->hF.get? b=some o)->hF.get? D=some (seqObj "list" (List.toArray (p.map fun i=>vs.getD i Value.none)) c)->P (.done (.ret .none)) { s with heap:=hF }) :
  wpAny (model prog w) A (Builtin.«list.sort» ⟨[.ref D],[]⟩) P E s:=by
 by_cases h2:vs.length<2
 ·refine zbt1 ho h2 ?_
  obtain⟨c,hc⟩:=zat5 (vs:=vs) (out:=vs.toArray) ho
  refine h (List.range vs.length) c _ (List.Perm.refl _) ?_ (fun b o ne e=>zai7 ne e) ?_
  ·have:vs.length=0∨vs.length=1:=by omega
   rcases this with e|e<;>rw[e]
   ·exact List.Pairwise.nil
   ·exact List.pairwise_singleton _ _
  ·rw[hc]
   have e:(List.range vs.length).map (fun i=>vs.getD i Value.none)=vs:=by
    apply zcv2 (by simp)
    intro i h1 h2
    simp at h1 h2
    simp[h2]
   rw[e]
 ·have old:∀ v,v∈vs->∃ i,i<vs.length/\vs.getD i Value.none=v:=fun v hv=>by
   obtain⟨i,hi,e⟩:=List.mem_iff_getElem.mp hv
   exact⟨i,hi,by simp[hi,e]⟩
  have nD:∀ {v:Value}{x:Int×Int},TupI s.heap v x->TupI (midH s.heap D vs) v x:=fun {v x} z=>by
   obtain⟨a,o,t,u,n,e,e1,e2,e3⟩:=z
   refine⟨a,o,t,u,n,e,zbf6 (fun q=>?_) e1,e2,e3⟩
   rw[q,ho] at e1
   cases e1
   have e2':Value.type "list"=Value.type "tuple":=e2
   exact absurd e2' (by decide)
  refine zce6 (κ:=tuples' true) (lt:=fun i j=>ltP (xs i) (xs j)) ho (by omega) h64 (fun Q q=>zbk1 (s:={ s with heap:=midH s.heap D vs }) (fun v hv=>?_) (by omega) q) (fun i j C li lj q=>zcd5 (s:={ s with heap:=midH s.heap D vs }) (nD (H i li)) (nD (H j lj)) q) (zcc7 (ord_P xs) (by omega)) fun p pz pR=>?_
  ·obtain⟨i,hi,rfl⟩:=old v hv
   exact⟨_,nD (H i hi)⟩
  ·obtain⟨c,hc⟩:=zat5 (vs:=vs) (out:=List.toArray (p.toList.map fun i=>vs.getD i Value.none)) ho
   refine h p.toList c _ pR.1 ?_ (fun b o ne e=>zai7 ne e) hc
   rw[zct3]
   intro i j hi hj hij
   rw[zco9] at hi hj
   have:=pR.2 i j (Nat.le_of_lt hij) (by omega)
   unfold gp at this
   simpa [Array.getD,hi,hj] using this
theorem zau9{d:Addr}{es:Array DictEntry}{xs:Nat->Int×Int}(lo:(d==sysModules)=false)(hh:A.handled=none)(x:RawD s.heap d es ep)(h64:es.size<64)(H:∀ i e,es[i]?=some e->TupI s.heap e.key (xs i))(h:∀ (h1 hF:Heap) (tk c:Nat) (p:List Nat) (vs:List Value),(∀ b o,s.heap.get? b=some o->h1.get? b=some o)->(∀ b o,h1.get? b=some o->hF.get? b=some o)->p.Perm (List.range es.size)->p.Pairwise (fun i j=>ltP (xs j) (xs i)=false)->vs=es.toList.map (·.key) ->
   hF.get? h1.objs.size=some (seqObj "list" (List.toArray (p.map fun i=>vs.getD i Value.none)) c)->Q (.ref h1.objs.size) { s with heap:=hF,toks:=tk }) :
  wpAny (model prog w) A (call (.builtin "sorted") [.ref d]) Q E s:=by
 have zl:es.size<=sizeLine:=by rw[zcv5];omega
 refine Calls.call_function_entry kind_sorted plain_sorted entry_sorted (args_sorted1 _) ?_
 unfold Builtin.«sorted»
 refine zcv3 (m:=checkCount "sorted" 1 1 _) (zcv4 (zcv3 (kdu_collect (A:=A.in1) (zbz5 lo) hh x zl fun h1 tk acc k1 it=>?_)))
 have len:acc.toList.length=es.size:=by rw[zco9];exact it.1
 have ev:acc.toList=es.toList.map (·.key):=by
  apply zcv2 (by rw[len,zcl9,zco9])
  intro i a1 a2
  rw[zco9] at a1
  obtain⟨e,e1,e2⟩:=it.2 i acc[i] (by simp[a1])
  simp only[Array.getElem_toList,List.getElem_map]
  rw[e2]
  obtain⟨q1,q2⟩:=zcs8.mp e1
  rw[← q2]
 refine zcv3 (wpAny_newList ?_ (by rw[len];exact zl))
 have hD:(h1.push (seqObj "list" acc.toList.toArray 0)).get? h1.objs.size=some (seqObj "list" acc.toList.toArray 0):=zcn8 _ rfl
 show wpAny (model prog w) _ _ _ _ { s with heap:=h1.push (seqObj "list" acc.toList.toArray 0),toks:=tk }
 refine zcv3 (zcv8 (wpAny_call_entry slot_list_sort ⟨_,hD,rfl⟩ entry_list_sort (zbn6 (xs:=xs) (s:={ s with heap:=h1.push (seqObj "list" acc.toList.toArray 0),toks:=tk }) hD (by rw[len];exact h64) (fun i hi=>?_) fun p c hF pp po kF eF=>⟨_,rfl,?_⟩) (args_list_sort _)))
 ·rw[len] at hi
  have z:=(H i es[i] (by simp[hi])).to k1
  have e:acc.toList.getD i Value.none=es[i].key:=by rw[ev];simp[hi]
  rw[e]
  exact z.to fun b o q=>zcm3 _ q
 ·refine zcv4 ⟨_,rfl,h h1 hF tk c p acc.toList k1 (fun b o e=>kF b o (zcp2 (zcn3 e)) (zcm3 _ e)) (by rw[← len];exact pp) po ev eF⟩
end
section
variable {X:Cx}{K:zcm2}
def OrdK(ks:List (Int×Int)):Prop:=ks.Nodup/\ks.Pairwise (fun x y=>ltP x y=true)
@[irreducible] def rSoO(a:Addr)(H:Hp)(Q:VK):Prop:=∃ kvs:List ((Int×Int)×V),H a=some (.dT (kvs.map fun z=>(pK z.1,z.2)))/\kvs.length<64 /\
 ∀ p H' (bs:List Addr) (ks:List (Int×Int)),H p=none->Same H H'->ks.Perm (kvs.map (·.1))->OrdK ks->Paired (fun b x=>H' b=some (.tup [.int x.1,.int x.2])) bs ks->H' p=some (.lst (bs.map V.ref))->Q (.ref p) H'
def rSoOM:List V->Hp->VK->Prop:=fun xs H Q=>match xs with
 | [.ref p]=>rSoO p H Q
 | _=>False
theorem soO_rd{a:Addr}{Q:VK}{kvs:List ((Int×Int)×V)}(h:H a=some (.dT (kvs.map fun z=>(pK z.1,z.2))))(hl:kvs.length<64)(q:∀ p H' (bs:List Addr) (ks:List (Int×Int)),H p=none->Same H H'->ks.Perm (kvs.map (·.1))->OrdK ks->Paired (fun b x=>H' b=some (.tup [.int x.1,.int x.2])) bs ks->H' p=some (.lst (bs.map V.ref))->Q (.ref p) H'):rSoO a H Q:=by unfold rSoO;exact⟨kvs,h,hl,q⟩
theorem zca4{ks:List (Int×Int)}(nd:ks.Nodup)(h:ks.Pairwise (fun x y=>ltP y x=false)):OrdK ks:=by
 refine⟨nd,?_⟩
 refine List.Pairwise.imp (fun {x y} z=>?_) (List.Pairwise.and nd h)
 have z2:=zae8.mp z.2
 refine zag1.mpr ?_
 have ne:¬ (x.1=y.1/\x.2=y.2):=fun w=>z.1 (Prod.ext w.1 w.2)
 omega
theorem cSortO(hc:X.calm=true):zo8 X (.builtin "sorted") rSoOM:=fun pins s σ H xs us Q I r h=>by
 unfold rSoOM at h
 split at h
 ·rename_i p
  unfold rSoO at h
  obtain⟨kvs,h1,h2,h3⟩:=h
  obtain⟨u1,rfl,rx⟩:=zaj8 r
  cases rx
  obtain⟨zl,lo,ys,kt,o,es,ep,e1,e2,e3,e4,e5⟩:=dt_of I.hok h1
  have lk:ys.length=kvs.length:=by have:=Paired.length kt;rw[zcl9] at this;exact this.symm
  have le:es.size=kvs.length:=by rw[← zco9,e4,zcl9,lk]
  have at_:∀ i,(hi:i<kvs.length)->∃ b v,ys[i]?=some (pK kvs[i].1,b,v)/\H b=some (.tup [.int kvs[i].1.1,.int kvs[i].1.2]):=fun i hi=>by
   have hy:i<ys.length:=lk▸hi
   have z:=zap9 kt i (pK kvs[i].1,kvs[i].2) ys[i] (by simp[hi]) (by simp[hy])
   refine⟨ys[i].2.1,ys[i].2.2,?_,z.2.1⟩
   rw[zcm0 hy]
   have z1:pK kvs[i].1=ys[i].1:=z.1
   rw[z1]
  have ke:∀ i e,es[i]?=some e->∃ hi:i<kvs.length,∃ b v,ys[i]?=some (pK kvs[i].1,b,v)/\e.key=.ref b/\H b=some (.tup [.int kvs[i].1.1,.int kvs[i].1.2]):=fun i e q=>by
   obtain⟨q1,q2⟩:=zcs8.mp q
   have hi:i<kvs.length:=le▸q1
   obtain⟨b,v,y1,y2⟩:=at_ i hi
   refine⟨hi,b,v,y1,?_,y2⟩
   rw[← zcp4,e4,zcm5,y1] at q
   simp only[Option.map_some,Option.some.injEq] at q
   rw[← q];rfl
  refine zau9 (xs:=fun i=>((kvs.map (·.1))[i]?).getD (0,0)) lo (I.ok.hd hc) (d:=p) (es:=es) (ep:=ep) ⟨o,e1,e2,e3⟩ (by omega) (fun i e q=>?_) fun h' hF tk c pm vs k1 kF pp po ev eF=>?_
  ·obtain⟨hi,b,v,_,q2,q3⟩:=ke i e q
   obtain⟨_,its,rv,ob,b1,b2,n,b3⟩:=(show ze9 X.prog X.w H s.heap b (.tup [.int kvs[i].1.1,.int kvs[i].1.2]) from I.hok b _ q3)
   obtain⟨v1,v2,rfl,w1,w2⟩:=vals2 rv
   obtain⟨t1,rfl⟩:=w1
   obtain⟨t2,rfl⟩:=w2
   have ex:((kvs.map (·.1))[i]?).getD (0,0)=kvs[i].1:=by simp[hi]
   rw[ex,q2]
   exact⟨b,ob,t1,t2,n,rfl,b1,b2,b3⟩
  ·have hp:p<s.heap.objs.size:=zcn3 e1
   have I1:Inv X pins σ H { s with heap:=h',toks:=tk }:=I.kept k1
   have fr:H h'.objs.size=none:=I1.fresh
   let as:List Addr:=pm.map fun i=>((ys[i]?).map (·.2.1)).getD 0
   have mem:∀ i,i∈pm->i<kvs.length:=fun i hi=>by have:=zcq6.mp (pp.mem_iff.mp hi);omega
   have vals:(pm.map fun i=>vs.getD i Value.none)=as.map Value.ref:=by
    rw[zco0]
    refine zcn7 fun i hi=>?_
    have hi':=mem i hi
    have hes:i<es.size:=by omega
    obtain⟨_,b,v,y1,y2,_⟩:=ke i es[i] (by simp[hes])
    rw[ev]
    simp[hes,y1,y2]
   have rl:Vals (as.map V.ref) (as.map Value.ref):=by
    generalize as=l
    induction l with
    | nil=>exact .nil
    | cons a l ih=>exact .cons rfl ih
   have lz:as.length<=sizeLine:=by
    show (pm.map _).length<=_
    rw[zcl9,pp.length_eq,zcq9,zcv5];omega
   refine⟨.ref _,_,I1.laid (h':=hF) (t':=tk) (o:=.lst (as.map V.ref)) kF (zcn4 _) ?_,rfl,h3 _ _ as (pm.map fun i=>((kvs.map (·.1))[i]?).getD (0,0)) fr (Same.upd fr) ?_ (zca4 ?_ ?_) ?_ zb5⟩
   ·exact⟨by rw[zcl9];exact lz,as.map Value.ref,c,rl,by rw[eF,vals]⟩
   ·have e:(List.range kvs.length).map (fun i=>((kvs.map (·.1))[i]?).getD (0,0))=kvs.map (·.1):=by
     apply zcv2 (by simp)
     intro i a1 a2
     simp at a1
     simp[a1]
    have q:=(show pm.Perm (List.range kvs.length) from le▸pp).map fun i=>((kvs.map (·.1))[i]?).getD (0,0)
    rw[e] at q
    exact q
   ·have e:(List.range kvs.length).map (fun i=>((kvs.map (·.1))[i]?).getD (0,0))=kvs.map (·.1):=by
     apply zcv2 (by simp)
     intro i a1 a2
     simp at a1
     simp[a1]
    have q:=(show pm.Perm (List.range kvs.length) from le▸pp).map fun i=>((kvs.map (·.1))[i]?).getD (0,0)
    rw[e] at q
    refine q.nodup_iff.mpr ?_
    have nk:((kvs.map fun z=>(pK z.1,z.2)).map (·.1)).Nodup:=by
     have:(kvs.map fun z=>(pK z.1,z.2)).map (·.1)=ys.map (·.1):=by
      apply zcv2 (by rw[zcl9,zcl9,zcl9,lk])
      intro i a1 a2
      rw[zcl9,zcl9] at a1
      obtain⟨b,v,y1,_⟩:=at_ i a1
      have hy:i<ys.length:=lk▸a1
      rw[zcm0 hy] at y1
      simp only[List.getElem_map]
      rw[Option.some.inj y1]
     rw[this];exact e5.2
    rw[zco0] at nk
    have:(kvs.map (Prod.fst∘fun z=>(pK z.1,z.2)))=(kvs.map (·.1)).map pK:=by rw[zco0];rfl
    rw[this] at nk
    exact List.Pairwise.of_map pK (fun a b h e=>h (by rw[e])) nk
   ·rw[List.pairwise_map]
    exact po
   ·refine zaq8 (by rw[zcl9,zcl9]) fun i a x q1 q2=>?_
    rw[zcm5] at q1 q2
    obtain⟨j,j1,j2⟩:=zcm7.mp q1
    rw[j1] at q2
    have hj:=mem j (zcm6 j1)
    obtain⟨b,v,y1,y2⟩:=at_ j hj
    rw[y1] at j2
    have j3:b=a:=j2
    have ex:kvs[j].1=x:=by simpa [hj] using q2
    rw[← j3,← ex]
    exact (Same.upd fr) b _ y2
 ·exact h.elim
end
set_option maxHeartbeats 4000000
section
variable {X:Cx}{K:zcm2}{H:Hp}{Q:VK}
def ExA(H:Hp)(e D:Addr):Prop:=H e=some (excO e (.ref D) none)∨∃ d fs,H e=some (excO e (.ref D) (some d))/\H d=some (.xd fs)
theorem ExA.same{D:Addr}(x:ExA H e D)(s:Same H H'):ExA H' e D:=by
 rcases x with x|⟨d,fs,x,y⟩
 ·exact .inl (s _ _ x)
 ·exact .inr ⟨d,fs,s _ _ x,s _ _ y⟩
end
mutual
inductive ShV(H:Hp):V->PyData->Prop
 | non:ShV H .non .none
 | bl (b:Bool):ShV H (.bl b) (.bool b)
 | int (i:Int):ShV H (.int i) (.int i)
 | str (x:Str):ShV H (.str x) (.str x)
 | lst {a:Addr}{xs:List V}{ds:List PyData}:H a=some (.lst xs)->ShL H xs ds->ShV H (.ref a) (.list ds)
 | tup {a:Addr}{xs:List V}{ds:List PyData}:H a=some (.tup xs)->ShL H xs ds->ShV H (.ref a) (.tuple ds)
inductive ShL(H:Hp):List V->List PyData->Prop
 | nil:ShL H [] []
 | cons {x:V}{d:PyData}{xs:List V}{ds:List PyData}:ShV H x d->ShL H xs ds->ShL H (x :: xs) (d :: ds)
end
section
variable {X:Cx}{pins:List (Addr×Obj)}{σ:St}{H H':Hp}{s:Shared}{Q:VK}
mutual
theorem ShV.same{v:V}{d:PyData}(h:ShV H v d)(k:Same H H'):ShV H' v d:=match h with
 | .non=>.non
 | .bl b=>.bl b
 | .int i=>.int i
 | .str x=>.str x
 | .lst e l=>.lst (k _ _ e) (l.same k)
 | .tup e l=>.tup (k _ _ e) (l.same k)
theorem ShL.same{xs:List V}{ds:List PyData}(h:ShL H xs ds)(k:Same H H'):ShL H' xs ds:=match h with
 | .nil=>.nil
 | .cons a b=>.cons (a.same k) (b.same k)
end
theorem ShL.len{xs:List V}{ds:List PyData}(h:ShL H xs ds):xs.length=ds.length:=match h with
 | .nil=>rfl
 | .cons _ b=>by rw[zco4,zco4,b.len]
mutual
theorem ShV.reads(I:Inv X pins σ H s){v:V}{d:PyData}{u:Value}(h:ShV H v d)(r:RelV v u):∃ as,Reads s.heap u d as:=match h with
 | .non=>by cases (show u=Value.none from r);exact⟨_,.none⟩
 | .bl b=>by cases (show u=Value.bool b from r);exact⟨_,.bool b⟩
 | .int i=>by obtain⟨t,q⟩:=(show ∃ t,u=Value.int i t from r);cases q;exact⟨_,.int i t⟩
 | .str x=>by obtain⟨t,q⟩:=(show ∃ t,u=Value.str x t from r);cases q;exact⟨_,.str x t⟩
 | .lst (a:=a) (xs:=xs) e l=>by
  cases (show u=Value.ref a from r)
  obtain⟨_,us,n,rv,h1⟩:=(show ze9 X.prog X.w H s.heap a (.lst xs) from I.hok a _ e)
  obtain⟨as,ra⟩:=l.reads I rv
  exact⟨_,.list h1 rfl rfl (by simpa using ra)⟩
 | .tup (a:=a) (xs:=xs) e l=>by
  cases (show u=Value.ref a from r)
  obtain⟨_,us,rv,o,h1,h2,n,h3⟩:=(show ze9 X.prog X.w H s.heap a (.tup xs) from I.hok a _ e)
  obtain⟨as,ra⟩:=l.reads I rv
  exact⟨_,.tuple h1 h2 h3 (by simpa using ra)⟩
theorem ShL.reads(I:Inv X pins σ H s){xs:List V}{ds:List PyData}{us:List Value}(h:ShL H xs ds)(r:Vals xs us):∃ as,ReadsAll s.heap us ds as:=match h,r with
 | .nil,.nil=>⟨_,.nil⟩
 | .cons a b,.cons r1 r2=>by
  obtain⟨as,ra⟩:=a.reads I r1
  obtain⟨bs,rb⟩:=b.reads I r2
  exact⟨_,.cons ra rb⟩
end
structure zn6(d:PyData)(k m:Nat):Prop where
 ok:d.showable=true
 nd:d.hasDict=false
 dp:d.depth<=k
 ln:d.shown.length<=m
theorem zn6.up{d:PyData}{k k' m':Nat}(h:zn6 d k m)(h1:k<=k')(h2:m<=m'):zn6 d k' m':=⟨h.ok,h.nd,zcr3 h.dp h1,zcr3 h.ln h2⟩
theorem zaj4{k m:Nat}:∀ {ds:List PyData},(∀ d∈ds,zn6 d k m)->PyData.showableAll ds=true/\PyData.hasDictAll ds=false/\PyData.depthAll ds<=k/\piled (PyData.shownAll ds)<=ds.length*(m+2)
 | [],_=>⟨rfl,rfl,zcp5 _,by simp[PyData.shownAll,piled]⟩
 | d :: ds,h=>by
  have h0:=h d (.head _)
  obtain⟨a1,a2,a3,a4⟩:=zaj4 (ds:=ds) fun x hx=>h x (.tail _ hx)
  refine⟨by simp[PyData.showableAll,h0.ok,a1],by simp[PyData.hasDictAll,h0.nd,a2],?_,?_⟩
  ·have:=h0.dp
   simp only[PyData.depthAll]
   omega
  ·have:=h0.ln
   simp only[PyData.shownAll,piled_cons,zco4,Nat.succ_mul]
   omega
theorem zac0:∀ (ts:List Str) (k:Nat) (acc:Str),(textFrom k acc ts).length<=acc.length+piled ts
 | [],_,acc=>by simp[textFrom,piled]
 | t :: ts,k,acc=>by
  have ih:=zac0 ts (k+1) (acc++(if k>0 then ", " else "":String)++t)
  have e:(acc++(if k>0 then ", " else "":String)++t).length=acc.length+(if k>0 then 2 else 0)+t.length:=by
   rw[strLen_append,strLen_append]
   congr 2
   split<;>rfl
  rw[piled_cons]
  show (textFrom (k+1) _ ts).length<=_
  rw[e] at ih
  have e2:(if k>0 then 2 else 0)<=2:=by split<;>omega
  omega
theorem zn6.list{ds:List PyData}{k m:Nat}(h:∀ d∈ds,zn6 d k m):zn6 (.list ds) (k+1) (ds.length*(m+2)+2):=by
 obtain⟨a1,a2,a3,a4⟩:=zaj4 h
 refine⟨by simpa [PyData.showable] using a1,by simpa [PyData.hasDict] using a2,by simp only[PyData.depth];omega,?_⟩
 have:=zac0 (PyData.shownAll ds) 0 "["
 have e1:((("[":String):Str)).length=1:=rfl
 have e2:((("]":String):Str)).length=1:=rfl
 simp only[PyData.shown,listText,strLen_append]
 omega
theorem zn6.tuple{ds:List PyData}{k m:Nat}(h:∀ d∈ds,zn6 d k m):zn6 (.tuple ds) (k+1) (ds.length*(m+2)+4):=by
 obtain⟨a1,a2,a3,a4⟩:=zaj4 h
 refine⟨by simpa [PyData.showable] using a1,by simpa [PyData.hasDict] using a2,by simp only[PyData.depth];omega,?_⟩
 have e1:((("(":String):Str)).length=1:=rfl
 have e3:((if (PyData.shownAll ds).length==1 then ",)" else ")":String):Str).length<=2:=by split<;>decide
 have e4:(Str.join ", " (PyData.shownAll ds)).length<=piled (PyData.shownAll ds):=by
  by_cases z:PyData.shownAll ds=[]
  ·rw[z];decide
  ·have:=join_length_add _ z;omega
 simp only[PyData.shown,tupleText,strLen_append]
 omega
theorem zn6.int{i:Int}(h:-(10 ^ 100)<=i)(h':i<=10 ^ 100):zn6 (.int i) 0 1921:=by
 have hl:i.natAbs.log2<1920:=by
  by_cases z:i.natAbs=0
  ·rw[z];decide
  ·rw[Nat.log2_lt z]
   have h1:i.natAbs<=10 ^ 100:=by omega
   exact Nat.lt_of_le_of_lt h1 (by decide +kernel)
 exact⟨by simpa [PyData.showable] using hl,rfl,by simp[PyData.depth],by simpa only [PyData.shown] using PyProof.Rows.int_text_len_1921 hl⟩
theorem zn6.non:zn6 .none 0 4:=⟨rfl,rfl,by simp[PyData.depth],by decide⟩
theorem ShL.of{xs:List V}(f:V->PyData)(h:∀ x∈xs,ShV H x (f x)):ShL H xs (xs.map f):=by
 induction xs with
 | nil=>exact .nil
 | cons x xs ih=>exact .cons (h x (.head _)) (ih fun y hy=>h y (.tail _ hy))
end
mutual
def sml:PyData->Bool
 | .none | .bool _ | .int _ | .str _=>true
 | .list xs | .tuple xs=>decide (xs.length<=1000)&&zaj2 xs
 | .dict _=>false
def zaj2:List PyData->Bool
 | []=>true
 | x :: xs=>sml x&&zaj2 xs
end
theorem zq4:∀ {ds:List PyData},(∀ d∈ds,sml d=true)->zaj2 ds=true
 | [],_=>rfl
 | d :: ds,h=>by simp[zaj2,h d (.head _),zq4 fun x hx=>h x (.tail _ hx)]
theorem zz0:∀ {ds:List PyData},zaj2 ds=true->∀ d∈ds,sml d=true
 | [],_,d,h=>by cases h
 | x :: ds,h,d,hd=>by
  simp only[zaj2,zcn2] at h
  rcases zcm9.mp hd with rfl|hd
  ·exact h.1
  ·exact zz0 h.2 d hd
section
variable {H H':Hp}{K:zcm2}{Q:VK}
theorem ShL.idx:∀ {xs:List V}{ds:List PyData},xs.length=ds.length->(∀ (i:Nat) x d,xs[i]?=some x->ds[i]?=some d->ShV H x d)->ShL H xs ds
 | [],[],_,_=>.nil
 | [],_ :: _,h,_=>by simp at h
 | _ :: _,[],h,_=>by simp at h
 | x :: xs,d :: ds,h,k=>.cons (k 0 x d rfl rfl) (ShL.idx (by simpa using h) fun i y e h1 h2=>k (i+1) y e (by simpa using h1) (by simpa using h2))
theorem ShL.get:∀ {xs:List V}{ds:List PyData}(_:ShL H xs ds) (i:Nat) (x:V),xs[i]?=some x->∃ d,ds[i]?=some d/\ShV H x d
 | _,_,.nil,i,x,e=>by simp at e
 | _,_,.cons a b,0,x,e=>by cases (show some _=some x from e);exact⟨_,rfl,a⟩
 | _,_,.cons a b,i+1,x,e=>by
  obtain⟨d,e1,e2⟩:=ShL.get b i x (by simpa using e)
  exact⟨d,by simpa using e1,e2⟩
theorem ShL.ex{P:PyData->Prop}:∀ {xs:List V},(∀ x∈xs,∃ d,ShV H x d/\P d)->∃ ds,ShL H xs ds/\∀ d∈ds,P d
 | [],_=>⟨[],.nil,fun _ h=>by cases h⟩
 | x :: xs,h=>by
  obtain⟨d,h1,h2⟩:=h x (.head _)
  obtain⟨ds,h3,h4⟩:=ShL.ex (xs:=xs) fun y hy=>h y (.tail _ hy)
  refine⟨d :: ds,.cons h1 h3,fun e he=>?_⟩
  rcases zcm9.mp he with rfl|he
  ·exact h2
  ·exact h4 e he
def Rda(H:Hp)(v:V)(k m:Nat):Prop:=∃ d,ShV H v d/\sml d=true/\zn6 d k m
theorem Rda.same{v:V}{k m:Nat}(h:Rda H v k m)(s:Same H H'):Rda H' v k m:=by obtain⟨d,h1,h2,h3⟩:=h;exact⟨d,h1.same s,h2,h3⟩
theorem Rda.up{v:V}{k m k' m':Nat}(h:Rda H v k m)(h1:k<=k':=by omega)(h2:m<=m':=by omega):Rda H v k' m':=by obtain⟨d,a,b,c⟩:=h;exact⟨d,a,b,c.up h1 h2⟩
theorem Rda.int{i:Int}(h:-(10 ^ 100)<=i)(h':i<=10 ^ 100):Rda H (.int i) 0 1921:=⟨_,.int i,rfl,zn6.int h h'⟩
theorem Rda.non:Rda H .non 0 1921:=⟨_,.non,rfl,zn6.non.up (by omega) (by omega)⟩
theorem Rda.lst{a:Addr}{xs:List V}{k m:Nat}(e:H a=some (.lst xs))(l:xs.length<=1000)(h:∀ x∈xs,Rda H x k m):Rda H (.ref a) (k+1) (xs.length*(m+2)+4):=by
 obtain⟨ds,h1,h2⟩:=ShL.ex (P:=fun d=>sml d=true/\zn6 d k m) h
 have hl:=h1.len
 refine⟨.list ds,.lst e h1,?_,?_⟩
 ·simp only[sml,zcn2,decide_eq_true_eq]
  exact⟨by omega,zq4 fun d hd=>(h2 d hd).1⟩
 ·have:=zn6.list (ds:=ds) (k:=k) (m:=m) fun d hd=>(h2 d hd).2
  rw[hl]
  exact this.up (zcn4 _) (by omega)
theorem Rda.tup{a:Addr}{xs:List V}{k m:Nat}(e:H a=some (.tup xs))(l:xs.length<=1000)(h:∀ x∈xs,Rda H x k m):Rda H (.ref a) (k+1) (xs.length*(m+2)+4):=by
 obtain⟨ds,h1,h2⟩:=ShL.ex (P:=fun d=>sml d=true/\zn6 d k m) h
 have hl:=h1.len
 refine⟨.tuple ds,.tup e h1,?_,?_⟩
 ·simp only[sml,zcn2,decide_eq_true_eq]
  exact⟨by omega,zq4 fun d hd=>(h2 d hd).1⟩
 ·have:=zn6.tuple (ds:=ds) (k:=k) (m:=m) fun d hd=>(h2 d hd).2
  rw[hl]
  exact this
def isD(n:String):PyData->Bool
 | .none=>false
 | .bool _=>n=="bool" || n=="int"
 | .int _=>n=="int"
 | .str _=>n=="str"
 | .list _=>n=="list"
 | .tuple _=>n=="tuple"
 | .dict _=>n=="dict"
theorem zp1{v:V}{d:PyData}{n:String}(h:ShV H v d)(hn:n="int"∨n="bool"∨n="list"∨n="tuple")(q:Q (.bl (isD n d)) H):zu1 K v (.ty n) H Q:=by
 rcases hn with rfl|rfl|rfl|rfl<;>cases h
 all_goals first
  | exact zcb3 q (by rfl)
  | exact zaw7 q (by rfl)
  | exact zat8 q (by rfl)
  | exact zbz9 q (by rfl)
  | (rename_i e l;exact zan1 e q (by rfl))
  | (rename_i e l;exact zal3 e q (by rfl))
end
section
variable {X:Cx}{K:zcm2}{H:Hp}{Q:VK}
end
section
variable {X:Cx}{K:zcm2}{H:Hp}{Q:VK}
@[irreducible] def rDNE(H:Hp)(Q:VK):Prop:=(∀ p H',H p=none->Same H H'->H' p=some (.dT [])->Q (.ref p) H')∨∀ p H',H p=none->Same H H'->H' p=some (.dK [])->Q (.ref p) H'
def tDNE:TE:=fun _ H Q=>rDNE H Q
theorem zce8{pos:Pos}:PE X (.Dict [] [] pos) tDNE:=fun pins s σ H Q I h=>by
 unfold tDNE rDNE at h
 rcases h with h|h
 ·exact zbr3 (pos:=pos) pins s σ H Q I fun p hp=>h p _ hp (Same.upd hp) zb5
 ·exact zbq5 (pos:=pos) pins s σ H Q I fun p hp=>h p _ hp (Same.upd hp) zb5
theorem dnT_rd(q:∀ p H',H p=none->Same H H'->H' p=some (.dT [])->Q (.ref p) H'):rDNE H Q:=by unfold rDNE;exact .inl q
theorem dnK_rd(q:∀ p H',H p=none->Same H H'->H' p=some (.dK [])->Q (.ref p) H'):rDNE H Q:=by unfold rDNE;exact .inr q
theorem zbm7{a:Addr}{P:Prop}{kvs:List (Key×V)}(e:H a=some (.dK kvs))(p:P):rIsD a H P:=by unfold rIsD;exact⟨.inl ⟨kvs,.inl e⟩,p⟩
theorem zbj2{a:Addr}{i:Int}{z:V}{kvs:List (Key×V)}(e:H a=some (.dK kvs))(q:Q ((valV kvs (.inl i)).getD z) H):rDG2 a (.int i) z H Q:=by
 unfold rDG2
 exact⟨_,DGet.k (k:=.inl i) e,q⟩
theorem dpK_rd{a:Addr}{i:Int}{v:V}{N:Hp->Prop}{kvs:List (Key×V)}(e:H a=some (.dK kvs))(hl:kvs.length<sizeLine)(q:∀ H',Chg a H H'->H' a=some (.dK (putK kvs (.inl i) v))->N H'):rDP a (.int i) v H N:=by
 unfold rDP
 exact⟨_,DPut.k (k:=.inl i) e hl,q _ Chg.upd zb5⟩
def dI(kv:List (Int×Int)):List (Key×V):=kv.map fun z=>(.inl z.1,.int z.2)
def valI(kv:List (Int×Int))(i:Int):Option Int:=(kv.find? fun z=>decide (z.1=i)).map (·.2)
theorem zbk0(i:Int):∀ kv:List (Int×Int),valV (dI kv) (.inl i)=(valI kv i).map V.int
 | []=>rfl
 | z :: kv=>by
  by_cases e:z.1=i
  ·show valV (((.inl z.1:Key),V.int z.2) :: dI kv) (.inl i)=_
   rw[zx1 (by exact congrArg Sum.inl e)]
   unfold valI
   rw[zcr5,decide_eq_true e];rfl
  ·show valV (((.inl z.1:Key),V.int z.2) :: dI kv) (.inl i)=_
   rw[zw8 (by exact fun q=>e (Sum.inl.inj q)),zbk0 i kv]
   unfold valI
   rw[zcr5,decide_eq_false e]
def eqDI(ka kb:List (Int×Int)):Bool:=ka.length==kb.length&&ka.all fun z=>valI kb z.1==some z.2
theorem zaw0{A:Around}{s:Shared}{kb:List (Int×Int)}{ws:List (Key×Value)}(rb:KV (dI kb) ws):∀ {ka:List (Int×Int)}{vs:List (Key×Value)},KV (dI ka) vs->KeqHits A s ws vs (ka.all fun z=>valI kb z.1==some z.2)
 | [],vs,r=>by
  unfold KV dI at r
  cases r
  exact .nil
 | z :: ka,vs,r=>by
  unfold KV dI at r
  rw[zcn9] at r
  cases r with
  | @cons p q ps qs h t=>
   obtain⟨h1,h2⟩:=h
   obtain⟨k,v⟩:=q
   cases (show (Sum.inl z.1:Key)=k from h1)
   have val:=rb.val (.inl z.1)
   rw[zbk0] at val
   rw[List.all_cons]
   cases e:valI kb z.1 with
   | none=>
    rw[e] at val
    have:valueAt ws (.inl z.1)=none:=by
     cases w:valueAt ws (.inl z.1) with
     | none=>rfl
     | some y=>rw[w] at val;exact val.elim
    have f:((none:Option Int)==some z.2)=false:=rfl
    rw[f,Bool.false_and]
    exact .miss this
   | some n=>
    rw[e] at val
    obtain⟨y,ey,ry⟩:∃ y,valueAt ws (.inl z.1)=some y/\RelV (.int n) y:=by
     cases w:valueAt ws (.inl z.1) with
     | none=>rw[w] at val;exact val.elim
     | some y=>rw[w] at val;exact⟨y,rfl,val⟩
    have q:=zbx2 (A:=A) (s:=s) (show RelV (.int z.2) v from h2) ry rfl rfl
    have e2:eqV (.int z.2) (.int n)=(some n==some z.2):=by
     by_cases d:z.2=n
     ·subst d;simp[eqV]
     ·have d':¬ n=z.2:=fun x=>d x.symm
      show (z.2==n)=(some n==some z.2)
      rw[beq_eq_false_iff_ne.mpr d]
      exact (beq_eq_false_iff_ne.mpr fun x=>d' (Option.some.inj x)).symm
    rw[e2] at q
    exact .hit ey q (zaw0 rb t)
@[irreducible] def rEqX(K:zcm2)(x y:V)(H:Hp)(Q:VK):Prop:=
 (∃ a b n c,x=.ref a/\y=.ref b/\n<=40/\EqR K H n (.ref a) (.ref b) c/\Q (.bl c) H) ∨
 (∃ a b ka kb,x=.ref a/\y=.ref b/\H a=some (.dK (dI ka))/\H b=some (.dK (dI kb))/\Q (.bl (eqDI ka kb)) H) ∨
 ∃ d e,ShV H x d/\ShV H y e/\d.canLay0=true/\e.canLay0=true/\d.depth<=40/\Q (.bl (PyData.eqv d e)) H
def zbk4(K:zcm2):R2:=fun x y H Q=>match x,y with
 | .int i,.int j=>Q (.bl (decide (i=j))) H
 | .bl i,.bl j=>Q (.bl (decide (i=j))) H
 | .str i,.str j=>Q (.bl (decide (i=j))) H
 | x,y=>rEqX K x y H Q
def rNeXM(K:zcm2):R2:=fun x y H Q=>zbk4 K x y H fun v H'=>match v with
 | .bl b=>Q (.bl (!b)) H'
 | _=>False
theorem oEqX(hu:X.A.units+40<cLine):OpR X (compareOp .Eq) (zbk4 X.K):=by
 intro pins s σ H x y v u Q I rx ry h
 unfold zbk4 at h
 split at h
 ·exact zau8 pins s σ H _ _ v u Q I rx ry ⟨rfl,by rw[zk5 (f:=V.int) fun a b e=>V.int.inj e];exact h⟩
 ·exact zau8 pins s σ H _ _ v u Q I rx ry ⟨rfl,by rw[zk5 (f:=V.bl) fun a b e=>V.bl.inj e];exact h⟩
 ·exact zau8 pins s σ H _ _ v u Q I rx ry ⟨rfl,by rw[zk5 (f:=V.str) fun a b e=>V.str.inj e];exact h⟩
 ·unfold rEqX at h
  rcases h with ⟨a,b,n,c,rfl,rfl,hn,h1,h2⟩|⟨a,b,ka,kb,rfl,rfl,ea,eb,h⟩|⟨d,e,hd,he,cd,ce,dd,h⟩
  ·cases rx
   cases ry
   exact EqR.rc I h1 (A:=X.A) (by omega) _ _ _ _ ⟨.bl c,H,I,rfl,h2⟩
  ·cases rx
   cases ry
   obtain⟨_,sa,vs,ra,da⟩:=zbg2 I.hok ea
   obtain⟨_,sb,ws,rb,db⟩:=zbg2 I.hok eb
   refine keq_eq sa sb da db (by omega) (fun _=>zaw0 rb ra) ⟨.bl (eqDI ka kb),H,I,?_,h⟩
   have la:vs.length=ka.length:=by rw[← ra.length];unfold dI;rw[zcl9]
   have lb:ws.length=kb.length:=by rw[← rb.length];unfold dI;rw[zcl9]
   rw[la,lb]
   rfl
  ·obtain⟨as,r1⟩:=hd.reads I rx
   obtain⟨bs,r2⟩:=he.reads I ry
   exact SeqAt.compareEq_reads r1 r2 cd ce (by have:=Nat.min_le_left d.depth e.depth;omega) ⟨.bl (PyData.eqv d e),H,I,rfl,h⟩
theorem oNeX(hu:X.A.units+40<cLine):OpR X (compareOp .NotEq) (rNeXM X.K):=by
 intro pins s σ H x y v u Q I rx ry h
 unfold rNeXM zbk4 at h
 split at h
 ·exact zax0 pins s σ H _ _ v u Q I rx ry ⟨rfl,by rw[zk5 (f:=V.int) fun a b e=>V.int.inj e];exact h⟩
 ·exact zax0 pins s σ H _ _ v u Q I rx ry ⟨rfl,by rw[zk5 (f:=V.bl) fun a b e=>V.bl.inj e];exact h⟩
 ·exact zax0 pins s σ H _ _ v u Q I rx ry ⟨rfl,by rw[zk5 (f:=V.str) fun a b e=>V.str.inj e];exact h⟩
 ·unfold rEqX at h
  rcases h with ⟨a,b,n,c,rfl,rfl,hn,h1,h2⟩|⟨a,b,ka,kb,rfl,rfl,ea,eb,h⟩|⟨d,e,hd,he,cd,ce,dd,h⟩
  ·cases rx
   cases ry
   exact EqR.rcNe I h1 (A:=X.A) (by omega) _ _ _ _ ⟨.bl (!c),H,I,rfl,h2⟩
  ·cases rx
   cases ry
   obtain⟨_,sa,vs,ra,da⟩:=zbg2 I.hok ea
   obtain⟨_,sb,ws,rb,db⟩:=zbg2 I.hok eb
   refine keq_ne sa sb da db (by omega) (fun _=>zaw0 rb ra) ⟨.bl (!eqDI ka kb),H,I,?_,h⟩
   have la:vs.length=ka.length:=by rw[← ra.length];unfold dI;rw[zcl9]
   have lb:ws.length=kb.length:=by rw[← rb.length];unfold dI;rw[zcl9]
   rw[la,lb]
   rfl
  ·obtain⟨as,r1⟩:=hd.reads I rx
   obtain⟨bs,r2⟩:=he.reads I ry
   exact SeqAt.compareNe_reads r1 r2 cd ce (by have:=Nat.min_le_left d.depth e.depth;omega) ⟨.bl (!PyData.eqv d e),H,I,rfl,h⟩
theorem eqD_rd{a b:Addr}{ka kb:List (Int×Int)}(ea:H a=some (.dK (dI ka)))(eb:H b=some (.dK (dI kb)))(q:Q (.bl (eqDI ka kb)) H):rEqX K (.ref a) (.ref b) H Q:=by unfold rEqX;exact .inr (.inl ⟨a,b,ka,kb,rfl,rfl,ea,eb,q⟩)
end
theorem zbp4(l b:Addr)(x y:Int×Int)(t u t' u':Tok)(n n2:Nat)(dd dd2:Option Addr)(sl sl2:Array (Option Value)) :
  Meets (Builtin.«tuple.__lt__» ⟨[.ref l,.ref b],[]⟩)
   (fun A R s=>s.heap.get? l=some { cls:=.type "tuple",dict:=dd,data:=.seq #[.int x.1 t,.int x.2 u] n,slots:=sl }/\s.heap.get? b=some { cls:=.type "tuple",dict:=dd2,data:=.seq #[.int y.1 t',.int y.2 u'] n2,slots:=sl2 } /\
    R (.ok (.ret (.bool (ltP x y)))) s):=
 .of_wp fun prog w A R s h=>by
  obtain⟨hp,g,d,tk,os⟩:=s;obtain⟨hl,hb,h⟩:=h
  have f2:=AutoSeq1.sub_tuple_tuple
  wp_walk using wpAny_loadPart' hl,wpAny_loadPart' hb,wpAny_forIn_list _ (fun rest b s'=>b.1=none/\s'=⟨hp,g,d,tk,os⟩/\(rest=[(.int x.1 t,.int y.1 t'),(.int x.2 u,.int y.2 u')]∨(x.1=y.1/\rest=[(.int x.2 u,.int y.2 u')])∨(x.1=y.1/\x.2=y.2/\rest=[]))) _
  case turn=>
   rintro⟨p,q⟩ rest b s' ⟨hb',rfl,hz⟩
   rcases hz with hz|⟨e0,hz⟩|⟨_,_,hz⟩
   ·cases hz
    refine zcv3 (wpAny_eqBool_int ?_)
    cases e:(x.1==y.1)
    ·have h':R (Except.ok (Flow.ret (Value.bool (decide (x.1<y.1))))) ⟨hp,g,d,tk,os⟩:=by
      unfold ltP at h
      rw[if_neg (by rw[e];exact zcn0)] at h
      exact h
     simp only[Bool.not_false,if_true]
     refine zcv3 (wpAny_rule ?_)
     refine zcv3 ((lt_int (Q:=_) ?_:wpAny _ _ (compareOp .Lt _ _) _ _ _))
     wp_walk
     exact⟨_,rfl,h'⟩
    ·wp_walk
     exact⟨rfl,rfl,.inr (.inl ⟨by simpa using e,rfl⟩)⟩
   ·cases hz
    refine zcv3 (wpAny_eqBool_int ?_)
    cases e:(x.2==y.2)
    ·have h':R (Except.ok (Flow.ret (Value.bool (decide (x.2<y.2))))) ⟨hp,g,d,tk,os⟩:=by
      unfold ltP at h
      rw[if_pos (by rw[e0];exact beq_self_eq_true _),if_neg (by rw[e];exact zcn0)] at h
      exact h
     simp only[Bool.not_false,if_true]
     refine zcv3 (wpAny_rule ?_)
     refine zcv3 ((lt_int (Q:=_) ?_:wpAny _ _ (compareOp .Lt _ _) _ _ _))
     wp_walk
     exact⟨_,rfl,h'⟩
    ·wp_walk
     exact⟨rfl,rfl,.inr (.inr ⟨e0,by simpa using e,rfl⟩)⟩
   ·cases hz
  case fin=>
   rintro⟨b1,b2⟩ s' ⟨hb',rfl,hz⟩
   simp only at hb'
   subst hb'
   rcases hz with hz|⟨e0,hz⟩|⟨e0,e1,hz⟩
   ·cases hz
   ·cases hz
   ·have h':R (Except.ok (Flow.ret (Value.bool false))) ⟨hp,g,d,tk,os⟩:=by
     unfold ltP at h
     rw[if_pos (by rw[e0];exact beq_self_eq_true _),if_pos (by rw[e1];exact beq_self_eq_true _)] at h
     exact h
    wp_walk
    exact⟨_,rfl,h'⟩
  exact⟨rfl,rfl,.inl rfl⟩
section
variable {prog:Program}{w:World}{A:Around}{E:Value->Shared->Prop}{s:Shared}
theorem zbr7{v v':Value}{x y:Int×Int}(ha:TupI s.heap v x)(hb:TupI s.heap v' y)(hu:A.units<cLine)(h:Q (.bool (ltP x y)) s):wpAny (model prog w) A (compareOp .Lt v v') Q E s:=by
 obtain⟨a,⟨cls,dd,data,sl⟩,t,u,n,rfl,ho,hc,hd⟩:=ha
 obtain⟨b,⟨cls2,dd2,data2,sl2⟩,t',u',n2,rfl,ho2,hc2,hd2⟩:=hb
 simp only at hc hd hc2 hd2
 subst hc hd hc2 hd2
 exact richCompare_meets_room (op:=.Lt) ⟨_,ho,rfl⟩ ⟨_,ho2,rfl⟩ F.slot_tuple_lt F.entry_tuple_lt (F.args_tuple_lt_2 _ _) (zbp4 a b x y t u t' u' n n2 dd dd2 sl sl2)
  ⟨ho,ho2,show Value.bool (ltP x y)≠Value.notImplemented/\Q (.bool (ltP x y)) s from ⟨(fun x=>nomatch x),h⟩⟩ hu
end
section
variable {X:Cx}{K:zcm2}{H:Hp}{Q:VK}
def pV(x:Int×Int):List V:=[.int x.1,.int x.2]
@[irreducible] def rLtA(a b:Addr)(H:Hp)(Q:VK):Prop:=∃ x y:Int×Int,H a=some (.tup (pV x))/\H b=some (.tup (pV y))/\Q (.bl (ltP x y)) H
def rLtXM:R2:=fun x y H Q=>match x,y with
 | .int i,.int j=>Q (.bl (decide (i<j))) H
 | .ref a,.ref b=>rLtA a b H Q
 | _,_=>False
theorem zbp1{pins:List (Addr×Obj)}{σ:St}{a:Addr}{x:Int×Int}(I:Inv X pins σ H s)(h:H a=some (.tup (pV x))):TupI s.heap (.ref a) x:=by
 obtain⟨_,its,rv,o,h1,h2,n,h3⟩:=(show ze9 X.prog X.w H s.heap a (.tup (pV x)) from I.hok a _ h)
 unfold pV at rv
 cases rv with
 | cons r1 rv=>
  cases rv with
  | cons r2 rv=>
   cases rv
   obtain⟨t,rfl⟩:=r1
   obtain⟨u,rfl⟩:=r2
   exact⟨a,o,t,u,n,rfl,h1,h2,h3⟩
theorem oLtX(hu:X.A.units+40<cLine):OpR X (compareOp .Lt) rLtXM:=by
 intro pins s σ H x y v u Q I rx ry h
 unfold rLtXM at h
 split at h
 ·exact op_lt pins s σ H _ _ v u Q I rx ry ⟨_,_,rfl,rfl,h⟩
 ·unfold rLtA at h
  obtain⟨x,y,ea,eb,h⟩:=h
  cases rx
  cases ry
  exact zbr7 (zbp1 I ea) (zbp1 I eb) (by omega) ⟨.bl (ltP x y),H,I,rfl,h⟩
 ·exact h.elim
theorem ltP_rd{a b:Addr}{x y:Int×Int}(ha:H a=some (.tup (pV x)))(hb:H b=some (.tup (pV y)))(q:Q (.bl (ltP x y)) H):rLtA a b H Q:=by unfold rLtA;exact⟨x,y,ha,hb,q⟩
@[irreducible] def rSlX(K:zcm2)(a:Addr)(lo hi:Option Int)(H:Hp)(Q:VK):Prop:=(∃ xs,SqL K H a xs/\∀ p H',H p=none->Same H H'->H' p=some (.lst (cutV xs lo hi))->Q (.ref p) H') ∨
 ∃ xs,SqT K H a xs/\¬ (HT.sIx xs.length 0 lo=0/\HT.sIx xs.length xs.length hi=xs.length)/\∀ p H',H p=none->Same H H'->H' p=some (.tup (cutV xs lo hi))->Q (.ref p) H'
def rSlXM(K:zcm2):V->Option Int->Option Int->Hp->VK->Prop:=fun x lo hi H Q=>match x with
 | .ref a=>rSlX K a lo hi H Q
 | _=>False
theorem slX:SlR X (rSlXM X.K):=by
 intro pins s σ H x v vl vu lo hi sl Q I rx hs pl pu h
 unfold rSlXM at h
 split at h
 ·unfold rSlX at h
  rcases h with ⟨xs,h1,q⟩|⟨xs,h1,h2,q⟩
  ·exact zcb0 pins s σ H _ v vl vu lo hi sl Q I rx hs pl pu ⟨_,xs,rfl,h1,fun p hp=>q p _ hp (Same.upd hp) zb5⟩
  ·exact sl_tup pins s σ H _ v vl vu lo hi sl Q I rx hs pl pu ⟨_,xs,rfl,h1,h2,fun p hp=>q p _ hp (Same.upd hp) zb5⟩
 ·exact h.elim
theorem zai0{a:Addr}{lo hi:Option Int}(h:SqL K H a xs)(q:∀ p H',H p=none->Same H H'->H' p=some (.lst (cutV xs lo hi))->Q (.ref p) H'):rSlX K a lo hi H Q:=by unfold rSlX;exact .inl ⟨xs,h,q⟩
theorem zbx9{a:Addr}{x y z:V}(h:H a=some (.tup [x,y,z]))(q:∀ p H',H p=none->Same H H'->H' p=some (.tup [x,y])->Q (.ref p) H'):rSlX K a none (some 2) H Q:=by
 unfold rSlX
 exact .inr ⟨[x,y,z],SqT.of h,(by decide:¬ (HT.sIx 3 0 none=0/\HT.sIx 3 3 (some 2)=3)),q⟩
theorem zar2(hK:X.K=K)(hu:X.A.units+40<cLine):OpR X (compareOp .Eq) (zbk4 K):=by subst hK;exact oEqX hu
theorem oNeXK(hK:X.K=K)(hu:X.A.units+40<cLine):OpR X (compareOp .NotEq) (rNeXM K):=by subst hK;exact oNeX hu
theorem slXK(hK:X.K=K):SlR X (rSlXM K):=by subst hK;exact slX
theorem Wk.zipN{a b:Addr}{ys:List V}{n:Nat}{H1:Hp}(h:SqL K H1 a xs)(h':SqL K H1 b ys)(hx:n<=xs.length)(hy:n<=ys.length)(hn:xs.length=n∨ys.length=n):Wk (Itz K a b) n H1 fun i v H=>∃ p x y,v=.ref p/\H p=some (.tup [x,y])/\xs[i]?=some x/\ys[i]?=some y:=
 ⟨fun i H s hi=>⟨xs,ys,xs[i],ys[i],s.seq h,s.seq h',by simp,by simp⟩,fun H s=>⟨xs,ys,s.seq h,s.seq h',by omega⟩,fun i H v H' s _ y=>by
  obtain⟨p,x,y,rfl,y1,y2,y3,y4,y5⟩:=y
  exact⟨y2,p,x,y,rfl,y3,y4 xs (s.seq h),y5 ys (s.seq h')⟩⟩
end
set_option maxHeartbeats 2000000
set_option maxHeartbeats 4000000
set_option maxHeartbeats 2000000
section
variable {X:Cx}{K:zcm2}
end
section
variable {X:Cx}{K:zcm2}
end
set_option maxHeartbeats 4000000
abbrev Pb:=SetTable.Probe
def advM(mask:Nat)(p:Pb):Pb:=
 if p.more>0 then { j:=p.j+1,more:=p.more - 1,i:=p.i,perturb:=p.perturb,dummy:=p.dummy }
 else { j:=(SetTable.leap mask p.i p.perturb).1,more:=SetTable.runEnd mask (SetTable.leap mask p.i p.perturb).1 - (SetTable.leap mask p.i p.perturb).1,i:=(SetTable.leap mask p.i p.perturb).1,perturb:=(SetTable.leap mask p.i p.perturb).2,dummy:=p.dummy }
def runS(mask:Nat)(a:Nat×Nat):Pb:={ j:=a.1,more:=SetTable.runEnd mask a.1 - a.1,i:=a.1,perturb:=a.2,dummy:=none }
def stp(mask:Nat)(h:Int):Nat->Pb
 | 0=>runS mask (SetTable.bits h % (mask+1),SetTable.bits h)
 | k+1=>advM mask (stp mask h k)
def wk(mask:Nat)(h:Int)(k:Nat):Nat:=(stp mask h k).j
theorem zaq4(mask:Nat)(h:Int):∀ k,(stp mask h k).dummy=none
 | 0=>rfl
 | k+1=>by
  show (advM mask (stp mask h k)).dummy=none
  unfold advM
  split<;>exact zaq4 mask h k
abbrev Msk(mask:Nat):Prop:=mask=7∨mask=31
theorem least{P:Nat->Prop}[DecidablePred P]:∀ {N:Nat},(∃ k,k<N/\P k)->∃ k,k<N/\P k/\∀ k',k'<k->¬ P k'
 | 0,h=>by obtain⟨k,hk,_⟩:=h;omega
 | N+1,h=>by
  by_cases e:∃ k,k<N/\P k
  ·obtain⟨k,hk,p,q⟩:=least e
   exact⟨k,by omega,p,q⟩
  ·obtain⟨k,hk,p⟩:=h
   have:k=N:=by
    by_cases z:k<N
    ·exact absurd ⟨k,z,p⟩ e
    ·omega
   subst this
   exact⟨k,hk,p,fun k' hk' p'=>e ⟨k',hk',p'⟩⟩
theorem zam9{xs:Array Nat}{j:Nat}(srt:xs.toList.Pairwise (· < ·)):∀ (fuel lo hi:Nat),lo<=hi->hi<=xs.size->hi - lo<=fuel->(∀ (i:Nat) x,i<lo->xs[i]?=some x->x<j)->(∀ (i:Nat) x,hi<=i->xs[i]?=some x->j<=x) ->
  (SetTable.below.go xs j fuel lo hi<=xs.size/\(∀ (i:Nat) x,i<SetTable.below.go xs j fuel lo hi->xs[i]?=some x->x<j)/\∀ (i:Nat) x,SetTable.below.go xs j fuel lo hi<=i->xs[i]?=some x->j<=x)
 | 0,lo,hi,h1,h2,h3,a,b=>by
  rw[SetTable.below.go.eq_1]
  have:lo=hi:=by omega
  subst this
  exact⟨h2,a,b⟩
 | fuel+1,lo,hi,h1,h2,h3,a,b=>by
  have mono:∀ {i k:Nat}{x y:Nat},i<k->xs[i]?=some x->xs[k]?=some y->x<y:=fun {i k x y} hik e1 e2=>by
   rw[← zcp4] at e1 e2
   obtain⟨l1,g1⟩:=zcm1.mp e1
   obtain⟨l2,g2⟩:=zcm1.mp e2
   have:=zct3.mp srt i k l1 l2 hik
   rw[g1,g2] at this
   exact this
  rw[SetTable.below.go.eq_2]
  by_cases c:lo<hi
  ·rw[if_pos c]
   have hm:(lo+hi) / 2<xs.size:=by omega
   have em:xs[(lo+hi) / 2]?=some xs[(lo+hi) / 2]:=zct2 hm
   have eg:xs.getD ((lo+hi) / 2) j=xs[(lo+hi) / 2]:=by rw[zcu6,em];rfl
   show _/\_
   by_cases d:xs.getD ((lo+hi) / 2) j<j
   ·rw[if_pos d]
    rw[eg] at d
    refine zam9 srt fuel _ hi (by omega) h2 (by omega) (fun i x hi' e=>?_) b
    by_cases z:i=(lo+hi) / 2
    ·subst z;rw[em] at e;cases e;exact d
    ·exact Nat.lt_trans (mono (by omega) e em) d
   ·rw[if_neg d]
    rw[eg] at d
    refine zam9 srt fuel lo _ (by omega) (by omega) (by omega) a (fun i x hi' e=>?_)
    by_cases z:i=(lo+hi) / 2
    ·subst z;rw[em] at e;cases e;omega
    ·have:=mono (show (lo+hi) / 2<i by omega) em e
     omega
  ·rw[if_neg c]
   have:lo=hi:=by omega
   subst this
   exact⟨h2,a,b⟩
theorem zbv5{xs:Array Nat}(srt:xs.toList.Pairwise (· < ·))(j:Nat):SetTable.below xs j<=xs.size/\(∀ (i:Nat) x,i<SetTable.below xs j->xs[i]?=some x->x<j)/\∀ (i:Nat) x,SetTable.below xs j<=i->xs[i]?=some x->j<=x:=
 zam9 srt _ 0 xs.size (zcp5 _) (zcn4 _) (by omega) (fun i x h=>by omega) (fun i x h e=>by
  have:=(zcs8.mp e).1
  omega)
theorem zx2{xs:Array Nat}(srt:xs.toList.Pairwise (· < ·))(e:xs[i]?=some j):SetTable.below xs j=i:=by
 obtain⟨a,b,c⟩:=zbv5 srt j
 by_cases h1:i<SetTable.below xs j
 ·have:=b i j h1 e;omega
 ·by_cases h2:SetTable.below xs j<i
  ·have hs:SetTable.below xs j<xs.size:=by have:=(zcs8.mp e).1;omega
   have er:xs[SetTable.below xs j]?=some xs[SetTable.below xs j]:=zct2 hs
   have:=c _ _ (zcn4 _) er
   rw[← zcp4] at e er
   obtain⟨l1,g1⟩:=zcm1.mp e
   obtain⟨l2,g2⟩:=zcm1.mp er
   have:=zct3.mp srt _ _ l2 l1 h2
   rw[g1,g2] at this
   omega
  ·omega
theorem zcd7(j:Nat):SetTable.has #[] j=false:=rfl
theorem zac5{t:SetTable}(srt:t.place.toList.Pairwise (· < ·))(e:t.place[i]?=some j):t.slot j=.live i:=by
 unfold SetTable.slot
 show (if (t.place[SetTable.below t.place j]?==some j)=true then _ else _)=_
 rw[zx2 srt e,e,if_pos (beq_self_eq_true _)]
theorem zbc0{t:SetTable}(dum:t.dummies=#[])(e:j ∉ t.place.toList):t.slot j=.empty:=by
 unfold SetTable.slot
 show (if (t.place[SetTable.below t.place j]?==some j)=true then _ else if SetTable.has t.dummies j=true then _ else _)=_
 have:¬ (t.place[SetTable.below t.place j]?==some j)=true:=fun h=>by
  have h:=eq_of_beq h
  rw[← zcp4] at h
  exact e (zcm6 h)
 rw[if_neg this,dum,zcd7,if_neg zcn0]
structure TOk(t:SetTable)(hs:List Int):Prop where
 msk:Msk t.mask
 dum:t.dummies=#[]
 len:t.place.toList.length=hs.length
 srt:t.place.toList.Pairwise (· < ·)
 bnd:∀ j∈t.place.toList,j<=t.mask
 rch:∀ (i:Nat) h,hs[i]?=some h->∃ k,t.place.toList[i]?=some (wk t.mask h k)/\∀ k',k'<k->wk t.mask h k'∈t.place.toList
theorem zbb1{t:SetTable}{hs:List Int}(T:TOk t hs){hashAt:Nat->Int}{h:Int}{k0:Nat}(free:wk t.mask h k0 ∉ t.place.toList)(full:∀ k',k'<k0->wk t.mask h k'∈t.place.toList):∀ (fuel k:Nat),k<=k0->k0 - k<fuel ->
  (∃ k1 i,k<=k1/\k1<k0/\t.place.toList[i]?=some (wk t.mask h k1)/\hashAt i=h/\SetTable.probe.go t hashAt h fuel (stp t.mask h k)=some (.candidate (wk t.mask h k1) i (stp t.mask h (k1+1)))/\∀ k',k<=k'->k'<k1->∀ i',t.place.toList[i']?=some (wk t.mask h k')->hashAt i'≠h) ∨
  (SetTable.probe.go t hashAt h fuel (stp t.mask h k)=some (.empty (wk t.mask h k0) none)/\∀ k',k<=k'->k'<k0->∀ i',t.place.toList[i']?=some (wk t.mask h k')->hashAt i'≠h)
 | 0,k,h1,h2=>by omega
 | fuel+1,k,h1,h2=>by
  rw[SetTable.probe.go.eq_2]
  by_cases e:k=k0
  ·subst e
   right
   rw[show t.slot (stp t.mask h k).j=.empty from zbc0 T.dum free]
   refine⟨?_,fun k' a b=>by omega⟩
   show some (SetTable.Met.empty (wk t.mask h k) (stp t.mask h k).dummy)=_
   rw[zaq4]
  ·obtain⟨i,ei⟩:=zcp3 (full k (by omega))
   have ei':t.place[i]?=some (wk t.mask h k):=by rw[← zcp4];exact ei
   rw[show t.slot (stp t.mask h k).j=.live i from zac5 T.srt ei']
   show (∃ k1 i1,_/\_/\_/\_/\(if (hashAt i==h)=true then some (SetTable.Met.candidate (wk t.mask h k) i (stp t.mask h (k+1))) else SetTable.probe.go t hashAt h fuel (stp t.mask h (k+1)))=_/\_)∨((if (hashAt i==h)=true then some (SetTable.Met.candidate (wk t.mask h k) i (stp t.mask h (k+1))) else SetTable.probe.go t hashAt h fuel (stp t.mask h (k+1)))=_/\_)
   by_cases c:hashAt i=h
   ·left
    exact⟨k,i,zcn4 _,by omega,ei,c,by rw[if_pos (by rw[c];exact beq_self_eq_true _)],fun k' a b=>by omega⟩
   ·have nc:¬ (hashAt i==h)=true:=fun z=>c (eq_of_beq z)
    rw[if_neg nc]
    have here:∀ i',t.place.toList[i']?=some (wk t.mask h k)->hashAt i'≠h:=fun i' e'=>by
     have:i'=i:=by
      have b1:=zx2 T.srt (i:=i') (j:=wk t.mask h k) (by rw[← zcp4];exact e')
      have b2:=zx2 T.srt ei'
      omega
     rw[this];exact c
    rcases zbb1 T free full fuel (k+1) (by omega) (by omega) with ⟨k1,i1,a1,a2,a3,a4,a5,a6⟩|⟨a1,a2⟩
    ·left
     refine⟨k1,i1,by omega,a2,a3,a4,a5,fun k' b1 b2 i' e'=>?_⟩
     by_cases z:k'=k
     ·subst z;exact here i' e'
     ·exact a6 k' (by omega) b2 i' e'
    ·right
     refine⟨a1,fun k' b1 b2 i' e'=>?_⟩
     by_cases z:k'=k
     ·subst z;exact here i' e'
     ·exact a2 k' (by omega) b2 i' e'
theorem TOk.of{t t2:SetTable}{hs:List Int}(T:TOk t hs)(e1:t2.mask=t.mask)(e2:t2.place=t.place)(e3:t2.dummies=t.dummies):TOk t2 hs:=
 ⟨by rw[e1];exact T.msk,by rw[e3];exact T.dum,by rw[e2];exact T.len,by rw[e2];exact T.srt,by rw[e1,e2];exact T.bnd,by rw[e1,e2];exact T.rch⟩
section
variable {prog:Program}{w:World}{A:Around}{E:Value->Shared->Prop}{s:Shared}
theorem zw4{M:Model}{α β:Type}(f:α->β->Sem (ForInStep β))(I:List α->β->Shared->Prop)(Q:β->Shared->Prop)(hs:∀ (x:α) (rest:List α) (b:β) (s:Shared),I (x :: rest) b s->wpAny M A (f x b) (fun r s'=>match r with|ForInStep.yield b'=>I rest b' s' | ForInStep.done b'=>Q b' s') E s)(hd:∀ (b:β) (s:Shared),I [] b s->Q b s):∀ (xs:List α) (b:β) (s:Shared),I xs b s->wpAny M A (forIn xs b f) Q E s
 | [],b,s,h=>by rw[List.forIn_nil];exact zcv4 (hd b s h)
 | x :: xs,b,s,h=>by
  rw[List.forIn_cons]
  refine zcv3 ?_
  have:=hs x xs b s h
  revert this
  generalize f x b=m
  intro this
  refine wpAny_mono this (fun r s' hr=>?_) (fun _ _ h=>h)
  cases r with
  | done b'=>exact zcv4 hr
  | yield b'=>exact zw4 f I Q hs hd xs b' s' hr
theorem zbm5{ks:List Int}(h:PySem.ItemsAre (intKind prog w) ks vs):∀ v∈vs,carriedByValue v=true:=by
 induction h with
 | nil=>intro v hv;cases hv
 | cons h1 h2 ih=>
  intro v hv
  rcases zcm9.mp hv with rfl|hv
  ·exact (intKind prog w).byValue _ _ h1
  ·exact ih v hv
theorem noref{v:Value}(h:carriedByValue v=true):∀ a,v=Value.ref a->False:=fun a e=>by subst e;cases h
theorem zbk3{k:List Int}{p:Addr}{Q:Bool->Shared->Prop}(h:IsTupleKey (intKind prog w) s.heap k p)(q:Q false s):wpAny (model prog w) A (ofAClassStatement 8 (.ref p)) Q E s:=by
 show wpAny (model prog w) A (ofAClassStatement (7+1) (.ref p)) Q E s
 rw[ofAClassStatement.eq_2]
 refine zcv3 (wpAny_typeOf h.typeIs ?_)
 obtain⟨o,items,n,ho,hc,hd,hi⟩:=h
 show wpAny (model prog w) A (if ("tuple"=="tuple")=true then _ else _) Q E s
 refine wpAny_ite_true rfl ?_
 refine zcv3 (zcv4 ?_)
 refine zcv6 rfl ?_
 refine zcv3 (wpAny_seqItems ho hd ?_)
 refine zcv3 ?_
 refine wpAny_forIn_array' _ (fun rest b s'=>s'=s/\b=(none,())/\∀ v∈rest,carriedByValue v=true) _ ?_ ?_ items _ ⟨rfl,rfl,zbm5 hi⟩
 ·rintro x rest b s' ⟨rfl,rfl,hv⟩
  rw[ofAClassStatement.eq_3 _ _ (noref (hv x (.head _)))]
  refine zcv3 (zcv4 ?_)
  refine zcv6 rfl (zcv4 ?_)
  exact⟨rfl,rfl,fun v h=>hv v (.tail _ h)⟩
 ·rintro b s' ⟨rfl,rfl,_⟩
  exact zcv4 q
theorem zce4{k:List Int}{q:Addr}{Q:Bool->Shared->Prop}(hk:IsTupleKey (intKind prog w) s.heap k q)(hv:∀ v∈vs,∃ p k',v=.ref p/\IsTupleKey (intKind prog w) s.heap k' p)(hQ:Q false s):wpAny (model prog w) A (searchCouldBeSeen (.ref q) vs) Q E s:=by
 unfold searchCouldBeSeen
 refine zcv3 ?_
 refine zw4 _ (fun rest b s'=>s'=s/\b=(none,())/\∀ v∈rest,∃ p k',v=.ref p/\IsTupleKey (intKind prog w) s.heap k' p) _ ?_ ?_ vs _ _ ⟨rfl,rfl,hv⟩
 ·rintro x rest b s' ⟨rfl,rfl,hv⟩
  obtain⟨p,k',rfl,hp⟩:=hv x (.head _)
  have hr:∀ v∈rest,∃ p k',v=.ref p/\IsTupleKey (intKind prog w) s'.heap k' p:=fun v h=>hv v (.tail _ h)
  show wpAny (model prog w) A (if ((q==p) || carriedByValue (Value.ref q)&&carriedByValue (Value.ref p))=true then _ else _) _ E s'
  by_cases c:((q==p) || carriedByValue (Value.ref q)&&carriedByValue (Value.ref p))=true
  ·rw[if_pos c]
   exact zcv4 ⟨rfl,rfl,hr⟩
  ·rw[if_neg c]
   refine zcv3 (wpAny_eqIsQuiet_tuple hk ?_)
   refine zcv6 rfl ?_
   refine zcv3 (wpAny_eqIsQuiet_tuple hp ?_)
   refine zcv6 rfl ?_
   refine zcv3 (zbk3 hk ?_)
   refine zcv6 rfl ?_
   refine zcv3 (zbk3 hp ?_)
   refine zcv6 rfl ?_
   exact zcv4 ⟨rfl,rfl,hr⟩
 ·rintro b s' ⟨rfl,rfl,_⟩
  exact zcv4 hQ
structure SetE(prog:Program)(w:World)(h:Heap)(a:Addr)(o:Obj)(es:Array (Int×Value))(ep:Nat)(t:SetTable)(keys:List (List Int)):Prop where
 at_:h.get? a=some o
 ex:o.ExactSet
 dat:o.data=Data.set es ep t
 tab:TOk t (es.toList.map (·.1))
 few:es.size*5<t.mask*3
 sz:es.size=keys.length
 el:∀ e∈es.toList,∃ p k,k∈keys/\e=(zcv7 (intKind prog w) k,.ref p)/\IsTupleKey (intKind prog w) h k p
 all:∀ k∈keys,∃ e∈es.toList,∃ p,e=(zcv7 (intKind prog w) k,.ref p)/\IsTupleKey (intKind prog w) h k p
theorem SetE.mask{h:Heap}{a:Addr}{o:Obj}{es:Array (Int×Value)}{ep:Nat}{t:SetTable}{keys:List (List Int)}(S:SetE prog w h a o es ep t keys):Msk t.mask:=S.tab.msk
theorem TOk.fits{t:SetTable}{es:Array (Int×Value)}(T:TOk t (es.toList.map (·.1)))(few:es.size<=t.mask):t.fits es.size=true:=by
 have l:=T.len
 rw[zcl9,zco9,zco9] at l
 unfold SetTable.fits SetTable.fill
 rw[T.dum,l]
 simp
 exact few
theorem SetE.fits{h:Heap}{a:Addr}{o:Obj}{es:Array (Int×Value)}{ep:Nat}{t:SetTable}{keys:List (List Int)}(S:SetE prog w h a o es ep t keys):t.fits es.size=true:=S.tab.fits (by have:=S.few;omega)
theorem SetE.gave{a:Addr}{t:SetTable}{keys:List (List Int)}(S:SetE prog w h a o es ep t keys):t.gaveWay=false:=by
 unfold SetTable.gaveWay
 rcases S.mask with e|e<;>rw[e]<;>rfl
theorem zaz8(p:Addr):isSame (.ref p) (.ref p)=pure true:=by
 show (if (p==p)=true then pure true else _)=_
 rw[if_pos (beq_self_eq_true p)]
theorem zax9(t:SetTable):t.sameMemory t.moves t.mask=some true:=by
 unfold SetTable.sameMemory
 rw[if_pos (beq_self_eq_true _)]
theorem zbv6{a:Addr}{o:Obj}{es:Array (Int×Value)}{ep:Nat}{t:SetTable}{keys:List (List Int)}(S:SetE prog w s.heap a o es ep t keys)(hA:A.units<cLine){k:List Int}{q:Addr}(hk:IsTupleKey (intKind prog w) s.heap k q){k0:Nat}(free:wk t.mask (zcv7 (intKind prog w) k) k0 ∉ t.place.toList)(full:∀ k',k'<k0->wk t.mask (zcv7 (intKind prog w) k) k'∈t.place.toList)(hk0:k0<10*(t.mask+14)){Q:SetFound->Shared->Prop}(q1:k∈keys->Q (.there none) s)(q2:k ∉ keys->Q (.free (wk t.mask (zcv7 (intKind prog w) k) k0) false) s) :
  ∀ (fuel n:Nat) (stand:Option SetTable.Probe),n<=k0->k0 - n<fuel->stand.getD (t.probeStart (zcv7 (intKind prog w) k))=stp t.mask (zcv7 (intKind prog w) k) n->(∀ k',k'<n->∀ (i:Nat) p,t.place.toList[i]?=some (wk t.mask (zcv7 (intKind prog w) k) k')->es.toList[i]?=some (zcv7 (intKind prog w) k,.ref p)->¬ IsTupleKey (intKind prog w) s.heap k p)->wpAny (model prog w) A (setSearchFrom a (.ref q) (zcv7 (intKind prog w) k) true fuel stand) Q E s
 | 0,n,stand,h1,h2,h3,h4=>by omega
 | fuel+1,n,stand,h1,h2,h3,h4=>by
  rw[setSearchFrom.eq_2]
  refine zcv3 (wpAny_setState_of S.at_ S.dat S.fits ?_)
  show wpAny (model prog w) A (if t.gaveWay=true then _ else _) Q E s
  rw[S.gave]
  refine zcv6 rfl ?_
  rw[h3]
  have hl:=S.tab.len
  rw[zcl9] at hl
  rcases zbb1 S.tab (hashAt:=fun i=>(Option.map (fun x=>x.fst) es[i]?).getD 0) free full (10*(t.mask+15)) n h1 (by omega) with ⟨k1,i,b1,b2,b3,b4,b5,b6⟩|⟨b1,b2⟩
  ·have b5:t.probe (fun i=>(Option.map (fun x=>x.fst) es[i]?).getD 0) (zcv7 (intKind prog w) k) (stp t.mask (zcv7 (intKind prog w) k) n)=_:=b5
   show wpAny (model prog w) A (match t.probe (fun i=>(Option.map (fun x=>x.fst) es[i]?).getD 0) (zcv7 (intKind prog w) k) (stp t.mask (zcv7 (intKind prog w) k) n) with|some met=>_|_=>_) Q E s
   rw[b5]
   have hi:i<es.size:=by
    have:=(zcm1.mp b3).1
    rw[hl,zco9] at this
    exact this
   have ei:es[i]?=some es[i]:=zct2 hi
   have em:es[i]∈es.toList:=by rw[zcu8];exact Array.getElem_mem hi
   obtain⟨p,k',hk',eq,hp⟩:=S.el _ em
   rw[eq] at ei em
   have hh:zcv7 (intKind prog w) k'=zcv7 (intKind prog w) k:=by
    rw[ei] at b4
    exact b4
   have inv:¬ k'=k->∀ k'',k''<k1+1->∀ (i':Nat) p',t.place.toList[i']?=some (wk t.mask (zcv7 (intKind prog w) k) k'')->es.toList[i']?=some (zcv7 (intKind prog w) k,.ref p')->¬ IsTupleKey (intKind prog w) s.heap k p':=fun ne k'' hk'' i' p' e1 e2 hp'=>by
    by_cases c1:k''<n
    ·exact h4 k'' c1 i' p' e1 e2 hp'
    ·by_cases c2:k''<k1
     ·have:=b6 k'' (by omega) c2 i' e1
      rw[← zcp4,e2] at this
      exact this rfl
     ·have:k''=k1:=by omega
      subst this
      have x1:=zx2 S.tab.srt (i:=i') (by rw[← zcp4];exact e1)
      have x2:=zx2 S.tab.srt (i:=i) (by rw[← zcp4];exact b3)
      have:i'=i:=by omega
      subst this
      rw[zcp4,ei] at e2
      have:=(Prod.mk.inj (Option.some.inj e2)).2
      cases this
      exact ne (IsTupleKey.inj hp hp')
   refine wpAny_ite ?_
   split
   ·refine zcv3 (zce4 hk (fun v hv=>?_) ?_)
    ·obtain⟨z,hz,rfl⟩:=zcn5.mp hv
     obtain⟨hz,_⟩:=Array.mem_filter.mp (zcu8.mp hz)
     obtain⟨p2,k2,_,e2,h2⟩:=S.el z (zcu8.mpr hz)
     exact⟨p2,k2,by rw[e2],h2⟩
    refine zcv6 rfl ?_
    rw[ei]
    refine zcv3 (zcv8 (wpAny_eqBool_tuple hA hp hk ?_))
    refine zcv3 (wpAny_setState_of S.at_ S.dat S.fits ?_)
    by_cases e:k'=k
    ·rw[decide_eq_true e]
     exact wpAny_ite_true rfl (zcv4 (q1 (e▸hk')))
    ·rw[decide_eq_false e]
     refine zcv6 rfl ?_
     rw[zax9]
     show wpAny (model prog w) A (match t.slot (wk t.mask (zcv7 (intKind prog w) k) k1) with|SetTable.Slot.live i'=>_|x=>_) Q E s
     rw[zac5 S.tab.srt (i:=i) (by rw[← zcp4];exact b3)]
     show wpAny (model prog w) A (match es[i]? with|some (fst,y')=>_|none=>_) Q E s
     rw[ei]
     refine zcv3 (wpAny_of_eq (zaz8 p) ?_)
     refine zcv3 (zcv4 ?_)
     refine zcv6 rfl ?_
     exact zbv6 S hA hk free full hk0 q1 q2 fuel (k1+1) (some _) (by omega) (by omega) rfl (inv e)
   ·rw[ei]
    refine zcv3 (zcv8 (wpAny_eqBool_tuple hA hp hk ?_))
    refine zcv3 (wpAny_setState_of S.at_ S.dat S.fits ?_)
    by_cases e:k'=k
    ·rw[decide_eq_true e]
     exact wpAny_ite_true rfl (zcv4 (q1 (e▸hk')))
    ·rw[decide_eq_false e]
     refine zcv6 rfl ?_
     rw[zax9]
     show wpAny (model prog w) A (match t.slot (wk t.mask (zcv7 (intKind prog w) k) k1) with|SetTable.Slot.live i'=>_|x=>_) Q E s
     rw[zac5 S.tab.srt (i:=i) (by rw[← zcp4];exact b3)]
     show wpAny (model prog w) A (match es[i]? with|some (fst,y')=>_|none=>_) Q E s
     rw[ei]
     refine zcv3 (wpAny_of_eq (zaz8 p) ?_)
     refine zcv3 (zcv4 ?_)
     refine zcv6 rfl ?_
     exact zbv6 S hA hk free full hk0 q1 q2 fuel (k1+1) (some _) (by omega) (by omega) rfl (inv e)
  ·have b1:t.probe (fun i=>(Option.map (fun x=>x.fst) es[i]?).getD 0) (zcv7 (intKind prog w) k) (stp t.mask (zcv7 (intKind prog w) k) n)=_:=b1
   show wpAny (model prog w) A (match t.probe (fun i=>(Option.map (fun x=>x.fst) es[i]?).getD 0) (zcv7 (intKind prog w) k) (stp t.mask (zcv7 (intKind prog w) k) n) with|some met=>_|_=>_) Q E s
   rw[b1]
   refine zcv4 (q2 fun hin=>?_)
   obtain⟨e,he,p,rfl,hp⟩:=S.all k hin
   obtain⟨i,ei⟩:=zcp3 he
   obtain⟨kx,r1,r2⟩:=S.tab.rch i (zcv7 (intKind prog w) k) (by rw[zcm5,ei];rfl)
   have lt:kx<k0:=by
    by_cases z:kx<k0
    ·exact z
    ·exfalso
     by_cases z2:kx=k0
     ·subst z2
      exact free (zcm6 r1)
     ·exact free (r2 k0 (by omega))
   by_cases c:kx<n
   ·exact h4 kx c i p r1 ei hp
   ·have:=b2 kx (by omega) lt i r1
    rw[← zcp4,ei] at this
    exact this rfl
end
section
variable {prog:Program}{w:World}{A:Around}{E:Value->Shared->Prop}{s:Shared}
theorem zbi3{k:List Int}{p:Addr}(hk:IsTupleKey (intKind prog w) h k p)(m:∀ o,h.get? p=some o->h'.get? p=some o):IsTupleKey (intKind prog w) h' k p:=by
 obtain⟨o,i,n,g,c,d,x⟩:=hk
 exact⟨o,i,n,m o g,c,d,x⟩
theorem SetE.mono{a:Addr}{t:SetTable}{keys:List (List Int)}(S:SetE prog w h a o es ep t keys)(m:∀ b o,h.get? b=some o->h'.get? b=some o):SetE prog w h' a o es ep t keys:=
 ⟨m _ _ S.at_,S.ex,S.dat,S.tab,S.few,S.sz,fun e he=>by obtain⟨p,k,h1,h2,h3⟩:=S.el e he;exact⟨p,k,h1,h2,zbi3 h3 fun o g=>m _ o g⟩,fun k hk=>by obtain⟨e,he,p,h2,h3⟩:=S.all k hk;exact⟨e,he,p,h2,zbi3 h3 fun o g=>m _ o g⟩⟩
end
set_option maxHeartbeats 2000000
section
variable {X:Cx}{K:zcm2}
end
section
variable {X:Cx}{K:zcm2}
theorem zal9{v:Value}{o:Option Int}(p:IsPart v o):∃ q:Option (Int×Tok),v=partValue q/\q.map (·.1)=o:=by
 cases p with
 | none=>exact⟨none,rfl,rfl⟩
 | int i t=>exact⟨some (i,t),rfl,rfl⟩
end
section
variable {X:Cx}{K:zcm2}
end
set_option maxHeartbeats 4000000
open PySem.Calls PySem.NumText
set_option maxHeartbeats 2000000
set_option maxHeartbeats 4000000
set_option maxHeartbeats 1000000
set_option maxHeartbeats 2000000
theorem ze9.there{P:Program}{w:World}{a:Addr}{o:HO}(x:ze9 P w H h a o):∃ u,h.get? a=some u:=by
 cases o with
 | lst xs=>obtain⟨_,_,_,_,e⟩:=x;exact⟨_,e⟩
 | tup xs=>obtain⟨_,_,_,o,e,_⟩:=x;exact⟨_,e⟩
 | dK kvs=>obtain⟨_,_,_,_,o,_,_,e,_⟩:=x;exact⟨_,e⟩
 | dT kvs=>obtain⟨_,_,_,_,o,_,_,e,_⟩:=x;exact⟨_,e⟩
 | set S n=>obtain⟨o,_,_,_,e,_⟩:=x;exact⟨_,e⟩
 | ins C dx fs=>obtain⟨_,_,_,e,_⟩:=x;exact⟨_,e⟩
 | own y=>obtain⟨_,e⟩:=x;exact⟨_,e⟩
 | xd fs=>obtain⟨_,⟨_,_,_,e,_⟩,_⟩:=x;exact⟨_,e⟩
 | rng lo hi=>obtain⟨_,_,_,e⟩:=x;exact⟨_,e⟩
 | frz ob u=>obtain⟨e,_⟩:=x;exact⟨_,e⟩
 | tbl ps=>exact⟨_,show h.get? a=some _ from x⟩
 | met f y=>exact⟨_,show h.get? a=some _ from x⟩
 | ext φ=>obtain⟨_,⟨_,e⟩,_⟩:=x;exact⟨_,e⟩
def zq1(T:Addr)(ln co:Nat)(qual:Str)(H:Hp):Prop:=∃ tab,H T=some (.tbl tab) /\
 (tab=#[]∨∃ c oc vs t,tab=#[rawInt ln,rawInt co,.ref c]/\H c=some (.frz oc (.own c))/\oc.data=.fields vs/\vs[1]?=some (.str qual t))
theorem zq1.same{ln co:Nat}(x:zq1 T ln co qual H)(s:Same H H'):zq1 T ln co qual H':=by
 obtain⟨tab,e,r⟩:=x
 refine⟨tab,s _ _ e,?_⟩
 rcases r with r|⟨c,oc,vs,t,e1,e2,r⟩
 ·exact .inl r
 ·exact .inr ⟨c,oc,vs,t,e1,s _ _ e2,r⟩
def Bm(mg:Str->Option Value)(base:Heap):Prop:=∃ bm ob,mg "__builtins__"=some (.ref bm)/\bm≠builtinsNs/\base.get? bm=some ob/\ob.cls=.type "module"/\ob.dict=some builtinsNs/\ob.data=.plain
section
variable {prog:Program}{w:World}{A:Around}{E:Value->Shared->Prop}{s:Shared}{env:Env}{m mg mb:Str->Option Value}{b l cA:Addr}{hv:Int}{th:Tok}{its ws:List Value}{ns:List Int}{p1 p2 p3 p4 p5 p6 p7:Pos}
theorem zbv0(hh:A.handled=none)(hk:env.scope.kind=.function)(k1:env.kindOf "hosts"=some .free)(k2:env.kindOf "part"=some .local)(k3:env.kindOf "sum"=some .globalImplicit)(hc:env.cells.lookup ("hosts":Str)=some cA)(hcell:s.heap.IsCell cA (some (.int hv th)))(hn:s.heap.Ns env.locals m)(hp:m "part"=some (.ref b))(hg:s.heap.Ns env.globals mg)(hm:mg "sum"=none)(hb:s.heap.Ns env.builtins mb)(hbs:mb "sum"=some (.builtin "sum"))(ht:IsTup s.heap b its.toArray)(h0:its[0]?=some (.ref l))(hl:s.heap.IsList l ws.toArray)(hi:IntsAre ws ns) :
  wpAny (model prog w) A (eval (.BinOp (.Name "hosts" p1) .Sub (.Call (.Name "sum" p2) [.Subscript (.Name "part" p3) (.Constant (.int 0) 0 p4) p5] [] p6) p7) env)
   (fun v s'=>∃ h' tk t,s'={ s with heap:=h',toks:=tk }/\v=.int (hv - ns.sum) t/\∀ b o,s.heap.get? b=some o->h'.get? b=some o) E s:=by
 refine wpAny_BinOp (wpAny_Name (wpAny_loadName_free hk k1 hc hcell ?_) (by decide))
 refine wpAny_Call_Name_kw (Calls.Name_function_global hk k3 (Calls.loadGlobal_builtin hg hm hb hbs ?_) (by decide))
 refine PyProof.Rows.callWith_builtin1 ?_ rfl rfl
 show wpAny _ _ (spliced ((false,eval _ env) :: [])) _ _ s
 refine Calls.spliced_cons ?_
 refine Subscript_ (wpAny_Name (wpAny_loadName_local hk k2 hn hp ?_) (by decide))
 refine wpAny_Constant_int ?_
 refine subscriptTail_builtinR (x:=.ref l) (s:={ s with toks:=s.toks+1 }) (T:="tuple") ht.typeIs slot_tuple_getitem.lookup
  (PyProof.Rows.getItem_tuple (j:=0) (x:=.ref l) ht (by decide) (by decide) ?_ (by simpa using h0) ⟨rfl,?_⟩) (by with_unfolding_all rfl)
 ·have:0<its.length:=(zcm1.mp h0).1
  rw[zcm8,seqIndex_of (by decide) (by omega)]
  rfl
 ·refine Calls.spliced_nil ?_
  obtain⟨ys,hx⟩:=hi.allInts.items
  have hl':s.heap.IsList l (intItems ys):=hx▸hl
  refine sum_intListG (s:={ s with toks:=s.toks+1 }) hh hl' fun h' tk t' hk'=>?_
  have e1:ns=ys.toList.map (·.1):=by
   rw[← nums_intItems,← hx]
   exact (show numsOf ws.toArray.toList=ns from hi.numsOf).symm
  have e2:preSum (numAt ys) ys.size=ns.sum:=by
   rw[preSum_eq,zcr1 (by simp),e1]
  rw[e2]
  exact PyProof.Rows.sub_int ⟨h',_,_,rfl,rfl,hk'⟩
end
section
variable {X:Cx}{K:zcm2}{pins:List (Addr×Obj)}{σ:St}{H:Hp}{s:Shared}
theorem Inv.tab{T c':Addr}{tab more:Array Value}{oc:Obj}{h':Heap}{tk:Nat}(I:Inv X pins σ H s)(hT:H T=some (.tbl tab))(hx:Heap.ExtBut T s.heap h')(hge:s.heap.objs.size<=c')(hc:h'.get? c'=some oc)(ht:h'.get? T=some (PySem.W.tabObj (tab++more))):Inv X pins σ (upd (upd H T (.tbl (tab++more))) c' (.frz oc (.own c'))) { s with heap:=h',toks:=tk }:=by
 have fc:H c'=none:=I.hok.fresh hge
 have nT:c'≠T:=fun z=>by rw[z,hT] at fc;cases fc
 have at1:∀ b o,b≠T->H b=some o->upd (upd H T (.tbl (tab++more))) c' (.frz oc (.own c')) b=some o:=fun b o n e=>by rw[zb1 (za4 e fc),zb1 n];exact e
 have at0:∀ b o,s.heap.get? b=some o->H b=none->upd (upd H T (.tbl (tab++more))) c' (.frz oc (.own c')) b=none:=fun b o e n=>by
  rw[zb1 (zcp2 (zco6 (zcn3 e) hge)),zb1 (fun z=>by rw[z,hT] at n;cases n)];exact n
 have kp:∀ b o,s.heap.get? b=some o->H b=none->h'.get? b=some o:=fun b o e n=>hx b o (fun z=>by rw[z,hT] at n;cases n) e
 refine I.un ⟨fun b o e n _ _=>kp b o e n,fun b o e n _ _=>⟨o.slots,kp b o e n⟩,fun b o e n _=>at0 b o e n,fun b o e _=>?_,fun b xs e=>at1 b _ (fun z=>by rw[z,hT] at e;cases e) e,fun b o u e=>at1 b _ (fun z=>by rw[z,hT] at e;cases e) e,fun b ps e=>?_⟩ fun b u e=>?_
 ·by_cases z:b=T
  ·exact⟨_,z▸ht⟩
  ·exact⟨o,hx b o z e⟩
 ·by_cases z:b=T
  ·subst z
   rw[hT] at e;cases e
   exact⟨more,by rw[zb1 nT.symm,zb5]⟩
  ·exact⟨#[],by rw[Array.append_empty];exact at1 b _ z e⟩
 ·by_cases z:b=c'
  ·subst z
   rw[zb5] at e;cases e
   exact⟨hc,oc,hc⟩
  ·rw[zb1 z] at e
   by_cases z2:b=T
   ·subst z2
    rw[zb5] at e;cases e
    exact ht
   ·rw[zb1 z2] at e
    refine (I.hok b u e).stay (fun d v hd q=>hx d v (fun z3=>?_) q) (fun d q=>at1 d _ (fun z3=>by rw[z3,hT] at q;cases q) q) fun d xs q=>at1 d _ (fun z3=>by rw[z3,hT] at q;cases q) q
    rcases hd with hd|hd
    ·exact z2 (hd.symm.trans z3)
    ·rw[z3,hT] at hd;cases hd
@[irreducible] def rSoK(K:zcm2)(T:Addr)(ln co:Nat)(qual:Str)(hv:Int)(a:Addr)(H:Hp)(Q:VK):Prop:=∃ (bs:List Addr) (kz:List Int),SqL K H a (bs.map V.ref)/\bs.length<64/\kz.length=bs.length /\
 (∀ (i:Nat) b k,bs[i]?=some b->kz[i]?=some k->∃ l v ns,H b=some (.tup [.ref l,v])/\H l=some (.lst (List.map V.int ns))/\k=hv - ns.sum)/\zq1 T ln co qual H /\
 ∀ p H' (ps:List (Int×Addr)),H p=none->Chg T H H'->zq1 T ln co qual H'->ps.Perm (kz.zip bs)->ps.Pairwise (fun x y=>x.1<=y.1)->H' p=some (.lst (ps.map fun x=>V.ref x.2))->Q (.ref p) H'
def qSoK(K:zcm2)(T:Addr)(ln co:Nat)(qual:Str)(i:Nat)(t:TA):TE:=fun σ H Q=>t σ H fun xs H1=>match xs with
 | [.ref a]=>(match σ[i]? with
  | some (some (.int hv))=>rSoK K T ln co qual hv a H1 Q
  | _=>False)
 | _=>False
theorem zbp8:∀ {bs:List Addr}{us:List Value},Vals (bs.map V.ref) us->us=bs.map Value.ref
 | [],us,r=>by rw[zcu1] at r;cases r;rfl
 | b :: bs,us,r=>by
  rw[zcn9] at r
  cases r with
  | cons r1 r2=>cases r1;rw[zbp8 r2];rfl
theorem zaz6{E:Value->Shared->Prop}{q c' a cA:Addr}{la:Arguments}{lsc:Scope}{pm ctv:Value}{hv:Int}{th:Tok}{bs:List Addr}{kz:List Int}{Q:VK}{p1 p2 p3 p4 p5 p6 p7:Pos}(hr:Room 3 X.A)(I:Inv X pins σ H s)(hq:s.heap.get? q=some (PySem.W.kla_obj "<lambda>" qual la (.BinOp (.Name "hosts" p1) .Sub (.Call (.Name "sum" p2) [.Subscript (.Name "part" p3) (.Constant (.int 0) 0 p4) p5] [] p6) p7) lsc [("hosts",cA)] pm c' ctv))(hcr:s.heap.CodeRec (.ref c') qual)(hb:∀ u:Value,bindArgs (PySem.W.kla_fn "<lambda>" qual la (.BinOp (.Name "hosts" p1) .Sub (.Call (.Name "sum" p2) [.Subscript (.Name "part" p3) (.Constant (.int 0) 0 p4) p5] [] p6) p7) lsc [("hosts",cA)] pm (.ref c') ctv) ⟨[u],[]⟩=pure [(("part":Str),u)])(s1:lsc.kind=.function)(s2:lsc.isCoroutine=false)(s3:lsc.isGenerator=false)(s4:lsc.names.lookup ("hosts":Str)=some .free)(s5:lsc.names.lookup ("part":Str)=some .local)(s6:lsc.names.lookup ("sum":Str)=some .globalImplicit)(s7:∀ x∈lsc.names,x.2≠.cell)(hm:X.mg "sum"=none)(hcell:s.heap.IsCell cA (some (.int hv th)))(hcL:cA≠X.env.locals)(h1:SqL X.K H a (bs.map V.ref))(h2:bs.length<64)(h3:kz.length=bs.length)(h4:∀ (i:Nat) b k,bs[i]?=some b->kz[i]?=some k->∃ l v ns,H b=some (.tup [.ref l,v])/\H l=some (.lst (List.map V.int ns))/\k=hv - ns.sum)(h5:∀ p H' (ps:List (Int×Addr)),H p=none->Same H H'->ps.Perm (kz.zip bs)->ps.Pairwise (fun x y=>x.1<=y.1)->H' p=some (.lst (ps.map fun x=>V.ref x.2))->Q (.ref p) H') :
  wpAny (model X.prog X.w) X.A (call (.builtin "sorted") [.ref a] [(Str.ofString "key",.ref q)]) (EP X pins σ Q) E s:=by
 obtain⟨m,hn,hl⟩:=id I.loc
 obtain⟨its,r',pl,hz⟩:=I.list h1
 have eits:=zbp8 r'
 have hqL:q≠X.env.locals:=fun z=>by
  obtain⟨o,es,ep,e,d,_⟩:=hn
  rw[← z,hq] at e;cases e;cases d
 have hcrL:∀ b,Value.ref c'=.ref b->b≠X.env.locals:=fun b eb z=>by
  obtain⟨o,es,ep,e,d,_⟩:=hn
  obtain⟨c2,oc,vs,t,e1,e2,e3,_⟩:=hcr
  cases e1;cases eb
  rw[z,e] at e2;cases e2;rw[d] at e3;cases e3
 have old:∀ {h:Heap}{own:List (Addr×Obj)},News (Att.noObjs s.heap) X.env.locals h (Att.ledger s.heap X.env.locals X.env.locals++own)->∀ b o,b≠X.env.locals->s.heap.get? b=some o->h.get? b=some o:=
  fun N b o nb e=>(N (b,o) (zcu7 _ (Att.mem_ledger.mpr ⟨nb,nb,e⟩))).1
 have tracked:∀ {b:Addr}{o:HO},H b=some o->b≠X.env.locals:=fun e z=>by rw[z,I.free] at e;cases e
 refine ksk_sorted (h₀:=Att.noObjs s.heap) (L:=X.env.locals) (m:=m) (news:=Att.ledger s.heap X.env.locals X.env.locals) (kz:=kz) (f:=.ref q) (b:=false) (vs:=its) (Att.fr_all hn) (fun p hp=>by
   obtain⟨n1,_,e⟩:=Att.mem_ledger.mp hp
   exact⟨e,n1,Att.noObjs_get _ _⟩) pl.isList (by rw[eits,zcl9];exact h3) (by rw[eits,zcl9];exact h2) (ksk_s1 _ _) (fun x=>ksk_l1 _ _) (fun x=>ksk_t1 _ _) (fun i v k hv' hk h tk own F N=>?_) fun D h' tk out c F N lt ko=>?_
 ·rw[eits,zcm5] at hv'
  obtain⟨b,eb,rfl⟩:=zcm7.mp hv'
  obtain⟨l,v,ns,e1,e2,rfl⟩:=h4 i b k eb hk
  have kp:=old N
  have ks:∀ b o,X.base.get? b=some o->h.get? b=some o:=fun b o e=>kp b o (fun z=>by
   have:=zcn3 e
   rw[z] at this
   exact absurd (zco6 this (zcr3 I.ok.bsz I.ok.above)) (zcs5 _)) (I.bk b o e)
  refine wpAny_call (PySem.W.kla_callFunE (o:=PySem.W.kla_obj "<lambda>" qual la _ lsc [("hosts",cA)] pm c' ctv) (by have:=hr.dp;show X.A.depth<_;omega) (kp q _ hqL hq) rfl s2 s3 rfl ?_ ?_)
  ·obtain⟨c2,oc,vs,t,e1,e2,e3⟩:=hcr
   cases e1
   exact⟨c',oc,vs,t,rfl,kp c' _ (hcrL c' rfl) e2,e3⟩
  ·rw[hb]
   refine zcv4 (wpAny_newFunctionEnv s7 (fun x hx=>by rw[zct1.mp hx];exact s5) (fun h₁ hns hsb=>?_) s1)
   have hk₁:∀ b o,h.get? b=some o->h₁.get? b=some o:=fun b o e=>hsb.extBut b o (zcp2 (zcn3 e)) (zcm3 _ e)
   refine⟨(I.mod.nolimit.keeps ks).keeps hk₁,?_⟩
   show codeAny _ _ (.expr _ (PySem.W.envX qual lsc h.objs.size q (.ref c') [("hosts",cA)])) _ _
   obtain⟨mb,b1,b2⟩:=I.mod.blt
   obtain⟨zt,itt,rt,tt⟩:=I.hok b _ e1
   obtain⟨zl,itl,nl,rl,el⟩:=I.hok l _ e2
   have rt0:∃ u,itt=[.ref l,u]:=by
    cases rt with
    | cons r1 r2=>cases r1;cases r2 with
     | cons r3 r4=>cases r4;exact⟨_,rfl⟩
   obtain⟨u0,rfl⟩:=rt0
   have ht:IsTup h₁ b ([.ref l,u0]:List Value).toArray:=by
    obtain⟨o,e,c⟩:=tt
    exact⟨o,hk₁ _ _ (kp _ _ (tracked e1) e),c⟩
   have hll:h₁.get? l=some { cls:=.type "list",data:=.seq itl.toArray nl }:=hk₁ _ _ (kp _ _ (tracked e2) el)
   refine PySem.W.kla_codeExpr (wpAny_mono (zbv0 (s:={ s with heap:=h₁,toks:=tk+1 }) (cA:=cA) (m:=fun y=>[(("part":Str),Value.ref b)].reverse.lookup y) (mg:=X.mg) (mb:=mb) (by exact hr.hd) s1 s4 s5 s6 rfl
    (by obtain⟨oc,q1,q2⟩:=hcell;exact⟨oc,hk₁ _ _ (kp _ _ hcL q1),q2⟩) hns rfl ((I.mod.glob.keeps ks).keeps hk₁) hm ((b1.keeps ks).keeps hk₁) ((b2 "sum" (by decide)).trans zz8) ht rfl ⟨_,hll,rfl,_,rfl⟩ (zy8 rl)) (fun v s' hv=>?_) fun _ _ hF=>hF)
   obtain⟨h2',tk2,t2,rfl,rfl,kp2⟩:=hv
   exact KskEnd.intro (s₁:={ s with heap:=h,toks:=tk }) ((F.kept hk₁).kept kp2) ((N.grown hk₁).grown kp2) fun _ hp=>hp
 ·have ND:=N (D,seqObj "list" out c) zcr0
  have kp:∀ b o,b≠X.env.locals->s.heap.get? b=some o->h'.get? b=some o:=fun b o nb e=>(N (b,o) (zcq4 _ (Att.mem_ledger.mpr ⟨nb,nb,e⟩))).1
  have nD:∀ b o,s.heap.get? b=some o->b≠D:=fun b o e z=>by
   by_cases nb:b=X.env.locals
   ·exact ND.2.1 (z.symm.trans nb)
   ·have q':b<D:=lt (b,o) (Att.mem_ledger.mpr ⟨nb,nb,e⟩)
    rw[z] at q'
    exact absurd q' (zcs5 _)
  have fD:H D=none:=by
   cases e:H D with
   | none=>rfl
   | some u=>obtain⟨o,ho⟩:=(I.hok D u e).there;exact absurd rfl (nD D o ho)
  obtain⟨ps,hp,ho,hs⟩:=ko
  have ez:kz.zip its=(kz.zip bs).map fun x=>(x.1,Value.ref x.2):=by
   rw[eits,List.zip_map_right]
   rfl
  rw[ez] at hp
  obtain⟨g,hg⟩:∃ g:Value->Addr,∀ b,g (.ref b)=b:=⟨fun v=>match v with|.ref b=>b|_=>0,fun _=>rfl⟩
  have hp':(ps.map fun x=>(x.1,g x.2)).Perm (kz.zip bs):=by
   have:=hp.map fun x:Int×Value=>(x.1,g x.2)
   rw[zco0] at this
   have e2:(kz.zip bs).map ((fun x:Int×Value=>(x.1,g x.2))∘fun x=>(x.1,Value.ref x.2))=kz.zip bs:=by
    conv=>rhs;rw[← List.map_id (kz.zip bs)]
    exact zcn7 fun x _=>by show (x.1,g (.ref x.2))=x;rw[hg]
   rw[e2] at this
   exact this
  have ho':out.toList=((ps.map fun x=>(x.1,g x.2)).map fun x=>x.2).map Value.ref:=by
   rw[ho,zco0,zco0]
   refine zcn7 fun x hx=>?_
   obtain⟨y,_,rfl⟩:=zcn5.mp (hp.mem_iff.mp hx)
   show Value.ref y.2=Value.ref (g (.ref y.2))
   rw[hg]
  have hs':(ps.map fun x=>(x.1,g x.2)).Pairwise (fun x y=>x.1<=y.1):=by
   rw[List.pairwise_map]
   exact hs.imp fun hr=>by simpa using hr
  generalize (ps.map fun x=>(x.1,g x.2))=ps' at hp' ho' hs'
  have lenO:ps'.length<64:=by
   have:=hp'.length_eq
   rw[List.length_zip] at this
   omega
  have vl:∀ l:List (Int×Addr),Vals (l.map fun x=>V.ref x.2) ((l.map fun x=>x.2).map Value.ref):=by
   intro l
   induction l with
   | nil=>exact .nil
   | cons x l ih=>exact .cons rfl ih
  have hD:h'.get? D=some { cls:=.type "list",data:=.seq ((ps'.map fun x=>x.2).map Value.ref).toArray c }:=by
   have:=ND.1
   rw[← ho',Array.toArray_toList]
   exact this
  have at1:∀ b o,H b=some o->upd H D (.lst (ps'.map fun x=>V.ref x.2)) b=some o:=fun b o e=>by rw[zb1 (za4 e fD)];exact e
  refine⟨.ref D,upd H D (.lst (ps'.map fun x=>V.ref x.2)),?_,rfl,h5 D _ ps' fD (Same.upd fD) hp' hs' zb5⟩
  refine I.step (h':=h') (t':=tk) (g':=s.gens) (d':=s.drawn) (ch:=[]) (fun _ z=>nomatch z) (fun b o n1 _ _ e _=>kp b o n1 e) (fun b o n1 _ _ e _=>⟨o.slots,kp b o n1 e⟩) (fun b o _ e n=>by rw[zb1 (nD b o e)];exact n) (fun b o _ e=>?_)
   (fun b xs e=>at1 b _ e) (fun b o u e=>at1 b _ e) (fun b ps e=>⟨#[],by rw[Array.append_empty];exact at1 b _ e⟩) (fun m' hm'=>?_) (fun b u e=>?_) I.bare
  ·by_cases z:b=X.env.locals
   ·obtain⟨o',_,_,e',_⟩:=F.ns
    exact⟨o',z▸e'⟩
   ·exact⟨o,kp b o z e⟩
  ·have:m'=m:=funext fun x=>hm'.agree hn x
   rw[this]
   exact F.ns
  ·by_cases z:b=D
   ·subst z
    rw[zb5] at e;cases e
    refine⟨by rw[zcl9];exact zcr3 (Nat.le_of_lt lenO) (by decide),_,c,vl ps',hD⟩
   ·rw[zb1 z] at e
    refine (I.hok b u e).stay (fun d v hd q=>kp d v (fun z3=>?_) q) (fun d q=>at1 d _ q) fun d xs q=>at1 d _ q
    rcases hd with hd|hd
    ·exact tracked e (hd.symm.trans z3)
    ·exact tracked hd z3
end
section
variable {X:Cx}{K:zcm2}
theorem peSoK{cA:Addr}{ln co:Nat}{la:Arguments}{lsc:Scope}{p p1 p2 p3 p4 p5 p6 p7 kp pos lpos:Pos}{e:Expr}{t:TA}(hK:X.K=K)(hr:Room 3 X.A)(hm:X.mg "sorted"=none)(hms:X.mg "sum"=none)(hC:PySem.W.CodeHd X.base c T)(hB:Bm X.mg X.base)(ha:PA X [e] t)(hcode:X.env.code=.ref c)(hN:X.N[i]?=some ("hosts":Str))(hkd:X.env.kindOf ("hosts":Str)=some .cell)(hcA:X.env.cells.lookup ("hosts":Str)=some cA)(hcl:closureFor lsc X.env=pure [(("hosts":Str),cA)])(hql:X.env.qual++"<lambda>"=qual)(hln:lpos.line=ln)(hco:lpos.col=co)(hb:∀ (pm cv ctv u:Value),bindArgs (PySem.W.kla_fn "<lambda>" qual la (.BinOp (.Name "hosts" p1) .Sub (.Call (.Name "sum" p2) [.Subscript (.Name "part" p3) (.Constant (.int 0) 0 p4) p5] [] p6) p7) lsc [("hosts",cA)] pm cv ctv) ⟨[u],[]⟩=pure [(("part":Str),u)])(s1:lsc.kind=.function:=by rfl)(s2:lsc.isCoroutine=false:=by rfl)(s3:lsc.isGenerator=false:=by rfl)(s4:lsc.names.lookup ("hosts":Str)=some .free:=by rfl)(s5:lsc.names.lookup ("part":Str)=some .local:=by rfl)(s6:lsc.names.lookup ("sum":Str)=some .globalImplicit:=by rfl)(s7:∀ x∈lsc.names,x.2≠.cell:=by decide)(hdf:defaultsOf la X.env=([],[]):=by rfl)(hg:Gl X "sorted":=by rfl)(he:backTo pos (starEach [e] X.env)=(false,eval e X.env) :: backTo pos (starEach [] X.env):=by rfl)(hpl:(backTo pos (starEach [e] X.env)).any (·.1)=false:=by rfl) :
  PE X (.Call (.Name "sorted" p) [e] [⟨some "key",.Lambda la (.BinOp (.Name "hosts" p1) .Sub (.Call (.Name "sum" p2) [.Subscript (.Name "part" p3) (.Constant (.int 0) 0 p4) p5] [] p6) p7) lsc lpos,kp⟩] pos) (qSoK K T ln co qual i t):=by
 subst hK hql hln hco
 intro pins s σ H Q I h
 refine wpAny_Call_Name_kw (zaa2 I hg hm zan8 ?_ (by decide) (by decide))
 refine callWith_kw (thn (ha pos pins s σ H _ I h) fun us s1' ⟨vs,H1,I1,r,q⟩=>?_) he hpl
 dsimp only at q
 split at q
 case h_2=>exact q.elim
 rename_i a
 split at q
 case h_2=>exact q.elim
 rename_i hv ei
 unfold rSoK at q
 obtain⟨bs,kz,h1,h2,h3,h4,⟨tab,hT,htab⟩,h5⟩:=q
 obtain⟨u1,rfl,rx⟩:=zaj8 r
 cases rx
 have hTs:s1'.heap.get? T=some (PySem.W.tabObj tab):=I1.hok T _ hT
 obtain⟨m1,hn1,hl1⟩:=id I1.loc
 obtain⟨u,ru,lk⟩:=hl1 i _ _ hN ei (.inr (.inl hkd))
 obtain⟨th,rfl⟩:=ru
 have hcell:s1'.heap.IsCell cA (some (.int hv th)):=by
  rcases lk with ⟨k,_⟩|⟨_,c2,e2,hc2⟩
  ·rw[hkd] at k;cases k
  ·rw[hcA] at e2;cases e2;exact hc2
 have hcL:=I1.cne _ _ hcA
 have gl:=I1.mod.glob.keeps I1.bk
 have hbT:∀ b o,X.base.get? b=some o->b≠T:=fun b o e z=>by
  have:=(I1.bs b o e).2
  rw[z,hT] at this;cases this
 have hgT:zcv9≠T:=by
  obtain⟨o,_,_,e,_⟩:=I1.mod.glob
  exact hbT _ _ e
 have hBT:s1'.heap.BuiltinsAt X.mg T:=by
  obtain⟨bm,ob,b1,b2,b3,b4,b5,b6⟩:=hB
  refine⟨bm,ob,b1,b2,fun z=>?_,hbT _ _ b3,I1.bk _ _ b3,b4,b5,b6⟩
  obtain⟨o,_,_,e,d,_⟩:=I1.mod.glob
  rw[z,e] at b3;cases b3;rw[d] at b6;cases b6
 have hCs:=hC.keeps I1.bk
 refine kws_cons (PySem.W.kla_eval hdf ?_)
 rcases htab with rfl|⟨c0,oc,vs,t0,rfl,ec,ed,ev⟩
 ·refine PySem.W.kla_makeFunction (mg:=X.mg) hcl I1.ok.glob gl hcode hCs hTs trivial rfl hgT hBT fun c' ctv h' tk hx hge hlt hrec htb=>?_
  obtain⟨c2,oc,vs,t0,e2,hoc,ed,ev⟩:=hrec
  cases e2
  have I2:=I1.tab (tk:=tk) (more:=#[rawInt lpos.line,rawInt lpos.col,.ref c']) hT hx hge hoc htb
  have fc:H1 c'=none:=I1.hok.fresh hge
  have nT:c'≠T:=fun z=>by rw[z,hT] at fc;cases fc
  generalize hF:PySem.W.kla_obj "<lambda>" (X.env.qual++"<lambda>") la _ lsc [(("hosts":Str),cA)] ((X.mg "__name__").getD .none) c' ctv=fo
  have I3:=I2.kept (t':=tk) (h':=h'.push fo) (fun b o e=>zcm3 _ e)
  generalize hH3:upd (upd H1 T (.tbl (#[]++#[rawInt lpos.line,rawInt lpos.col,.ref c']))) c' (.frz oc (.own c'))=H3 at I3
  have at1:∀ b o,b≠T->H1 b=some o->H3 b=some o:=fun b o n e=>by rw[← hH3,zb1 (za4 e fc),zb1 n];exact e
  have none1:∀ b,H3 b=none->H1 b=none:=fun b e=>by
   by_cases z:b=T
   ·subst z;rw[← hH3,zb1 nT.symm,zb5] at e;cases e
   ·cases e1:H1 b with
    | none=>rfl
    | some o=>rw[at1 b o z e1] at e;cases e
  have tb3:zq1 T lpos.line lpos.col (X.env.qual++"<lambda>") H3:=⟨_,by rw[← hH3,zb1 nT.symm,zb5,Array.empty_append],.inr ⟨c',oc,vs,t0,rfl,by rw[← hH3,zb5],ed,ev⟩⟩
  have sq3:SqL X.K H3 a (bs.map V.ref):=by
   rcases h1 with h1|h1
   ·rcases h1 with h1|⟨o,h1⟩
    ·exact .inl (.inl (at1 _ _ (fun z=>by rw[z,hT] at h1;cases h1) h1))
    ·exact .inl (.inr ⟨o,at1 _ _ (fun z=>by rw[z,hT] at h1;cases h1) h1⟩)
   ·exact .inr h1
  refine kws_nil ?_
  subst hF
  refine zaz6 (c':=c') (cA:=cA) (hv:=hv) (th:=th) hr I3 (zcn8 _ rfl) ⟨c',oc,vs,t0,rfl,zcm3 _ hoc,ed,ev⟩ (fun u=>hb _ _ _ u) s1 s2 s3 s4 s5 s6 s7 hms ?_ hcL sq3 h2 h3 (fun j b k e1 e2=>?_) fun p H' ps n1 n2 n3 n4 n5=>?_
  ·obtain⟨o,q1,q2⟩:=hcell
   exact⟨o,zcm3 _ (hx _ _ (fun z=>by rw[z,hTs] at q1;cases q1;cases q2) q1),q2⟩
  ·obtain⟨l,v,ns,a1,a2,a3⟩:=h4 j b k e1 e2
   exact⟨l,v,ns,at1 _ _ (fun z=>by rw[z,hT] at a1;cases a1) a1,at1 _ _ (fun z=>by rw[z,hT] at a2;cases a2) a2,a3⟩
  ·exact h5 p H' ps (none1 p n1) (fun b o nb e=>n2 b o (at1 b o nb e)) (tb3.same n2) n3 n4 n5
 ·have hcs:s1'.heap.get? c0=some oc:=(I1.hok c0 _ ec).1
  refine PySem.W.kla_makeFunctionHit (mg:=X.mg) (cv:=.ref c0) hcl I1.ok.glob gl hcode hCs hTs ?_ ?_ hBT fun ctv h' tk hk hsz=>?_
  ·simp[TriplesOk,rawInt]
  ·simp[codeAmong,rawInt]
  ·generalize hF:({ cls:=.type "function",data:=.func (PySem.W.kla_fn "<lambda>" (X.env.qual++"<lambda>") la _ lsc [(("hosts":Str),cA)] ((X.mg "__name__").getD .none) (.ref c0) ctv) }:Obj)=fo
   have I3:=I1.kept (t':=tk) (h':=h'.push fo) (fun b o e=>zcm3 _ (hk b o e))
   refine kws_nil ?_
   subst hF
   refine zaz6 (c':=c0) (cA:=cA) (hv:=hv) (th:=th) hr I3 (zcn8 _ rfl) ⟨c0,oc,vs,t0,rfl,zcm3 _ (hk _ _ hcs),ed,ev⟩ (fun u=>hb _ _ _ u) s1 s2 s3 s4 s5 s6 s7 hms ?_ hcL h1 h2 h3 h4 fun p H' ps n1 n2 n3 n4 n5=>?_
   ·obtain⟨o,q1,q2⟩:=hcell
    exact⟨o,zcm3 _ (hk _ _ q1),q2⟩
   ·have tb:zq1 T lpos.line lpos.col (X.env.qual++"<lambda>") H1:=⟨_,hT,.inr ⟨c0,oc,vs,t0,rfl,ec,ed,ev⟩⟩
    exact h5 p H' ps n1 (fun b o _ e=>n2 b o e) (tb.same n2) n3 n4 n5
theorem soK_rd{ln co:Nat}{hv:Int}{a:Addr}{Q:VK}{bs:List Addr}{kz:List Int}(h1:H a=some (.lst (bs.map V.ref)))(h2:bs.length<64)(h3:kz.length=bs.length)(h4:∀ (i:Nat) b k,bs[i]?=some b->kz[i]?=some k->∃ l v ns,H b=some (.tup [.ref l,v])/\H l=some (.lst (List.map V.int ns))/\k=hv - ns.sum)(h5:zq1 T ln co qual H)(q:∀ p H' (ps:List (Int×Addr)),H p=none->Chg T H H'->zq1 T ln co qual H'->ps.Perm (kz.zip bs)->ps.Pairwise (fun x y=>x.1<=y.1)->H' p=some (.lst (ps.map fun x=>V.ref x.2))->Q (.ref p) H') :
  rSoK K T ln co qual hv a H Q:=by unfold rSoK;exact⟨bs,kz,SqL.of h1,h2,h3,h4,h5,q⟩
end
section
variable {P:Program}{w:World}{K:zcm2}{mg:Str->Option Value}{base:Heap}
theorem Fun.okRC{x:Str}{st:Stmt}{fd:FuncData}{N ps:List Str}{k:Nat}{sp:Sp}(F:Fun K x qual st f fd)(hc:fd.code=.ref c)(S:za8 N ps (za6 st))(len:∀ vs H Q E,sp vs H Q E->vs.length=ps.length)(hbody:∀ (A:Around) (outer:List Env) (s:Shared) (H:Hp) (vs:List V) (Q:VK) (E:XK),Room k (A.deeper (envOfC qual (za6 st) s.heap.objs.size f (.ref c)))->XOut (cxOf (CXR P w) P w K mg base N qual (za6 st) f (.ref c) A outer s H E) E->sp vs H Q E ->
   ∃ t,PSs (cxOf (CXR P w) P w K mg base N qual (za6 st) f (.ref c) A outer s H E) (zi8 st) t/\t { nx:=fun _ H'=>Q .non H',rt:=Q } (zah6 N vs) H):FnOk P w K mg base (CXR P w) (k+1) f fd ps sp:=by
 obtain⟨oc,od,kV,doc,pm,an,cdv,ct,osl,rfl,lk,hcd⟩:=F.ex
 have:cdv=.ref c:=hc
 subst this
 refine fn_of lk hcd S len fun A outer s H vs Q E hr hsp=>?_
 exact hbody A outer s H vs Q E hr xout hsp
end
theorem zbj3{P:Program}{w:World}{K:zcm2}{mg mb:Str->Option Value}{CX:CXT}{k:Nat}{fa a:Addr}{fd:FuncData}{x:Str}{sp:Sp}{s₁:Shared}{ns:List Int}(KX:K.In s₁.heap)(hnt:PySem.W.noTabs K=true)(hns:s₁.heap.Ns zcv9 mg)(hb:s₁.heap.Ns builtinsNs mb)(hbb:∀ x:Str,x≠"__name__"->mb x=bootBuiltins x)(hlim:s₁.heap.NoLimit)(hg:s₁.gens=#[])(hC:PySem.W.CodeHd s₁.heap c T)(hT:s₁.heap.get? T=some (PySem.W.tabObj #[]))(hB:Bm mg s₁.heap)(ha:s₁.heap.get? a=some { cls:=.type "list",data:=.seq vs.toArray })(hi:IntsAre vs ns)(hl:ns.length<=sizeLine)(hr:Room k callerA)(F:∀ base:Heap,K.In base->base.Ns zcv9 mg->PySem.W.CodeHd base c T->Bm mg base->FnOk P w K mg base CX k fa fd [x] sp)(hbind:∀ (s:Shared) (u:Value),BindsTo s fd ⟨[u],[]⟩ [(x,u)])(hsp:∀ H:Hp,H T=some (.tbl #[])->SqL K H a (ns.map V.int)->sp [.ref a] H (fun v _=>v=.bl true) fun _ _ _=>False)(hCX:∀ H e s',CX [] H s₁ (fun _ _ _=>False) e s'->False) :
  codeAny (model P w) callerA (.call (.ref fa) ⟨[.ref a],[]⟩) (fun r s'=>r=.ok (.ret (.bool true))/\OldK s₁.heap s'.heap/\s'.os=s₁.os/\AllBare s'.gens) s₁:=by
 have rv:=zar8 hi
 have lenV:=hi.length
 have hKT:K.lookup T=none:=by
  cases e:K.lookup T with
  | none=>rfl
  | some o=>
   have e1:=KX T o e
   rw[hT] at e1;cases e1
   have h2:=zcn6.mp hnt _ (PySem.W.mem_of_lookupK e)
   exact absurd (show false=true from h2) zcn0
 have haT:a≠T:=fun z=>by rw[z,hT] at ha;cases ha
 have core:∀ H:Hp,H T=some (.tbl #[])->(∀ b,b=T∨H b=none∨∃ o xs,H b=some (.frz o (.lst xs)))->SqL K H a (ns.map V.int)->HOk P w H s₁.heap->(∀ b,H b≠none->b=a∨b=T)->(H a≠none->K.lookup a=none) ->
   codeAny (model P w) callerA (.call (.ref fa) ⟨[.ref a],[]⟩) (fun r s'=>r=.ok (.ret (.bool true))/\OldK s₁.heap s'.heap/\s'.os=s₁.os/\AllBare s'.gens) s₁:=by
  intro H hHT hO hS hok hA hK
  have base_of:∀ {b:Addr}{o:Obj},s₁.heap.get? b=some o->H b=none->(hidT s₁.heap H).get? b=some o:=fun e n=>zbv4 e n
  have noF:∀ {b:Addr}{o:Obj},s₁.heap.get? b=some o->(∀ xs n,o.data≠.seq xs n)->o≠PySem.W.tabObj #[]->H b=none:=fun {b o} e d1 d2=>by
   cases q:H b with
   | none=>rfl
   | some u=>
    rcases hA b (by rw[q];simp) with e' | e'
    ·subst e'
     rw[ha] at e;cases e
     exact absurd rfl (d1 _ _)
    ·subst e'
     rw[hT] at e;cases e
     exact absurd rfl d2
  have nsK:∀ {b:Addr}{m:Str->Option Value},s₁.heap.Ns b m->(hidT s₁.heap H).Ns b m:=fun {b m} ⟨o,es,ep,e,d,r⟩=>⟨o,es,ep,base_of e (noF e (fun _ _ z=>by rw[d] at z;cases z) (fun z=>by rw[z] at d;cases d)),d,r⟩
  have hKb:K.In (hidT s₁.heap H):=fun b o e=>base_of (KX b o e) (by
   cases q:H b with
   | none=>rfl
   | some u=>
    rcases hA b (by rw[q];simp) with e' | e'
    ·subst e'
     rw[hK (by rw[q];simp)] at e;cases e
    ·subst e'
     rw[hKT] at e;cases e)
  have hM:Mod K mg (hidT s₁.heap H):=⟨hKb,nsK hns,⟨mb,nsK hb,hbb⟩,let ⟨mc,h1,h2⟩:=hlim;⟨mc,nsK h1,h2⟩⟩
  have hCb:PySem.W.CodeHd (hidT s₁.heap H) c T:=by
   obtain⟨o,vs,file,tf,flags,tg,inF,text,tt,e1,r1,r2,r⟩:=hC
   exact⟨o,vs,file,tf,flags,tg,inF,text,tt,base_of e1 (noF e1 (fun _ _ z=>by rw[r2] at z;cases z) (fun z=>by rw[z] at r1;cases r1)),r1,r2,r⟩
  have hBb:Bm mg (hidT s₁.heap H):=by
   obtain⟨bm,ob,b1,b2,b3,b4,b5,b6⟩:=hB
   exact⟨bm,ob,b1,b2,base_of b3 (noF b3 (fun _ _ z=>by rw[b6] at z;cases z) (fun z=>by rw[z] at b4;cases b4)),b4,b5,b6⟩
  have e0:Env0 P w K mg (hidT s₁.heap H) callerA [] s₁ H:=⟨rfl,hM,fun b o e=>zca1 e,Nat.le_of_eq (zbm8 _ _),trivial,fun b hb=>absurd (show b∈([]:List Addr) from hb) (by simp),hok,.of_eq hg⟩
  refine codeAny_mono ((F _ hKb (nsK hns) hCb hBb).run callerA [] s₁ H ⟨[.ref a],[]⟩ [.ref a] [.ref a] _ _ hr e0 (hbind s₁ (.ref a)) (.cons rfl .nil) (hsp H hHT hS)) fun r s' h=>?_
  cases r with
  | error e=>exact (hCX H e s' h).elim
  | ok fl=>
   cases fl with
   | next=>exact False.elim h
   | brk=>exact False.elim h
   | cont=>exact False.elim h
   | ret u=>
    obtain⟨v,H',os,bare,un,hok',r',q⟩:=h
    have q':v=.bl true:=q
    subst q'
    obtain rfl:u=Value.bool true:=r'
    obtain⟨more,eT⟩:=un.tbls T _ hHT
    have eT2:s'.heap.get? T=some (PySem.W.tabObj (#[]++more)):=hok' T _ eT
    have keep:∀ b o,b≠T->s₁.heap.get? b=some o->s'.heap.get? b=some o:=fun b o nb e=>by
     cases q:H b with
     | none=>exact un.keep b o e q (by intro z;exact absurd (show b∈([]:List Addr) from z) (by simp)) (by simp)
     | some u=>
      rcases hO b with z|z|⟨ob,xs,z⟩
      ·exact absurd z nb
      ·rw[q] at z;cases z
      ·have z2:=un.frzs b ob _ z
       obtain⟨e1,_⟩:=hok b _ z
       obtain⟨e2,_⟩:=hok' b _ z2
       rw[e] at e1;cases e1
       exact e2
    refine⟨rfl,⟨fun b o e=>?_,fun b o e=>?_⟩,os,bare⟩
    ·by_cases hb:b=T
     ·subst hb
      rw[hT] at e;cases e
      exact .inr (.inl ⟨(hC.tab hT).isCodeTable,rfl,#[],more,rfl,eT2⟩)
     ·exact .inl (keep b o hb e)
    ·by_cases hb:b=T
     ·subst hb;exact⟨_,eT2⟩
     ·exact⟨o,keep b o hb e⟩
 cases hk:K.lookup a with
 | some o=>
  have e:=KX a o hk
  rw[ha] at e
  cases e
  refine core (fun b=>if b=T then some (.tbl #[]) else none) (if_pos rfl) (fun b=>?_) (.inr ⟨_,vs.toArray,_,hk,rfl,rfl,rfl,by rw[zcm8,lenV];exact hl,by simpa using rv⟩) (fun b u z=>?_) (fun b z=>?_) fun z=>absurd (if_neg haT) z
  ·by_cases hb:b=T
   ·exact .inl hb
   ·exact .inr (.inl (if_neg hb))
  ·by_cases hb:b=T
   ·have z':=(if_pos hb).symm.trans z
    cases z'
    subst hb
    exact hT
   ·have z':=(if_neg hb).symm.trans z
    cases z'
  ·by_cases hb:b=T
   ·exact .inr hb
   ·exact absurd (if_neg hb) z
 | none=>
  refine core (fun b=>if b=T then some (.tbl #[]) else if b=a then some (.frz { cls:=.type "list",data:=.seq vs.toArray } (.lst (ns.map V.int))) else none) (if_pos rfl) (fun b=>?_) (.inl (.inr ⟨{ cls:=.type "list",data:=.seq vs.toArray },(if_neg haT).trans (if_pos rfl)⟩)) (fun b u z=>?_) (fun b z=>?_) fun _=>hk
  ·by_cases hb:b=T
   ·exact .inl hb
   ·by_cases hb2:b=a
    ·exact .inr (.inr ⟨_,_,(if_neg hb).trans (if_pos hb2)⟩)
    ·exact .inr (.inl ((if_neg hb).trans (if_neg hb2)))
  ·by_cases hb:b=T
   ·have z':=(if_pos hb).symm.trans z
    cases z'
    subst hb
    exact hT
   ·have z':=(if_neg hb).symm.trans z
    by_cases hb2:b=a
    ·have z'':=(if_pos hb2).symm.trans z'
     cases z''
     subst hb2
     exact⟨ha,by rw[zcl9];exact hl,vs,_,rv,ha⟩
    ·have z'':=(if_neg hb2).symm.trans z'
     cases z''
  ·by_cases hb:b=T
   ·exact .inr hb
   ·by_cases hb2:b=a
    ·exact .inl hb2
    ·exact absurd ((if_neg hb).trans (if_neg hb2)) z
theorem walk_ofT{l:PySem.W.OpenLaw}{n k:Nat}{q:Program}{loose:List Str}{XP:(Str->Option Value)->Heap->Prop}{YP:World->Heap->Prop}{d d9:DefRec}{K:Params->zcm2}{CX:World->CXT}{sp:World->Addr->Sp}{x:Str}(hn:l.most=some n)(hn2:n<=sizeLine)(hdf:d.params.defaults=[])(hr:Room k callerA)(hY:∀ (w:World) (h:Heap),YP w h->(K w.params).In h)(xx:Str)(hnt:∀ w:World,PySem.W.noTabs (K w.params)=true)(hrec:(recsOf q).find? (fun e=>e.name==xx)=some d9)(F:∀ (w:World) (mg:Str->Option Value) (fa:Addr) (h:Heap),(K w.params).In h->h.Ns zcv9 mg->mg d.name=some (.ref fa) ->
   ∃ (c T:Addr) (fd:FuncData),zcv0 (K w.params) xx=some (c,T)/\(∀ (s:Shared) (u:Value),BindsTo s fd ⟨[u],[]⟩ [(x,u)]) /\
    ∀ base:Heap,(K w.params).In base->base.Ns zcv9 mg->PySem.W.CodeHd base c T->Bm mg base->FnOk l.prog w (K w.params) mg base (CX w) k fa fd [x] (sp w T))(hsp:∀ (w:World) (T:Addr) (H:Hp) (a:Addr) (ns:List Int),ns.length<=n->H T=some (.tbl #[])->SqL (K w.params) H a (ns.map V.int)->sp w T [.ref a] H (fun v _=>v=.bl true) fun _ _ _=>False)(hCX:∀ (w:World) (H:Hp) (s:Shared) (e:Value) (s':Shared),CX w [] H s (fun _ _ _=>False) e s'->False) :
  PySem.W.WalkO q loose XP YP l.row.toRowW d [] (fun f vs=>PySem.call f vs):=by
 refine Att.attach_call hn hdf fun w s₀ s₁ mg mb fa o pm cd doc a vs ns G Y ho hd hcd hmg hobj hints hlen hg=>?_
 have KX:=hY w _ Y
 obtain⟨c,T,fd,htab,hb,hF⟩:=F w mg fa _ KX G.T.g hmg
 obtain⟨hC,hT⟩:=PySem.W.tab_of G.T KX hrec htab
 exact zbj3 KX (hnt w) G.T.g G.T.b G.T.builtins G.T.nolimit hg hC hT G.T.bmain hobj hints (zcr3 hlen hn2) hr hF hb (fun H hO hS=>hsp w T H a ns hlen hO hS) fun H e s'=>hCX w H s₁ e s'
theorem zbq6{K:zcm2}{x:Str}{oc:Value}{od:Option Addr}{fd:FuncData}{sl:Array (Option Value)}(hT:zcv0 K x=some (c,T))(a:zcp8 K zcv9 x=some (some (.ref f)))(l:K.lookup f=some ⟨oc,od,.func fd,sl⟩):fd.code=.ref c:=by
 unfold zcv0 at hT
 rw[a] at hT
 dsimp only at hT
 rw[l] at hT
 dsimp only at hT
 split at hT
 ·rename_i c2 e
  split at hT
  ·split at hT
   ·cases hT;exact e
   ·cases hT
  ·cases hT
 ·cases hT
end L2
set_option maxHeartbeats 1000000
set_option maxHeartbeats 0
namespace G
local macro_rules | `(tactic| eq_refl)=>`(tactic| first|exact Or.inl rfl|exact Or.inr rfl)
local macro_rules | `(tactic| ac_rfl)=>`(tactic| exact⟨rfl,rfl,rfl,by decide +kernel,rfl,by decide +kernel,by decide +kernel⟩)
open PySem L2
variable {T f l m q:Addr}{H H':Hp}{Q:VK}{E:XK}{fd:FuncData}{ds:List PyData}{h:Int}{c i:Nat}{ts:List (Addr×Addr)}{ms:List (List Int×Int)}{o:HO}{xs:List (Int×Int×Int)}{xss:List (List (Int×Int×Int))}{ps:List Addr}{ys:List Int}
def top(i:Nat):Stmt:=PySem.Challenge.pw_hostfields_k23_whole_shares_alone_count.main.body.getD i (.Pass ⟨0,0,0,0⟩)
abbrev zy0:Stmt:=top 7
theorem zav4:za8 ["thing"] ["thing"] (za6 zy0):=by ac_rfl
abbrev zad0:Stmt:=top 8
theorem zbd5:za8 ["thing","least"] ["thing","least"] (za6 zad0):=by ac_rfl
abbrev zs1:Stmt:=top 9
theorem zam5:za8 ["thing","least","most"] ["thing","least","most"] (za6 zs1):=by ac_rfl
abbrev zac1:Stmt:=top 13
theorem zbe9:za8 ["hosts","fields","plan"] ["hosts","fields","plan"] (za6 zac1):=by ac_rfl
abbrev zp9:Stmt:=top 14
theorem zah3:za8 ["plan"] ["plan"] (za6 zp9):=by ac_rfl
abbrev zae4:Stmt:=top 15
theorem zbc3:za8 ["hosts","fields"] ["hosts","fields"] (za6 zae4):=by ac_rfl
abbrev zan3:Stmt:=top 17
theorem zab9:za8 ["mix","hosts","fields"] ["mix"] (za6 zan3):=by ac_rfl
abbrev zac3:Stmt:=top 18
theorem zbd6:za8 ["part"] ["part"] (za6 zac3):=by ac_rfl
abbrev zy1:Stmt:=top 19
theorem zax7:za8 ["mix"] ["mix"] (za6 zy1):=by ac_rfl
abbrev zt9:Stmt:=top 20
theorem zq3:za8 ["hosts","fields","stream","comes_full","goes_empty"] ["hosts","fields","stream"] (za6 zt9):=by ac_rfl
abbrev zaj5:Stmt:=top 21
theorem zbp6:za8 ["stream"] ["stream"] (za6 zaj5):=by ac_rfl
abbrev zal8:Stmt:=top 22
theorem zbp7:za8 ["row"] ["row"] (za6 zal8):=by ac_rfl
abbrev zaf1:Stmt:=top 23
theorem zbe3:za8 ["thing"] ["thing"] (za6 zaf1):=by ac_rfl
abbrev zax4:Stmt:=top 24
theorem zaz5:za8 ["ahead","row","leaving"] ["ahead","row"] (za6 zax4):=by ac_rfl
abbrev zak5:Stmt:=top 25
theorem zw1:za8 ["pairs","sums","key","amount"] ["pairs"] (za6 zak5):=by ac_rfl
abbrev zx5:Stmt:=top 26
theorem zaw1:za8 ["stream"] ["stream"] (za6 zx5):=by ac_rfl
abbrev zm0:Stmt:=top 27
theorem zaa3:za8 ["stream"] ["stream"] (za6 zm0):=by ac_rfl
abbrev zp0:Stmt:=top 28
theorem zag9:za8 ["stream"] ["stream"] (za6 zp0):=by ac_rfl
abbrev zz1:Stmt:=top 29
theorem zav1:za8 ["stream"] ["stream"] (za6 zz1):=by ac_rfl
abbrev zt6:Stmt:=top 30
theorem zar0:za8 ["mix"] ["mix"] (za6 zt6):=by ac_rfl
abbrev zaj3:Stmt:=top 31
theorem zap2:za8 ["mix","field","flows"] ["mix","field"] (za6 zaj3):=by ac_rfl
abbrev zp4:Stmt:=top 32
theorem zg9:za8 ["stream","hosts","begun","row"] ["stream"] (za6 zp4):=by ac_rfl
abbrev zae1:Stmt:=top 33
theorem zd3:za8 ["begun","row","told","place","used","plan","weight","rest","taken"] ["begun","row"] (za6 zae1):=by ac_rfl
abbrev zv1:Stmt:=top 34
theorem zas1:za8 ["stream"] ["stream"] (za6 zv1):=by ac_rfl
abbrev zq9:Stmt:=top 35
theorem zv5:za8 ["hosts","row","flows"] ["hosts","row"] (za6 zq9):=by ac_rfl
abbrev zp8:Stmt:=top 39
theorem zm9:za8 ["battle","number","field"] ["battle"] (za6 zp8):=by ac_rfl
abbrev zy5:Stmt:=top 40
theorem zav7:za8 ["battle"] ["battle"] (za6 zy5):=by ac_rfl
abbrev zu4:Stmt:=top 41
theorem zao4:za8 ["first","second"] ["first","second"] (za6 zu4):=by ac_rfl
abbrev zy4:Stmt:=top 42
theorem zau4:za8 ["first","second","field"] ["first","second","field"] (za6 zy4):=by ac_rfl
abbrev zx9:Stmt:=top 43
theorem zav5:za8 ["many_rows","many_numbers","rows"] ["many_rows","many_numbers","rows"] (za6 zx9):=by ac_rfl
abbrev zn7:Stmt:=top 44
theorem zab5:za8 ["many_numbers","row"] ["many_numbers","row"] (za6 zn7):=by ac_rfl
abbrev s_won:Stmt:=top 45
theorem sc_won:za8 ["field","x","y"] ["field","x","y"] (za6 s_won):=by ac_rfl
abbrev s_pay:Stmt:=top 46
theorem sc_pay:za8 ["battle","field","x","y"] ["battle","field","x","y"] (za6 s_pay):=by ac_rfl
abbrev zr2:Stmt:=top 47
theorem zw7:za8 ["battle","one","other","fields"] ["battle","one","other"] (za6 zr2):=by ac_rfl
abbrev zbf7:Stmt:=top 48
theorem zcf2:za8 ["battle","one","other"] ["battle","one","other"] (za6 zbf7):=by ac_rfl
abbrev zr0:Stmt:=top 49
theorem zal5:za8 ["fields","one","other"] ["fields","one","other"] (za6 zr0):=by ac_rfl
abbrev zx6:Stmt:=top 51
theorem zad7:za8 ["_law_number","_law_k","_law_mixed"] ["_law_number","_law_k"] (za6 zx6):=by ac_rfl
abbrev zm7:Stmt:=top 52
theorem zaf8:za8 ["_law_script","_law_k"] ["_law_script","_law_k"] (za6 zm7):=by ac_rfl
abbrev zu0:Stmt:=top 53
theorem zaa1:za8 ["_law_script","_law_k","_law_cell"] ["_law_script","_law_k"] (za6 zu0):=by ac_rfl
abbrev zt8:Stmt:=top 54
theorem zr1:za8 ["_law_left_here","_law_base","_law_mixed","_law_digit"] ["_law_left_here","_law_base"] (za6 zt8):=by ac_rfl
abbrev zu5:Stmt:=top 55
theorem zz9:za8 ["_law_left_here","_law_far"] ["_law_left_here"] (za6 zu5):=by ac_rfl
abbrev zv2:Stmt:=top 56
theorem zr7:za8 ["_law_left_here","_law_first","_law_second","_law_kind","_law_worth"] ["_law_left_here","_law_first","_law_second"] (za6 zv2):=by ac_rfl
abbrev zp5:Stmt:=top 57
theorem zn3:za8 ["_law_left_here","_law_most","_law_fields","_law_first","_law_second"] ["_law_left_here","_law_most","_law_fields"] (za6 zp5):=by ac_rfl
abbrev zu6:Stmt:=top 60
theorem zi3:za8 ["_law_left_here","_law_hosts","_law_many","_law_plan_here","_law_rest","_law_k","_law_at"] ["_law_left_here","_law_hosts","_law_many"] (za6 zu6):=by ac_rfl
abbrev zn9:Stmt:=top 61
theorem zl7:za8 ["_law_left_here","_law_hosts","_law_many","_law_mix_here","_law_k"] ["_law_left_here","_law_hosts","_law_many"] (za6 zn9):=by ac_rfl
abbrev zn2:Stmt:=top 62
theorem zae9:za8 ["_law_battle_here","_law_mix_here","_law_plan_here","_law_side"] ["_law_battle_here","_law_mix_here","_law_plan_here","_law_side"] (za6 zn2):=by ac_rfl
abbrev zk4:Stmt:=top 63
theorem zc7:za8 ["_law_battle_here","_law_shares","_law_plan_here","_law_side","_law_total","_law_k","_law_sent","_law_x","_law_y"] ["_law_battle_here","_law_shares","_law_plan_here","_law_side"] (za6 zk4):=by ac_rfl
abbrev zaw5:Stmt:=top 64
theorem zo3:za8 ["_law_script","_law_cell","_law_left_here","_law_battle_here","_law_many","_law_mixes","_law_side","_law_stream","_law_parted","_law_shares","_law_plan_here","_law_weight","_law_due"] ["_law_script"] (za6 zaw5):=by ac_rfl
abbrev zi1:Stmt:=zcd6 (top 2) 0
theorem zak4:za8 ["self","field"] ["self","field"] (za6 zi1):=by ac_rfl
theorem zz4{P:Program}{w:World}{K:zcm2}{mg:Str->Option Value}{base:Heap}{C aH:Addr}(F:IniF K "NoBattle.__init__" zi1 f "field")(Z:IniK K C aH f "field"):IniOk P w K mg base C f "field":=by
 obtain⟨fd,F,hb⟩:=F
 refine⟨_,fd,F.ok zak4 (fun vs H Q E h=>by unfold zx8 at h;obtain⟨_,_,rfl,_⟩:=h;rfl) fun _ _ _ s H vs Q E hr h=>?_,hb⟩
 unfold zx8 at h
 obtain⟨e,v,rfl,he,q⟩:=h
 refine⟨_,(za5 (psFldX (K:=K) rfl Z (pq 0) (pq 1))),?_⟩
 (conv=>whnf)
 exact zce5 he q
theorem nb_0:(["sent"]:List Str).Nodup:=by decide +kernel
theorem nb_1:(["part"]:List Str).Nodup:=by decide +kernel
theorem nb_2:(["plan","weight","hosts","fields"]:List Str).Nodup:=by decide +kernel
theorem nb_3:(["number"]:List Str).Nodup:=by decide +kernel
theorem nb_4:(["row","many_numbers"]:List Str).Nodup:=by decide +kernel
theorem nb_5:(["field","x","y"]:List Str).Nodup:=by decide +kernel
theorem nb_6:(["thing"]:List Str).Nodup:=by decide +kernel
theorem nb_7:(["one","other"]:List Str).Nodup:=by decide +kernel
theorem nb_8:(["left","sent","flow"]:List Str).Nodup:=by decide +kernel
theorem nb_9:(["row"]:List Str).Nodup:=by decide +kernel
theorem nb_10:(["left","sent","flow","hosts"]:List Str).Nodup:=by decide +kernel
theorem nb_11:(["left","sent","flow"]:List Str).Nodup:=by decide +kernel
theorem nb_12:(["ahead","row"]:List Str).Nodup:=by decide +kernel
theorem nb_13:(["left","sent","flow"]:List Str).Nodup:=by decide +kernel
theorem nb_14:(["plan","weight","field"]:List Str).Nodup:=by decide +kernel
theorem nb_15:(["left","sent","flows"]:List Str).Nodup:=by decide +kernel
theorem nb_16:(["field","mix"]:List Str).Nodup:=by decide +kernel
theorem nb_17:(["left","sent","flow"]:List Str).Nodup:=by decide +kernel
theorem nb_18:(["count","flows"]:List Str).Nodup:=by decide +kernel
theorem nb_19:(["row","stream"]:List Str).Nodup:=by decide +kernel
theorem nb_20:(["_law_x","_law_second","_law_left_here"]:List Str).Nodup:=by decide +kernel
theorem nb_21:(["_law_y","_law_left_here"]:List Str).Nodup:=by decide +kernel
theorem nb_22:(["_law_k","_law_left_here","_law_first","_law_second"]:List Str).Nodup:=by decide +kernel
theorem nb_23:(["_law_one","_law_weight","_law_battle_here","_law_plan_here"]:List Str).Nodup:=by decide +kernel
theorem nb_24:(["_law_plan_here","_law_weight"]:List Str).Nodup:=by decide +kernel
structure Cz(K:zcm2)(mg:Str->Option Value)(base:Heap)(zcf8 zcf5 zcg1 zcf7 zcf4 zcg2:Addr):Prop where
 g_HostError:mg "HostError"=some (.ref zcf8)
 g_NoBattle:mg "NoBattle"=some (.ref zcf5)
 g_NoPlan:mg "NoPlan"=some (.ref zcg1)
 g_NoMix:mg "NoMix"=some (.ref zcf7)
 g_NoStream:mg "NoStream"=some (.ref zcf4)
 z_NoBattle:IniK K zcf5 zcf8 zcg2 "field"
 fi_NoBattle:IniF K "NoBattle.__init__" zi1 zcg2 "field"
 hd_NoBattle:PySem.W.hasDictIn K zcf5=true
 k_NoBattle:ExcK K zcf5
 c_NoBattle:(zcs6 K zcf5).isSome=true
 m_NoBattle:PySem.W.exmOne K (.ref zcf5) (.ref zcf8)=some true
 v_NoBattle:zco3 K (.ref zcf5) (.type "ValueError")=some true
 i_NoBattle_HostError:zco3 K (.ref zcf5) (.ref zcf8)=some true
 i_NoBattle_NoBattle:zco3 K (.ref zcf5) (.ref zcf5)=some true
 i_NoBattle_NoPlan:zco3 K (.ref zcf5) (.ref zcg1)=some false
 i_NoBattle_NoMix:zco3 K (.ref zcf5) (.ref zcf7)=some false
 i_NoBattle_NoStream:zco3 K (.ref zcf5) (.ref zcf4)=some false
 o_NoMix:PyProof.Rows.OwnCls "NoMix" zcf7 bmV newV mg base
 k_NoMix:ExcK K zcf7
 c_NoMix:(zcs6 K zcf7).isSome=true
 m_NoMix:PySem.W.exmOne K (.ref zcf7) (.ref zcf8)=some true
 v_NoMix:zco3 K (.ref zcf7) (.type "ValueError")=some true
 i_NoMix_HostError:zco3 K (.ref zcf7) (.ref zcf8)=some true
 i_NoMix_NoBattle:zco3 K (.ref zcf7) (.ref zcf5)=some false
 i_NoMix_NoPlan:zco3 K (.ref zcf7) (.ref zcg1)=some false
 i_NoMix_NoMix:zco3 K (.ref zcf7) (.ref zcf7)=some true
 i_NoMix_NoStream:zco3 K (.ref zcf7) (.ref zcf4)=some false
 o_NoStream:PyProof.Rows.OwnCls "NoStream" zcf4 bmV newV mg base
 k_NoStream:ExcK K zcf4
 c_NoStream:(zcs6 K zcf4).isSome=true
 m_NoStream:PySem.W.exmOne K (.ref zcf4) (.ref zcf8)=some true
 v_NoStream:zco3 K (.ref zcf4) (.type "ValueError")=some true
 i_NoStream_HostError:zco3 K (.ref zcf4) (.ref zcf8)=some true
 i_NoStream_NoBattle:zco3 K (.ref zcf4) (.ref zcf5)=some false
 i_NoStream_NoPlan:zco3 K (.ref zcf4) (.ref zcg1)=some false
 i_NoStream_NoMix:zco3 K (.ref zcf4) (.ref zcf7)=some false
 i_NoStream_NoStream:zco3 K (.ref zcf4) (.ref zcf4)=some true
 n_HostError:zco3 K (.type "NoneType") (.ref zcf8)=some false
 n_NoBattle:zco3 K (.type "NoneType") (.ref zcf5)=some false
 n_NoPlan:zco3 K (.type "NoneType") (.ref zcg1)=some false
 n_NoMix:zco3 K (.type "NoneType") (.ref zcf7)=some false
 n_NoStream:zco3 K (.type "NoneType") (.ref zcf4)=some false
structure Nm(mg:Str->Option Value):Prop where
 all_:mg "all"=none
 bool_:mg "bool"=none
 enumerate_:mg "enumerate"=none
 int_:mg "int"=none
 isinstance_:mg "isinstance"=none
 len_:mg "len"=none
 list_:mg "list"=none
 min_:mg "min"=none
 range_:mg "range"=none
 sorted_:mg "sorted"=none
 sum_:mg "sum"=none
 tuple_:mg "tuple"=none
 zip_:mg "zip"=none
local macro_rules | `(tactic| walk_at "hp")=>`(tactic| first|assumption|(refine Same.at (H:=?H) ?s ?e;(case s=>assumption);(case e=>walk_at "hp"))|(refine Chg.at (a:=?a) (H:=?H) ?c ?e ?n;(case c=>assumption);(case n=>walk_at "ne");(case e=>walk_at "hp"))|fail "hp")
local macro_rules | `(tactic| walk_at "ne")=>`(tactic| first|assumption|(apply Ne.symm;assumption)|fail "ne")
local macro_rules | `(tactic| ac_nf)=>`(tactic| (conv=>whnf))
local macro_rules | `(tactic| walk_at "st")=>`(tactic| (conv=>whnf);first
 | refine zce1 (by omega) (by omega) ?_
 | refine zac7 (by omega) (by omega) ?_
 | refine zab4 (by omega) (fun r h0 h1=>?_)
 | refine div_rd (by omega) (by omega) ?_
 | (refine zbx7 ⟨by decide,by decide,by decide⟩ ?_;simp only[Int.reduceToNat,Int.reducePow])
 | (refine zb6 (xs:=?xs) (v:=?v) ?hp ?ev ?_;(case hp=>walk_at "hp");(case ev=>rfl))
 | (refine zc2 (xs:=?xs) (v:=?v) ?hp ?ev ?_;(case hp=>walk_at "hp");(case ev=>rfl))
 | refine zf2 (fun p H' hf hs ha=>?_)
 | refine zg8 (fun p H' hf hs ha=>?_)
 | refine zat8 ?_
 | (refine zal3 (xs:=?xs) ?hp ?_;(case hp=>walk_at "hp"))
 | (refine zan1 (xs:=?xs) ?hp ?_;(case hp=>walk_at "hp"))
 | (refine zl4 (xs:=?xs) ?hp ?_;(case hp=>walk_at "hp"))
 | (refine ze8 (xs:=?xs) ?hp ?_;(case hp=>walk_at "hp"))
 | refine zaw7 ?_
 | refine br_T ?_
 | refine br_F ?_
 | refine zy7 (by omega) ?_
 | refine zaa6 (by omega) ?_
 | fail "st")
def stp(g:Nat->Nat->Int)(c:Nat):Nat->Nat->Int
 | 0,t=>g 0 t
 | f+1,t=>g (f+1) t+if c<=t then stp g c f (t - c) else 0
def g0(f t:Nat):Int:=if f=0/\t=0 then 1 else 0
def pl(ns:List Nat):List V:=ns.map fun (n:Nat)=>V.int (n:Int)
def il(ns:List Nat):List Int:=ns.map fun (n:Nat)=>(n:Int)
local macro_rules | `(tactic| rfl')=>`(tactic| first|decide|omega)
section
variable {P:Program}{w:World}{K:zcm2}{mg:Str->Option Value}{base:Heap}{zcf8:Addr}{zcf5:Addr}{zcg1:Addr}{zcf7:Addr}{zcf4:Addr}{zcg2:Addr}{a_tab:Addr}{a_cod:Addr}
def isW:PyData->Bool
 | .int _=>true
 | _=>false
def zj0(l:Int):PyData->Bool
 | .int i=>decide (l<=i)
 | _=>false
def zy3(l m:Int):PyData->Bool
 | .int i=>decide (l<=i/\i<=m)
 | _=>false
theorem zaa9{p q:Prop}[Decidable p][Decidable q](h:p):decide (p/\q)=decide q:=by simp[h]
theorem zab1{p q:Prop}[Decidable p][Decidable q](h:¬ p):decide (p/\q)=false:=by simp[h]
@[irreducible] def zf1:Sp:=fun vs H Q _=>∃ (v:V) (d:PyData),vs=[v]/\ShV H v d/\Q (.bl (isW d)) H
theorem zbj7{v:V}{d:PyData}(h:ShV H v d)(q:Q (.bl (isW d)) H):zf1 [v] H Q E:=by unfold zf1;exact⟨v,d,rfl,h,q⟩
theorem zbx1{i:Int}(q:Q (.bl true) H):zf1 [.int i] H Q E:=zbj7 (.int i) q
theorem zau5(F:Fun K "is_whole" "is_whole" zy0 f fd)(N:Nm mg):FnOk P w K mg base CX0 1 f fd ["thing"] zf1:=by
 refine F.ok zav4 (fun vs H Q E h=>by unfold zf1 at h;obtain⟨_,_,rfl,_⟩:=h;rfl) fun _ _ _ s H vs Q E hr h=>?_
 unfold zf1 at h
 obtain⟨v,d,rfl,h,q⟩:=h
 refine⟨_,(za5 (za9 (zl0 (pB (zae3 (K:=K) rfl) N.isinstance_ zc5 (za0 (pq 0) (za0 (pTy N.int_ bt_int) za1))) (zk6 (peNot (pB (zae3 (K:=K) rfl) N.isinstance_ zc5 (za0 (pq 0) (za0 (pTy N.bool_ zca7) za1)))))))),?_⟩
 refine zp1 h (.inl rfl) ?_
 cases h
 case int i=>
  refine br_T ?_
  refine zat8 ?_
  ac_nf
  exact q
 case bl b=>
  refine br_T ?_
  refine zaw7 ?_
  ac_nf
  exact q
 all_goals (ac_nf;refine br_F ?_;ac_nf;exact q)
@[irreducible] def ze6:Sp:=fun vs H Q _=>∃ (v:V) (d:PyData) (l:Int),vs=[v,.int l]/\ShV H v d/\Q (.bl (zj0 l d)) H
theorem zy6{v:V}{d:PyData}{l:Int}(h:ShV H v d)(q:Q (.bl (zj0 l d)) H):ze6 [v,.int l] H Q E:=by unfold ze6;exact⟨v,d,l,rfl,h,q⟩
theorem zbx8{i l:Int}(q:Q (.bl (decide (l<=i))) H):ze6 [.int i,.int l] H Q E:=zy6 (.int i) q
theorem zbd9(F:Fun K "is_from" "is_from" zad0 f fd)(N:Nm mg)(zcg5:Def P w K mg base CX0 1 "is_whole" ["thing"] zf1):FnOk P w K mg base CX0 2 f fd ["thing","least"] ze6:=by
 refine F.ok zbd5 (fun vs H Q E h=>by unfold ze6 at h;obtain⟨_,_,_,rfl,_⟩:=h;rfl) fun _ _ _ s H vs Q E hr h=>?_
 unfold ze6 at h
 obtain⟨v,d,l,rfl,h,q⟩:=h
 refine⟨_,(za5 (za9 (zl0 (pD zcg5 hr zb3 (za0 (pq 0) za1)) (zk6 (peC oLe (pq 1) (pq 0)))))),?_⟩
 refine zbj7 h ?_
 cases h
 case int i=>
  refine br_T ?_
  ac_nf
  exact q
 all_goals (ac_nf;refine br_F ?_;ac_nf;exact q)
@[irreducible] def zc3:Sp:=fun vs H Q _=>∃ (v:V) (d:PyData) (l m:Int),vs=[v,.int l,.int m]/\ShV H v d/\Q (.bl (zy3 l m d)) H
theorem zaf6{v:V}{d:PyData}{l m:Int}(h:ShV H v d)(q:Q (.bl (zy3 l m d)) H):zc3 [v,.int l,.int m] H Q E:=by unfold zc3;exact⟨v,d,l,m,rfl,h,q⟩
theorem zao8{i l m:Int}(q:Q (.bl (decide (l<=i/\i<=m))) H):zc3 [.int i,.int l,.int m] H Q E:=zaf6 (.int i) q
theorem zam7(F:Fun K "is_between" "is_between" zs1 f fd)(N:Nm mg)(zcg0:Def P w K mg base CX0 2 "is_from" ["thing","least"] ze6):FnOk P w K mg base CX0 3 f fd ["thing","least","most"] zc3:=by
 refine F.ok zam5 (fun vs H Q E h=>by unfold zc3 at h;obtain⟨_,_,_,_,rfl,_⟩:=h;rfl) fun _ _ _ s H vs Q E hr h=>?_
 unfold zc3 at h
 obtain⟨v,d,l,m,rfl,h,q⟩:=h
 refine⟨_,(za5 (za9 (zl0 (pD zcg0 hr zb3 (za0 (pq 0) (za0 (pq 1) za1))) (zk6 (peC oLe (pq 0) (pq 2)))))),?_⟩
 refine zy6 h ?_
 cases h
 case int i=>
  have q:Q (.bl (decide (l<=i/\i<=m))) H:=q
  refine zd6 (fun h=>?_) (fun h=>?_)
  ·ac_nf
   rw[zaa9 h] at q
   exact q
  ·ac_nf
   rw[zab1 h] at q
   exact q
 all_goals (ac_nf;refine br_F ?_;ac_nf;exact q)
def zb2:PyData->List PyData
 | .list ds=>ds
 | _=>[]
def intD:PyData->Int
 | .int i=>i
 | _=>0
def zo9:PyData->Bool
 | .list ds=>ds.all (zj0 0)
 | _=>false
theorem zk3{l:Int}{d:PyData}(h:zj0 l d=true):∃ i:Int,d=.int i/\l<=i:=by
 cases d with
 | int i=>exact⟨i,rfl,of_decide_eq_true h⟩
 | _=>simp[zj0] at h
theorem zn0(h:sml (.list ds)=true):ds.length<=1000/\∀ d∈ds,sml d=true:=by
 simp only[sml,zcn2,decide_eq_true_eq] at h
 exact⟨h.1,zz0 h.2⟩
theorem zay5(h:sml (.tuple ds)=true):ds.length<=1000/\∀ d∈ds,sml d=true:=by
 simp only[sml,zcn2,decide_eq_true_eq] at h
 exact⟨h.1,zz0 h.2⟩
theorem zo6(g:PyData->Bool):(List.range ds.length).map (fun i=>V.bl (g (ds.getD i .none)))=(ds.map g).map V.bl:=by
 apply zct6
 intro i
 rw[zcm5,zcm5,zcm5]
 by_cases h:i<ds.length
 ·rw[zcs0 h,zcm0 h]
  simp[h]
 ·rw[zcp7 (by simp;omega),zcp7 (by rfl')]
  rfl
theorem zw5(g:PyData->Bool):(ds.map g).all id=ds.all g:=by rw[zcs2];rfl
@[irreducible] def ze0:Sp:=fun vs H Q _=>∃ (v:V) (d:PyData),vs=[v]/\ShV H v d/\sml d=true/\∀ H',Same H H'->Q (.bl (zo9 d)) H'
theorem zar3{v:V}{d:PyData}(h:ShV H v d)(hs:sml d=true)(q:∀ H',Same H H'->Q (.bl (zo9 d)) H'):ze0 [v] H Q E:=by unfold ze0;exact⟨v,d,rfl,h,hs,q⟩
theorem zah4(F:Fun K "sends_hosts" "sends_hosts" zp9 f fd)(N:Nm mg)(zcg0:Def P w K mg base CX0 2 "is_from" ["thing","least"] ze6):FnOk P w K mg base CX0 3 f fd ["plan"] ze0:=by
 refine F.ok zah3 (fun vs H Q E h=>by unfold ze0 at h;obtain⟨_,_,rfl,_⟩:=h;rfl) fun _ _ _ s H vs Q E hr h=>?_
 unfold ze0 at h
 obtain⟨v,d,rfl,h,hs,q⟩:=h
 refine⟨_,(za5 (za9 (zl0 (pB (zae3 (K:=K) rfl) N.isinstance_ zc5 (za0 (pq 0) (za0 (pTy N.list_ zt7) za1))) (zk6 (pB (zae5 (K:=K) rfl rfl) N.all_ zq8 (za0 (zd5 (N:=["sent"]) (ks:=[none]) (zf8 (K:=K) rfl (pq 0)) (fun _ _ _ _ _=>(za7 (i:=0) nb_0 rfl (by eq_refl))) (fun _ _ _ _ _=>zc6) (fun _ _ _ _ _=>(pD zcg0 hr zb3 (za0 (pq 0) (za0 za2 za1)))) (.skip .nil)) za1)))))),?_⟩
 refine zp1 h (.inr (.inr (.inl rfl))) ?_
 cases h
 case lst a xs ds e l=>
  have ll:=l.len
  obtain⟨dl,dm⟩:=zn0 hs
  refine br_T ?_
  refine zb9 e ?_
  refine zk7 (Wk.list (SqL.of e)) (by rw[zcv5];omega) (fun i=>.bl (zj0 0 (ds.getD i .none))) (fun _=>true) (fun j σ=>∃ t:Option V,σ=[t]) ⟨none,rfl⟩ ?_ ?_
  ·rintro j x σ H1 R S hj s1 hx ⟨t,rfl⟩ k _
   obtain⟨d,ed,hd⟩:=l.get j x hx
   have eg:ds.getD j .none=d:=by rw[zcm4,ed];rfl
   refine br_T ?_
   refine zy6 (hd.same s1) ?_
   ac_nf
   rw[← eg]
   exact k rfl _ _ (Same.refl _) ⟨_,rfl⟩
  intro acc H1 f1 s1 h1
  rw[ze1,ll,zo6 (zj0 0)] at h1
  refine zs2 h1 ?_
  rw[zw5]
  ac_nf
  exact q _ s1
 all_goals (ac_nf;refine br_F ?_;ac_nf;exact q _ (Same.refl _))
theorem zaz4{H:Hp}:∀ {xs:List V}{ds:List PyData},ShL H xs ds->(∀ d∈ds,zj0 0 d=true)->∃ ns:List Int,xs=ns.map V.int/\ds=ns.map PyData.int/\∀ x∈ns,0<=x
 | _,_,.nil,_=>⟨[],rfl,rfl,fun _ h=>by cases h⟩
 | _,_,.cons (x:=x) (d:=d) a b,h=>by
  obtain⟨i,rfl,hi⟩:=zk3 (h d (.head _))
  obtain⟨ns,e1,e2,e3⟩:=zaz4 b fun y hy=>h y (.tail _ hy)
  cases a
  refine⟨i :: ns,by rw[e1];rfl,by rw[e2];rfl,fun y hy=>?_⟩
  rcases zcm9.mp hy with rfl|hy
  ·exact hi
  ·exact e3 y hy
theorem zai5{v:V}{d:PyData}(h:ShV H v d)(e:zo9 d=true):∃ (a:Addr) (ns:List Int),v=.ref a/\H a=some (.lst (ns.map V.int))/\d=.list (ns.map PyData.int)/\∀ x∈ns,0<=x:=by
 cases h
 case lst a xs ds e1 l=>
  have e:ds.all (zj0 0)=true:=e
  rw[zcn6] at e
  obtain⟨ns,rfl,rfl,e3⟩:=zaz4 l e
  exact⟨a,ns,rfl,e1,rfl,e3⟩
 all_goals simp[zo9] at e
def zag5(d:PyData):List Int:=(zb2 d).map intD
theorem zs3(ns:List Int):zag5 (.list (ns.map PyData.int))=ns:=by
 unfold zag5 zb2
 rw[zco0]
 exact (zcn7 fun x _=>rfl).trans (List.map_id _)
def zv0(h f:Int)(d:PyData):Bool:=zo9 d&&decide (((zag5 d).length:Int)=f)&&decide ((zag5 d).sum=h)
@[irreducible] def zj8:Sp:=fun vs H Q _=>∃ (h f:Int) (v:V) (d:PyData),vs=[.int h,.int f,v]/\ShV H v d/\sml d=true/\∀ H',Same H H'->Q (.bl (zv0 h f d)) H'
theorem zak1{f:Int}{v:V}{d:PyData}(hv:ShV H v d)(hs:sml d=true)(q:∀ H',Same H H'->Q (.bl (zv0 h f d)) H'):zj8 [.int h,.int f,v] H Q E:=by unfold zj8;exact⟨h,f,v,d,rfl,hv,hs,q⟩
theorem zbb8(F:Fun K "is_plan" "is_plan" zac1 f fd)(N:Nm mg)(zcg6:Def P w K mg base CX0 3 "sends_hosts" ["plan"] ze0):FnOk P w K mg base CX0 4 f fd ["hosts","fields","plan"] zj8:=by
 refine F.ok zbe9 (fun vs H Q E h=>by unfold zj8 at h;obtain⟨_,_,_,_,rfl,_⟩:=h;rfl) fun _ _ _ s H vs Q E hr h=>?_
 unfold zj8 at h
 obtain⟨h,f,v,d,rfl,hv,hs,q⟩:=h
 have hu:=hu40 hr
 refine⟨_,(za5 (za9 (zl0 (pD zcg6 hr zb3 (za0 (pq 2) za1)) (zl0 (peC (zar2 (K:=K) rfl (by exact hu)) (pB (zm1 (K:=K) rfl) N.len_ zg1 (za0 (pq 2) za1)) (pq 1)) (zk6 (peC (zar2 (K:=K) rfl (by exact hu)) (pB (zau1 (K:=K) rfl rfl) N.sum_ zz8 (za0 (pq 2) za1)) (pq 0))))))),?_⟩
 refine zar3 hv hs (fun H1 s1=>?_)
 have q:=q _ s1
 cases es:zo9 d
 ·ac_nf
  refine br_F ?_
  ac_nf
  unfold zv0 at q
  rw[es] at q
  exact q
 ·obtain⟨a,ns,rfl,ha,rfl,nn⟩:=zai5 hv es
  have q:Q (.bl (decide ((ns.length:Int)=f)&&decide (ns.sum=h))) H1:=by
   unfold zv0 at q
   rw[es,zs3,zcp9] at q
   exact q
  refine br_T ?_
  refine ze8 (s1 _ _ ha) ?_
  rw[zcl9]
  refine zd6 (fun h2=>?_) (fun h2=>?_)
  ·rw[decide_eq_true h2,zcp9] at q
   refine zab3 (s1 _ _ ha) ?_
   ac_nf
   exact q
  ·rw[decide_eq_false h2,Bool.false_and] at q
   ac_nf
   exact q
def zs9:PyData->Bool
 | .tuple [a,b]=>zo9 a&&zj0 1 b
 | _=>false
@[irreducible] def zl2:Sp:=fun vs H Q _=>∃ (v:V) (d:PyData),vs=[v]/\ShV H v d/\sml d=true/\∀ H',Same H H'->Q (.bl (zs9 d)) H'
theorem zbq4{v:V}{d:PyData}(h:ShV H v d)(hs:sml d=true)(q:∀ H',Same H H'->Q (.bl (zs9 d)) H'):zl2 [v] H Q E:=by unfold zl2;exact⟨v,d,rfl,h,hs,q⟩
theorem zav2{xs:List V}(l:ShL H xs ds)(e:xs.length=2):∃ x y a b,xs=[x,y]/\ds=[a,b]/\ShV H x a/\ShV H y b:=by
 cases l with
 | nil=>simp at e
 | cons h1 l=>
  cases l with
  | nil=>simp at e
  | cons h2 l=>
   cases l with
   | nil=>exact⟨_,_,_,_,rfl,rfl,h1,h2⟩
   | cons _ _=>simp at e
theorem zal2(h:ds.length≠2):zs9 (.tuple ds)=false:=by
 match ds,h with
 | [],_=>rfl
 | [_],_=>rfl
 | [_,_],h=>simp at h
 | _ :: _ :: _ :: _,_=>rfl
theorem zbe7(F:Fun K "is_part" "is_part" zac3 f fd)(N:Nm mg)(zcg0:Def P w K mg base CX0 2 "is_from" ["thing","least"] ze6)(zcg6:Def P w K mg base CX0 3 "sends_hosts" ["plan"] ze0):FnOk P w K mg base CX0 4 f fd ["part"] zl2:=by
 refine F.ok zbd6 (fun vs H Q E h=>by unfold zl2 at h;obtain⟨_,_,rfl,_⟩:=h;rfl) fun _ _ _ s H vs Q E hr h=>?_
 unfold zl2 at h
 obtain⟨v,d,rfl,h,hs,q⟩:=h
 have hu:=hu40 hr
 refine⟨_,(za5 (za9 (zl0 (pB (zae3 (K:=K) rfl) N.isinstance_ zc5 (za0 (pq 0) (za0 (pTy N.tuple_ zaj7) za1))) (zl0 (peC (zar2 (K:=K) rfl (by exact hu)) (pB (zm1 (K:=K) rfl) N.len_ zg1 (za0 (pq 0) za1)) za2) (zl0 (pD zcg6 hr zb3 (za0 (zb4 (K:=K) rfl (pq 0) za2) za1)) (zk6 (pD zcg0 hr zb3 (za0 (zb4 (K:=K) rfl (pq 0) za2) (za0 za2 za1))))))))),?_⟩
 refine zp1 h (.inr (.inr (.inr rfl))) ?_
 cases h
 case tup t xs ds e l=>
  have ll:=l.len
  obtain⟨dl,dm⟩:=zay5 hs
  refine br_T ?_
  refine zl4 e ?_
  refine zd6 (fun h2=>?_) (fun h2=>?_)
  ·obtain⟨x,y,a,b,rfl,rfl,ha,hb⟩:=zav2 l (by rfl')
   refine zb6 (v:=x) e rfl ?_
   refine zar3 ha (dm a (by simp)) (fun H1 s1=>?_)
   have q:Q (.bl (zo9 a&&zj0 1 b)) H1:=q _ s1
   cases es:zo9 a
   ·rw[es] at q
    refine br_F ?_
    ac_nf
    exact q
   ·rw[es,zcp9] at q
    refine br_T ?_
    refine zb6 (v:=y) (s1 _ _ e) rfl ?_
    refine zy6 (hb.same s1) ?_
    ac_nf
    exact q
  ·have q:=q _ (Same.refl _)
   rw[zal2 (by rfl')] at q
   ac_nf
   exact q
 all_goals (ac_nf;refine br_F ?_;ac_nf;exact q _ (Same.refl _))
theorem zal9{v:V}{d:PyData}(h:ShV H v d)(e:zs9 d=true):∃ (t l:Addr) (w:Int) (ns:List Int),v=.ref t/\H t=some (.tup [.ref l,.int w])/\H l=some (.lst (ns.map V.int))/\d=.tuple [.list (ns.map PyData.int),.int w]/\(∀ x∈ns,0<=x)/\1<=w:=by
 cases h
 case tup t xs ds e1 l=>
  have l2:ds.length=2:=Classical.byContradiction fun z=>by rw[zal2 z] at e;cases e
  obtain⟨x,y,a,b,rfl,rfl,ha,hb⟩:=zav2 l (by rw[l.len];exact l2)
  have e:(zo9 a&&zj0 1 b)=true:=e
  rw[zcn2] at e
  obtain⟨p,ns,rfl,h1,rfl,nn⟩:=zai5 ha e.1
  obtain⟨w,rfl,hw⟩:=zk3 e.2
  cases hb
  exact⟨t,p,w,ns,rfl,e1,h1,rfl,nn,hw⟩
 all_goals simp[zs9] at e
def zm6:PyData->PyData
 | .tuple (a :: _)=>a
 | _=>.none
def zr8(h f:Int):Bool:=decide (0<=h/\h<=40)&&decide (1<=f/\f<=8)
def zj3(ds:List PyData):List Int:=zag5 (zm6 (ds.getD 0 .none))
def mixD:PyData->Bool
 | .list ds=>decide (ds.length≠0)&&ds.all zs9&&zr8 (zj3 ds).sum (zj3 ds).length&&ds.all fun d=>zv0 (zj3 ds).sum (zj3 ds).length (zm6 d)
 | _=>false
@[irreducible] def zj5:Sp:=fun vs H Q _=>∃ i l:Int,vs=[.int i,.int l]/\Q (.bl (zr8 i l)) H
theorem zaz0{i l:Int}(q:Q (.bl (zr8 i l)) H):zj5 [.int i,.int l] H Q E:=by unfold zj5;exact⟨i,l,rfl,q⟩
theorem zbd2(F:Fun K "is_size" "is_size" zae4 f fd)(N:Nm mg){zcg9:Tok}(c_MOST_FIELDS_plans:mg "MOST_FIELDS_plans"=some (.int 8 zcg9)){zch1:Tok}(c_MOST_HOSTS_plans:mg "MOST_HOSTS_plans"=some (.int 40 zch1))(zcf9:Def P w K mg base CX0 3 "is_between" ["thing","least","most"] zc3):FnOk P w K mg base CX0 4 f fd ["hosts","fields"] zj5:=by
 refine F.ok zbc3 (fun vs H Q E h=>by unfold zj5 at h;obtain⟨_,_,rfl,_⟩:=h;rfl) fun _ _ _ s H vs Q E hr h=>?_
 unfold zj5 at h
 obtain⟨i,l,rfl,q⟩:=h
 refine⟨_,(za5 (za9 (zl0 (pD zcf9 hr zb3 (za0 (pq 0) (za0 za2 (za0 (zab2 (v:=.int 40) rfl c_MOST_HOSTS_plans ⟨_,rfl⟩) za1)))) (zk6 (pD zcf9 hr zb3 (za0 (pq 1) (za0 za2 (za0 (zab2 (v:=.int 8) rfl c_MOST_FIELDS_plans ⟨_,rfl⟩) za1)))))))),?_⟩
 refine zao8 ?_
 ac_nf
 unfold zr8 at q
 refine zd6 (fun h=>?_) (fun h=>?_)
 ·rw[decide_eq_true h,zcp9] at q
  refine zao8 ?_
  ac_nf
  exact q
 ·rw[decide_eq_false h,Bool.false_and] at q
  ac_nf
  exact q
theorem getD_some{d:PyData}(h:ds[i]?=some d):ds.getD i .none=d:=by rw[zcm4,h];rfl
theorem zr5(ds:List PyData):mixD (.list ds)=(decide (ds.length≠0)&&ds.all zs9&&zr8 (zj3 ds).sum (zj3 ds).length&&ds.all fun d=>zv0 (zj3 ds).sum (zj3 ds).length (zm6 d)):=rfl
@[irreducible] def zo0:Sp:=fun vs H Q _=>∃ (v:V) (d:PyData),vs=[v]/\ShV H v d/\sml d=true/\∀ H',Same H H'->Q (.bl (mixD d)) H'
theorem zcc1{v:V}{d:PyData}(h:ShV H v d)(hs:sml d=true)(q:∀ H',Same H H'->Q (.bl (mixD d)) H'):zo0 [v] H Q E:=by unfold zo0;exact⟨v,d,rfl,h,hs,q⟩
theorem zbk2(F:Fun K "is_mix" "is_mix" zan3 f fd)(N:Nm mg)(zck6:Def P w K mg base CX0 4 "is_part" ["part"] zl2)(zch6:Def P w K mg base CX0 4 "is_plan" ["hosts","fields","plan"] zj8)(zci0:Def P w K mg base CX0 4 "is_size" ["hosts","fields"] zj5):FnOk P w K mg base CX0 5 f fd ["mix"] zo0:=by
 refine F.ok zab9 (fun vs H Q E h=>by unfold zo0 at h;obtain⟨_,_,rfl,_⟩:=h;rfl) fun _ _ _ s H vs Q E hr h=>?_
 unfold zo0 at h
 obtain⟨v,d,rfl,h,hs,q⟩:=h
 have hu:=hu40 hr
 refine⟨_,(za3 (psIf (ptW (pwOr (zh4 (ptV (pB (zae3 (K:=K) rfl) N.isinstance_ zc5 (za0 (pq 0) (za0 (pTy N.list_ zt7) za1))))) (pwOr (ptC (zar2 (K:=K) rfl (by exact hu)) (pB (zm1 (K:=K) rfl) N.len_ zg1 (za0 (pq 0) za1)) za2) (zz5 (zh4 (ptV (pB (zae5 (K:=K) rfl rfl) N.all_ zq8 (za0 (zd5 (N:=["part"]) (ks:=[none]) (zf8 (K:=K) rfl (pq 0)) (fun _ _ _ _ _=>(za7 (i:=0) nb_1 rfl (by eq_refl))) (fun _ _ _ _ _=>zc6) (fun _ _ _ _ _=>(pD zck6 hr zb3 (za0 (pq 0) za1))) (.skip .nil)) za1)))))))) (za5 (za9 zab6)) zc0)
   (za3 (psS (i:=1) zab9.nd (pB (zau1 (K:=K) rfl rfl) N.sum_ zz8 (za0 (zb4 (K:=K) rfl (zb4 (K:=K) rfl (pq 0) za2) za2) za1)))
   (za3 (psS (i:=2) zab9.nd (pB (zm1 (K:=K) rfl) N.len_ zg1 (za0 (zb4 (K:=K) rfl (zb4 (K:=K) rfl (pq 0) za2) za2) za1)))
   (za5 (za9 (zl0 (pD zci0 hr zb3 (za0 (pq 1) (za0 (pq 2) za1))) (zk6 (pB (zae5 (K:=K) rfl rfl) N.all_ zq8 (za0 (zd5 (N:=["plan","weight","hosts","fields"]) (ks:=[none,none,some 1,some 2]) (zf8 (K:=K) rfl (pq 0)) (fun _ _ _ _ _=>(zi4 (K:=K) (n:=2) rfl rfl (zb0 (za7 (i:=0) nb_2 rfl (by eq_refl)) (zb0 (za7 (i:=1) nb_2 rfl (by eq_refl)) zi2)))) (fun _ _ _ _ _=>zc6) (fun _ _ _ _ _=>(pD zch6 hr zb3 (za0 (pq 2) (za0 (pq 3) (za0 (pq 0) za1))))) (.skip (.skip (.take rfl rfl (by eq_refl) (.take rfl rfl (by eq_refl) .nil))))) za1))))))))),?_⟩
 refine zp1 h (.inr (.inr (.inl rfl))) ?_
 cases h
 case lst a xs ds e l=>
  have ll:=l.len
  obtain⟨dl,dm⟩:=zn0 hs
  refine zc1 (br_T ?_)
  refine ze8 e ?_
  rw[ll]
  refine zd6 (fun h0=>?_) (fun h0=>?_)
  ·ac_nf
   refine br_T ?_
   ac_nf
   have q:=q _ (Same.refl _)
   rw[zr5,decide_eq_false (by rfl')] at q
   exact q
  have d0:decide (ds.length≠0)=true:=decide_eq_true (by rfl')
  refine zb9 e ?_
  refine zk7 (Wk.list (SqL.of e)) (by rw[zcv5];omega) (fun i=>.bl (zs9 (ds.getD i .none))) (fun _=>true) (fun j σ=>∃ t:Option V,σ=[t]) ⟨none,rfl⟩ ?_ ?_
  ·rintro j x σ H1 R S hj s1 hx ⟨t,rfl⟩ k _
   obtain⟨d,ed,hd⟩:=l.get j x hx
   refine br_T ?_
   refine zbq4 (hd.same s1) (dm d (zcm6 ed)) (fun H2 s2=>?_)
   ac_nf
   rw[← getD_some ed]
   exact k rfl _ _ s2 ⟨_,rfl⟩
  intro acc H1 f1 s1 h1
  rw[ze1,ll,zo6 zs9] at h1
  refine zs2 h1 ?_
  rw[zw5]
  cases ea:ds.all zs9
  ·ac_nf
   refine zc1 (br_F ?_)
   ac_nf
   have q:=q _ s1
   rw[zr5,d0,ea] at q
   exact q
  have ea':∀ d∈ds,zs9 d=true:=zcn6.mp ea
  refine zc1 (br_T ?_)
  obtain⟨x0,ex0⟩:∃ x,xs[0]?=some x:=⟨_,zcm0 (by rfl')⟩
  obtain⟨dd0,ed0,hd0⟩:=l.get 0 x0 ex0
  obtain⟨t,p,w,ns,rfl,ht,hp,rfl,nn,hw⟩:=zal9 hd0 (ea' dd0 (zcm6 ed0))
  have fp:zj3 ds=ns:=by unfold zj3;rw[getD_some ed0];exact zs3 ns
  have at0:atI xs 0=some (.ref t):=zg2 (j:=0) ex0
  refine zc2 (v:=.ref t) (s1 _ _ e) at0 ?_
  refine zb6 (v:=.ref p) (s1 _ _ ht) rfl ?_
  refine zab3 (s1 _ _ hp) ?_
  refine zc2 (v:=.ref t) (s1 _ _ e) at0 ?_
  refine zb6 (v:=.ref p) (s1 _ _ ht) rfl ?_
  refine ze8 (s1 _ _ hp) ?_
  rw[zcl9]
  refine zaz0 ?_
  have qq:∀ H',Same H1 H'->Q (.bl (zr8 ns.sum ns.length&&ds.all fun d=>zv0 ns.sum ns.length (zm6 d))) H':=fun H' s'=>by
   have q:=q _ (s1.trans s')
   rw[zr5,d0,ea,fp,zcp9,zcp9] at q
   exact q
  cases es:zr8 ns.sum ns.length
  ·have qq:=qq _ (Same.refl _)
   rw[es] at qq
   refine br_F ?_
   ac_nf
   exact qq
  refine br_T ?_
  refine zb9 (s1 _ _ e) ?_
  refine zk7 (Wk.list (SqL.of (s1 _ _ e))) (by rw[zcv5];omega) (fun i=>.bl (zv0 ns.sum ns.length (zm6 (ds.getD i .none)))) (fun _=>true) (fun j σ=>∃ t u:Option V,σ=[t,u,some (.int ns.sum),some (.int ns.length)]) ⟨none,none,rfl⟩ ?_ ?_
  ·rintro j x σ H2 R S hj s2 hx ⟨t',u',rfl⟩ k _
   obtain⟨d,ed,hd⟩:=l.get j x hx
   have hd:=hd.same (s1.trans s2)
   have hm:=dm d (zcm6 ed)
   obtain⟨t,p,w,ns',rfl,ht,hp,rfl,nn',hw'⟩:=zal9 hd (ea' d (zcm6 ed))
   have sp:sml (.list (ns'.map PyData.int))=true:=(zay5 hm).2 _ (by simp)
   have hv:ShV H2 (.ref p) (.list (ns'.map PyData.int)):=.lst hp (ShL.idx (by rw[zcl9,zcl9]) fun i x d h1 h2=>by
    rw[zcm5] at h1 h2
    obtain⟨n,en,rfl⟩:=zcm7.mp h1
    rw[en] at h2
    cases h2
    exact .int n)
   refine zd0 ht ?_
   refine br_T ?_
   refine zak1 hv sp (fun H3 s3=>?_)
   ac_nf
   have e1:=getD_some ed
   rw[e1] at k
   exact k rfl _ _ s3 ⟨_,_,rfl⟩
  intro acc2 H2 f2 s2 h2
  rw[ze1,ll,zo6 fun d=>zv0 ns.sum ns.length (zm6 d)] at h2
  refine zs2 h2 ?_
  rw[zw5]
  ac_nf
  have qq:=qq _ s2
  rw[es,zcp9] at qq
  exact qq
 all_goals (ac_nf;refine zc1 (br_F ?_);ac_nf;refine br_T ?_;ac_nf;exact q _ (Same.refl _))
@[irreducible] def zj6(zcf7:Addr):Sp:=fun vs H Q E=>∃ (v:V) (d:PyData),vs=[v]/\ShV H v d/\sml d=true/\(mixD d=true->∀ H',Same H H'->Q .non H')/\(mixD d=false->∀ H',Same H H'->E (.ref zcf7) none H')
theorem zar7{zcf7:Addr}{v:V}{d:PyData}(h:ShV H v d)(hs:sml d=true)(q:mixD d=true->∀ H',Same H H'->Q .non H')(qe:mixD d=false->∀ H',Same H H'->E (.ref zcf7) none H'):zj6 zcf7 [v] H Q E:=by unfold zj6;exact⟨v,d,rfl,h,hs,q,qe⟩
theorem zax3(F:Fun K "look_mix" "look_mix" zy1 f fd)(N:Nm mg)(zck9:Def P w K mg base CX0 5 "is_mix" ["mix"] zo0)(Z:Cz K mg base zcf8 zcf5 zcg1 zcf7 zcf4 zcg2):FnOk P w K mg base (CXR P w) 6 f fd ["mix"] (zj6 zcf7):=by
 refine F.okR zax7 (fun vs H Q E h=>by unfold zj6 at h;obtain⟨_,_,rfl,_⟩:=h;rfl) (fun cdv A outer s H vs Q E hr hX h=>?_)
 unfold zj6 at h
 obtain⟨v,d,rfl,h,hs,q,qe⟩:=h
 refine⟨_,(za5 (psIf (zh4 (ptV (pD zck9 hr zb3 (za0 (pq 0) za1)))) (za5 (zbm1 Z.o_NoMix PySem.F.excBase_ValueError rfl hX (za0 zr3 za1))) zc0)),?_⟩
 refine zcc1 h hs (fun H1 s1=>?_)
 cases em:mixD d
 ·ac_nf
  refine zc1 (br_F ?_)
  ac_nf
  exact⟨by decide,qe em _ s1⟩
 ·ac_nf
  refine zc1 (br_T ?_)
  ac_nf
  exact q em _ s1
def wtD:PyData->Int
 | .tuple [_,b]=>intD b
 | _=>0
theorem mix_of{v:V}{d:PyData}(h:ShV H v d)(e:mixD d=true):∃ (a:Addr) (xs:List V) (ds:List PyData),v=.ref a/\d=.list ds/\H a=some (.lst xs)/\ShL H xs ds/\ds.length≠0/\∀ d∈ds,zs9 d=true:=by
 cases h
 case lst a xs ds e1 l=>
  unfold mixD at e
  simp only[zcn2,decide_eq_true_eq] at e
  exact⟨a,xs,ds,rfl,rfl,e1,l,e.1.1.1,zcn6.mp e.1.1.2⟩
 all_goals simp[mixD] at e
theorem zav3{d:PyData}(h:zs9 d=true):∃ (ns:List Int) (w:Int),d=.tuple [.list (ns.map PyData.int),.int w]/\(∀ x∈ns,0<=x)/\1<=w:=by
 cases d with
 | tuple ds=>
  have l2:ds.length=2:=Classical.byContradiction fun z=>by rw[zal2 z] at h;cases h
  match ds,l2 with
  | [a,b],_=>
   have h:(zo9 a&&zj0 1 b)=true:=h
   rw[zcn2] at h
   obtain⟨w,rfl,hw⟩:=zk3 h.2
   cases a with
   | list es=>
    have h1:es.all (zj0 0)=true:=h.1
    rw[zcn6] at h1
    have:∀ {es:List PyData},(∀ d∈es,zj0 0 d=true)->∃ ns:List Int,es=ns.map PyData.int/\∀ x∈ns,0<=x:=fun {es} h1=>by
     induction es with
     | nil=>exact⟨[],rfl,fun _ h=>by cases h⟩
     | cons d es ih=>
      obtain⟨i,rfl,hi⟩:=zk3 (h1 d (.head _))
      obtain⟨ns,rfl,hn⟩:=ih fun d hd=>h1 d (.tail _ hd)
      refine⟨i :: ns,rfl,fun x hx=>?_⟩
      rcases zcm9.mp hx with rfl|hx
      ·exact hi
      ·exact hn x hx
    obtain⟨ns,rfl,hn⟩:=this h1
    exact⟨ns,w,rfl,hn,hw⟩
   | _=>simp[zo9] at h
 | _=>simp[zs9] at h
theorem zo5(ns:List Int)(w:Int):zag5 (zm6 (.tuple [.list (ns.map PyData.int),.int w]))=ns:=zs3 ns
structure zd1(H:Hp)(m:Addr)(ts:List (Addr×Addr))(ms:List (List Int×Int)):Prop where
 out:H m=some (.lst (ts.map fun t=>V.ref t.1))
 len:ts.length=ms.length
 part:∀ (i:Nat) t x,ts[i]?=some t->ms[i]?=some x->H t.1=some (.tup [.ref t.2,.int x.2])/\H t.2=some (.lst (x.1.map V.int))
abbrev OkM(h f:Int)(ms:List (List Int×Int)):Prop:=1<=ms.length/\ms.length<=100/\((0<=h/\h<=40)/\1<=f/\f<=8)/\∀ x∈ms,(∀ n∈x.1,0<=n)/\(x.1.length:Int)=f/\x.1.sum=h/\1<=x.2
theorem zd1.same(M:zd1 H m ts ms)(s:Same H H'):zd1 H' m ts ms:=⟨s _ _ M.out,M.len,fun i t x h1 h2=>⟨s _ _ (M.part i t x h1 h2).1,s _ _ (M.part i t x h1 h2).2⟩⟩
theorem zd1.get(M:zd1 H m ts ms)(hi:i<ms.length):∃ t x,ts[i]?=some t/\ms[i]?=some x/\H t.1=some (.tup [.ref t.2,.int x.2])/\H t.2=some (.lst (x.1.map V.int)):=
 ⟨_,_,zcm0 (by have:=M.len;omega),zcm0 hi,M.part i _ _ (zcm0 (by have:=M.len;omega)) (zcm0 hi)⟩
theorem zd1.elt(M:zd1 H m ts ms){v:V}(e:(ts.map fun t=>V.ref t.1)[i]?=some v):∃ t x,v=.ref t.1/\ts[i]?=some t/\ms[i]?=some x/\H t.1=some (.tup [.ref t.2,.int x.2])/\H t.2=some (.lst (x.1.map V.int)):=by
 rw[zcm5] at e
 obtain⟨t,et,rfl⟩:=zcm7.mp e
 obtain⟨t',x,h1,h2,h3⟩:=M.get (i:=i) (by have:=(zcm1.mp et).1;have:=M.len;omega)
 rw[et] at h1
 cases h1
 exact⟨t,x,rfl,et,h2,h3⟩
theorem zd1.ix(M:zd1 H m ts ms){k:Nat}{x:List Int×Int}(e:ms[k]?=some x):∃ t,ts[k]?=some t/\atI (ts.map fun t=>V.ref t.1) (k:Int)=some (.ref t.1)/\H t.1=some (.tup [.ref t.2,.int x.2])/\H t.2=some (.lst (x.1.map V.int)):=by
 obtain⟨t,x',h1,h2,h3⟩:=M.get (i:=k) ((zcm1.mp e).1)
 rw[e] at h2
 cases h2
 exact⟨t,h1,zg2 (by rw[zcm5,h1];rfl),h3⟩
def rm(p:Addr)(H:Hp):Hp:=fun b=>if b=p then none else H b
def nw(H H':Hp):Hp:=fun b=>match H b with
 | none=>H' b
 | some _=>none
theorem zu2{p b:Addr}(n:b≠p)(h:H b=some o):rm p H b=some o:=by unfold rm;rw[if_neg n];exact h
theorem zag4{p b:Addr}(h:rm p H b=some o):b≠p/\H b=some o:=by
 unfold rm at h
 by_cases e:b=p
 ·rw[if_pos e] at h;cases h
 ·rw[if_neg e] at h;exact⟨e,h⟩
theorem zu8{b:Addr}(n:H b=none)(h:H' b=some o):nw H H' b=some o:=by unfold nw;rw[n];exact h
theorem zam8{b:Addr}(h:nw H H' b=some o):H b=none/\H' b=some o:=by
 unfold nw at h
 cases e:H b with
 | none=>rw[e] at h;exact⟨rfl,h⟩
 | some v=>rw[e] at h;cases h
theorem zn1(p:Addr)(H:Hp):Same (rm p H) H:=fun b o h=>(zag4 h).2
theorem zbl2(H H':Hp):Same (nw H H') H':=fun b o h=>(zam8 h).2
theorem Same.rm{p:Addr}{H H':Hp}(s:Same H H'):Same (rm p H) (G.rm p H'):=fun b o h=>zu2 (zag4 h).1 (s _ _ (zag4 h).2)
theorem Chg.rm{p:Addr}{H H':Hp}(s:Chg p H H'):Same (rm p H) (G.rm p H'):=fun b o h=>zu2 (zag4 h).1 (s _ _ (zag4 h).1 (zag4 h).2)
theorem nw_up{H'':Hp}(s:Same H' H''):Same (nw H H') (nw H H''):=fun b o h=>zu8 (zam8 h).1 (s _ _ (zam8 h).2)
theorem zcb5{H0:Hp}(s:Same H0 H):Same (nw H H') (nw H0 H'):=fun b o h=>zu8 (s.free (zam8 h).1) (zam8 h).2
def zq6:PyData->Bool
 | .tuple [a,b,c]=>zj0 0 a&&zy3 0 (intD a) b&&zj0 1 c
 | _=>false
theorem zak2(h:ds.length≠3):zq6 (.tuple ds)=false:=by
 match ds,h with
 | [],_=>rfl
 | [_],_=>rfl
 | [_,_],_=>rfl
 | [_,_,_],h=>simp at h
 | _ :: _ :: _ :: _ :: _,_=>rfl
theorem zaq3{xs:List V}(l:ShL H xs ds)(e:xs.length=3):∃ x y z a b c,xs=[x,y,z]/\ds=[a,b,c]/\ShV H x a/\ShV H y b/\ShV H z c:=by
 cases l with
 | nil=>simp at e
 | cons h1 l=>
  obtain⟨y,z,b,c,rfl,rfl,h2,h3⟩:=zav2 l (by simpa using e)
  exact⟨_,_,_,_,_,_,rfl,rfl,h1,h2,h3⟩
@[irreducible] def zl1:Sp:=fun vs H Q _=>∃ (v:V) (d:PyData),vs=[v]/\ShV H v d/\Q (.bl (zq6 d)) H
theorem zbu5{v:V}{d:PyData}(h:ShV H v d)(q:Q (.bl (zq6 d)) H):zl1 [v] H Q E:=by unfold zl1;exact⟨v,d,rfl,h,q⟩
theorem zbc8(F:Fun K "is_flow" "is_flow" zaf1 f fd)(N:Nm mg)(zcf9:Def P w K mg base CX0 3 "is_between" ["thing","least","most"] zc3)(zcg0:Def P w K mg base CX0 2 "is_from" ["thing","least"] ze6):FnOk P w K mg base CX0 4 f fd ["thing"] zl1:=by
 refine F.ok zbe3 (fun vs H Q E h=>by unfold zl1 at h;obtain⟨_,_,rfl,_⟩:=h;rfl) fun _ _ _ s H vs Q E hr h=>?_
 unfold zl1 at h
 obtain⟨v,d,rfl,h,q⟩:=h
 have hu:=hu40 hr
 refine⟨_,(za3 (psIf (ptW (pwOr (zh4 (ptV (pB (zae3 (K:=K) rfl) N.isinstance_ zc5 (za0 (pq 0) (za0 (pTy N.tuple_ zaj7) za1))))) (zz5 (ptC (oNeXK (K:=K) rfl (by exact hu)) (pB (zm1 (K:=K) rfl) N.len_ zg1 (za0 (pq 0) za1)) za2)))) (za5 (za9 zab6)) zc0)
   (za5 (za9 (zl0 (pD zcg0 hr zb3 (za0 (zb4 (K:=K) rfl (pq 0) za2) (za0 za2 za1))) (zl0 (pD zcf9 hr zb3 (za0 (zb4 (K:=K) rfl (pq 0) za2) (za0 za2 (za0 (zb4 (K:=K) rfl (pq 0) za2) za1)))) (zk6 (pD zcg0 hr zb3 (za0 (zb4 (K:=K) rfl (pq 0) za2) (za0 za2 za1))))))))),?_⟩
 refine zp1 h (.inr (.inr (.inr rfl))) ?_
 cases h
 case tup t xs ds e l=>
  have ll:=l.len
  refine zc1 (br_T ?_)
  refine zl4 e ?_
  refine zc1 (zd6 (fun h3=>?_) (fun h3=>?_))
  ·obtain⟨x,y,z,a,b,c,rfl,rfl,ha,hb,hc⟩:=zaq3 l (by rfl')
   have q:Q (.bl (zj0 0 a&&zy3 0 (intD a) b&&zj0 1 c)) H:=q
   refine zb6 (v:=x) e rfl ?_
   refine zy6 ha ?_
   cases e1:zj0 0 a
   ·rw[e1] at q
    refine br_F ?_
    ac_nf
    exact q
   ·rw[e1,zcp9] at q
    obtain⟨i,rfl,hi⟩:=zk3 e1
    cases ha
    refine br_T ?_
    refine zb6 (v:=y) e rfl ?_
    refine zb6 (v:=.int i) e rfl ?_
    refine zaf6 hb ?_
    have q:Q (.bl (zy3 0 i b&&zj0 1 c)) H:=q
    cases e2:zy3 0 i b
    ·rw[e2] at q
     refine br_F ?_
     ac_nf
     exact q
    ·rw[e2,zcp9] at q
     refine br_T ?_
     refine zb6 (v:=z) e rfl ?_
     refine zy6 hc ?_
     ac_nf
     exact q
  ·rw[zak2 (by rfl')] at q
   ac_nf
   exact q
 all_goals (ac_nf;refine zc1 (br_F ?_);ac_nf;refine br_T ?_;ac_nf;exact q)
theorem zbh3{l m:Int}{d:PyData}(h:zy3 l m d=true):∃ i,d=.int i/\l<=i/\i<=m:=by
 cases d with
 | int i=>have:=of_decide_eq_true h;exact⟨i,rfl,this⟩
 | _=>simp[zy3] at h
theorem zav0{v:V}{d:PyData}(h:ShV H v d)(e:zq6 d=true):∃ (t:Addr) (i j w:Int),v=.ref t/\H t=some (.tup [.int i,.int j,.int w])/\d=.tuple [.int i,.int j,.int w]/\0<=j/\j<=i/\1<=w:=by
 cases h
 case tup t xs ds e1 l=>
  have l3:ds.length=3:=Classical.byContradiction fun z=>by rw[zak2 z] at e;cases e
  obtain⟨x,y,z,a,b,c,rfl,rfl,ha,hb,hc⟩:=zaq3 l (by rw[l.len];exact l3)
  have e:(zj0 0 a&&zy3 0 (intD a) b&&zj0 1 c)=true:=e
  rw[zcn2,zcn2] at e
  obtain⟨i,rfl,hi⟩:=zk3 e.1.1
  obtain⟨j,rfl,hj1,hj2⟩:=zbh3 e.1.2
  obtain⟨w,rfl,hw⟩:=zk3 e.2
  cases ha
  cases hb
  cases hc
  exact⟨t,i,j,w,rfl,e1,rfl,hj1,hj2,hw⟩
 all_goals simp[zq6] at e
def keyD:PyData->Int×Int
 | .tuple (a :: b :: _)=>(intD a,intD b)
 | _=>(0,0)
def incD(ds:List PyData):Bool:=(List.range (ds.length - 1)).all fun i=>ltP (keyD (ds.getD i .none)) (keyD (ds.getD (i+1) .none))
def rowD:PyData->Bool
 | .list ds=>ds.all zq6&&incD ds
 | _=>false
@[irreducible] def zm2:Sp:=fun vs H Q _=>∃ (v:V) (d:PyData),vs=[v]/\ShV H v d/\sml d=true/\∀ H',Same H H'->Q (.bl (rowD d)) H'
theorem zbg8{v:V}{d:PyData}(h:ShV H v d)(hs:sml d=true)(q:∀ H',Same H H'->Q (.bl (rowD d)) H'):zm2 [v] H Q E:=by unfold zm2;exact⟨v,d,rfl,h,hs,q⟩
theorem zbk7(F:Fun K "is_row" "is_row" zal8 f fd)(N:Nm mg)(zck7:Def P w K mg base CX0 4 "is_flow" ["thing"] zl1):FnOk P w K mg base CX0 5 f fd ["row"] zm2:=by
 refine F.ok zbp7 (fun vs H Q E h=>by unfold zm2 at h;obtain⟨_,_,rfl,_⟩:=h;rfl) fun _ _ _ s H vs Q E hr h=>?_
 unfold zm2 at h
 obtain⟨v,d,rfl,h,hs,q⟩:=h
 have hu:=hu40 hr
 refine⟨_,(za3 (psIf (ptW (pwOr (zh4 (ptV (pB (zae3 (K:=K) rfl) N.isinstance_ zc5 (za0 (pq 0) (za0 (pTy N.list_ zt7) za1))))) (zz5 (zh4 (ptV (pB (zae5 (K:=K) rfl rfl) N.all_ zq8 (za0 (zd5 (N:=["thing"]) (ks:=[none]) (zf8 (K:=K) rfl (pq 0)) (fun _ _ _ _ _=>(za7 (i:=0) nb_6 rfl (by eq_refl))) (fun _ _ _ _ _=>zc6) (fun _ _ _ _ _=>(pD zck7 hr zb3 (za0 (pq 0) za1))) (.skip .nil)) za1))))))) (za5 (za9 zab6)) zc0)
   (za5 (za9 (pB (zae5 (K:=K) rfl rfl) N.all_ zq8 (za0 (zd5 (N:=["one","other"]) (ks:=[none,none]) (zby3 (K:=K) rfl N.zip_ (za0 (pq 0) (za0 (zm4 (slXK (K:=K) rfl) (pq 0) (zz6 za2) zs0) za1))) (fun _ _ _ _ _=>(zi4 (K:=K) (n:=2) rfl rfl (zb0 (za7 (i:=0) nb_7 rfl (by eq_refl)) (zb0 (za7 (i:=1) nb_7 rfl (by eq_refl)) zi2)))) (fun _ _ _ _ _=>zc6) (fun _ _ _ _ _=>(peC (oLtX (by exact hu)) (zm4 (slXK (K:=K) rfl) (pq 0) zs0 (zz6 za2)) (zm4 (slXK (K:=K) rfl) (pq 1) zs0 (zz6 za2)))) (.skip (.skip .nil))) za1))))),?_⟩
 refine zp1 h (.inr (.inr (.inl rfl))) ?_
 cases h
 case lst a xs ds e l=>
  have ll:=l.len
  obtain⟨dl,dm⟩:=zn0 hs
  refine zc1 (br_T ?_)
  refine zb9 e ?_
  refine zk7 (Wk.list (SqL.of e)) (by rw[zcv5];omega) (fun i=>.bl (zq6 (ds.getD i .none))) (fun _=>true) (fun j σ=>∃ t:Option V,σ=[t]) ⟨none,rfl⟩ ?_ ?_
  ·rintro j x σ H1 R S hj s1 hx ⟨t,rfl⟩ k _
   obtain⟨d,ed,hd⟩:=l.get j x hx
   refine br_T ?_
   refine zbu5 (hd.same s1) ?_
   ac_nf
   rw[← getD_some ed]
   exact k rfl _ _ (Same.refl _) ⟨_,rfl⟩
  intro acc H1 f1 s1 h1
  rw[ze1,ll,zo6 zq6] at h1
  refine zs2 h1 ?_
  rw[zw5]
  cases ea:ds.all zq6
  ·ac_nf
   refine zc1 (br_F ?_)
   ac_nf
   have q:Q (.bl (ds.all zq6&&incD ds)) H1:=q _ s1
   rw[ea] at q
   exact q
  have ea':∀ d∈ds,zq6 d=true:=zcn6.mp ea
  refine zc1 (br_T ?_)
  have e1:=s1 _ _ e
  refine zai0 (SqL.of e1) (fun p2 H2 f2 s2 h2=>?_)
  rw[zaa8 (by rfl')] at h2
  refine zbx0 (SqL.of (s2 _ _ e1)) (SqL.of h2) ?_
  refine zk7 (Wk.zipN (n:=ds.length - 1) (SqL.of (s2 _ _ e1)) (SqL.of h2) (by rfl') (by rw[zcr7];show _<=_ - 1;omega) (.inr (by rw[zcr7,ll];rfl))) (by rw[zcv5];omega) (fun i=>.bl (ltP (keyD (ds.getD i .none)) (keyD (ds.getD (i+1) .none)))) (fun _=>true) (fun j σ=>∃ t u:Option V,σ=[t,u]) ⟨none,none,rfl⟩ ?_ ?_
  ·rintro j v σ H3 R S hj s3 ⟨p,x,y,rfl,hp,hx,hy⟩ ⟨t,u,rfl⟩ k _
   rw[List.getElem?_drop,show (1:Int).toNat+j=j+1 by show 1+j=j+1;omega] at hy
   obtain⟨d,ed,hd⟩:=l.get j x hx
   obtain⟨d',ed',hd'⟩:=l.get (j+1) y hy
   have s03:=(s1.trans s2).trans s3
   obtain⟨t1,i1,j1,w1,rfl,ht1,rfl,_⟩:=zav0 (hd.same s03) (ea' d (zcm6 ed))
   obtain⟨t2,i2,j2,w2,rfl,ht2,rfl,_⟩:=zav0 (hd'.same s03) (ea' d' (zcm6 ed'))
   rw[getD_some ed,getD_some ed'] at k
   refine zd0 hp ?_
   refine br_T ?_
   refine zbx9 ht1 (fun p4 H4 f4 s4 h4=>?_)
   refine zbx9 (s4 _ _ ht2) (fun p5 H5 f5 s5 h5=>?_)
   refine ltP_rd (x:=(i1,j1)) (y:=(i2,j2)) (s5 _ _ h4) h5 ?_
   ac_nf
   exact k rfl _ _ (s4.trans s5) ⟨_,_,rfl⟩
  intro acc2 H3 f3 s3 h3
  rw[ze1] at h3
  have h3:H3 acc2=some (.lst (((List.range (ds.length - 1)).map fun i=>ltP (keyD (ds.getD i .none)) (keyD (ds.getD (i+1) .none))).map V.bl)):=by rw[h3,zco0];rfl
  refine zs2 h3 ?_
  have q:Q (.bl (ds.all zq6&&incD ds)) H3:=q _ ((s1.trans s2).trans s3)
  rw[ea,zcp9] at q
  rw[zcs2]
  exact q
 all_goals (ac_nf;refine zc1 (br_F ?_);ac_nf;refine br_T ?_;ac_nf;exact q _ (Same.refl _))
def valG{κ:Type}[DecidableEq κ](kv:List (κ×Int))(k:κ):Option Int:=(kv.find? fun z=>decide (z.1=k)).map (·.2)
def putG{κ:Type}[DecidableEq κ](kv:List (κ×Int))(k:κ)(n:Int):List (κ×Int):=if (kv.any fun z=>decide (z.1=k))=true then kv.map (fun z=>if z.1=k then (z.1,n) else z) else kv++[(k,n)]
def addG{κ:Type}[DecidableEq κ](s:List (κ×Int))(z:κ×Int):List (κ×Int):=putG s z.1 ((valG s z.1).getD 0+z.2)
def sumG{κ:Type}[DecidableEq κ](zs:List (κ×Int)):List (κ×Int):=zs.foldl addG []
def dF{κ κ':Type}(f:κ->κ')(kv:List (κ×Int)):List (κ'×V):=kv.map fun z=>(f z.1,V.int z.2)
section
variable {κ κ':Type}[DecidableEq κ] [DecidableEq κ']
theorem zk9{z:κ×Int}{kv:List (κ×Int)}{k:κ}(e:z.1=k):valG (z :: kv) k=some z.2:=by unfold valG;rw[zcr5,decide_eq_true e];rfl
theorem zk8{z:κ×Int}{kv:List (κ×Int)}{k:κ}(e:¬ z.1=k):valG (z :: kv) k=valG kv k:=by unfold valG;rw[zcr5,decide_eq_false e]
theorem zad1{f:κ->κ'}(hf:∀ a b,f a=f b->a=b)(k:κ):∀ kv:List (κ×Int),valV (dF f kv) (f k)=(valG kv k).map V.int
 | []=>rfl
 | z :: kv=>by
  show valV ((f z.1,V.int z.2) :: dF f kv) (f k)=_
  by_cases e:z.1=k
  ·rw[zx1 (p:=(f z.1,V.int z.2)) (congrArg f e),zk9 e];rfl
  ·rw[zw8 (p:=(f z.1,V.int z.2)) (fun q=>e (hf _ _ q)),zad1 hf k kv,zk8 e]
theorem zbg0{f:κ->κ'}(hf:∀ a b,f a=f b->a=b)(kv:List (κ×Int))(k:κ)(n:Int):putK (dF f kv) (f k) (.int n)=dF f (putG kv k n):=by
 unfold putK putG dF
 have e1:((kv.map fun z=>(f z.1,V.int z.2)).any fun kv=>decide (kv.1=f k))=kv.any fun z=>decide (z.1=k):=by
  rw[List.any_map]
  congr 1;funext z
  exact decide_eq_decide.mpr ⟨hf _ _,congrArg f⟩
 rw[e1]
 split
 ·rw[zco0,zco0]
  refine zcn7 fun z _=>?_
  show (if f z.1=f k then (f z.1,V.int n) else (f z.1,V.int z.2))=(f (if z.1=k then (z.1,n) else z).1,V.int (if z.1=k then (z.1,n) else z).2)
  by_cases e:z.1=k
  ·rw[if_pos (congrArg f e),if_pos e]
  ·rw[if_neg (fun q=>e (hf _ _ q)),if_neg e]
 ·rw[zco1];rfl
theorem zbs0(kv:List (κ×Int))(k:κ)(n:Int):(putG kv k n).length<=kv.length+1:=by
 unfold putG
 split
 ·rw[zcl9];omega
 ·rw[zcn1];exact zcn4 _
theorem zaf0(zs:List (κ×Int))(z:κ×Int):sumG (zs++[z])=addG (sumG zs) z:=by unfold sumG;rw[List.foldl_append];rfl
theorem zam3(zs:List (κ×Int)):(sumG zs).length<=zs.length:=by
 have:∀ (zs s:List (κ×Int)),(zs.foldl addG s).length<=s.length+zs.length:=fun zs=>by
  induction zs with
  | nil=>exact fun s=>zcn4 _
  | cons z zs ih=>
   intro s
   have h1:=ih (addG s z)
   have h2:(addG s z).length<=s.length+1:=zbs0 _ _ _
   rw[List.foldl_cons,zco4]
   omega
 have:=this zs []
 unfold sumG
 simpa using this
theorem zaq6{zs:List (κ×Int)}{z:κ×Int}(h:zs[i]?=some z):sumG (zs.take (i+1))=addG (sumG (zs.take i)) z:=by
 rw[List.take_succ,h];exact zaf0 _ _
end
theorem zam4(a b:Int)(h:(Sum.inl a:Key)=Sum.inl b):a=b:=Sum.inl.inj h
theorem zat9(a b:Int×Int)(h:pK a=pK b):a=b:=by
 unfold pK at h
 simp only[List.cons.injEq,Sum.inl.injEq,and_true] at h
 exact Prod.ext h.1 h.2
@[irreducible] def zh0:Sp:=fun vs H Q _=>
 (∃ (p:Addr) (ts:List Addr) (zs:List (Int×Int)),vs=[.ref p]/\H p=some (.lst (ts.map V.ref))/\ts.length=zs.length/\zs.length<=2000/\(∀ (i:Nat) t z,ts[i]?=some t->zs[i]?=some z->H t=some (.tup [.int z.1,.int z.2]))/\∀ r H',H r=none->Same H H'->H' r=some (.dK (dF Sum.inl (sumG zs)))->Q (.ref r) H') ∨
 ∃ (p:Addr) (ts:List (Addr×Addr)) (zs:List ((Int×Int)×Int)),vs=[.ref p]/\H p=some (.lst (ts.map fun t=>V.ref t.1))/\ts.length=zs.length/\zs.length<=2000/\(∀ (i:Nat) t z,ts[i]?=some t->zs[i]?=some z->H t.1=some (.tup [.ref t.2,.int z.2])/\H t.2=some (.tup (pV z.1)))/\∀ r H',H r=none->Same H H'->H' r=some (.dT (dF pK (sumG zs)))->Q (.ref r) H'
theorem zx7{p:Addr}{ts:List Addr}{zs:List (Int×Int)}(hp:H p=some (.lst (ts.map V.ref)))(hl:ts.length=zs.length)(hz:zs.length<=2000)(ht:∀ (i:Nat) t z,ts[i]?=some t->zs[i]?=some z->H t=some (.tup [.int z.1,.int z.2]))(q:∀ r H',H r=none->Same H H'->H' r=some (.dK (dF Sum.inl (sumG zs)))->Q (.ref r) H'):zh0 [.ref p] H Q E:=by
 unfold zh0;exact .inl ⟨p,ts,zs,rfl,hp,hl,hz,ht,q⟩
theorem zbe8{p:Addr}{zs:List ((Int×Int)×Int)}(hp:H p=some (.lst (ts.map fun t=>V.ref t.1)))(hl:ts.length=zs.length)(hz:zs.length<=2000)(ht:∀ (i:Nat) t z,ts[i]?=some t->zs[i]?=some z->H t.1=some (.tup [.ref t.2,.int z.2])/\H t.2=some (.tup (pV z.1)))(q:∀ r H',H r=none->Same H H'->H' r=some (.dT (dF pK (sumG zs)))->Q (.ref r) H'):zh0 [.ref p] H Q E:=by
 unfold zh0;exact .inr ⟨p,ts,zs,rfl,hp,hl,hz,ht,q⟩
theorem zbh4(F:Fun K "summed" "summed" zak5 f fd)(N:Nm mg):FnOk P w K mg base CX0 1 f fd ["pairs"] zh0:=by
 refine F.ok zw1 (fun vs H Q E h=>by unfold zh0 at h;rcases h with ⟨_,_,_,rfl,_⟩|⟨_,_,_,rfl,_⟩<;>rfl) fun _ _ _ s H vs Q E hr h=>?_
 unfold zh0 at h
 have hu:=hu40 hr
 refine⟨_,(za3 (psS (i:=1) zw1.nd zce8)
   (za3 (zac2 PassesOwn.never rfl (zf8 (K:=K) rfl (pq 0)) (zi4 (K:=K) (n:=2) rfl rfl (zb0 (za7 (i:=2) zw1.nd rfl (by eq_refl)) (zb0 (za7 (i:=3) zw1.nd rfl (by eq_refl)) zi2))) (za5 (psDPut (by exact hu) (pq 1) (pq 2) (zb8 oAdd (zba3 (by exact hu) (pq 1) (pq 2) za2) (pq 3)))))
   (za5 (za9 (pq 1))))),?_⟩
 rcases h with ⟨p,ts,zs,rfl,hp,hl,hz,ht,q⟩|⟨p,ts,zs,rfl,hp,hl,hz,ht,q⟩
 ·ac_nf
  refine dnK_rd (fun r H1 f1 s1 h1=>?_)
  have npr:p≠r:=za4 hp f1
  refine zb9 (s1 _ _ hp) ?_
  refine zo2 (xs:=ts.map V.ref) (fun i σ I=>∃ t u:Option V,σ=[some (.ref p),some (.ref r),t,u]/\Chg r H1 I/\I r=some (.dK (dF Sum.inl (sumG (zs.take i))))) ?_ ?_ ?_ ?_
  ·exact⟨_,_,rfl,Chg.refl _ _,h1⟩
  ·rintro i σ I _ ⟨_,_,_,c,_⟩
   exact SqL.of (c _ _ npr (s1 _ _ hp))
  ·rintro i v σ I hi ⟨t',u',rfl,c,hr'⟩
   rw[zcm5] at hi
   obtain⟨t,et,rfl⟩:=zcm7.mp hi
   obtain⟨z,ez⟩:∃ z,zs[i]?=some z:=⟨_,zcm0 (by have:=(zcm1.mp et).1;omega)⟩
   have e0:=ht i t z et ez
   have e1:=c _ _ (za4 e0 f1) (s1 _ _ e0)
   refine zd0 e1 ?_
   refine zbm7 hr' ?_
   refine zbj2 hr' ?_
   have ev:(valV (dF Sum.inl (sumG (zs.take i))) (Sum.inl z.1:Key)).getD (V.int 0)=.int ((valG (sumG (zs.take i)) z.1).getD 0):=by
    rw[zad1 zam4]
    cases valG (sumG (zs.take i)) z.1<;>rfl
   rw[ev]
   refine dpK_rd hr' (by unfold dF;rw[zcl9,zcv5];have:=zam3 (zs.take i);rw[zcr6] at this;omega) (fun I2 c2 h2=>?_)
   rw[zbg0 zam4] at h2
   ac_nf
   exact⟨_,_,rfl,c.trans c2,by rw[zaq6 ez];exact h2⟩
  ·rintro σ I ⟨t',u',rfl,c,hr'⟩
   rw[zcl9,hl,List.take_length] at hr'
   ac_nf
   exact q r I f1 (s1.chg f1 c) hr'
 ·ac_nf
  refine dnT_rd (fun r H1 f1 s1 h1=>?_)
  have npr:p≠r:=za4 hp f1
  refine zb9 (s1 _ _ hp) ?_
  refine zo2 (xs:=ts.map fun t=>V.ref t.1) (fun i σ I=>∃ t u:Option V,σ=[some (.ref p),some (.ref r),t,u]/\Chg r H1 I/\I r=some (.dT (dF pK (sumG (zs.take i))))) ?_ ?_ ?_ ?_
  ·exact⟨_,_,rfl,Chg.refl _ _,h1⟩
  ·rintro i σ I _ ⟨_,_,_,c,_⟩
   exact SqL.of (c _ _ npr (s1 _ _ hp))
  ·rintro i v σ I hi ⟨t',u',rfl,c,hr'⟩
   rw[zcm5] at hi
   obtain⟨t,et,rfl⟩:=zcm7.mp hi
   obtain⟨z,ez⟩:∃ z,zs[i]?=some z:=⟨_,zcm0 (by have:=(zcm1.mp et).1;omega)⟩
   obtain⟨e0,e0'⟩:=ht i t z et ez
   have e1:=c _ _ (za4 e0 f1) (s1 _ _ e0)
   have e2:=c _ _ (za4 e0' f1) (s1 _ _ e0')
   refine zd0 e1 ?_
   refine zby7 hr' ?_
   refine zcc5 hr' (k:=pK z.1) e2 ?_
   have ev:(valV (dF pK (sumG (zs.take i))) (pK z.1)).getD (V.int 0)=.int ((valG (sumG (zs.take i)) z.1).getD 0):=by
    rw[zad1 zat9]
    cases valG (sumG (zs.take i)) z.1<;>rfl
   rw[ev]
   refine dpT_rd hr' (k:=pK z.1) e2 (by unfold dF;rw[zcl9,zcv5];have:=zam3 (zs.take i);rw[zcr6] at this;omega) (fun I2 c2 h2=>?_)
   rw[zbg0 zat9] at h2
   ac_nf
   exact⟨_,_,rfl,c.trans c2,by rw[zaq6 ez];exact h2⟩
  ·rintro σ I ⟨t',u',rfl,c,hr'⟩
   rw[zcl9,hl,List.take_length] at hr'
   ac_nf
   exact q r I f1 (s1.chg f1 c) hr'
def triD:PyData->Int×Int×Int
 | .tuple [a,b,c]=>(intD a,intD b,intD c)
 | _=>(0,0,0)
def rowF(d:PyData):List (Int×Int×Int):=(zb2 d).map triD
def zf9:PyData->Bool
 | .list ds=>decide (0<ds.length)&&rowD (ds.getD 0 .none)&&decide (0<(zb2 (ds.getD 0 .none)).length)
 | _=>false
theorem zw2{v:V}{d:PyData}(h:ShV H v d)(e:rowD d=true):∃ (a:Addr) (ts:List Addr) (ds:List PyData),v=.ref a/\d=.list ds/\H a=some (.lst (ts.map V.ref))/\ts.length=ds.length/\(∀ (i:Nat) t x,ts[i]?=some t->(rowF d)[i]?=some x->H t=some (.tup [.int x.1,.int x.2.1,.int x.2.2]))/\∀ x∈rowF d,0<=x.2.1/\x.2.1<=x.1/\1<=x.2.2:=by
 cases h
 case lst a xs ds e1 l=>
  have e:(ds.all zq6&&incD ds)=true:=e
  have ea:=zcn6.mp (Bool.and_eq_true_iff.mp e).1
  have key:∀ {xs:List V}{ds:List PyData},ShL H xs ds->(∀ d∈ds,zq6 d=true)->∃ ts:List Addr,xs=ts.map V.ref/\(∀ (i:Nat) t x,ts[i]?=some t->(ds.map triD)[i]?=some x->H t=some (.tup [.int x.1,.int x.2.1,.int x.2.2]))/\∀ x∈ds.map triD,0<=x.2.1/\x.2.1<=x.1/\1<=x.2.2:=fun {xs ds} l ea=>by
   induction ds generalizing xs with
   | nil=>cases l;exact⟨[],rfl,fun i t x h=>by simp at h,fun x h=>by cases h⟩
   | cons d ds ih=>
    cases l with
    | cons h1 l=>
     obtain⟨ts,rfl,k1,k2⟩:=ih l fun d hd=>ea d (.tail _ hd)
     obtain⟨t,i,j,w,rfl,ht,rfl,hj1,hj2,hw⟩:=zav0 h1 (ea _ (.head _))
     refine⟨t :: ts,rfl,fun n t' x g1 g2=>?_,fun x hx=>?_⟩
     ·match n with
      | 0=>cases g1;cases g2;exact ht
      | n+1=>exact k1 n t' x g1 g2
     ·rcases zcm9.mp hx with rfl|hx
      ·exact⟨hj1,hj2,hw⟩
      ·exact k2 x hx
  obtain⟨ts,rfl,k1,k2⟩:=key l ea
  exact⟨a,ts,ds,rfl,rfl,e1,by have:=l.len;rwa [zcl9] at this,k1,k2⟩
 all_goals simp[rowD] at e
theorem ze2(ds:List PyData):(rowF (.list ds)).length=ds.length:=by unfold rowF;rw[zcl9];rfl
@[irreducible] def zl5:Sp:=fun vs H Q _=>∃ (v:V) (d:PyData),vs=[v]/\ShV H v d/\sml d=true/\∀ H',Same H H'->Q (.bl (zf9 d)) H'
theorem zai1{v:V}{d:PyData}(h:ShV H v d)(hs:sml d=true)(q:∀ H',Same H H'->Q (.bl (zf9 d)) H'):zl5 [v] H Q E:=by unfold zl5;exact⟨v,d,rfl,h,hs,q⟩
theorem zbi8(F:Fun K "begins" "begins" zaj5 f fd)(N:Nm mg)(zci6:Def P w K mg base CX0 5 "is_row" ["row"] zm2):FnOk P w K mg base CX0 6 f fd ["stream"] zl5:=by
 refine F.ok zbp6 (fun vs H Q E h=>by unfold zl5 at h;obtain⟨_,_,rfl,_⟩:=h;rfl) fun _ _ _ s H vs Q E hr h=>?_
 unfold zl5 at h
 obtain⟨v,d,rfl,h,hs,q⟩:=h
 have hu:=hu40 hr
 refine⟨_,(za5 (za9 (zl0 (pB (zae3 (K:=K) rfl) N.isinstance_ zc5 (za0 (pq 0) (za0 (pTy N.list_ zt7) za1))) (zl0 (peC oGt (pB (zm1 (K:=K) rfl) N.len_ zg1 (za0 (pq 0) za1)) za2) (zl0 (pD zci6 hr zb3 (za0 (zb4 (K:=K) rfl (pq 0) za2) za1)) (zk6 (peC oGt (pB (zm1 (K:=K) rfl) N.len_ zg1 (za0 (zb4 (K:=K) rfl (pq 0) za2) za1)) za2))))))),?_⟩
 refine zp1 h (.inr (.inr (.inl rfl))) ?_
 cases h
 case lst a xs ds e l=>
  have ll:=l.len
  obtain⟨dl,dm⟩:=zn0 hs
  have q:∀ H',Same H H'->Q (.bl (decide (0<ds.length)&&rowD (ds.getD 0 .none)&&decide (0<(zb2 (ds.getD 0 .none)).length))) H':=q
  refine br_T ?_
  refine ze8 e ?_
  rw[ll]
  refine zd6 (fun h0=>?_) (fun h0=>?_)
  ·rw[decide_eq_true (show 0<ds.length by rfl'),zcp9] at q
   obtain⟨x0,ex0⟩:∃ x,xs[0]?=some x:=⟨_,zcm0 (by rfl')⟩
   obtain⟨d0,ed0,hd0⟩:=l.get 0 x0 ex0
   rw[getD_some ed0] at q
   have at0:atI xs 0=some x0:=zg2 (j:=0) ex0
   refine zc2 (v:=x0) e at0 ?_
   refine zbg8 hd0 (dm d0 (zcm6 ed0)) (fun H1 s1=>?_)
   cases er:rowD d0
   ·have q:=q _ s1
    rw[er] at q
    refine br_F ?_
    ac_nf
    exact q
   ·have q:=q _ s1
    rw[er,zcp9] at q
    obtain⟨b,ts,es,rfl,rfl,hb,hl,_⟩:=zw2 hd0 er
    refine br_T ?_
    refine zc2 (v:=.ref b) (s1 _ _ e) at0 ?_
    refine ze8 (s1 _ _ hb) ?_
    rw[zcl9,hl]
    ac_nf
    have ed:decide ((es.length:Int)>0)=decide (0<(zb2 (.list es)).length):=decide_eq_decide.mpr (by show (es.length:Int)>0↔0<es.length;omega)
    first|(rw[← ed] at q;exact q)|exact q
  ·have q:=q _ (Same.refl _)
   rw[decide_eq_false (show ¬ 0<ds.length by rfl')] at q
   ac_nf
   exact q
 all_goals (ac_nf;refine br_F ?_;ac_nf;exact q _ (Same.refl _))
def zw6(a b:PyData):Bool:=eqDI (sumG ((rowF a).map fun z=>(z.1 - z.2.1,z.2.2))) (sumG ((rowF b).map fun z=>(z.1,z.2.2)))
@[irreducible] def zs6:Sp:=fun vs H Q _=>∃ (v u:V) (d e:PyData),vs=[v,u]/\ShV H v d/\ShV H u e/\rowD d=true/\rowD e=true/\(zb2 d).length<=1000/\(zb2 e).length<=1000/\∀ H',Same H H'->Q (.bl (zw6 d e)) H'
theorem zbm2{v u:V}{d e:PyData}(hv:ShV H v d)(hu:ShV H u e)(rd:rowD d=true)(re:rowD e=true)(ld:(zb2 d).length<=1000)(le:(zb2 e).length<=1000)(q:∀ H',Same H H'->Q (.bl (zw6 d e)) H'):zs6 [v,u] H Q E:=by unfold zs6;exact⟨v,u,d,e,rfl,hv,hu,rd,re,ld,le,q⟩
theorem zbs6(F:Fun K "meets" "meets" zax4 f fd)(N:Nm mg)(zch2:Def P w K mg base CX0 1 "summed" ["pairs"] zh0):FnOk P w K mg base CX0 2 f fd ["ahead","row"] zs6:=by
 refine F.ok zaz5 (fun vs H Q E h=>by unfold zs6 at h;obtain⟨_,_,_,_,rfl,_⟩:=h;rfl) fun _ _ _ s H vs Q E hr h=>?_
 unfold zs6 at h
 obtain⟨v,u,d,e,rfl,hv,hu',rd,re,ld,le,q⟩:=h
 have hu:=hu40 hr
 obtain⟨a,ts,ds,rfl,rfl,ha,hl,hp,_⟩:=zw2 hv rd
 obtain⟨b,us,es,rfl,rfl,hb,hl',hp',_⟩:=zw2 hu' re
 have ld:ds.length<=1000:=ld
 have le:es.length<=1000:=le
 refine⟨_,(za3 (psS (i:=2) zaz5.nd (pD zch2 hr zb3 (za0 (zd5 (N:=["left","sent","flow"]) (ks:=[none,none,none]) (zf8 (K:=K) rfl (pq 0)) (fun _ _ _ _ _=>(zi4 (K:=K) (n:=3) rfl rfl (zb0 (za7 (i:=0) nb_8 rfl (by eq_refl)) (zb0 (za7 (i:=1) nb_8 rfl (by eq_refl)) (zb0 (za7 (i:=2) nb_8 rfl (by eq_refl)) zi2))))) (fun _ _ _ _ _=>zc6) (fun _ _ _ _ _=>(zq2 (za0 (zb8 oSub (pq 0) (pq 1)) (za0 (pq 2) za1)))) (.skip (.skip (.skip .nil)))) za1)))
   (za5 (za9 (peC (zar2 (K:=K) rfl (by exact hu)) (pq 2) (pD zch2 hr zb3 (za0 (zd5 (N:=["left","sent","flow"]) (ks:=[none,none,none]) (zf8 (K:=K) rfl (pq 1)) (fun _ _ _ _ _=>(zi4 (K:=K) (n:=3) rfl rfl (zb0 (za7 (i:=0) nb_8 rfl (by eq_refl)) (zb0 (za7 (i:=1) nb_8 rfl (by eq_refl)) (zb0 (za7 (i:=2) nb_8 rfl (by eq_refl)) zi2))))) (fun _ _ _ _ _=>zc6) (fun _ _ _ _ _=>(zq2 (za0 (pq 0) (za0 (pq 2) za1)))) (.skip (.skip (.skip .nil)))) za1)))))),?_⟩
 refine zb9 ha ?_
 refine zas7 (Wk.list (SqL.of ha)) (by rw[zcl9,zcv5];omega) (fun i=>.tup [.int (((rowF (.list ds)).getD i (0,0,0)).1 - ((rowF (.list ds)).getD i (0,0,0)).2.1),.int ((rowF (.list ds)).getD i (0,0,0)).2.2]) (fun j σ=>∃ t u w:Option V,σ=[t,u,w]) ⟨none,none,none,rfl⟩ ?_ ?_
 ·rintro i x σ I R S hi s1 hx ⟨_,_,_,rfl⟩ k
  rw[zcl9] at hi
  rw[zcm5] at hx
  obtain⟨t,et,rfl⟩:=zcm7.mp hx
  obtain⟨z,ez⟩:∃ z,(rowF (.list ds))[i]?=some z:=⟨_,zcm0 (by rw[ze2];omega)⟩
  rw[show (rowF (.list ds)).getD i (0,0,0)=z by rw[zcm4,ez];rfl] at k
  refine zd0 (s1 _ _ (hp i t z et ez)) ?_
  refine br_T ?_
  refine zf2 (fun p I1 f1 r1 k1=>?_)
  ac_nf
  exact k _ _ _ f1 r1 k1 ⟨_,_,_,rfl⟩
 rintro l1 ps1 H1 F1
 rw[zcl9] at F1
 refine zx7 (zs:=(rowF (.list ds)).map fun z=>(z.1 - z.2.1,z.2.2)) F1.out (by rw[F1.len,zcl9,ze2];exact hl) (by rw[zcl9,ze2];omega) (fun i t z g1 g2=>?_) (fun r2 H2 f2 s2 h2=>?_)
 ·rw[zcm5] at g2
  obtain⟨y,ey,rfl⟩:=zcm7.mp g2
  have:=(F1.row i t g1).2
  rw[show (rowF (.list ds)).getD i (0,0,0)=y by rw[zcm4,ey];rfl] at this
  exact this
 have hb2:=s2 _ _ (F1.same _ _ hb)
 refine zb9 hb2 ?_
 refine zas7 (Wk.list (SqL.of hb2)) (by rw[zcl9,zcv5];omega) (fun i=>.tup [.int ((rowF (.list es)).getD i (0,0,0)).1,.int ((rowF (.list es)).getD i (0,0,0)).2.2]) (fun j σ=>∃ t u w:Option V,σ=[t,u,w]) ⟨none,none,none,rfl⟩ ?_ ?_
 ·rintro i x σ I R S hi s1 hx ⟨_,_,_,rfl⟩ k
  rw[zcl9] at hi
  rw[zcm5] at hx
  obtain⟨t,et,rfl⟩:=zcm7.mp hx
  obtain⟨z,ez⟩:∃ z,(rowF (.list es))[i]?=some z:=⟨_,zcm0 (by rw[ze2];omega)⟩
  rw[show (rowF (.list es)).getD i (0,0,0)=z by rw[zcm4,ez];rfl] at k
  refine zd0 (s1 _ _ (s2 _ _ (F1.same _ _ (hp' i t z et ez)))) ?_
  refine br_T ?_
  refine zf2 (fun p I1 f1 r1 k1=>?_)
  ac_nf
  exact k _ _ _ f1 r1 k1 ⟨_,_,_,rfl⟩
 rintro l3 ps3 H3 F3
 rw[zcl9] at F3
 refine zx7 (zs:=(rowF (.list es)).map fun z=>(z.1,z.2.2)) F3.out (by rw[F3.len,zcl9,ze2];exact hl') (by rw[zcl9,ze2];omega) (fun i t z g1 g2=>?_) (fun r4 H4 f4 s4 h4=>?_)
 ·rw[zcm5] at g2
  obtain⟨y,ey,rfl⟩:=zcm7.mp g2
  have:=(F3.row i t g1).2
  rw[show (rowF (.list es)).getD i (0,0,0)=y by rw[zcm4,ey];rfl] at this
  exact this
 refine eqD_rd (s4 _ _ (F3.same _ _ h2)) h4 ?_
 ac_nf
 exact q _ (((F1.same.trans s2).trans F3.same).trans s4)
def zbk9(h:Int)(d:PyData):Bool:=(rowF d).all fun z=>decide (z.1=h)
def goneD(d:PyData):Bool:=(rowF d).all fun z=>decide (z.1=z.2.1)
def zad5(ds:List PyData):Bool:=(List.range (ds.length - 1)).all fun i=>zw6 (ds.getD i .none) (ds.getD (i+1) .none)
def zm8(h f:Int)(d:PyData):Bool:=zf9 d&&(decide (((zb2 d).length:Int)=f)&&((zb2 d).all rowD&&(zbk9 h ((zb2 d).getD 0 .none)&&(goneD ((zb2 d).getD ((zb2 d).length - 1) .none)&&zad5 (zb2 d)))))
theorem zba1{α:Type}(g:α->Bool)(xs:List α):(xs.map g).all id=xs.all g:=by rw[zcs2];rfl
theorem zat6(g:Int×Int×Int->Bool):(List.range xs.length).map (fun i=>V.bl (g (xs.getD i (0,0,0))))=(xs.map g).map V.bl:=by
 apply zct6
 intro i
 rw[zcm5,zcm5,zcm5]
 by_cases h:i<xs.length
 ·rw[zcs0 h,zcm0 h]
  simp[h]
 ·rw[zcp7 (by simp;omega),zcp7 (by rfl')]
  rfl
@[irreducible] def zh8:Sp:=fun vs H Q _=>∃ (h f:Int) (v:V) (d:PyData),vs=[.int h,.int f,v]/\ShV H v d/\sml d=true/\∀ H',Same H H'->Q (.bl (zm8 h f d)) H'
theorem zbe1{f:Int}{v:V}{d:PyData}(hv:ShV H v d)(hs:sml d=true)(q:∀ H',Same H H'->Q (.bl (zm8 h f d)) H'):zh8 [.int h,.int f,v] H Q E:=by unfold zh8;exact⟨h,f,v,d,rfl,hv,hs,q⟩
theorem zap6(F:Fun K "is_stream" "is_stream" zt9 f fd)(N:Nm mg)(zci7:Def P w K mg base CX0 6 "begins" ["stream"] zl5)(zci6:Def P w K mg base CX0 5 "is_row" ["row"] zm2)(zcl2:Def P w K mg base CX0 2 "meets" ["ahead","row"] zs6):FnOk P w K mg base CX0 7 f fd ["hosts","fields","stream"] zh8:=by
 refine F.ok zq3 (fun vs H Q E h=>by unfold zh8 at h;obtain⟨_,_,_,_,rfl,_⟩:=h;rfl) fun _ _ _ s H vs Q E hr h=>?_
 unfold zh8 at h
 obtain⟨h,f,v,d,rfl,hv,hs,q⟩:=h
 have hu:=hu40 hr
 refine⟨_,(za3 (psIf (ptW (pwOr (zh4 (ptV (pD zci7 hr zb3 (za0 (pq 2) za1)))) (pwOr (ptC (oNeXK (K:=K) rfl (by exact hu)) (pB (zm1 (K:=K) rfl) N.len_ zg1 (za0 (pq 2) za1)) (pq 1)) (zz5 (zh4 (ptV (pB (zae5 (K:=K) rfl rfl) N.all_ zq8 (za0 (zd5 (N:=["row"]) (ks:=[none]) (zf8 (K:=K) rfl (pq 2)) (fun _ _ _ _ _=>(za7 (i:=0) nb_9 rfl (by eq_refl))) (fun _ _ _ _ _=>zc6) (fun _ _ _ _ _=>(pD zci6 hr zb3 (za0 (pq 0) za1))) (.skip .nil)) za1)))))))) (za5 (za9 zab6)) zc0)
   (za3 (psS (i:=3) zq3.nd (pB (zae5 (K:=K) rfl rfl) N.all_ zq8 (za0 (zd5 (N:=["left","sent","flow","hosts"]) (ks:=[none,none,none,some 0]) (zf8 (K:=K) rfl (zb4 (K:=K) rfl (pq 2) za2)) (fun _ _ _ _ _=>(zi4 (K:=K) (n:=3) rfl rfl (zb0 (za7 (i:=0) nb_10 rfl (by eq_refl)) (zb0 (za7 (i:=1) nb_10 rfl (by eq_refl)) (zb0 (za7 (i:=2) nb_10 rfl (by eq_refl)) zi2))))) (fun _ _ _ _ _=>zc6) (fun _ _ _ _ _=>(peC (zar2 (K:=K) rfl (by exact hu)) (pq 0) (pq 3))) (.skip (.skip (.skip (.take rfl rfl (by eq_refl) .nil))))) za1)))
   (za3 (psS (i:=4) zq3.nd (pB (zae5 (K:=K) rfl rfl) N.all_ zq8 (za0 (zd5 (N:=["left","sent","flow"]) (ks:=[none,none,none]) (zf8 (K:=K) rfl (zb4 (K:=K) rfl (pq 2) (zbc4 uNeg za2))) (fun _ _ _ _ _=>(zi4 (K:=K) (n:=3) rfl rfl (zb0 (za7 (i:=0) nb_11 rfl (by eq_refl)) (zb0 (za7 (i:=1) nb_11 rfl (by eq_refl)) (zb0 (za7 (i:=2) nb_11 rfl (by eq_refl)) zi2))))) (fun _ _ _ _ _=>zc6) (fun _ _ _ _ _=>(peC (zar2 (K:=K) rfl (by exact hu)) (pq 0) (pq 1))) (.skip (.skip (.skip .nil)))) za1)))
   (za5 (za9 (zl0 (pq 3) (zl0 (pq 4) (zk6 (pB (zae5 (K:=K) rfl rfl) N.all_ zq8 (za0 (zd5 (N:=["ahead","row"]) (ks:=[none,none]) (zby3 (K:=K) rfl N.zip_ (za0 (pq 2) (za0 (zm4 (slXK (K:=K) rfl) (pq 2) (zz6 za2) zs0) za1))) (fun _ _ _ _ _=>(zi4 (K:=K) (n:=2) rfl rfl (zb0 (za7 (i:=0) nb_12 rfl (by eq_refl)) (zb0 (za7 (i:=1) nb_12 rfl (by eq_refl)) zi2)))) (fun _ _ _ _ _=>zc6) (fun _ _ _ _ _=>(pD zcl2 hr zb3 (za0 (pq 0) (za0 (pq 1) za1)))) (.skip (.skip .nil))) za1)))))))))),?_⟩
 refine zai1 hv hs (fun H1 s1=>?_)
 unfold zm8 at q
 cases eb:zf9 d
 ·have q:=q _ s1
  rw[eb] at q
  refine zc1 (br_F ?_)
  refine br_T ?_
  ac_nf
  exact q
 cases hv
 case lst a xs ds e l=>
  have q:∀ H',Same H H'->Q (.bl (true&&(decide ((ds.length:Int)=f)&&(ds.all rowD&&(zbk9 h (ds.getD 0 .none)&&(goneD (ds.getD (ds.length - 1) .none)&&zad5 ds)))))) H':=fun H' s'=>by
   have q:=q H' s'
   rw[eb] at q
   exact q
  have ll:=l.len
  obtain⟨dl,dm⟩:=zn0 hs
  have d0:0<ds.length:=by
   have eb:(decide (0<ds.length)&&rowD (ds.getD 0 .none)&&decide (0<(zb2 (ds.getD 0 .none)).length))=true:=eb
   rw[zcn2,zcn2] at eb
   exact of_decide_eq_true eb.1.1
  have e1:=s1 _ _ e
  refine zc1 (br_T ?_)
  refine ze8 e1 ?_
  rw[ll]
  refine zc1 (zd6 (fun hf=>?_) (fun hf=>?_))
  ·rw[decide_eq_true hf,zcp9,zcp9] at q
   refine zb9 e1 ?_
   refine zk7 (Wk.list (SqL.of e1)) (by rw[zcv5];omega) (fun i=>.bl (rowD (ds.getD i .none))) (fun _=>true) (fun j σ=>∃ t:Option V,σ=[t]) ⟨none,rfl⟩ ?_ ?_
   ·rintro j x σ H2 R S hj s2 hx ⟨t,rfl⟩ k _
    obtain⟨d,ed,hd⟩:=l.get j x hx
    refine br_T ?_
    refine zbg8 (hd.same (s1.trans s2)) (dm d (zcm6 ed)) (fun H3 s3=>?_)
    ac_nf
    rw[← getD_some ed]
    exact k rfl _ _ s3 ⟨_,rfl⟩
   intro acc H2 f2 s2 h2
   rw[ze1,ll,zo6 rowD] at h2
   have s02:=s1.trans s2
   refine zs2 h2 ?_
   rw[zw5]
   cases ea:ds.all rowD
   ·have q:=q _ s02
    rw[ea] at q
    refine zc1 (br_F ?_)
    ac_nf
    exact q
   have ea':∀ d∈ds,rowD d=true:=zcn6.mp ea
   rw[ea,zcp9] at q
   refine zc1 (br_T ?_)
   obtain⟨x0,ex0⟩:∃ x,xs[0]?=some x:=⟨_,zcm0 (by rfl')⟩
   obtain⟨d0',ed0,hd0⟩:=l.get 0 x0 ex0
   have m0:=dm d0' (zcm6 ed0)
   obtain⟨r0,ts0,es0,rfl,rfl,hr0,hl0,hp0,_⟩:=zw2 hd0 (ea' d0' (zcm6 ed0))
   have b0:=(zn0 m0).1
   rw[getD_some ed0] at q
   have e2:=s2 _ _ e1
   refine zc2 (v:=.ref r0) e2 (zg2 (j:=0) ex0) ?_
   refine zb9 (s02 _ _ hr0) ?_
   refine zk7 (Wk.list (SqL.of (s02 _ _ hr0))) (by rw[zcl9,zcv5];omega) (fun i=>.bl (decide (((rowF (.list es0)).getD i (0,0,0)).1=h))) (fun _=>true) (fun j σ=>∃ t u w:Option V,σ=[t,u,w,some (.int h)]) ⟨none,none,none,rfl⟩ ?_ ?_
   ·rintro i x σ I R S hi s3 hx ⟨_,_,_,rfl⟩ k _
    rw[zcl9] at hi
    rw[zcm5] at hx
    obtain⟨t,et,rfl⟩:=zcm7.mp hx
    obtain⟨z,ez⟩:∃ z,(rowF (.list es0))[i]?=some z:=⟨_,zcm0 (by rw[ze2];omega)⟩
    rw[show (rowF (.list es0)).getD i (0,0,0)=z by rw[zcm4,ez];rfl] at k
    refine zd0 (s3 _ _ (s02 _ _ (hp0 i t z et ez))) ?_
    refine br_T ?_
    ac_nf
    exact k rfl _ _ (Same.refl _) ⟨_,_,_,rfl⟩
   intro acc3 H3 f3 s3 h3
   rw[ze1,zcl9,hl0,← ze2 es0,zat6 fun z=>decide (z.1=h)] at h3
   refine zs2 h3 ?_
   rw[zba1]
   obtain⟨x1,ex1⟩:∃ x,xs[ds.length - 1]?=some x:=⟨_,zcm0 (by rfl')⟩
   obtain⟨d1',ed1,hd1⟩:=l.get _ x1 ex1
   have m1:=dm d1' (zcm6 ed1)
   obtain⟨r1,ts1,es1,rfl,rfl,hr1,hl1,hp1,_⟩:=zw2 hd1 (ea' d1' (zcm6 ed1))
   have b1:=(zn0 m1).1
   rw[getD_some ed1] at q
   have s03:=s02.trans s3
   have e3:=s3 _ _ e2
   refine zc2 (v:=.ref r1) e3 (zbj6 (n:=ds.length - 1) (by rfl') ex1) ?_
   refine zb9 (s03 _ _ hr1) ?_
   refine zk7 (Wk.list (SqL.of (s03 _ _ hr1))) (by rw[zcl9,zcv5];omega) (fun i=>.bl (decide (((rowF (.list es1)).getD i (0,0,0)).1=((rowF (.list es1)).getD i (0,0,0)).2.1))) (fun _=>true) (fun j σ=>∃ t u w:Option V,σ=[t,u,w]) ⟨none,none,none,rfl⟩ ?_ ?_
   ·rintro i x σ I R S hi s4 hx ⟨_,_,_,rfl⟩ k _
    rw[zcl9] at hi
    rw[zcm5] at hx
    obtain⟨t,et,rfl⟩:=zcm7.mp hx
    obtain⟨z,ez⟩:∃ z,(rowF (.list es1))[i]?=some z:=⟨_,zcm0 (by rw[ze2];omega)⟩
    rw[show (rowF (.list es1)).getD i (0,0,0)=z by rw[zcm4,ez];rfl] at k
    refine zd0 (s4 _ _ (s03 _ _ (hp1 i t z et ez))) ?_
    refine br_T ?_
    ac_nf
    exact k rfl _ _ (Same.refl _) ⟨_,_,_,rfl⟩
   intro acc4 H4 f4 s4 h4
   rw[ze1,zcl9,hl1,← ze2 es1,zat6 fun z=>decide (z.1=z.2.1)] at h4
   refine zs2 h4 ?_
   rw[zba1]
   have s04:=s03.trans s4
   have e4:=s4 _ _ e3
   have q:∀ H',Same H H'->Q (.bl ((rowF (.list es0)).all (fun z=>decide (z.1=h))&&((rowF (.list es1)).all (fun z=>decide (z.1=z.2.1))&&zad5 ds))) H':=q
   ac_nf
   cases e5:(rowF (.list es0)).all (fun z=>decide (z.1=h))
   ·have q:=q _ s04
    rw[e5] at q
    refine br_F ?_
    ac_nf
    exact q
   rw[e5,zcp9] at q
   refine br_T ?_
   ac_nf
   cases e6:(rowF (.list es1)).all (fun z=>decide (z.1=z.2.1))
   ·have q:=q _ s04
    rw[e6] at q
    refine br_F ?_
    ac_nf
    exact q
   rw[e6,zcp9] at q
   refine br_T ?_
   refine zai0 (SqL.of e4) (fun p5 H5 f5 s5 h5=>?_)
   rw[zaa8 (by rfl')] at h5
   have s05:=s04.trans s5
   refine zbx0 (SqL.of (s5 _ _ e4)) (SqL.of h5) ?_
   refine zk7 (Wk.zipN (n:=ds.length - 1) (SqL.of (s5 _ _ e4)) (SqL.of h5) (by rfl') (by rw[zcr7];show _<=_ - 1;omega) (.inr (by rw[zcr7,ll];rfl))) (by rw[zcv5];omega) (fun i=>.bl (zw6 (ds.getD i .none) (ds.getD (i+1) .none))) (fun _=>true) (fun j σ=>∃ t u:Option V,σ=[t,u]) ⟨none,none,rfl⟩ ?_ ?_
   ·rintro j v σ H6 R S hj s6 ⟨p,x,y,rfl,hp,hx,hy⟩ ⟨t,u,rfl⟩ k _
    rw[List.getElem?_drop,show (1:Int).toNat+j=j+1 by show 1+j=j+1;omega] at hy
    obtain⟨d,ed,hd⟩:=l.get j x hx
    obtain⟨d',ed',hd'⟩:=l.get (j+1) y hy
    have s06:=s05.trans s6
    rw[getD_some ed,getD_some ed'] at k
    have il:∀ {d:PyData},sml d=true->rowD d=true->(zb2 d).length<=1000:=fun {d} m r=>by
     cases d with
     | list es=>exact (zn0 m).1
     | _=>simp[rowD] at r
    have rd:=ea' d (zcm6 ed)
    have rd':=ea' d' (zcm6 ed')
    refine zd0 hp ?_
    refine br_T ?_
    refine zbm2 (hd.same s06) (hd'.same s06) rd rd' (il (dm d (zcm6 ed)) rd) (il (dm d' (zcm6 ed')) rd') (fun H7 s7=>?_)
    ac_nf
    exact k rfl _ _ s7 ⟨_,_,rfl⟩
   intro acc6 H6 f6 s6 h6
   rw[ze1] at h6
   have h6:H6 acc6=some (.lst (((List.range (ds.length - 1)).map fun i=>zw6 (ds.getD i .none) (ds.getD (i+1) .none)).map V.bl)):=by rw[h6,zco0];rfl
   refine zs2 h6 ?_
   rw[zcs2]
   exact q _ (s05.trans s6)
  ·have q:=q _ s1
   rw[decide_eq_false hf] at q
   refine br_T ?_
   ac_nf
   exact q
 all_goals simp[zf9] at eb
structure RwAt(H:Hp)(p:Addr)(bs:List Addr)(xs:List (Int×Int×Int)):Prop where
 out:H p=some (.lst (bs.map V.ref))
 len:bs.length=xs.length
 row:∀ (i:Nat) b x,bs[i]?=some b->xs[i]?=some x->H b=some (.tup [.int x.1,.int x.2.1,.int x.2.2])
theorem RwAt.same{p:Addr}{bs:List Addr}(R:RwAt H p bs xs)(s:Same H H'):RwAt H' p bs xs:=⟨s _ _ R.out,R.len,fun i b x e1 e2=>s _ _ (R.row i b x e1 e2)⟩
def flw(ms:List (List Int×Int))(i:Nat):List ((Int×Int)×Int):=ms.map fun x=>(((x.1.drop i).sum,x.1.getD i 0),x.2)
def keyT(z:Int×Int×Int):Int×Int:=(z.1,z.2.1)
def zt0(ms:List (List Int×Int))(i:Nat)(xs:List (Int×Int×Int)):Prop:=OrdK (xs.map keyT)/\(∀ k,k∈xs.map keyT↔k∈(sumG (flw ms i)).map (·.1))/\∀ z∈xs,valG (sumG (flw ms i)) (keyT z)=some z.2.2
theorem zay2{κ:Type}[DecidableEq κ]{k:κ}:∀ {kv:List (κ×Int)},k∈kv.map (·.1)->∃ n,valG kv k=some n
 | [],h=>by cases h
 | z :: kv,h=>by
  by_cases e:z.1=k
  ·exact⟨z.2,zk9 e⟩
  ·rw[zk8 e]
   rw[zcn9] at h
   rcases zcm9.mp h with h|h
   ·exact absurd h.symm e
   ·exact zay2 h
@[irreducible] def zo1:Sp:=fun vs H Q _=>∃ (m:Addr) (ts:List (Addr×Addr)) (ms:List (List Int×Int)) (i:Nat),vs=[.ref m,.int i]/\zd1 H m ts ms/\ms.length<64/\(∀ x∈ms,i<x.1.length/\x.1.length<=1000)/\∀ r bs xs H',Same H H'->RwAt (nw H H') r bs xs->zt0 ms i xs->xs.length<=ms.length->Q (.ref r) H'
theorem zbq3(M:zd1 H m ts ms)(hl:ms.length<64)(hi:∀ x∈ms,i<x.1.length/\x.1.length<=1000)(q:∀ r bs xs H',Same H H'->RwAt (nw H H') r bs xs->zt0 ms i xs->xs.length<=ms.length->Q (.ref r) H'):zo1 [.ref m,.int i] H Q E:=by unfold zo1;exact⟨m,ts,ms,i,rfl,M,hl,hi,q⟩
theorem zbi2(F:Fun K "row_of" "row_of" zaj3 f fd)(N:Nm mg)(zch2:Def P w K mg base CX0 1 "summed" ["pairs"] zh0):FnOk P w K mg base CX0 2 f fd ["mix","field"] zo1:=by
 refine F.ok zap2 (fun vs H Q E h=>by unfold zo1 at h;obtain⟨_,_,_,_,rfl,_⟩:=h;rfl) fun _ _ _ s H vs Q E hr h=>?_
 unfold zo1 at h
 obtain⟨m,ts,ms,i,rfl,M,hl,hi,q⟩:=h
 have hu:=hu40 hr
 have ml:=M.len
 refine⟨_,(za3 (psS (i:=2) zap2.nd (pD zch2 hr zb3 (za0 (zd5 (N:=["plan","weight","field"]) (ks:=[none,none,some 1]) (zf8 (K:=K) rfl (pq 0)) (fun _ _ _ _ _=>(zi4 (K:=K) (n:=2) rfl rfl (zb0 (za7 (i:=0) nb_14 rfl (by eq_refl)) (zb0 (za7 (i:=1) nb_14 rfl (by eq_refl)) zi2)))) (fun _ _ _ _ _=>zc6) (fun _ _ _ _ _=>(zq2 (za0 (zq2 (za0 (pB (zau1 (K:=K) rfl rfl) N.sum_ zz8 (za0 (zm4 (slXK (K:=K) rfl) (pq 0) (zz6 (pq 2)) zs0) za1)) (za0 (zb4 (K:=K) rfl (pq 0) (pq 2)) za1))) (za0 (pq 1) za1)))) (.skip (.skip (.take rfl rfl (by eq_refl) .nil)))) za1)))
   (za5 (za9 (zd5 (N:=["left","sent","flows"]) (ks:=[none,none,some 2]) (zf8 (K:=K) rfl (pB (cSortO rfl) N.sorted_ zan8 (za0 (pq 2) za1))) (fun _ _ _ _ _=>(zi4 (K:=K) (n:=2) rfl rfl (zb0 (za7 (i:=0) nb_15 rfl (by eq_refl)) (zb0 (za7 (i:=1) nb_15 rfl (by eq_refl)) zi2)))) (fun _ _ _ _ _=>zc6) (fun _ _ _ _ _=>(zq2 (za0 (pq 0) (za0 (pq 1) (za0 (peDGet (by exact hu) (pq 2) (zq2 (za0 (pq 0) (za0 (pq 1) za1)))) za1))))) (.skip (.skip (.take rfl rfl (by eq_refl) .nil))))))),?_⟩
 refine zb9 M.out ?_
 refine zbf3 (Wk.list (SqL.of M.out)) (by rw[zcl9,zcv5];omega) (fun acc j ys σ I=>∃ (t u:Option V) (qs:List (Addr×Addr)),σ=[t,u,some (.int i)]/\ys=(qs.map fun t=>V.ref t.1)/\qs.length=j/\∀ (k:Nat) q x,qs[k]?=some q->ms[k]?=some x->rm acc I q.1=some (.tup [.ref q.2,.int x.2])/\rm acc I q.2=some (.tup (pV ((x.1.drop i).sum,x.1.getD i 0)))) ?_ ?_ ?_ ?_
 ·intro acc I f1 s1 h1
  exact⟨none,none,[],rfl,rfl,rfl,fun k q x e=>by simp at e⟩
 ·rintro acc j ys σ I I' s' ⟨t,u,qs,r1,r2,r3,r5⟩
  exact⟨t,u,qs,r1,r2,r3,fun k q x e1 e2=>⟨Same.rm s' _ _ (r5 k q x e1 e2).1,Same.rm s' _ _ (r5 k q x e1 e2).2⟩⟩
 ·rintro acc j v ys σ I R S hj facc s1 hacc hx ⟨t',u',qs,rfl,rfl,ql,qp⟩ kR _
  obtain⟨t,x,rfl,e1,e2,e3,e4⟩:=(M.same s1).elt hx
  obtain⟨ix,il⟩:=hi x (zcm6 e2)
  refine zd0 e3 ?_
  refine br_T ?_
  refine zai0 (SqL.of e4) (fun p0 I0 f0 r0 k0=>?_)
  rw[zaa8 (by rfl'),Int.toNat_natCast,← List.map_drop] at k0
  refine zab3 k0 ?_
  refine zc2 (v:=.int (x.1.getD i 0)) (r0 _ _ e4) (int_at (by rfl') (by rw[Int.toNat_natCast,zcm4,zcm0 ix];rfl)) ?_
  refine zf2 (fun p1 I1 f1 r1 k1=>?_)
  refine zf2 (fun p2 I2 f2 r2 k2=>?_)
  ac_nf
  have n1:p1≠acc:=Ne.symm (za4 (r0 _ _ hacc) f1)
  have n2:p2≠acc:=Ne.symm (za4 ((r0.trans r1) _ _ hacc) f2)
  have r12:=(r0.trans r1).trans r2
  refine kR _ _ _ r12 (fun I3 c3=>⟨_,_,qs++[(p2,p1)],rfl,by rw[zco1];rfl,by rw[zcn1,ql];rfl,fun k q y g1 g2=>?_⟩)
  by_cases hk:k<qs.length
  ·rw[zco2 hk] at g1
   have w:=qp k q y g1 g2
   have up:Same (rm acc I) (rm acc I3):=(Same.rm r12).trans (Chg.rm c3)
   exact⟨up _ _ w.1,up _ _ w.2⟩
  ·rw[zco5 (by rfl')] at g1
   have k0':k - qs.length=0:=by
    have:=(zcm1.mp g1).1
    simp at this;omega
   rw[k0'] at g1
   cases g1
   have:k=j:=by rfl'
   subst this
   rw[e2] at g2
   cases g2
   exact⟨Chg.rm c3 _ _ (zu2 n2 k2),Chg.rm c3 _ _ (zu2 n1 (r2 _ _ k1))⟩
 rintro acc ys σ H1 facc s1 hacc ⟨t',u',qs,rfl,rfl,ql,qp⟩
 rw[zcl9] at ql
 refine zbe8 (zs:=flw ms i) hacc (by unfold flw;rw[zcl9];omega) (by unfold flw;rw[zcl9];omega) (fun k t z g1 g2=>?_) (fun r2 H2 f2 s2 h2=>?_)
 ·unfold flw at g2
  rw[zcm5] at g2
  obtain⟨x,ex,rfl⟩:=zcm7.mp g2
  exact⟨zn1 acc H1 _ _ (qp k t x g1 ex).1,zn1 acc H1 _ _ (qp k t x g1 ex).2⟩
 have sl:(sumG (flw ms i)).length<=ms.length:=by have:=zam3 (flw ms i);unfold flw at this ⊢;rw[zcl9] at this;exact this
 have h2':H2 r2=some (.dT (((sumG (flw ms i)).map fun z=>(z.1,V.int z.2)).map fun z=>(pK z.1,z.2))):=by rw[h2,zco0];rfl
 refine soO_rd h2' (by rw[zcl9];omega) (fun p3 H3 bs ks f3 s3 pm od pr h3=>?_)
 have pm:ks.Perm ((sumG (flw ms i)).map (·.1)):=by rw[zco0] at pm;exact pm
 have bl:bs.length=ks.length:=pr.length
 have kl:ks.length<=ms.length:=by have:=pm.length_eq;rw[zcl9] at this;omega
 have eg:∀ x∈ks,valG (sumG (flw ms i)) x=some ((valG (sumG (flw ms i)) x).getD 0):=fun x hx=>by
  obtain⟨n,e⟩:=zay2 (pm.mem_iff.mp hx)
  rw[e];rfl
 refine zb9 h3 ?_
 refine zas7 (n:=(bs.map V.ref).length) (Wk.list (SqL.of h3)) (by rw[zcl9,zcv5];omega) (fun j=>.tup [.int (ks.getD j (0,0)).1,.int (ks.getD j (0,0)).2,.int ((valG (sumG (flw ms i)) (ks.getD j (0,0))).getD 0)]) (fun j σ=>∃ t u:Option V,σ=[t,u,some (.ref r2)]) ⟨none,none,rfl⟩ ?_ ?_
 ·rintro j v σ H4 R' S' hj s4 hx ⟨t,u,rfl⟩ k
  rw[zcm5] at hx
  obtain⟨b,eb,rfl⟩:=zcm7.mp hx
  obtain⟨x,ex⟩:∃ x,ks[j]?=some x:=⟨ks[j]'(by have:=(zcm1.mp eb).1;omega),zcm0 _⟩
  have eb':=s4 _ _ (zap9 pr j b x eb ex)
  rw[show ks.getD j (0,0)=x by rw[zcm4,ex];rfl] at k
  have h4:=s4 _ _ (s3 _ _ h2)
  refine zd0 eb' ?_
  refine br_T ?_
  refine zf2 (fun p5 H5 f5 s5 h5=>?_)
  refine dgT_rd (s5 _ _ h4) (k:=pK x) h5 (by rw[zad1 zat9,eg x (zcm6 ex)];rfl) ?_
  refine zf2 (fun pa Ha fa sa ha=>?_)
  ac_nf
  exact k _ _ _ (s5.free fa) (s5.trans sa) ha ⟨_,_,rfl⟩
 ·intro acc4 ps H4 F4
  rw[zcl9] at F4
  have F4l:=F4.len
  have s03:=(s1.trans s2).trans s3
  ac_nf
  refine q acc4 ps (ks.map fun x=>(x.1,x.2,(valG (sumG (flw ms i)) x).getD 0)) H4 (s03.trans F4.same) ⟨zu8 (s03.free F4.facc) F4.out,by rw[zcl9];omega,fun j b x e1 e2=>?_⟩ ?_ (by rw[zcl9];exact kl)
  ·rw[zcm5] at e2
   obtain⟨y,ey,rfl⟩:=zcm7.mp e2
   obtain⟨z1,z2⟩:=F4.row j b e1
   rw[show ks.getD j (0,0)=y by rw[zcm4,ey];rfl] at z2
   exact zu8 (s03.free z1) z2
  ·have em:(ks.map fun x=>(x.1,x.2,(valG (sumG (flw ms i)) x).getD 0)).map keyT=ks:=by
    rw[zco0]
    exact (zcn7 fun x _=>rfl).trans (List.map_id _)
   refine⟨by rw[em];exact od,fun k=>by rw[em];exact pm.mem_iff,fun z hz=>?_⟩
   obtain⟨x,hx,rfl⟩:=zcn5.mp hz
   exact eg x hx
def msD(d:PyData):List (List Int×Int):=(zb2 d).map fun x=>(zag5 (zm6 x),wtD x)
def zp7(d:PyData):Nat:=(zj3 (zb2 d)).length
def zbi0(d:PyData):Int:=(zj3 (zb2 d)).sum
theorem zbr4{v:V}{d:PyData}(h:ShV H v d)(em:mixD d=true):∃ (m:Addr) (ts:List (Addr×Addr)),v=.ref m/\zd1 H m ts (msD d)/\1<=(msD d).length/\(0<=zbi0 d/\zbi0 d<=40)/\(1<=zp7 d/\zp7 d<=8)/\∀ x∈msD d,(∀ n∈x.1,0<=n)/\x.1.length=zp7 d/\x.1.sum=zbi0 d/\1<=x.2:=by
 obtain⟨a,xs,ds,rfl,rfl,e,l,h0,hp⟩:=mix_of h em
 rw[zr5,zcn2,zcn2,zcn2] at em
 obtain⟨⟨⟨_,_⟩,sz⟩,pl⟩:=em
 unfold zr8 at sz
 rw[zcn2,decide_eq_true_eq,decide_eq_true_eq] at sz
 have pl:=zcn6.mp pl
 have key:∀ {xs:List V}{ds:List PyData},ShL H xs ds->(∀ d∈ds,zs9 d=true)->∃ ts:List (Addr×Addr),xs=(ts.map fun t=>V.ref t.1)/\ts.length=ds.length/\∀ (i:Nat) t x,ts[i]?=some t->(ds.map fun x=>(zag5 (zm6 x),wtD x))[i]?=some x->H t.1=some (.tup [.ref t.2,.int x.2])/\H t.2=some (.lst (x.1.map V.int)):=fun {xs ds} l hp=>by
  induction ds generalizing xs with
  | nil=>cases l;exact⟨[],rfl,rfl,fun i t x h=>by simp at h⟩
  | cons d ds ih=>
   cases l with
   | cons h1 l=>
    obtain⟨ts,rfl,tl,k1⟩:=ih l fun d hd=>hp d (.tail _ hd)
    obtain⟨t,p,w,ns,rfl,ht,hp',rfl,nn,hw⟩:=zal9 h1 (hp _ (.head _))
    refine⟨(t,p) :: ts,rfl,by rw[zco4,zco4,tl],fun n t' x g1 g2=>?_⟩
    match n with
    | 0=>
     cases g1
     rw[zcn9,List.getElem?_cons_zero,zo5] at g2
     cases g2
     exact⟨ht,hp'⟩
    | n+1=>exact k1 n t' x g1 g2
 obtain⟨ts,rfl,tl,k1⟩:=key l hp
 refine⟨a,ts,rfl,⟨e,by unfold msD;rw[zcl9];exact tl,k1⟩,by unfold msD;rw[zcl9];show 1<=ds.length;omega,sz.1,⟨by have:=sz.2.1;show 1<=(zj3 ds).length;omega,by have:=sz.2.2;show (zj3 ds).length<=8;omega⟩,fun x hx=>?_⟩
 unfold msD at hx
 obtain⟨d,hd,rfl⟩:=zcn5.mp hx
 obtain⟨ns,w,rfl,nn,hw⟩:=zav3 (hp d hd)
 have p:=pl _ hd
 unfold zv0 at p
 rw[zcn2,zcn2,decide_eq_true_eq,decide_eq_true_eq] at p
 rw[zo5] at p ⊢
 exact⟨nn,by have:=p.1.2;show ns.length=(zj3 ds).length;omega,p.2,hw⟩
structure StAt(H:Hp)(p:Addr)(rs:List (Addr×List Addr))(xss:List (List (Int×Int×Int))):Prop where
 out:H p=some (.lst (rs.map fun r=>V.ref r.1))
 len:rs.length=xss.length
 row:∀ (i:Nat) r xs,rs[i]?=some r->xss[i]?=some xs->RwAt (rm p H) r.1 r.2 xs
 nd:(rs.map (·.1)).Nodup
theorem StAt.same{H H':Hp}{p:Addr}{rs:List (Addr×List Addr)}{xss:List (List (Int×Int×Int))}(R:StAt H p rs xss)(s:Same H H'):StAt H' p rs xss:=⟨s _ _ R.out,R.len,fun i r xs e1 e2=>(R.row i r xs e1 e2).same (Same.rm s),R.nd⟩
def zaw3(ms:List (List Int×Int))(f:Nat)(xss:List (List (Int×Int×Int))):Prop:=xss.length=f/\∀ (i:Nat) xs,xss[i]?=some xs->zt0 ms i xs/\xs.length<=ms.length
@[irreducible] def zh9(zcf7:Addr):Sp:=fun vs H Q E=>∃ (v:V) (d:PyData),vs=[v]/\ShV H v d/\sml d=true/\(mixD d=true->(zb2 d).length<64/\∀ r rs xss H',Same H H'->StAt (nw H H') r rs xss->zaw3 (msD d) (zp7 d) xss->Q (.ref r) H')/\(mixD d=false->∀ H',Same H H'->E (.ref zcf7) none H')
theorem zan6{zcf7:Addr}{v:V}{d:PyData}(h:ShV H v d)(hs:sml d=true)(q:mixD d=true->(zb2 d).length<64/\∀ r rs xss H',Same H H'->StAt (nw H H') r rs xss->zaw3 (msD d) (zp7 d) xss->Q (.ref r) H')(qe:mixD d=false->∀ H',Same H H'->E (.ref zcf7) none H'):zh9 zcf7 [v] H Q E:=by unfold zh9;exact⟨v,d,rfl,h,hs,q,qe⟩
theorem zi9{α:Type}{as:List α}{a b:α}(h:(as++[a])[i]?=some b):(i<as.length/\as[i]?=some b)∨(i=as.length/\b=a):=by
 by_cases hi:i<as.length
 ·rw[zco2 hi] at h
  exact .inl ⟨hi,h⟩
 ·rw[zco5 (by rfl')] at h
  have:i - as.length=0:=by
   have:=(zcm1.mp h).1
   simp at this;omega
  rw[this] at h
  cases h
  exact .inr ⟨by rfl',rfl⟩
theorem zca8{H1 I I1:Hp}{acc r:Addr}{rs:List (Addr×List Addr)}{bs:List Addr}(nd:(rs.map (·.1)).Nodup)(hl:rs.length=xss.length)(rp:∀ (i:Nat) r xs,rs[i]?=some r->xss[i]?=some xs->RwAt (rm acc (nw H1 I)) r.1 r.2 xs)(hr:I r=none):((rs++[(r,bs)]).map (·.1)).Nodup:=by
 rw[zco1,List.nodup_append]
 refine⟨nd,by simp,fun a ha b hb=>?_⟩
 obtain⟨r',hr',rfl⟩:=zcn5.mp ha
 obtain⟨i,ei⟩:=zcp3 hr'
 obtain⟨xs,ex⟩:∃ xs,xss[i]?=some xs:=⟨_,zcm0 (by have:=(zcm1.mp ei).1;omega)⟩
 have o:=zbl2 _ _ _ _ (zn1 _ _ _ _ (rp i r' xs ei ex).out)
 rw[show b=r by simpa using hb]
 exact za4 o hr
theorem zat1(F:Fun K "stream_of" "stream_of" zt6 f fd)(N:Nm mg)(zck1:Def P w K mg base (CXR P w) 6 "look_mix" ["mix"] (zj6 zcf7))(zcl0:Def P w K mg base CX0 2 "row_of" ["mix","field"] zo1):FnOk P w K mg base (CXR P w) 7 f fd ["mix"] (zh9 zcf7):=by
 refine F.okR zar0 (fun vs H Q E h=>by unfold zh9 at h;obtain⟨_,_,rfl,_⟩:=h;rfl) (fun cdv A outer s H vs Q E hr hX h=>?_)
 unfold zh9 at h
 obtain⟨v,d,rfl,h,hs,q,qe⟩:=h
 refine⟨_,(za3 (zn8 (pD zck1 hr (passR hX) (za0 (pq 0) za1)))
   (za5 (za9 (zd5 (N:=["field","mix"]) (ks:=[none,some 0]) (zq0 N.range_ (za0 (pB (zm1 (K:=K) rfl) N.len_ zg1 (za0 (zb4 (K:=K) rfl (zb4 (K:=K) rfl (pq 0) za2) za2) za1)) za1)) (fun _ _ _ _ _=>(za7 (i:=0) nb_16 rfl (by eq_refl))) (fun _ _ _ _ _=>zc6) (fun _ _ _ _ _=>(pD zcl0 hr zb3 (za0 (pq 1) (za0 (pq 0) za1)))) (.skip (.take rfl rfl (by eq_refl) .nil)))))),?_⟩
 refine zar7 h hs (fun em H1 s1=>?_) (fun em H1 s1=>?_)
 ·obtain⟨q1,q⟩:=q em
  obtain⟨m,ts,rfl,M,m1,hh,hf,ok⟩:=zbr4 (h.same s1) em
  have ml:(msD d).length<64:=by unfold msD;rw[zcl9];exact q1
  obtain⟨x0,ex0⟩:∃ x,(msD d)[0]?=some x:=⟨_,zcm0 (by rfl')⟩
  obtain⟨t0,et0,at0,ht0,hp0⟩:=M.ix ex0
  have l0:=(ok x0 (zcm6 ex0)).2.1
  refine zc2 (v:=.ref t0.1) M.out at0 ?_
  refine zb6 (v:=.ref t0.2) ht0 rfl ?_
  refine ze8 hp0 ?_
  rw[zcl9,l0]
  refine zh1 (by rfl') (by rfl') (by rfl') (by rfl') ?_
  refine zbf3 (n:=zp7 d) Wk.range (by rw[zcv5];omega) (fun acc j ys σ I=>∃ (t:Option V) (rs:List (Addr×List Addr)) (xss:List (List (Int×Int×Int))),σ=[t,some (.ref m)]/\ys=(rs.map fun r=>V.ref r.1)/\rs.length=j/\xss.length=j/\(∀ (i:Nat) r xs,rs[i]?=some r->xss[i]?=some xs->RwAt (rm acc (nw H1 I)) r.1 r.2 xs)/\(∀ (i:Nat) xs,xss[i]?=some xs->zt0 (msD d) i xs/\xs.length<=(msD d).length)/\(rs.map (·.1)).Nodup) ?_ ?_ ?_ ?_
  ·intro acc I f1 s2 h1
   exact⟨none,[],[],rfl,rfl,rfl,rfl,fun i r xs e=>by simp at e,fun i xs e=>by simp at e,List.nodup_nil⟩
  ·rintro acc j ys σ I I' s' ⟨t,rs,xss,r1,r2,r3,r4,r5,r6,r7⟩
   exact⟨t,rs,xss,r1,r2,r3,r4,fun i r xs e1 e2=>(r5 i r xs e1 e2).same (Same.rm (nw_up s')),r6,r7⟩
  ·rintro acc j v ys σ I R S hj facc s2 hacc hx ⟨t,rs,xss,rfl,rfl,rl,xl,rp,xp,nd⟩ kR _
   obtain rfl:v=.int j:=by rw[hx,zct5]
   refine br_T ?_
   refine zbq3 (M.same s2) ml (fun x hx=>by have:=(ok x hx).2.1;omega) (fun r bs xs I1 s3 R1 ri xl1=>?_)
   ac_nf
   refine kR _ _ _ s3 (fun I2 c2=>⟨_,rs++[(r,bs)],xss++[xs],rfl,by rw[zco1];rfl,by rw[zcn1,rl];rfl,by rw[zcn1,xl];rfl,fun i r' xs' e1 e2=>?_,fun i xs' e=>?_,zca8 (I1:=I1) nd (by rfl') rp (zam8 R1.out).1⟩)
   ·have up:Same (rm acc (nw H1 I)) (rm acc (nw H1 I2)):=fun b o z=>by
     obtain⟨z1,z2⟩:=zag4 z
     obtain⟨z3,z4⟩:=zam8 z2
     exact zu2 z1 (zu8 z3 (c2 _ _ z1 (s3 _ _ z4)))
    have new:Same (nw I I1) (rm acc (nw H1 I2)):=fun b o z=>by
     obtain⟨z3,z4⟩:=zam8 z
     have nb:b≠acc:=fun w=>by rw[w,hacc] at z3;cases z3
     exact zu2 nb (zu8 (s2.free z3) (c2 _ _ nb z4))
    rcases zi9 e1 with ⟨a1,a2⟩|⟨a1,rfl⟩
    ·rcases zi9 e2 with ⟨b1,b2⟩|⟨b1,_⟩
     ·exact (rp i r' xs' a2 b2).same up
     ·omega
    ·rcases zi9 e2 with ⟨b1,_⟩|⟨b1,rfl⟩
     ·omega
     ·exact R1.same new
   ·rcases zi9 e with ⟨b1,b2⟩|⟨b1,rfl⟩
    ·exact xp i xs' b2
    ·rw[b1,xl]
     exact⟨ri,xl1⟩
  ·rintro acc ys σ I facc s2 hacc ⟨t,rs,xss,rfl,rfl,rl,xl,rp,xp,nd⟩
   ac_nf
   have left:Same (nw H1 I) (nw H I):=zcb5 s1
   exact q acc rs xss I (s1.trans s2) ⟨left _ _ (zu8 facc hacc),by rfl',fun i r xs e1 e2=>(rp i r xs e1 e2).same (Same.rm left),nd⟩ ⟨xl,xp⟩
 ·exact qe em _ s1
def Off(b:Addr)(ts:List (Addr×Addr)):Prop:=∀ t∈ts,t.1≠b/\t.2≠b
theorem zd1.chg{b:Addr}(M:zd1 H m ts ms)(c:Chg b H H')(n:m≠b)(o:Off b ts):zd1 H' m ts ms:=
 ⟨c _ _ n M.out,M.len,fun i t x h1 h2=>⟨c _ _ (o t (zcm6 h1)).1 (M.part i t x h1 h2).1,c _ _ (o t (zcm6 h1)).2 (M.part i t x h1 h2).2⟩⟩
theorem zd1.off{b:Addr}(M:zd1 H m ts ms)(f:H b=none):m≠b/\Off b ts:=by
 refine⟨za4 M.out f,fun t ht=>?_⟩
 obtain⟨i,hi⟩:=zcp3 ht
 obtain⟨t',x,h1,h2,h3,h4⟩:=M.get (i:=i) (by have:=(zcm1.mp hi).1;have:=M.len;omega)
 rw[hi] at h1
 cases h1
 exact⟨za4 h3 f,za4 h4 f⟩
theorem zd1.push{p:Addr}{x:List Int×Int}(M:zd1 H m ts ms)(c:Chg m H H')(o:Off m ts)(h':H' m=some (.lst ((ts.map fun t=>V.ref t.1)++[.ref p])))(hp:H' p=some (.tup [.ref q,.int x.2]))(hq:H' q=some (.lst (x.1.map V.int))):zd1 H' m (ts++[(p,q)]) (ms++[x]):=by
 refine⟨by rw[h',zco1];rfl,by rw[zcn1,zcn1,M.len];rfl,fun i t y h1 h2=>?_⟩
 by_cases hi:i<ts.length
 ·rw[zco2 hi] at h1
  rw[zco2 (by have:=M.len;omega)] at h2
  have:=o t (zcm6 h1)
  exact⟨c _ _ this.1 (M.part i t y h1 h2).1,c _ _ this.2 (M.part i t y h1 h2).2⟩
 ·rw[zco5 (by rfl')] at h1
  rw[zco5 (by have:=M.len;omega)] at h2
  have e0:i - ts.length=0:=by
   have:=(zcm1.mp h1).1
   simp at this;omega
  rw[e0] at h1
  rw[show i - ms.length=0 by have:=M.len;omega] at h2
  cases h1
  cases h2
  exact⟨hp,hq⟩
theorem Off.push{b p:Addr}(o:Off b ts)(n1:p≠b)(n2:q≠b):Off b (ts++[(p,q)]):=fun t ht=>by
 rcases zcq0.mp ht with h|h
 ·exact o t h
 ·have:t=(p,q):=by simpa using h
  subst this
  exact⟨n1,n2⟩
abbrev OkX(h f:Int)(x:List Int×Int):Prop:=(∀ n∈x.1,0<=n)/\(x.1.length:Int)=f/\x.1.sum=h/\1<=x.2
theorem zbu7{α:Type}{p:α->Prop}{xs:List α}{y:α}(h:∀ x∈xs,p x)(hy:p y):∀ x∈xs++[y],p x:=fun x hx=>by
 rcases zcq0.mp hx with h' | h'
 ·exact h x h'
 ·have:x=y:=by simpa using h'
  subst this
  exact hy
inductive Mrg{α β:Type}:List (α×Int)->List (β×Int)->List (α×β×Int)->Prop where
 | nil:Mrg [] [] []
 | lt {p:α}{w v:Int}{ps:List (α×Int)}{r:β}{rs:List (β×Int)}{out:List (α×β×Int)}:w<v->Mrg ps ((r,v - w) :: rs) out->Mrg ((p,w) :: ps) ((r,v) :: rs) ((p,r,w) :: out)
 | eq {p:α}{w:Int}{ps:List (α×Int)}{r:β}{rs:List (β×Int)}{out:List (α×β×Int)}:Mrg ps rs out->Mrg ((p,w) :: ps) ((r,w) :: rs) ((p,r,w) :: out)
 | gt {p:α}{w v:Int}{ps:List (α×Int)}{r:β}{rs:List (β×Int)}{out:List (α×β×Int)}:v<w->Mrg ((p,w - v) :: ps) rs out->Mrg ((p,w) :: ps) ((r,v) :: rs) ((p,r,v) :: out)
def tot{α:Type}(l:List (α×Int)):Int:=(l.map (·.2)).sum
theorem zj1{α:Type}(x:α×Int)(l:List (α×Int)):tot (x :: l)=x.2+tot l:=by unfold tot;rw[zcn9,zcp6]
theorem zbb2{α:Type}:∀ {l:List (α×Int)},(∀ x∈l,1<=x.2)->0<=tot l/\(tot l=0->l=[])
 | [],_=>⟨by unfold tot;simp,fun _=>rfl⟩
 | x :: l,h=>by
  have h1:=h x (.head _)
  have h2:=(zbb2 (l:=l) fun y hy=>h y (.tail _ hy)).1
  rw[zj1]
  exact⟨by rfl',fun e=>by rfl'⟩
theorem zas6{l m:List Int}(h:l.Perm m):l.sum=m.sum:=by
 induction h with
 | nil=>rfl
 | cons x _ ih=>simp only[zcp6];rw[ih]
 | swap x y l=>simp only[zcp6];omega
 | trans _ _ h1 h2=>exact h1.trans h2
theorem zay6{α:Type}{l m:List (α×Int)}(h:l.Perm m):tot l=tot m:=by unfold tot;exact zas6 (h.map _)
section
variable {α β:Type}{ps:List (α×Int)}{rs:List (β×Int)}{out:List (α×β×Int)}
theorem Mrg.pos(h:Mrg ps rs out):(∀ x∈ps,1<=x.2)->(∀ x∈rs,1<=x.2)->∀ x∈out,1<=x.2.2:=by
 induction h with
 | nil=>intro _ _ x hx;cases hx
 | lt hl _ ih=>
  intro h1 h2 x hx
  have a:=h1 _ (.head _)
  rcases zcm9.mp hx with rfl|hx
  ·exact a
  ·refine ih (fun y hy=>h1 y (.tail _ hy)) (fun y hy=>?_) x hx
   rcases zcm9.mp hy with rfl|hy
   ·show 1<=_ - _;omega
   ·exact h2 y (.tail _ hy)
 | eq _ ih=>
  intro h1 h2 x hx
  rcases zcm9.mp hx with rfl|hx
  ·exact h1 _ (.head _)
  ·exact ih (fun y hy=>h1 y (.tail _ hy)) (fun y hy=>h2 y (.tail _ hy)) x hx
 | gt hl _ ih=>
  intro h1 h2 x hx
  rcases zcm9.mp hx with rfl|hx
  ·exact h2 _ (.head _)
  ·refine ih (fun y hy=>?_) (fun y hy=>h2 y (.tail _ hy)) x hx
   rcases zcm9.mp hy with rfl|hy
   ·show 1<=_ - _;omega
   ·exact h1 y (.tail _ hy)
theorem Mrg.len(h:Mrg ps rs out):ps≠[]->out.length+1<=ps.length+rs.length:=by
 induction h with
 | nil=>intro h;exact absurd rfl h
 | @lt p w v ps r rs out hl hm ih=>
  intro _
  cases ps with
  | nil=>cases hm
  | cons y ps=>
   have:=ih (by simp)
   simp only[zco4] at this ⊢
   omega
 | @eq p w ps r rs out hm ih=>
  intro _
  cases ps with
  | nil=>cases hm;simp
  | cons y ps=>
   have:=ih (by simp)
   simp only[zco4] at this ⊢
   omega
 | gt hl _ ih=>
  intro _
  have:=ih (by simp)
  simp only[zco4] at this ⊢
  omega
theorem Mrg.sumL(h:Mrg ps rs out)(f:α->Int):(out.map fun x=>x.2.2*f x.1).sum=(ps.map fun x=>x.2*f x.1).sum:=by
 induction h with
 | nil=>rfl
 | lt hl _ ih=>simp only[zcn9,zcp6];rw[ih]
 | eq _ ih=>simp only[zcn9,zcp6];rw[ih]
 | gt hl _ ih=>simp only[zcn9,zcp6] at ih ⊢;rw[ih,Int.sub_mul];omega
theorem Mrg.sumR(h:Mrg ps rs out)(f:β->Int):(out.map fun x=>x.2.2*f x.2.1).sum=(rs.map fun x=>x.2*f x.1).sum:=by
 induction h with
 | nil=>rfl
 | lt hl _ ih=>simp only[zcn9,zcp6] at ih ⊢;rw[ih,Int.sub_mul];omega
 | eq _ ih=>simp only[zcn9,zcp6];rw[ih]
 | gt hl _ ih=>simp only[zcn9,zcp6];rw[ih]
theorem Mrg.memL(h:Mrg ps rs out):∀ x∈out,x.1∈ps.map (·.1)/\x.2.1∈rs.map (·.1):=by
 induction h with
 | nil=>intro x hx;cases hx
 | lt hl _ ih=>
  intro x hx
  rcases zcm9.mp hx with rfl|hx
  ·exact⟨.head _,.head _⟩
  ·exact⟨.tail _ (ih x hx).1,(ih x hx).2⟩
 | eq _ ih=>
  intro x hx
  rcases zcm9.mp hx with rfl|hx
  ·exact⟨.head _,.head _⟩
  ·exact⟨.tail _ (ih x hx).1,.tail _ (ih x hx).2⟩
 | gt hl _ ih=>
  intro x hx
  rcases zcm9.mp hx with rfl|hx
  ·exact⟨.head _,.head _⟩
  ·exact⟨(ih x hx).1,.tail _ (ih x hx).2⟩
end
def cutR{β:Type}(xs:List (β×Int))(k:Nat)(u:Int):List (β×Int):=match xs.drop k with
 | []=>[]
 | (r,v) :: t=>(r,v - u) :: t
theorem zac4{β:Type}{xs:List (β×Int)}{k:Nat}{u:Int}{x:β×Int}(h:xs[k]?=some x):cutR xs k u=(x.1,x.2 - u) :: xs.drop (k+1):=by
 unfold cutR
 rw[zcr9 (zcm1.mp h).1,(zcm1.mp h).2]
theorem zo4{β:Type}{xs:List (β×Int)}{k:Nat}:cutR xs k 0=xs.drop k:=by
 unfold cutR
 split
 ·rename_i e;rw[e]
 ·rename_i e;rw[e,Int.sub_zero]
theorem zz7{α β:Type}(f:α->β):∀ {ps:List β}{l:List α},ps.Perm (l.map f)->∃ l':List α,l'.Perm l/\l'.map f=ps
 | [],l,h=>by
  have e:=List.length_eq_zero_iff.mp (by rw[← zcl9 (f:=f),← h.length_eq];rfl:l.length=0)
  exact⟨[],by rw[e],rfl⟩
 | y :: ps,l,h=>by
  obtain⟨x,hx,rfl⟩:=zcn5.mp (h.mem_iff.mp (zcr0 (a:=y)))
  obtain⟨l1,l2,rfl⟩:=List.append_of_mem hx
  have h2:ps.Perm ((l1++l2).map f):=by
   refine List.Perm.cons_inv (a:=f x) (h.trans ?_)
   rw[zco1,zcn9,zco1]
   exact List.perm_middle
  obtain⟨l',q1,q2⟩:=zz7 f h2
  exact⟨x :: l',(q1.cons x).trans List.perm_middle.symm,by rw[zcn9,q2]⟩
def rwF(xs:List (Int×Int×Int)):List ((Int×Int)×Int):=xs.map fun x=>((x.1,x.2.1),x.2.2)
def outM(out:List (List Int×(Int×Int)×Int)):List (List Int×Int):=out.map fun z=>(z.1++[z.2.1.2],z.2.2)
@[irreducible] def zl3:Sp:=fun vs H Q _=>∃ (a r:Addr) (ts:List (Addr×Addr)) (ms:List (List Int×Int)) (bs:List Addr) (xs:List (Int×Int×Int)),vs=[.ref a,.ref r]/\zd1 H a ts ms/\RwAt H r bs xs/\(∀ x∈ms,1<=x.2)/\(∀ x∈xs,1<=x.2.2) /\
 tot ms=tot (rwF xs)/\ms.length<=1000/\xs.length<=1000/\(∀ x∈ms,x.1.length<=1000)/\∀ p ts' out H',H p=none->Same H H'->zd1 H' p ts' (outM out)->Mrg ms (rwF xs) out->Q (.ref p) H'
theorem zbd7{a r:Addr}{bs:List Addr}(M:zd1 H a ts ms)(R:RwAt H r bs xs)(h1:∀ x∈ms,1<=x.2)(h2:∀ x∈xs,1<=x.2.2)(ht:tot ms=tot (rwF xs))(hm:ms.length<=1000)(hx:xs.length<=1000)(hp:∀ x∈ms,x.1.length<=1000)(q:∀ p ts' out H',H p=none->Same H H'->zd1 H' p ts' (outM out)->Mrg ms (rwF xs) out->Q (.ref p) H'):zl3 [.ref a,.ref r] H Q E:=by unfold zl3;exact⟨a,r,ts,ms,bs,xs,rfl,M,R,h1,h2,ht,hm,hx,hp,q⟩
theorem zaq1{k:Nat}{x:Int×Int×Int}(h:xs[k]?=some x):(rwF xs)[k]?=some ((x.1,x.2.1),x.2.2):=by unfold rwF;rw[zcm5,h];rfl
theorem zcb7{α:Type}{l:List α}{x:α}(h:l[i]?=some x):l.drop i=x :: l.drop (i+1):=by
 rw[zcr9 (zcm1.mp h).1,(zcm1.mp h).2]
structure SO(ms:List (List Int×Int))(xs:List (Int×Int×Int))(out:List (List Int×(Int×Int)×Int))(k:Nat)(u:Int)(pend:List (List Int×Int)):Prop where
 ku:k<=xs.length
 u0:0<=u
 ul:∀ x,xs[k]?=some x->u<x.2.2
 ue:k=xs.length->u=0
 tt:tot pend=tot (cutR (rwF xs) k u)
 go:∀ fin,Mrg pend (cutR (rwF xs) k u) fin->Mrg ms (rwF xs) (out++fin)
theorem SO.at{ms:List (List Int×Int)}{xs:List (Int×Int×Int)}{out:List (List Int×(Int×Int)×Int)}{k:Nat}{u:Int}{pend:List (List Int×Int)}(S:SO ms xs out k u pend)(h:0<tot pend):∃ x,xs[k]?=some x:=by
 have ku:=S.ku
 by_cases z:k<xs.length
 ·exact⟨_,zcm0 z⟩
 ·have e:k=xs.length:=by rfl'
  have t:=S.tt
  have e2:cutR (rwF xs) k u=[]:=by
   unfold cutR
   rw[zcu2 (by unfold rwF;rw[zcl9];omega)]
  rw[e2] at t
  have:tot ([]:List ((Int×Int)×Int))=0:=rfl
  omega
section
variable {ms:List (List Int×Int)}{xs:List (Int×Int×Int)}{out:List (List Int×(Int×Int)×Int)}{k:Nat}{u w:Int}{pl:List Int}{rest:List (List Int×Int)}{x:Int×Int×Int}
theorem SO.lt(S:SO ms xs out k u ((pl,w) :: rest))(hx:xs[k]?=some x)(h0:0<w)(h:w<x.2.2 - u):SO ms xs (out++[(pl,(x.1,x.2.1),w)]) k (u+w) rest:=by
 have u0:=S.u0
 have e1:=zac4 (u:=u) (zaq1 hx)
 have e2:=zac4 (u:=u+w) (zaq1 hx)
 have t:=S.tt
 rw[e1,zj1,zj1] at t
 dsimp only at t
 refine⟨S.ku,by rfl',fun y hy=>by rw[hx] at hy;cases hy;omega,fun z=>by have:=(zcm1.mp hx).1;omega,?_,fun fin hf=>?_⟩
 ·rw[e2,zj1];dsimp only;omega
 ·rw[e2] at hf
  have hf:Mrg rest (((x.1,x.2.1),x.2.2 - (u+w)) :: (rwF xs).drop (k+1)) fin:=hf
  have:=S.go ((pl,(x.1,x.2.1),w) :: fin) (by rw[e1];exact .lt h (by rw[show x.2.2 - u - w=x.2.2 - (u+w) by rfl'];exact hf))
  rw[List.append_assoc]
  exact this
theorem SO.next{f:Int}(S:SO ms xs out k u ((pl,w) :: rest))(hx:xs[k]?=some x)(hpos:∀ x∈xs,1<=x.2.2):(k+1<=xs.length)/\(∀ y,xs[k+1]?=some y->(0:Int)<y.2.2):=
 ⟨(zcm1.mp hx).1,fun y hy=>hpos y (zcm6 hy)⟩
theorem SO.eq(S:SO ms xs out k u ((pl,w) :: rest))(hx:xs[k]?=some x)(hpos:∀ x∈xs,1<=x.2.2)(h:w=x.2.2 - u):SO ms xs (out++[(pl,(x.1,x.2.1),w)]) (k+1) 0 rest:=by
 have e1:=zac4 (u:=u) (zaq1 hx)
 have t:=S.tt
 rw[e1,zj1,zj1] at t
 dsimp only at t
 refine⟨(zcm1.mp hx).1,by rfl',fun y hy=>hpos y (zcm6 hy),fun _=>rfl,?_,fun fin hf=>?_⟩
 ·rw[zo4];omega
 ·rw[zo4] at hf
  have:=S.go ((pl,(x.1,x.2.1),w) :: fin) (by rw[e1,← h];exact .eq hf)
  rw[List.append_assoc]
  exact this
theorem SO.gt(S:SO ms xs out k u ((pl,w) :: rest))(hx:xs[k]?=some x)(hpos:∀ x∈xs,1<=x.2.2)(h:x.2.2 - u<w):SO ms xs (out++[(pl,(x.1,x.2.1),x.2.2 - u)]) (k+1) 0 ((pl,w - (x.2.2 - u)) :: rest):=by
 have e1:=zac4 (u:=u) (zaq1 hx)
 have t:=S.tt
 rw[e1,zj1,zj1] at t
 dsimp only at t
 refine⟨(zcm1.mp hx).1,by rfl',fun y hy=>hpos y (zcm6 hy),fun _=>rfl,?_,fun fin hf=>?_⟩
 ·rw[zo4,zj1];dsimp only;omega
 ·rw[zo4] at hf
  have:=S.go ((pl,(x.1,x.2.1),x.2.2 - u) :: fin) (by rw[e1];exact .gt h hf)
  rw[List.append_assoc]
  exact this
end
theorem zbm0(out:List (List Int×(Int×Int)×Int))(z:List Int×(Int×Int)×Int):outM (out++[z])=outM out++[(z.1++[z.2.1.2],z.2.2)]:=by unfold outM;rw[zco1];rfl
theorem zbd4(F:Fun K "sent_on" "sent_on" zae1 f fd)(N:Nm mg):FnOk P w K mg base CX0 1 f fd ["begun","row"] zl3:=by
 refine F.ok zd3 (fun vs H Q E h=>by unfold zl3 at h;obtain⟨_,_,_,_,_,_,rfl,_⟩:=h;rfl) fun _ _ _ s H vs Q E hr h=>?_
 unfold zl3 at h
 obtain⟨a,r,ts,ms,bs,xs,rfl,M,R,h1,h2,ht,hm,hx,hp,q⟩:=h
 have hu:=hu40 hr
 have ml:=M.len
 have rl:=R.len
 refine⟨_,(za3 (psS (i:=2) zd3.nd (zq5 za1))
   (za3 (psS (i:=3) zd3.nd za2)
   (za3 (psS (i:=4) zd3.nd za2)
   (za3 (zac2 PassesOwn.never rfl (zf8 (K:=K) rfl (pq 0)) (zi4 (K:=K) (n:=2) rfl rfl (zb0 (za7 (i:=5) zd3.nd rfl (by eq_refl)) (zb0 (za7 (i:=6) zd3.nd rfl (by eq_refl)) zi2))) (za3 (psS (i:=7) zd3.nd (pq 6))
   (za5 (zbz4 PassesOwn.never (ptC oGt (pq 7) za2) (za3 (psS (i:=8) zd3.nd (pB (cMinK (K:=K) rfl rfl) N.min_ bt_min (za0 (pq 7) (za0 (zb8 oSub (zb4 (K:=K) rfl (zb4 (K:=K) rfl (pq 1) (pq 3)) za2) (pq 4)) za1))))
   (za3 (zn8 (zs5 (pq 2) (za0 (zq2 (za0 (zb8 oAdd (pq 5) (zq5 (za0 (zb4 (K:=K) rfl (zb4 (K:=K) rfl (pq 1) (pq 3)) za2) za1))) (za0 (pq 8) za1))) za1)))
   (za3 (psAug (i:=7) zd3.nd ipSub (pq 8))
   (za3 (psAug (i:=4) zd3.nd ipAdd (pq 8))
   (za5 (psIf (ptC (zar2 (K:=K) rfl (by exact hu)) (pq 4) (zb4 (K:=K) rfl (zb4 (K:=K) rfl (pq 1) (pq 3)) za2)) (za3 (psAug (i:=3) zd3.nd ipAdd za2)
   (za5 (psS (i:=4) zd3.nd za2))) zc0))))))))))
   (za5 (za9 (pq 2))))))),?_⟩
 refine zg8 (fun l H1 f1 s1 hl=>?_)
 refine zb9 (s1 _ _ M.out) ?_
 refine zo2 (xs:=ts.map fun t=>V.ref t.1) (fun i σ I=>∃ (x5 x6 x7 x8:Option V) (ts':List (Addr×Addr)) (out:List (List Int×(Int×Int)×Int)) (k:Nat) (u:Int),σ=[some (.ref a),some (.ref r),some (.ref l),some (.int k),some (.int u),x5,x6,x7,x8]/\Same H I/\zd1 I l ts' (outM out)/\Off l ts'/\out.length<=i+k/\SO ms xs out k u (ms.drop i)) ?_ ?_ ?_ ?_
 ·refine⟨none,none,none,none,[],[],0,0,rfl,s1,⟨hl,rfl,fun i t x e=>by simp at e⟩,(fun t ht=>by cases ht),zcn4 _,⟨zcp5 _,Int.le_refl _,fun x hx=>h2 x (zcm6 hx),fun _=>rfl,by rw[zo4];exact ht,fun fin hf=>?_⟩⟩
  rw[zo4] at hf
  exact hf
 ·rintro i σ I hi ⟨x5,x6,x7,x8,ts',out,k,u,rfl,sI,_⟩
  exact SqL.of (sI _ _ M.out)
 ·rintro i v σ I hv ⟨x5,x6,x7,x8,ts',out,k,u,rfl,sI,M',O',ol,S⟩
  obtain⟨t,x,rfl,et,ex,e3,e4⟩:=M.elt hv
  have il:=(zcm1.mp ex).1
  have x1:=h1 x (zcm6 ex)
  have xl:=hp x (zcm6 ex)
  rw[zcb7 ex] at S
  refine zd0 (sI _ _ e3) ?_
  refine zbr0 (fun σ I=>∃ (x8:Option V) (ts':List (Addr×Addr)) (out:List (List Int×(Int×Int)×Int)) (k:Nat) (u w:Int),σ=[some (.ref a),some (.ref r),some (.ref l),some (.int k),some (.int u),some (.ref t.2),some (.int x.2),some (.int w),x8]/\Same H I/\zd1 I l ts' (outM out)/\Off l ts'/\0<=w/\(0<w->out.length<=i+k/\SO ms xs out k u ((x.1,w) :: ms.drop (i+1)))/\(w=0->out.length<=i+1+k/\SO ms xs out k u (ms.drop (i+1)))) (fun σ _=>match σ with | [_,_,_,some (.int k),_,_,_,some (.int w),_]=>xs.length - k.toNat+(if 0<w then 1 else 0)|_=>0) ?_ ?_
  ·exact⟨_,ts',out,k,u,x.2,rfl,sI,M',O',by rfl',fun _=>⟨ol,S⟩,fun z=>by rfl'⟩
  ·clear S ol O' M' sI ts' out
   rintro σ I ⟨x8,ts',out,k,u,w,rfl,sI,M',O',w0,A1,A2⟩
   ac_nf
   refine zby6 (fun hw=>?_) (fun hw=>?_)
   ·obtain⟨ol,S⟩:=A1 hw
    have t0:=(zbb2 (l:=ms.drop (i+1)) fun y hy=>h1 y (zcu9 hy)).1
    obtain⟨y,ey⟩:=S.at (by rw[zj1];dsimp only;omega)
    have kl:=(zcm1.mp ey).1
    obtain⟨b,eb⟩:∃ b,bs[k]?=some b:=⟨_,zcm0 (by rfl')⟩
    have hy:=R.row k b y eb ey
    have uy:=S.ul y ey
    have u0:=S.u0
    have atb:atI (bs.map V.ref) (k:Int)=some (.ref b):=zg2 (by rw[zcm5,eb];rfl)
    refine zc2 (v:=.ref b) (sI _ _ R.out) atb ?_
    refine zb6 (v:=.int y.2.2) (sI _ _ hy) rfl ?_
    ac_nf
    obtain⟨tk,etk⟩:∃ tk:Int,(if y.2.2 - u<w then y.2.2 - u else w)=tk:=⟨_,rfl⟩
    rw[etk]
    have htk:(w<y.2.2 - u/\tk=w)∨(w=y.2.2 - u/\tk=w)∨(y.2.2 - u<w/\tk=y.2.2 - u):=by
     split at etk<;>omega
    refine zbb4 M'.out ?_
    refine zc2 (v:=.ref b) (sI _ _ R.out) atb ?_
    refine zb6 (v:=.int y.2.1) (sI _ _ hy) rfl ?_
    refine zg8 (fun p1 I1 g1 r1 k1=>?_)
    refine zbo2 (r1 _ _ (sI _ _ e4)) k1 (by rw[zcl9,zcv5];simp only[zco4,zcr4];omega) (fun p2 I2 g2 r2 k2=>?_)
    refine zf2 (fun p3 I3 g3 r3 k3=>?_)
    have s3:=r1.trans (r2.trans r3)
    have M3:=M'.same s3
    have n2:p2≠l:=fun z=>by rw[z,r1 _ _ M'.out] at g2;cases g2
    have n3:p3≠l:=fun z=>by rw[z,r2 _ _ (r1 _ _ M'.out)] at g3;cases g3
    refine zbb0 M3.out (by have:=M3.len;unfold outM at this;rw[zcl9] at this;rw[zcl9,zcv5];omega) (fun I4 c4 k4=>?_)
    have M4:=M3.push c4 O' k4 (x:=(x.1++[y.2.1],tk)) (c4 _ _ n3 k3) (c4 _ _ n2 (by rw[zco1];exact r3 _ _ k2))
    have sI4:Same H I4:=fun b o e=>c4 _ _ (fun z=>by rw[z,f1] at e;cases e) (s3 _ _ (sI _ _ e))
    have O4:=O'.push n3 n2
    rw[show outM out++[(x.1++[y.2.1],tk)]=outM (out++[(x.1,(y.1,y.2.1),tk)]) from (zbm0 out (x.1,(y.1,y.2.1),tk)).symm] at M4
    have ll:(out++[(x.1,(y.1,y.2.1),tk)]).length=out.length+1:=by rw[zcn1];rfl
    refine zc2 (v:=.ref b) (sI4 _ _ R.out) atb ?_
    refine zb6 (v:=.int y.2.2) (sI4 _ _ hy) rfl ?_
    rcases htk with ⟨z1,rfl⟩|⟨z1,rfl⟩|⟨z1,rfl⟩
    ·have SA:=S.lt ey hw z1
     refine zaa6 (by rfl') ?_
     ac_nf
     refine⟨⟨_,_,_,k,_,_,rfl,sI4,M4,O4,by rfl',fun z=>by rfl',fun _=>⟨by rw[ll];omega,SA⟩⟩,?_⟩
     show xs.length - (k:Int).toNat+(if 0<tk - tk then 1 else 0)<xs.length - (k:Int).toNat+(if 0<tk then 1 else 0)
     rw[if_neg (by rfl'),if_pos hw];omega
    ·have SB:=S.eq ey h2 z1
     refine zy7 (by rfl') ?_
     ac_nf
     refine⟨⟨_,_,_,k+1,_,_,rfl,sI4,M4,O4,by rfl',fun z=>by rfl',fun _=>⟨by rw[ll];omega,SB⟩⟩,?_⟩
     show xs.length - ((k:Int)+1).toNat+(if 0<tk - tk then 1 else 0)<xs.length - (k:Int).toNat+(if 0<tk then 1 else 0)
     rw[if_neg (by rfl'),if_pos hw];omega
    ·have SC:=S.gt ey h2 z1
     refine zy7 (by rfl') ?_
     ac_nf
     refine⟨⟨_,_,_,k+1,_,_,rfl,sI4,M4,O4,by rfl',fun z=>⟨by rw[ll];omega,SC⟩,fun z=>by rfl'⟩,?_⟩
     show xs.length - ((k:Int)+1).toNat+(if 0<w - (y.2.2 - u) then 1 else 0)<xs.length - (k:Int).toNat+(if 0<w then 1 else 0)
     rw[if_pos (by rfl'),if_pos hw];omega
   ·obtain⟨ol,S⟩:=A2 (by rfl')
    ac_nf
    exact⟨_,_,_,_,ts',out,k,u,rfl,sI,M',O',by rfl',S⟩
 ·rintro σ I ⟨x5,x6,x7,x8,ts',out,k,u,rfl,sI,M',O',ol,S⟩
  ac_nf
  have e0:ms.drop (ts.map fun t=>V.ref t.1).length=[]:=zcu2 (by rw[zcl9];omega)
  rw[e0] at S
  have ku:=S.ku
  have en:cutR (rwF xs) k u=[]:=by
   by_cases z:k<xs.length
   ·obtain⟨y,ey⟩:∃ y,xs[k]?=some y:=⟨_,zcm0 z⟩
    have t:=S.tt
    rw[zac4 (zaq1 ey),zj1] at t
    have t0:=(zbb2 (l:=(rwF xs).drop (k+1)) fun y hy=>by
     unfold rwF at hy
     obtain⟨z,hz,rfl⟩:=zcn5.mp (zcu9 hy)
     exact h2 z hz).1
    have:=S.ul y ey
    have:tot ([]:List (List Int×Int))=0:=rfl
    dsimp only at t
    omega
   ·unfold cutR
    rw[zcu2 (by unfold rwF;rw[zcl9];omega)]
  have g:=S.go [] (by rw[en];exact .nil)
  rw[List.append_nil] at g
  exact q l ts' out I f1 sI M' g
def okD(n:Nat)(d:PyData):Prop:=sml d=true/\d.canLay0=true/\d.depth<=n
def Rd(H:Hp)(v:V)(n:Nat):Prop:=∃ d,ShV H v d/\okD n d/\(zb2 d).length<60
theorem Rd.same{H H':Hp}{v:V}{n:Nat}(h:Rd H v n)(s:Same H H'):Rd H' v n:=by obtain⟨d,h1,h2⟩:=h;exact⟨d,h1.same s,h2⟩
theorem okD.up{n m:Nat}{d:PyData}(h:okD n d)(l:n<=m):okD m d:=⟨h.1,h.2.1,zcr3 h.2.2 l⟩
theorem Rd.up{H:Hp}{v:V}{n m:Nat}(h:Rd H v n)(l:n<=m:=by decide):Rd H v m:=by obtain⟨d,h1,h2⟩:=h;exact⟨d,h1,h2.1.up l,h2.2⟩
theorem Rd.int{H:Hp}(i:Int)(n:Nat):Rd H (.int i) n:=⟨.int i,.int i,⟨rfl,rfl,zcp5 _⟩,by show (0:Nat)<60;decide⟩
theorem Rd.non{H:Hp}(n:Nat):Rd H .non n:=⟨.none,.non,⟨rfl,rfl,zcp5 _⟩,by show (0:Nat)<60;decide⟩
theorem zbv8(h:∀ d∈ds,d.canLay0=true):PyData.canLayAll0 ds=true:=by
 induction ds with
 | nil=>rfl
 | cons d ds ih=>
  show (d.canLay0&&PyData.canLayAll0 ds)=true
  rw[h d (.head _),ih fun x hx=>h x (.tail _ hx)];rfl
theorem zby1{n:Nat}(h:∀ d∈ds,d.depth<=n):PyData.depthAll ds<=n:=by
 induction ds with
 | nil=>exact zcp5 _
 | cons d ds ih=>
  rw[show PyData.depthAll (d :: ds)=max d.depth (PyData.depthAll ds) from rfl]
  exact Nat.max_le.mpr ⟨h d (.head _),ih fun x hx=>h x (.tail _ hx)⟩
theorem okD.list{n:Nat}{ds:List PyData}(l:ds.length<=1000)(h:∀ d∈ds,okD n d):okD (n+1) (.list ds):=
 ⟨by simp only[sml,zcn2,decide_eq_true_eq];exact⟨by rfl',zq4 fun d hd=>(h d hd).1⟩,zbv8 fun d hd=>(h d hd).2.1,Nat.succ_le_succ (zby1 fun d hd=>(h d hd).2.2)⟩
theorem okD.tuple{n:Nat}{ds:List PyData}(l:ds.length<=1000)(h:∀ d∈ds,okD n d):okD (n+1) (.tuple ds):=
 ⟨by simp only[sml,zcn2,decide_eq_true_eq];exact⟨by rfl',zq4 fun d hd=>(h d hd).1⟩,zbv8 fun d hd=>(h d hd).2.1,Nat.succ_le_succ (zby1 fun d hd=>(h d hd).2.2)⟩
theorem Rd.lst{H:Hp}{a:Addr}{xs:List V}{n:Nat}(e:H a=some (.lst xs))(l:xs.length<60)(h:∀ x∈xs,Rd H x n):Rd H (.ref a) (n+1):=by
 obtain⟨ds,h1,h2⟩:=ShL.ex (P:=fun d=>okD n d) fun x hx=>by obtain⟨d,h1,h2,_⟩:=h x hx;exact⟨d,h1,h2⟩
 exact⟨.list ds,.lst e h1,okD.list (by rw[← h1.len];omega) h2,by show ds.length<60;rw[← h1.len];exact l⟩
theorem Rd.tup{H:Hp}{a:Addr}{xs:List V}{n:Nat}(e:H a=some (.tup xs))(l:xs.length<60)(h:∀ x∈xs,Rd H x n):Rd H (.ref a) (n+1):=by
 obtain⟨ds,h1,h2⟩:=ShL.ex (P:=fun d=>okD n d) fun x hx=>by obtain⟨d,h1,h2,_⟩:=h x hx;exact⟨d,h1,h2⟩
 exact⟨.tuple ds,.tup e h1,okD.tuple (by rw[← h1.len];omega) h2,by show (0:Nat)<60;decide⟩
theorem zj4:∀ {ns:List Int},(∀ x∈ns,0<=x)->(∀ x∈ns,x<=ns.sum)/\0<=ns.sum
 | [],_=>⟨fun x h=>by (cases h),Int.le_refl _⟩
 | n :: ns,h=>by
  have h0:=h n (.head _)
  obtain⟨i1,i2⟩:=zj4 (ns:=ns) fun y hy=>h y (.tail _ hy)
  rw[zcp6]
  refine⟨fun x hx=>?_,by rfl'⟩
  rcases zcm9.mp hx with rfl|hx
  ·omega
  ·have:=i1 x hx;omega
section
variable {κ μ:Type}[DecidableEq κ] [DecidableEq μ]
def atG(zs:List (κ×Int))(k:κ):Int:=((zs.filter fun z=>decide (z.1=k)).map (·.2)).sum
theorem zv4{kv:List (κ×Int)}{k:κ}:k ∉ kv.map (·.1)->valG kv k=none:=by
 induction kv with
 | nil=>intro _;rfl
 | cons z kv ih=>
  intro h
  rw[zcn9,zcm9,not_or] at h
  rw[zk8 (fun e=>h.1 e.symm),ih h.2]
theorem zbt6(kv:List (κ×Int))(k j:κ)(n:Int):valG (kv.map fun z=>if z.1=k then (z.1,n) else z) j=if j=k then (if j∈kv.map (·.1) then some n else none) else valG kv j:=by
 induction kv with
 | nil=>by_cases e:j=k<;>simp[e,valG]
 | cons z kv ih=>
  rw[zcn9]
  by_cases ez:z.1=j
  ·subst ez
   by_cases ek:z.1=k
   ·rw[if_pos ek,if_pos ek,zk9 (z:=(z.1,n)) rfl,if_pos (by simp)]
   ·rw[if_neg ek,if_neg ek,zk9 rfl,zk9 rfl]
  ·have:¬ (if z.1=k then (z.1,n) else z).1=j:=by split<;>exact ez
   rw[zk8 this,ih,zk8 ez]
   by_cases ek:j=k
   ·rw[if_pos ek,if_pos ek]
    have:(j∈(z :: kv).map (·.1))↔j∈kv.map (·.1):=by
     rw[zcn9,zcm9]
     exact⟨fun h=>h.resolve_left fun e=>ez e.symm,.inr⟩
    by_cases h:j∈kv.map (·.1)
    ·rw[if_pos h,if_pos (this.mpr h)]
    ·rw[if_neg h,if_neg fun z=>h (this.mp z)]
   ·rw[if_neg ek,if_neg ek]
theorem zan2(kv:List (κ×Int))(k:κ):(kv.any fun z=>decide (z.1=k))=true↔k∈kv.map (·.1):=by
 rw[List.any_eq_true,zcn5]
 exact⟨fun ⟨z,h1,h2⟩=>⟨z,h1,of_decide_eq_true h2⟩,fun ⟨z,h1,h2⟩=>⟨z,h1,decide_eq_true h2⟩⟩
theorem zbq8(kv:List (κ×Int))(z:κ×Int)(j:κ):valG (kv++[z]) j=match valG kv j with|some n=>some n|none=>if z.1=j then some z.2 else none:=by
 induction kv with
 | nil=>
  by_cases e:z.1=j
  ·show valG [z] j=if z.1=j then some z.2 else none;rw[zk9 e,if_pos e]
  ·show valG [z] j=if z.1=j then some z.2 else none;rw[zk8 e,if_neg e];rfl
 | cons y kv ih=>
  rw[List.cons_append]
  by_cases e:y.1=j
  ·rw[zk9 e,zk9 e]
  ·rw[zk8 e,zk8 e,ih]
theorem zbu8(kv:List (κ×Int))(k j:κ)(n:Int):valG (putG kv k n) j=if j=k then some n else valG kv j:=by
 unfold putG
 by_cases h:(kv.any fun z=>decide (z.1=k))=true
 ·rw[if_pos h,zbt6]
  by_cases e:j=k
  ·rw[if_pos e,if_pos e,if_pos (by rw[e];exact (zan2 kv k).mp h)]
  ·rw[if_neg e,if_neg e]
 ·rw[if_neg h,zbq8]
  have hk:k ∉ kv.map (·.1):=fun z=>h ((zan2 kv k).mpr z)
  by_cases e:j=k
  ·subst e
   rw[zv4 hk,if_pos rfl]
   first|done|exact if_pos rfl
  ·rw[if_neg e]
   cases valG kv j with
   | none=>exact if_neg fun z=>e z.symm
   | some m=>rfl
theorem zbt4(zs:List (κ×Int))(z:κ×Int)(k:κ):atG (zs++[z]) k=atG zs k+if z.1=k then z.2 else 0:=by
 unfold atG
 rw[List.filter_append,zco1,zct8]
 by_cases e:z.1=k
 ·rw[if_pos e,zcu3,if_pos (decide_eq_true e)];simp
 ·rw[if_neg e,zcu3,if_neg (by rw[decide_eq_false e];exact zcn0)];simp
theorem zak9(zs:List (κ×Int))(z:κ×Int)(k:κ):atG (z :: zs) k=(if z.1=k then z.2 else 0)+atG zs k:=by
 unfold atG
 by_cases e:z.1=k
 ·rw[if_pos e,zcu3,if_pos (decide_eq_true e)];simp
 ·rw[if_neg e,zcu3,if_neg (by rw[decide_eq_false e];exact zcn0)];simp
theorem zay7{α:Type}{P:List α->Prop}(h0:P [])(hs:∀ xs x,P xs->P (xs++[x]))(xs:List α):P xs:=by
 have:∀ n (xs:List α),xs.length=n->P xs:=fun n=>by
  induction n with
  | zero=>intro xs h;rw[List.length_eq_zero_iff.mp h];exact h0
  | succ n ih=>
   intro xs h
   have hn:xs≠[]:=fun z=>by rw[z] at h;simp at h
   rw[← List.dropLast_concat_getLast hn]
   exact hs _ _ (ih _ (by rw[List.length_dropLast];omega))
 exact this _ xs rfl
theorem zn4(zs:List (κ×Int))(k:κ):valG (sumG zs) k=if k∈zs.map (·.1) then some (atG zs k) else none:=by
 induction zs using zay7 with
 | h0=>rfl
 | hs zs z ih=>
  rw[zaf0]
  unfold addG
  rw[zbu8,zbt4]
  have mm:k∈(zs++[z]).map (·.1)↔(k∈zs.map (·.1)∨k∈[z].map (·.1)):=by rw[zco1,zcq0]
  by_cases e:k=z.1
  ·subst e
   rw[if_pos rfl,if_pos (mm.mpr (.inr (by simp))),if_pos rfl,ih]
   by_cases h:z.1∈zs.map (·.1)
   ·rw[if_pos h];rfl
   ·rw[if_neg h]
    have:atG zs z.1=0:=by
     unfold atG
     rw[List.filter_eq_nil_iff.mpr fun y hy hd=>h (zcn5.mpr ⟨y,hy,of_decide_eq_true hd⟩)];rfl
    rw[this];rfl
  ·have z0:(if z.1=k then z.2 else 0)=0:=if_neg fun q=>e q.symm
   rw[if_neg e,ih,z0,Int.add_zero]
   have:(k∈zs.map (·.1)∨k∈[z].map (·.1))↔k∈zs.map (·.1):=⟨fun h=>h.resolve_right fun q=>e (by simpa using q),.inl⟩
   by_cases h:k∈zs.map (·.1)
   ·rw[if_pos h,if_pos (mm.mpr (.inl h))]
   ·rw[if_neg h,if_neg fun q=>h (this.mp (mm.mp q))]
theorem zbt5(kv:List (κ×Int))(k:κ)(n:Int):(putG kv k n).map (·.1)=if k∈kv.map (·.1) then kv.map (·.1) else kv.map (·.1)++[k]:=by
 unfold putG
 by_cases h:(kv.any fun z=>decide (z.1=k))=true
 ·rw[if_pos h,if_pos ((zan2 kv k).mp h),zco0]
  refine zcn7 fun z _=>?_
  show (if z.1=k then (z.1,n) else z).1=z.1
  split<;>rfl
 ·rw[if_neg h,if_neg fun z=>h ((zan2 kv k).mpr z),zco1];rfl
theorem zi7(zs:List (κ×Int)):((sumG zs).map (·.1)).Nodup/\∀ k,k∈(sumG zs).map (·.1)↔k∈zs.map (·.1):=by
 induction zs using zay7 with
 | h0=>exact⟨List.nodup_nil,fun k=>Iff.rfl⟩
 | hs zs z ih=>
  rw[zaf0]
  unfold addG
  rw[zbt5]
  by_cases h:z.1∈(sumG zs).map (·.1)
  ·rw[if_pos h]
   refine⟨ih.1,fun k=>?_⟩
   rw[ih.2,zco1,zcq0]
   exact⟨.inl,fun q=>q.elim id fun q=>by rw[show k=z.1 by simpa using q];exact (ih.2 _).mp h⟩
  ·rw[if_neg h]
   refine⟨?_,fun k=>?_⟩
   ·rw[List.nodup_append]
    refine⟨ih.1,by simp,fun a ha b hb=>?_⟩
    rw[show b=z.1 by simpa using hb]
    exact fun q=>h (q▸ha)
   ·rw[zcq0,ih.2,zco1,zcq0];rfl
theorem zay0{kv:List (κ×Int)}(nd:(kv.map (·.1)).Nodup){z:κ×Int}(h:z∈kv):valG kv z.1=some z.2:=by
 induction kv with
 | nil=>cases h
 | cons y kv ih=>
  rw[zcn9,zct7] at nd
  rcases zcm9.mp h with rfl|h
  ·exact zk9 rfl
  ·rw[zk8 (fun e=>nd.1 (e▸zcn5.mpr ⟨z,h,rfl⟩))]
   exact ih nd.2 h
theorem atG_ge{zs:List (κ×Int)}(h1:∀ z∈zs,1<=z.2):∀ {k:κ},(0<=atG zs k)/\(k∈zs.map (·.1)->1<=atG zs k):=by
 induction zs with
 | nil=>exact fun {k}=>⟨Int.le_refl _,fun h=>by cases h⟩
 | cons z zs ih=>
  intro k
  obtain⟨i1,i2⟩:=ih (fun y hy=>h1 y (.tail _ hy)) (k:=k)
  have z1:=h1 z (.head _)
  rw[zak9]
  by_cases e:z.1=k
  ·rw[if_pos e]
   exact⟨by rfl',fun _=>by rfl'⟩
  ·rw[if_neg e]
   refine⟨by rfl',fun h=>?_⟩
   rw[zcn9,zcm9] at h
   have:=i2 (h.resolve_left fun q=>e q.symm)
   omega
theorem zbf4{p:κ->Bool}{a:κ}{c:Int}:∀ {ks:List κ},ks.Nodup->((ks.filter p).map fun k=>if a=k then c else 0).sum=if a∈ks/\p a=true then c else 0
 | [],_=>by simp
 | k :: ks,nd=>by
  rw[zct7] at nd
  have ih:=zbf4 (p:=p) (a:=a) (c:=c) nd.2
  rw[zcu3]
  by_cases e:a=k
  ·subst e
   have:¬ (a∈ks/\p a=true):=fun h=>nd.1 h.1
   rw[if_neg this] at ih
   by_cases hp:p a=true
   ·rw[if_pos hp,zcn9,zcp6,ih,if_pos rfl,if_pos ⟨.head _,hp⟩];omega
   ·rw[if_neg hp,ih,if_neg fun h=>hp h.2]
  ·have:(a∈k :: ks/\p a=true)↔(a∈ks/\p a=true):=by rw[zcm9];exact⟨fun h=>⟨h.1.resolve_left e,h.2⟩,fun h=>⟨.inr h.1,h.2⟩⟩
   have st:∀ b,(if b=true then k :: ks.filter p else ks.filter p).map (fun k=>if a=k then c else 0)=if b=true then 0 :: (ks.filter p).map (fun k=>if a=k then c else 0) else (ks.filter p).map fun k=>if a=k then c else 0:=fun b=>by
    cases b
    ·rfl
    ·show (if a=k then c else 0) :: _=_
     rw[if_neg e];rfl
   rw[st]
   have s0:(if p k=true then (0:Int) :: (ks.filter p).map (fun k=>if a=k then c else 0) else (ks.filter p).map fun k=>if a=k then c else 0).sum=((ks.filter p).map fun k=>if a=k then c else 0).sum:=by
    split
    ·rw[zcp6,zct5]
    ·rfl
   rw[s0,ih]
   by_cases h:a∈ks/\p a=true
   ·rw[if_pos h,if_pos (this.mpr h)]
   ·rw[if_neg h,if_neg fun q=>h (this.mp q)]
theorem zba7{α:Type}(f g:α->Int):∀ xs:List α,(xs.map fun x=>f x+g x).sum=(xs.map f).sum+(xs.map g).sum
 | []=>rfl
 | x :: xs=>by
  have:=zba7 f g xs
  simp only[zcn9,zcp6]
  omega
theorem zaj6{p:κ->Bool}{ks:List κ}(nd:ks.Nodup):∀ {zs:List (κ×Int)},(∀ z∈zs,z.1∈ks)->((ks.filter p).map (atG zs)).sum=((zs.filter fun z=>p z.1).map (·.2)).sum
 | [],_=>by
  have:((ks.filter p).map (atG ([]:List (κ×Int)))).sum=0:=by
   induction (ks.filter p) with
   | nil=>rfl
   | cons k l ih=>rw[zcn9,zcp6,ih];rfl
  rw[this];rfl
 | z :: zs,h=>by
  have ih:=zaj6 (p:=p) nd (zs:=zs) fun y hy=>h y (.tail _ hy)
  have e:(ks.filter p).map (atG (z :: zs))=(ks.filter p).map fun k=>(if z.1=k then z.2 else 0)+atG zs k:=zcn7 fun k _=>zak9 zs z k
  rw[e,zba7,zbf4 nd,ih,zcu3]
  by_cases hp:p z.1=true
  ·rw[if_pos ⟨h z (.head _),hp⟩,if_pos hp];rfl
  ·rw[if_neg fun q=>hp q.2,if_neg hp,zct5]
end
theorem zbz2{za zb:List (Int×Int)}(h:∀ k,valG (sumG za) k=valG (sumG zb) k):eqDI (sumG za) (sumG zb)=true:=by
 obtain⟨na,ma⟩:=zi7 za
 obtain⟨nb,mb⟩:=zi7 zb
 have keys:∀ k,k∈(sumG za).map (·.1)↔k∈(sumG zb).map (·.1):=fun k=>by
  rw[ma,mb]
  have:=h k
  rw[zn4,zn4] at this
  by_cases h1:k∈za.map (·.1)<;>by_cases h2:k∈zb.map (·.1)<;>simp[h1,h2] at this ⊢
 have len:=((List.perm_ext_iff_of_nodup na nb).mpr keys).length_eq
 rw[zcl9,zcl9] at len
 unfold eqDI
 rw[len,beq_self_eq_true,zcp9,zcn6]
 intro z hz
 have e:valI (sumG zb) z.1=valG (sumG zb) z.1:=rfl
 rw[e,← h,zay0 na hz]
 exact beq_self_eq_true _
theorem zag1{x y:Int×Int}:ltP x y=true↔x.1<y.1∨(x.1=y.1/\x.2<y.2):=by
 unfold ltP
 by_cases e:x.1=y.1
 ·rw[if_pos (by simpa using e)]
  by_cases e2:x.2=y.2
  ·rw[if_pos (by simpa using e2)]
   exact⟨fun h=>by (cases h),fun h=>by rfl'⟩
  ·rw[if_neg (by simpa using e2),decide_eq_true_iff];omega
 ·rw[if_neg (by simpa using e),decide_eq_true_iff];omega
def zv7(z:Int×Int×Int):PyData:=.tuple [.int z.1,.int z.2.1,.int z.2.2]
def zd7(xs:List (Int×Int×Int)):PyData:=.list (xs.map zv7)
def stmD(xss:List (List (Int×Int×Int))):PyData:=.list (xss.map zd7)
theorem zp2(xs:List (Int×Int×Int)):rowF (zd7 xs)=xs:=by
 unfold rowF zd7
 show (xs.map zv7).map triD=xs
 rw[zco0]
 exact (zcn7 fun x _=>rfl).trans (List.map_id _)
theorem zv3{ns:List Int}(nn:∀ n∈ns,0<=n)(hi:i<ns.length):0<=ns.getD i 0/\ns.getD i 0<=(ns.drop i).sum/\(ns.drop i).sum - ns.getD i 0=(ns.drop (i+1)).sum:=by
 have e:ns.drop i=ns[i] :: ns.drop (i+1):=zcr9 hi
 have g:ns.getD i 0=ns[i]:=by rw[zcm4,zcm0 hi];rfl
 have z:=(zj4 (ns:=ns.drop (i+1)) fun n hn=>nn n (zcu9 hn)).2
 rw[g,e,zcp6]
 exact⟨nn _ (zcs4 hi),by rfl',by rfl'⟩
structure OkS(ms:List (List Int×Int))(h:Int)(f:Nat):Prop where
 ne:1<=ms.length
 f1:1<=f
 all:∀ x∈ms,(∀ n∈x.1,0<=n)/\x.1.length=f/\x.1.sum=h/\1<=x.2
theorem zat7(R:zt0 ms i xs){z:Int×Int×Int}(hz:z∈xs):∃ x∈ms,z.1=(x.1.drop i).sum/\z.2.1=x.1.getD i 0:=by
 have:keyT z∈(sumG (flw ms i)).map (·.1):=(R.2.1 _).mp (zcn5.mpr ⟨z,hz,rfl⟩)
 rw[(zi7 _).2,zcn5] at this
 obtain⟨y,hy,ey⟩:=this
 unfold flw at hy
 obtain⟨x,hx,rfl⟩:=zcn5.mp hy
 have ey:((x.1.drop i).sum,x.1.getD i 0)=(z.1,z.2.1):=ey
 exact⟨x,hx,(congrArg Prod.fst ey).symm,(congrArg Prod.snd ey).symm⟩
theorem zp6{f:Nat}(O:OkS ms h f)(hi:i<f)(R:zt0 ms i xs){z:Int×Int×Int}(hz:z∈xs):0<=z.2.1/\z.2.1<=z.1/\z.2.2=atG (flw ms i) (keyT z)/\1<=z.2.2:=by
 obtain⟨x,hx,e1,e2⟩:=zat7 R hz
 obtain⟨nn,xl,_,_⟩:=O.all x hx
 obtain⟨a,b,_⟩:=zv3 nn (i:=i) (by rfl')
 have v:=R.2.2 z hz
 rw[zn4] at v
 have km:keyT z∈(flw ms i).map (·.1):=(zi7 _).2 _ |>.mp ((R.2.1 _).mp (zcn5.mpr ⟨z,hz,rfl⟩))
 rw[if_pos km] at v
 have v:=Option.some.inj v
 have w:∀ y∈flw ms i,1<=y.2:=fun y hy=>by
  unfold flw at hy
  obtain⟨x,hx,rfl⟩:=zcn5.mp hy
  exact (O.all x hx).2.2.2
 have g:=(atG_ge w (k:=keyT z)).2 km
 exact⟨by rfl',by rfl',v.symm,by rfl'⟩
theorem zbx4{f:Nat}(O:OkS ms h f)(hi:i<f)(R:zt0 ms i xs):rowD (zd7 xs)=true:=by
 show ((xs.map zv7).all zq6&&incD (xs.map zv7))=true
 rw[zcn2]
 constructor
 ·rw[zcs2,zcn6]
  intro z hz
  obtain⟨a,b,_,c⟩:=zp6 O hi R hz
  show (decide ((0:Int)<=z.1)&&decide ((0:Int)<=z.2.1/\z.2.1<=z.1)&&decide ((1:Int)<=z.2.2))=true
  rw[decide_eq_true (show (0:Int)<=z.1 by rfl'),decide_eq_true (show (0:Int)<=z.2.1/\z.2.1<=z.1 from ⟨a,b⟩),decide_eq_true c];rfl
 ·unfold incD
  rw[zcl9,zcn6]
  intro j hj
  have hj:=zcq6.mp hj
  have p:=zct3.mp R.1.2 j (j+1) (by rw[zcl9];omega) (by rw[zcl9];omega) (by rfl')
  have g:∀ (j:Nat) (hj:j<xs.length),keyD ((xs.map zv7).getD j .none)=(xs.map keyT)[j]'(by rw[zcl9];exact hj):=fun j hj=>by
   rw[zcm4,zcm5,zcm0 hj,List.getElem_map];rfl
  rw[g j (by rfl'),g (j+1) (by rfl')]
  exact p
theorem zad3(R:zt0 ms i xs)(hv:∀ z∈xs,z.2.2=atG (flw ms i) (keyT z))(g:Int×Int->Int)(k:Int):valG (sumG (xs.map fun z=>(g (keyT z),z.2.2))) k=valG (sumG ((flw ms i).map fun z=>(g z.1,z.2))) k:=by
 rw[zn4,zn4]
 have mem:k∈(xs.map fun z=>(g (keyT z),z.2.2)).map (·.1)↔k∈((flw ms i).map fun z=>(g z.1,z.2)).map (·.1):=by
  rw[zco0,zco0,zcn5,zcn5]
  constructor
  ·rintro⟨z,hz,rfl⟩
   have:=(zi7 _).2 _ |>.mp ((R.2.1 _).mp (zcn5.mpr ⟨z,hz,rfl⟩))
   obtain⟨y,hy,ey⟩:=zcn5.mp this
   exact⟨y,hy,congrArg g ey⟩
  ·rintro⟨y,hy,rfl⟩
   have:y.1∈xs.map keyT:=(R.2.1 _).mpr ((zi7 _).2 _ |>.mpr (zcn5.mpr ⟨y,hy,rfl⟩))
   obtain⟨z,hz,ez⟩:=zcn5.mp this
   exact⟨z,hz,congrArg g ez⟩
 have at1:atG (xs.map fun z=>(g (keyT z),z.2.2)) k=(((xs.map keyT).filter fun q=>decide (g q=k)).map (atG (flw ms i))).sum:=by
  unfold atG
  rw[List.filter_map,List.filter_map,zco0,zco0]
  refine congrArg List.sum (zcn7 fun z hz=>?_)
  exact hv z (List.mem_filter.mp hz).1
 have at2:atG ((flw ms i).map fun z=>(g z.1,z.2)) k=(((flw ms i).filter fun z=>decide (g z.1=k)).map (·.2)).sum:=by
  unfold atG
  rw[List.filter_map,zco0]
  rfl
 rw[at1,at2,zaj6 (p:=fun q=>decide (g q=k)) R.1.1 fun z hz=>(R.2.1 _).mpr ((zi7 _).2 _ |>.mpr (zcn5.mpr ⟨z,hz,rfl⟩))]
 by_cases h:k∈(xs.map fun z=>(g (keyT z),z.2.2)).map (·.1)
 ·rw[if_pos h,if_pos (mem.mp h)]
 ·rw[if_neg h,if_neg fun q=>h (mem.mpr q)]
theorem zbg6{f:Nat}{ys:List (Int×Int×Int)}(O:OkS ms h f)(hi:i+1<f)(R1:zt0 ms i xs)(R2:zt0 ms (i+1) ys):zw6 (zd7 xs) (zd7 ys)=true:=by
 unfold zw6
 rw[zp2,zp2]
 refine zbz2 fun k=>?_
 have a:=zad3 R1 (fun z hz=>(zp6 O (by rfl') R1 hz).2.2.1) (fun q=>q.1 - q.2) k
 have b:=zad3 R2 (fun z hz=>(zp6 O hi R2 hz).2.2.1) (fun q=>q.1) k
 have e:((flw ms i).map fun z=>(z.1.1 - z.1.2,z.2))=(flw ms (i+1)).map fun z=>(z.1.1,z.2):=by
  unfold flw
  rw[zco0,zco0]
  refine zcn7 fun x hx=>?_
  obtain⟨nn,xl,_,_⟩:=O.all x hx
  obtain⟨_,_,c⟩:=zv3 nn (i:=i) (by rfl')
  show ((x.1.drop i).sum - x.1.getD i 0,x.2)=((x.1.drop (i+1)).sum,x.2)
  rw[c]
 have a:valG (sumG (xs.map fun z=>(z.1 - z.2.1,z.2.2))) k=valG (sumG ((flw ms i).map fun z=>(z.1.1 - z.1.2,z.2))) k:=a
 have b:valG (sumG (ys.map fun z=>(z.1,z.2.2))) k=valG (sumG ((flw ms (i+1)).map fun z=>(z.1.1,z.2))) k:=b
 rw[a,e,b]
theorem stm_ok{f:Nat}(O:OkS ms h f)(S:zaw3 ms f xss):zm8 h f (stmD xss)=true:=by
 have f1:=O.f1
 have gd:∀ (i:Nat) (hi:i<xss.length),(xss.map zd7).getD i .none=zd7 xss[i]:=fun i hi=>by
  rw[zcm4,zcm5,zcm0 hi];rfl
 have ri:∀ (i:Nat) (hi:i<xss.length),zt0 ms i xss[i]:=fun i hi=>(S.2 i _ (zcm0 hi)).1
 have sl:=S.1
 have l0:0<xss.length:=by rfl'
 have r0:=ri 0 l0
 obtain⟨x0,ex0⟩:∃ x,ms[0]?=some x:=⟨_,zcm0 (by have:=O.ne;omega)⟩
 have n0:0<(xss[0]).length:=by
  have:((x0.1.drop 0).sum,x0.1.getD 0 0)∈(xss[0]).map keyT:=(r0.2.1 _).mpr ((zi7 _).2 _ |>.mpr (by
   unfold flw
   rw[zco0]
   exact zcn5.mpr ⟨x0,zcm6 ex0,rfl⟩))
  obtain⟨z,hz,_⟩:=zcn5.mp this
  exact List.length_pos_of_mem hz
 have items:zb2 (stmD xss)=xss.map zd7:=rfl
 unfold zm8
 rw[items]
 have b:zf9 (stmD xss)=true:=by
  show (decide (0<(xss.map zd7).length)&&rowD ((xss.map zd7).getD 0 .none)&&decide (0<(zb2 ((xss.map zd7).getD 0 .none)).length))=true
  rw[gd 0 l0,zcl9,decide_eq_true l0,zbx4 O (by rfl') r0]
  show (true&&true&&decide (0<((xss[0]).map zv7).length))=true
  rw[zcl9,decide_eq_true n0];rfl
 have c1:decide ((((xss.map zd7).length:Nat):Int)=(f:Int))=true:=decide_eq_true (by rw[zcl9,sl])
 have c2:(xss.map zd7).all rowD=true:=by
  rw[zcs2,zcn6]
  intro xs hx
  obtain⟨i,ei⟩:=zcp3 hx
  exact zbx4 O (by have:=(zcm1.mp ei).1;omega) (S.2 i xs ei).1
 have c3:zbk9 h ((xss.map zd7).getD 0 .none)=true:=by
  rw[gd 0 l0]
  unfold zbk9
  rw[zp2,zcn6]
  intro z hz
  obtain⟨x,hx,e1,_⟩:=zat7 r0 hz
  rw[e1,List.drop_zero]
  exact decide_eq_true (O.all x hx).2.2.1
 have c4:goneD ((xss.map zd7).getD ((xss.map zd7).length - 1) .none)=true:=by
  rw[zcl9,gd (xss.length - 1) (by rfl')]
  unfold goneD
  rw[zp2,zcn6]
  intro z hz
  obtain⟨x,hx,e1,e2⟩:=zat7 (ri _ (by rfl')) hz
  obtain⟨nn,xl,_,_⟩:=O.all x hx
  obtain⟨_,_,c⟩:=zv3 nn (i:=xss.length - 1) (by rfl')
  rw[List.drop_of_length_le (i:=xss.length - 1+1) (by rfl')] at c
  have:([]:List Int).sum=0:=rfl
  rw[e1,e2]
  exact decide_eq_true (by rfl')
 have c5:zad5 (xss.map zd7)=true:=by
  unfold zad5
  rw[zcl9,zcn6]
  intro i hi
  have hi:=zcq6.mp hi
  rw[gd i (by rfl'),gd (i+1) (by rfl')]
  exact zbg6 O (by rfl') (ri i (by rfl')) (ri (i+1) (by rfl'))
 rw[b,c1,c2,c3,c4,c5];rfl
theorem RwAt.shL{p:Addr}{bs:List Addr}(R:RwAt H p bs xs):ShL H (bs.map V.ref) (xs.map zv7):=ShL.idx (by rw[zcl9,zcl9,R.len]) fun i x d h1 h2=>by
 rw[zcm5] at h1 h2
 obtain⟨b,eb,rfl⟩:=zcm7.mp h1
 obtain⟨z,ez,rfl⟩:=zcm7.mp h2
 exact .tup (R.row i b z eb ez) (.cons (.int _) (.cons (.int _) (.cons (.int _) .nil)))
theorem RwAt.sh{p:Addr}{bs:List Addr}(R:RwAt H p bs xs):ShV H (.ref p) (zd7 xs):=.lst R.out R.shL
theorem StAt.sh{H:Hp}{p:Addr}{rs:List (Addr×List Addr)}{xss:List (List (Int×Int×Int))}(R:StAt H p rs xss):ShV H (.ref p) (stmD xss):=.lst R.out (ShL.idx (by rw[zcl9,zcl9,R.len]) fun i x d h1 h2=>by
 rw[zcm5] at h1 h2
 obtain⟨b,eb,rfl⟩:=zcm7.mp h1
 obtain⟨z,ez,rfl⟩:=zcm7.mp h2
 exact ((R.row i b z eb ez).same (zn1 _ _)).sh)
def row7(c:Bool)(xs:List (Int×Int×Int)):PyData:=.list (xs.map zv7++if c=true then [.int 7] else [])
theorem row7_F(xs:List (Int×Int×Int)):row7 false xs=zd7 xs:=by unfold row7 zd7;rw[if_neg zcn0,List.append_nil]
theorem tri_ok(z:Int×Int×Int):okD 1 (zv7 z):=okD.tuple (n:=0) (by show 3<=1000;decide) fun d hd=>by
 simp only[zcm9,zcp1,or_false] at hd
 rcases hd with rfl|rfl|rfl<;>exact⟨rfl,rfl,zcp5 _⟩
theorem zca6{c:Bool}(h:xs.length<64):okD 2 (row7 c xs):=okD.list (n:=1) (by rw[zcn1,zcl9];split<;>simp<;>omega) fun d hd=>by
 rcases zcq0.mp hd with hd|hd
 ·obtain⟨z,_,rfl⟩:=zcn5.mp hd;exact tri_ok z
 ·split at hd
  ·rw[zct1.mp hd];exact⟨rfl,rfl,zcp5 _⟩
  ·cases hd
theorem zca0{c:Bool}(hl:xss.length<64)(h:∀ xs∈xss,xs.length<64):okD 3 (.list (xss.map (row7 c))):=okD.list (n:=2) (by rw[zcl9];omega) fun d hd=>by
 obtain⟨xs,hx,rfl⟩:=zcn5.mp hd
 exact zca6 (h xs hx)
theorem zbt7(xss:List (List (Int×Int×Int))):stmD xss=.list (xss.map (row7 false)):=by
 unfold stmD
 rw[zcn7 fun xs _=>(row7_F xs).symm]
def zi6(x:List Int×Int):PyData:=.tuple [.list (x.1.map PyData.int),.int x.2]
def zq7(ms:List (List Int×Int)):PyData:=.list (ms.map zi6)
theorem zby5{p:Addr}{ns:List Int}(h:H p=some (.lst (ns.map V.int))):ShV H (.ref p) (.list (ns.map PyData.int)):=.lst h (ShL.idx (by rw[zcl9,zcl9]) fun i x d h1 h2=>by
 rw[zcm5] at h1 h2
 obtain⟨n,en,rfl⟩:=zcm7.mp h1
 rw[en] at h2
 cases h2
 exact .int n)
theorem zd1.sh(M:zd1 H m ts ms):ShV H (.ref m) (zq7 ms):=.lst M.out (ShL.idx (by rw[zcl9,zcl9,M.len]) fun i x d h1 h2=>by
 obtain⟨t,y,rfl,e1,e2,e3,e4⟩:=M.elt h1
 rw[zcm5,e2] at h2
 cases h2
 exact .tup e3 (.cons (zby5 e4) (.cons (.int _) .nil)))
theorem zcb9(ms:List (List Int×Int)):msD (zq7 ms)=ms:=by
 unfold msD zq7
 show (ms.map zi6).map _=ms
 rw[zco0]
 exact (zcn7 fun x _=>by show (zag5 (zm6 (zi6 x)),x.2)=x;unfold zi6;rw[zo5]).trans (List.map_id _)
theorem zap1{x:List Int×Int}(e:ms[0]?=some x):zj3 (ms.map zi6)=x.1:=by
 unfold zj3
 rw[getD_some (d:=zi6 x) (by rw[zcm5,e];rfl)]
 exact zo5 x.1 x.2
theorem zbf9{f:Nat}(O:OkS ms h f)(hh:0<=h/\h<=40)(hf:f<=8):mixD (zq7 ms)=true/\zp7 (zq7 ms)=f:=by
 obtain⟨x0,ex0⟩:∃ x,ms[0]?=some x:=⟨_,zcm0 (by have:=O.ne;omega)⟩
 obtain⟨_,l0,s0,_⟩:=O.all x0 (zcm6 ex0)
 have f1:=O.f1
 refine⟨?_,by unfold zp7 zq7;show (zj3 (ms.map zi6)).length=f;rw[zap1 ex0,l0]⟩
 unfold zq7
 rw[zr5,zap1 ex0,l0,s0]
 have a1:(ms.map zi6).all zs9=true:=by
  rw[zcs2,zcn6]
  intro x hx
  obtain⟨nn,_,_,w⟩:=O.all x hx
  show ((x.1.map PyData.int).all (zj0 0)&&decide ((1:Int)<=x.2))=true
  rw[zcs2,show x.1.all (zj0 0∘PyData.int)=true from zcn6.mpr fun y hy=>decide_eq_true (nn y hy),decide_eq_true w];rfl
 have a2:zr8 h f=true:=by
  unfold zr8
  rw[decide_eq_true hh,decide_eq_true (show (1:Int)<=(f:Int)/\(f:Int)<=8 by rfl')];rfl
 have a3:((ms.map zi6).all fun d=>zv0 h f (zm6 d))=true:=by
  rw[zcs2,zcn6]
  intro x hx
  obtain⟨nn,xl,xs,w⟩:=O.all x hx
  show (zv0 h f (zm6 (zi6 x)))=true
  unfold zv0
  have e1:zo9 (zm6 (zi6 x))=true:=by
   show (x.1.map PyData.int).all (zj0 0)=true
   rw[zcs2]
   exact zcn6.mpr fun y hy=>decide_eq_true (nn y hy)
  have e2:zag5 (zm6 (zi6 x))=x.1:=zo5 x.1 x.2
  rw[e1,e2,decide_eq_true (show (x.1.length:Int)=(f:Int) by rfl'),decide_eq_true xs];rfl
 rw[decide_eq_true (show (ms.map zi6).length≠0 by rw[zcl9];have:=O.ne;omega),a1,a2,a3];rfl
theorem zbw4:∀ {xs ys:List Int},xs.Nodup->(∀ x∈xs,x∈ys)->ys.length<=xs.length->∀ y∈ys,y∈xs
 | [],ys,_,_,hl,y,hy=>by
  have:ys=[]:=List.length_eq_zero_iff.mp (by simpa using hl)
  rw[this] at hy
  cases hy
 | x :: xs,ys,nd,hs,hl,y,hy=>by
  rw[zct7] at nd
  have hx:=hs x (.head _)
  have ih:=zbw4 (xs:=xs) (ys:=ys.erase x) nd.2 (fun z hz=>(List.mem_erase_of_ne (fun (e:z=x)=>nd.1 (e▸hz))).mpr (hs z (.tail _ hz))) (by rw[List.length_erase_of_mem hx];rw[zco4] at hl;omega)
  by_cases e:y=x
  ·rw[e];exact .head _
  ·exact .tail _ (ih y ((List.mem_erase_of_ne e).mpr hy))
theorem zbr2{za zb:List (Int×Int)}(h:eqDI (sumG za) (sumG zb)=true):(sumG za).length=(sumG zb).length/\∀ k,valG (sumG za) k=valG (sumG zb) k:=by
 obtain⟨na,ma⟩:=zi7 za
 obtain⟨nb,mb⟩:=zi7 zb
 unfold eqDI at h
 rw[zcn2,zcn6] at h
 obtain⟨hl,h⟩:=h
 have hl:(sumG za).length=(sumG zb).length:=by simpa using hl
 refine⟨hl,?_⟩
 have h1:∀ z∈sumG za,valG (sumG zb) z.1=some z.2:=fun z hz=>by
  have:=h z hz
  have e:valI (sumG zb) z.1=valG (sumG zb) z.1:=rfl
  rw[e] at this
  simpa using this
 have sub:∀ k,k∈(sumG za).map (·.1)->k∈(sumG zb).map (·.1):=fun k hk=>by
  obtain⟨z,hz,rfl⟩:=zcn5.mp hk
  by_cases e:z.1∈(sumG zb).map (·.1)
  ·exact e
  ·have:=h1 z hz
   rw[zv4 e] at this
   cases this
 have sup:∀ k,k∈(sumG zb).map (·.1)->k∈(sumG za).map (·.1):=fun k hk=>by
  exact zbw4 na (fun k hk=>sub k hk) (by rw[zcl9,zcl9];omega) k hk
 intro k
 by_cases e:k∈(sumG za).map (·.1)
 ·obtain⟨z,hz,rfl⟩:=zcn5.mp e
  rw[zay0 na hz,h1 z hz]
 ·rw[zv4 e,zv4 fun z=>e (sup k z)]
def zf3(d:PyData):Int:=((rowF ((zb2 d).getD 0 .none)).getD 0 (0,0,0)).1
def zg6(d:PyData):Bool:=zf9 d&&(zr8 (zf3 d) (zb2 d).length&&zm8 (zf3 d) (zb2 d).length d)
theorem zap3{v:V}{d:PyData}(h:ShV H v d)(e:zf9 d=true):∃ (a r t:Addr) (xs:List V) (ds:List PyData) (ts:List Addr) (j w:Int),v=.ref a/\d=.list ds/\H a=some (.lst xs)/\xs.length=ds.length/\1<=ds.length/\xs[0]?=some (.ref r)/\H r=some (.lst (ts.map V.ref))/\ts[0]?=some t/\H t=some (.tup [.int (zf3 d),.int j,.int w]):=by
 cases h
 case lst a xs ds e1 l=>
  have e:(decide (0<ds.length)&&rowD (ds.getD 0 .none)&&decide (0<(zb2 (ds.getD 0 .none)).length))=true:=e
  rw[zcn2,zcn2,decide_eq_true_eq,decide_eq_true_eq] at e
  obtain⟨⟨h0,h1⟩,h2⟩:=e
  have ll:=l.len
  obtain⟨x0,ex0⟩:∃ x,xs[0]?=some x:=⟨_,zcm0 (by rfl')⟩
  obtain⟨d0,ed0,hd0⟩:=l.get 0 x0 ex0
  rw[getD_some ed0] at h1 h2
  obtain⟨r,ts,es,rfl,rfl,hr,hl,hp,_⟩:=zw2 hd0 h1
  have h2:0<es.length:=h2
  obtain⟨t,et⟩:∃ t,ts[0]?=some t:=⟨_,zcm0 (by rfl')⟩
  obtain⟨z,ez⟩:∃ z,(rowF (.list es))[0]?=some z:=⟨_,zcm0 (by rw[ze2];omega)⟩
  have eh:zf3 (.list ds)=z.1:=by
   show ((rowF (ds.getD 0 .none)).getD 0 (0,0,0)).1=z.1
   rw[getD_some ed0,zcm4,ez];rfl
  refine⟨a,r,t,xs,ds,ts,z.2.1,z.2.2,rfl,rfl,e1,ll,h0,ex0,hr,et,?_⟩
  rw[eh]
  exact hp 0 t z et ez
 all_goals simp[zf9] at e
@[irreducible] def zg0:Sp:=fun vs H Q _=>∃ (v:V) (d:PyData),vs=[v]/\ShV H v d/\zf9 d=true/\Q (.int (zf3 d)) H
theorem zp3{v:V}{d:PyData}(h:ShV H v d)(e:zf9 d=true)(q:Q (.int (zf3 d)) H):zg0 [v] H Q E:=by unfold zg0;exact⟨v,d,rfl,h,e,q⟩
theorem zax6(F:Fun K "hosts_in" "hosts_in" zx5 f fd)(N:Nm mg):FnOk P w K mg base CX0 1 f fd ["stream"] zg0:=by
 refine F.ok zaw1 (fun vs H Q E h=>by unfold zg0 at h;obtain⟨_,_,rfl,_⟩:=h;rfl) fun _ _ _ s H vs Q E hr h=>?_
 unfold zg0 at h
 obtain⟨v,d,rfl,h,e,q⟩:=h
 refine⟨_,(za5 (za9 (zb4 (K:=K) rfl (zb4 (K:=K) rfl (zb4 (K:=K) rfl (pq 0) za2) za2) za2))),?_⟩
 obtain⟨a,r,t,xs,ds,ts,j,w,rfl,_,ha,_,_,hx,hr',ht,htt⟩:=zap3 h e
 refine zc2 (v:=.ref r) ha (zg2 (j:=0) hx) ?_
 refine zc2 (v:=.ref t) hr' (zg2 (j:=0) (by rw[zcm5,ht];rfl)) ?_
 refine zb6 (v:=.int (zf3 d)) htt rfl ?_
 ac_nf
 exact q
@[irreducible] def zd4:Sp:=fun vs H Q _=>∃ (v:V) (d:PyData),vs=[v]/\ShV H v d/\sml d=true/\∀ H',Same H H'->Q (.bl (zg6 d)) H'
theorem any_rd{v:V}{d:PyData}(h:ShV H v d)(hs:sml d=true)(q:∀ H',Same H H'->Q (.bl (zg6 d)) H'):zd4 [v] H Q E:=by unfold zd4;exact⟨v,d,rfl,h,hs,q⟩
theorem zaa4(F:Fun K "is_any_stream" "is_any_stream" zm0 f fd)(N:Nm mg)(zci7:Def P w K mg base CX0 6 "begins" ["stream"] zl5)(zcg3:Def P w K mg base CX0 1 "hosts_in" ["stream"] zg0)(zci0:Def P w K mg base CX0 4 "is_size" ["hosts","fields"] zj5)(zcj0:Def P w K mg base CX0 7 "is_stream" ["hosts","fields","stream"] zh8):FnOk P w K mg base CX0 8 f fd ["stream"] zd4:=by
 refine F.ok zaa3 (fun vs H Q E h=>by unfold zd4 at h;obtain⟨_,_,rfl,_⟩:=h;rfl) fun _ _ _ s H vs Q E hr h=>?_
 unfold zd4 at h
 obtain⟨v,d,rfl,h,hs,q⟩:=h
 have hu:=hu40 hr
 refine⟨_,(za3 (psIf (ptW (pwOr (zh4 (ptV (pD zci7 hr zb3 (za0 (pq 0) za1)))) (zz5 (zh4 (ptV (pD zci0 hr zb3 (za0 (pD zcg3 hr zb3 (za0 (pq 0) za1)) (za0 (pB (zm1 (K:=K) rfl) N.len_ zg1 (za0 (pq 0) za1)) za1)))))))) (za5 (za9 zab6)) zc0)
   (za5 (za9 (pD zcj0 hr zb3 (za0 (pD zcg3 hr zb3 (za0 (pq 0) za1)) (za0 (pB (zm1 (K:=K) rfl) N.len_ zg1 (za0 (pq 0) za1)) (za0 (pq 0) za1))))))),?_⟩
 unfold zg6 at q
 refine zai1 h hs (fun H1 s1=>?_)
 have q:=fun H' s'=>q H' (s1.trans s')
 have h1:=h.same s1
 cases eb:zf9 d
 ·have q:=q _ (Same.refl _)
  rw[eb] at q
  refine zc1 (br_F ?_)
  refine br_T ?_
  ac_nf
  exact q
 rw[eb,zcp9] at q
 obtain⟨a,r,t,xs,ds,ts,j,w,rfl,rfl,ha,hl,_⟩:=zap3 h1 eb
 have q:∀ H',Same H1 H'->Q (.bl (zr8 (zf3 (.list ds)) ds.length&&zm8 (zf3 (.list ds)) ds.length (.list ds))) H':=q
 refine zc1 (br_T ?_)
 refine zp3 h1 eb ?_
 refine ze8 ha ?_
 rw[hl]
 refine zaz0 ?_
 cases ez:zr8 (zf3 (.list ds)) ds.length
 ·have q:=q _ (Same.refl _)
  rw[ez] at q
  refine zc1 (br_F ?_)
  ac_nf
  exact q
 rw[ez,zcp9] at q
 refine zc1 (br_T ?_)
 refine zp3 h1 eb ?_
 refine ze8 ha ?_
 rw[hl]
 refine zbe1 h1 hs (fun H2 s2=>?_)
 ac_nf
 exact q _ s2
theorem any_ok{f:Nat}(O:OkS ms h f)(S:zaw3 ms f xss)(hz:zr8 h f=true):zg6 (stmD xss)=true/\zf3 (stmD xss)=h:=by
 have st:=stm_ok O S
 have st':=st
 unfold zm8 at st'
 rw[zcn2,zcn2,zcn2,zcn2] at st'
 obtain⟨b,_,_,fu,_⟩:=st'
 have il:((zb2 (stmD xss)).length:Int)=f:=by
  show (((xss.map zd7).length:Nat):Int)=f
  rw[zcl9,S.1]
 have eh:zf3 (stmD xss)=h:=by
  have b:(decide (0<(zb2 (stmD xss)).length)&&rowD ((zb2 (stmD xss)).getD 0 .none)&&decide (0<(zb2 ((zb2 (stmD xss)).getD 0 .none)).length))=true:=b
  rw[zcn2,decide_eq_true_eq] at b
  unfold zbk9 at fu
  have fu:=zcn6.mp fu
  unfold zf3
  have ll:0<(rowF ((zb2 (stmD xss)).getD 0 .none)).length:=by unfold rowF;rw[zcl9];exact b.2
  generalize rowF ((zb2 (stmD xss)).getD 0 .none)=ys at fu ll ⊢
  have:=fu (ys.getD 0 (0,0,0)) (by rw[zcm4,zcm0 ll];exact zcs4 _)
  exact of_decide_eq_true this
 refine⟨?_,eh⟩
 unfold zg6
 rw[eh,il,b,hz,st];rfl
@[irreducible] def zd8(zcf4:Addr):Sp:=fun vs H Q E=>∃ (v:V) (d:PyData),vs=[v]/\ShV H v d/\sml d=true/\(zg6 d=true->∀ H',Same H H'->Q .non H')/\(zg6 d=false->∀ H',Same H H'->E (.ref zcf4) none H')
theorem zt2{zcf4:Addr}{v:V}{d:PyData}(h:ShV H v d)(hs:sml d=true)(q:zg6 d=true->∀ H',Same H H'->Q .non H')(qe:zg6 d=false->∀ H',Same H H'->E (.ref zcf4) none H'):zd8 zcf4 [v] H Q E:=by unfold zd8;exact⟨v,d,rfl,h,hs,q,qe⟩
theorem zah7(F:Fun K "look_stream" "look_stream" zp0 f fd)(N:Nm mg)(zch7:Def P w K mg base CX0 8 "is_any_stream" ["stream"] zd4)(Z:Cz K mg base zcf8 zcf5 zcg1 zcf7 zcf4 zcg2):FnOk P w K mg base (CXR P w) 9 f fd ["stream"] (zd8 zcf4):=by
 refine F.okR zag9 (fun vs H Q E h=>by unfold zd8 at h;obtain⟨_,_,rfl,_⟩:=h;rfl) (fun cdv A outer s H vs Q E hr hX h=>?_)
 unfold zd8 at h
 obtain⟨v,d,rfl,h,hs,q,qe⟩:=h
 have hu:=hu40 hr
 refine⟨_,(za5 (psIf (zh4 (ptV (pD zch7 hr zb3 (za0 (pq 0) za1)))) (za5 (zbm1 Z.o_NoStream PySem.F.excBase_ValueError rfl hX (za0 zr3 za1))) zc0)),?_⟩
 refine any_rd h hs (fun H1 s1=>?_)
 cases e:zg6 d
 ·ac_nf
  refine zc1 (br_F ?_)
  ac_nf
  exact⟨by decide,qe e _ s1⟩
 ·ac_nf
  refine zc1 (br_T ?_)
  ac_nf
  exact q e _ s1
theorem zbo1{k:Nat}(hk:k=xs.length):((List.range k).map fun i=>V.int (xs.getD i (0,0,0)).2.2)=(xs.map fun z=>z.2.2).map V.int:=by
 subst hk
 apply zct6
 intro i
 rw[zcm5,zcm5,zcm5]
 by_cases h:i<xs.length
 ·rw[zcs0 h,zcm0 h]
  simp[h]
 ·rw[zcp7 (by simp;omega),zcp7 (by rfl')]
  rfl
def zt4(d:PyData):Int:=tot (rwF (rowF ((zb2 d).getD 0 .none)))
@[irreducible] def zk0:Sp:=fun vs H Q _=>∃ (v:V) (d:PyData),vs=[v]/\ShV H v d/\zf9 d=true/\(rowF ((zb2 d).getD 0 .none)).length<=1000/\∀ H',Same H H'->Q (.int (zt4 d)) H'
theorem zaw6{v:V}{d:PyData}(h:ShV H v d)(e:zf9 d=true)(hl:(rowF ((zb2 d).getD 0 .none)).length<=1000)(q:∀ H',Same H H'->Q (.int (zt4 d)) H'):zk0 [v] H Q E:=by unfold zk0;exact⟨v,d,rfl,h,e,hl,q⟩
theorem zaw4(F:Fun K "whole_in" "whole_in" zz1 f fd)(N:Nm mg):FnOk P w K mg base CX0 1 f fd ["stream"] zk0:=by
 refine F.ok zav1 (fun vs H Q E h=>by unfold zk0 at h;obtain⟨_,_,rfl,_⟩:=h;rfl) fun _ _ _ s H vs Q E hr h=>?_
 unfold zk0 at h
 obtain⟨v,d,rfl,h,e,hl,q⟩:=h
 have hu:=hu40 hr
 cases h
 case lst a xs ds ea l=>
  have e:(decide (0<ds.length)&&rowD (ds.getD 0 .none)&&decide (0<(zb2 (ds.getD 0 .none)).length))=true:=e
  rw[zcn2,zcn2,decide_eq_true_eq,decide_eq_true_eq] at e
  obtain⟨⟨h0,h1⟩,h2⟩:=e
  have ll:=l.len
  obtain⟨x0,ex0⟩:∃ x,xs[0]?=some x:=⟨_,zcm0 (by rfl')⟩
  obtain⟨d0,ed0,hd0⟩:=l.get 0 x0 ex0
  have hl:(rowF (ds.getD 0 .none)).length<=1000:=hl
  have q:∀ H',Same H H'->Q (.int (tot (rwF (rowF (ds.getD 0 .none))))) H':=q
  rw[getD_some ed0] at h1 h2 hl q
  obtain⟨r,ts,es,rfl,rfl,hr',hlr,hp,_⟩:=zw2 hd0 h1
  generalize eys:rowF (.list es)=ys at hp hl q
  have rl:ts.length=ys.length:=by rw[← eys,ze2];exact hlr
  refine⟨_,(za5 (za9 (pB (zau1 (K:=K) rfl rfl) N.sum_ zz8 (za0 (zd5 (N:=["left","sent","flow"]) (ks:=[none,none,none]) (zf8 (K:=K) rfl (zb4 (K:=K) rfl (pq 0) za2)) (fun _ _ _ _ _=>(zi4 (K:=K) (n:=3) rfl rfl (zb0 (za7 (i:=0) nb_13 rfl (by eq_refl)) (zb0 (za7 (i:=1) nb_13 rfl (by eq_refl)) (zb0 (za7 (i:=2) nb_13 rfl (by eq_refl)) zi2))))) (fun _ _ _ _ _=>zc6) (fun _ _ _ _ _=>(pq 2)) (.skip (.skip (.skip .nil)))) za1)))),?_⟩
  refine zc2 (v:=.ref r) ea (zg2 (j:=0) ex0) ?_
  refine zb9 hr' ?_
  refine zk7 (Wk.list (SqL.of hr')) (by rw[zcl9,zcv5];omega) (fun i=>.int (ys.getD i (0,0,0)).2.2) (fun _=>true) (fun j σ=>∃ t u w:Option V,σ=[t,u,w]) ⟨none,none,none,rfl⟩ ?_ ?_
  ·rintro i x σ I R' S' hi s1 hx ⟨_,_,_,rfl⟩ kk _
   rw[zcm5] at hx
   obtain⟨t,et,rfl⟩:=zcm7.mp hx
   obtain⟨z,ez⟩:∃ z,ys[i]?=some z:=⟨_,zcm0 (by have:=(zcm1.mp et).1;omega)⟩
   rw[show ys.getD i (0,0,0)=z by rw[zcm4,ez];rfl] at kk
   refine zd0 (s1 _ _ (hp i t z et ez)) ?_
   refine br_T ?_
   ac_nf
   exact kk rfl _ _ (Same.refl _) ⟨_,_,_,rfl⟩
  intro acc H1 f1 s1 h1
  rw[ze1,zbo1 (by rw[zcl9];exact rl)] at h1
  refine zab3 h1 ?_
  ac_nf
  have:=q _ s1
  unfold tot rwF at this
  rw[zco0] at this
  exact this
 all_goals simp[zf9] at e
theorem zbx6{d:PyData}(e:zg6 d=true)(hs:sml d=true):∃ ds,d=.list ds/\zf9 d=true/\(0<=zf3 d/\zf3 d<=40)/\ds.length<=8/\∀ x∈ds,rowD x=true/\(zb2 x).length<=1000:=by
 unfold zg6 zr8 zm8 at e
 simp only[zcn2,decide_eq_true_eq] at e
 obtain⟨eb,⟨hz,hf⟩,_,_,ea,_⟩:=e
 cases d with
 | list ds=>
  have ea:ds.all rowD=true:=ea
  have ea:=zcn6.mp ea
  have hf:1<=(ds.length:Int)/\(ds.length:Int)<=8:=hf
  refine⟨ds,rfl,eb,hz,by rfl',fun x hx=>⟨ea x hx,?_⟩⟩
  have m:=(zn0 hs).2 x hx
  have r:=ea x hx
  cases x with
  | list es=>exact (zn0 m).1
  | _=>simp[rowD] at r
 | _=>simp[zf9] at eb
inductive Ap(h W:Int):List (List (Int×Int×Int))->List (List Int×Int)->Prop where
 | nil:Ap h W [] [([],W)]
 | step {rs:List (List (Int×Int×Int))}{ms ms2:List (List Int×Int)}{xs:List (Int×Int×Int)}{out:List (List Int×(Int×Int)×Int)}:Ap h W rs ms->ms2.Perm ms->ms2.Pairwise (fun x y=>h - x.1.sum<=h - y.1.sum)->Mrg ms2 (rwF xs) out->Ap h W (rs++[xs]) (outM out)
theorem zca3{rs:List ((Int×Int)×Int)}{out:List (List Int×(Int×Int)×Int)}(h:Mrg ms rs out):tot (outM out)=tot ms:=by
 have:=h.sumL fun _=>1
 simp only[Int.mul_one] at this
 unfold tot outM
 rw[zco0]
 exact this
theorem Ap.ok{W:Int}{rs:List (List (Int×Int×Int))}(A:Ap h W rs ms)(hW:1<=W):(∀ xs∈rs,(∀ x∈xs,1<=x.2.2)/\xs.length<=9)->(∀ x∈ms,1<=x.2/\x.1.length=rs.length)/\tot ms=W/\ms≠[]/\ms.length<=1+8*rs.length:=by
 induction A with
 | nil=>
  intro _
  refine⟨fun x hx=>?_,?_,by simp,by simp⟩
  ·have:x=([],W):=by simpa using hx
   subst this
   exact⟨hW,rfl⟩
  ·unfold tot;simp
 | @step rs ms ms2 xs out A hp hs hm ih=>
  intro hr
  obtain⟨i1,i2,i3,i4⟩:=ih fun ys hy=>hr ys (zcu7 _ hy)
  obtain⟨r1,r2⟩:=hr xs (zcq1 _ (.head _))
  have n2:ms2≠[]:=fun z=>by rw[z] at hp;exact i3 (List.nil_perm.mp hp)
  have pos:=hm.pos (fun x hx=>(i1 x (hp.mem_iff.mp hx)).1) (fun x hx=>by
   unfold rwF at hx
   obtain⟨y,hy,rfl⟩:=zcn5.mp hx
   exact r1 y hy)
  have tt:tot (outM out)=W:=by rw[zca3 hm,zay6 hp,i2]
  refine⟨fun x hx=>?_,tt,fun z=>?_,?_⟩
  ·unfold outM at hx
   obtain⟨z,hz,rfl⟩:=zcn5.mp hx
   refine⟨pos z hz,?_⟩
   obtain⟨y,hy,ey⟩:=zcn5.mp (hm.memL z hz).1
   rw[zcn1,zcn1,← ey,(i1 y (hp.mem_iff.mp hy)).2]
   rfl
  ·rw[z] at tt
   have:tot ([]:List (List Int×Int))=0:=rfl
   omega
  ·have l1:=hm.len n2
   have l2:=hp.length_eq
   have l3:(rwF xs).length=xs.length:=by unfold rwF;rw[zcl9]
   have l4:(outM out).length=out.length:=by unfold outM;rw[zcl9]
   rw[zcn1,l4]
   show out.length<=1+8*(rs.length+1)
   omega
theorem zd1.sorted{a p:Addr}{tab:Array Value}{ps:List (Int×Addr)}(M:zd1 H a ts ms)(hT:H T=some (.tbl tab))(c:Chg T H H')(hp:ps.Perm ((ms.map fun x=>h - x.1.sum).zip (ts.map (·.1))))(hs:ps.Pairwise (fun x y=>x.1<=y.1))(ho:H' p=some (.lst (ps.map fun x=>V.ref x.2))) :
  ∃ ts2 ms2,zd1 H' p ts2 ms2/\ms2.Perm ms/\ms2.Pairwise (fun x y=>h - x.1.sum<=h - y.1.sum):=by
 have ml:=M.len
 have e:(ms.map fun x=>h - x.1.sum).zip (ts.map (·.1))=(ms.zip ts).map fun y=>(h - y.1.1.sum,y.2.1):=by
  rw[List.zip_map]
  rfl
 rw[e] at hp
 obtain⟨L,q1,q2⟩:=zz7 (fun y:(List Int×Int)×(Addr×Addr)=>(h - y.1.1.sum,y.2.1)) hp
 subst q2
 refine⟨L.map (·.2),L.map (·.1),⟨?_,by rw[zcl9,zcl9],fun i t x g1 g2=>?_⟩,?_,?_⟩
 ·rw[ho,zco0,zco0]
  rfl
 ·rw[zcm5] at g1 g2
  obtain⟨y,ey,rfl⟩:=zcm7.mp g1
  rw[ey] at g2
  cases g2
  obtain⟨j,ej⟩:=zcp3 (q1.mem_iff.mp (zcm6 ey))
  have e1:ms[j]?=some y.1/\ts[j]?=some y.2:=by
   rw[List.getElem?_zip_eq_some] at ej
   exact ej
  have f:=M.part j y.2 y.1 e1.2 e1.1
  exact⟨c _ _ (fun z=>by rw[z,hT] at f;exact absurd f.1 (by intro z;cases z)) f.1,c _ _ (fun z=>by rw[z,hT] at f;exact absurd f.2 (by intro z;cases z)) f.2⟩
 ·have:=q1.map (·.1)
  rw[List.map_fst_zip (by rfl')] at this
  exact this
 ·rw[List.pairwise_map] at hs ⊢
  exact hs
theorem zbr6{za zb:List (Int×Int)}(h:∀ k,valG (sumG za) k=valG (sumG zb) k):(za.map (·.2)).sum=(zb.map (·.2)).sum:=by
 have k1:=zi7 za
 have mem:∀ k,k∈za.map (·.1)↔k∈zb.map (·.1):=fun k=>by
  have:=h k
  rw[zn4,zn4] at this
  by_cases z1:k∈za.map (·.1)
  ·rw[if_pos z1] at this
   by_cases z2:k∈zb.map (·.1)
   ·exact⟨fun _=>z2,fun _=>z1⟩
   ·rw[if_neg z2] at this;cases this
  ·rw[if_neg z1] at this
   by_cases z2:k∈zb.map (·.1)
   ·rw[if_pos z2] at this;cases this
   ·exact⟨fun z=>absurd z z1,fun z=>absurd z z2⟩
 have a:=zaj6 (p:=fun _=>true) k1.1 (zs:=za) fun z hz=>(k1.2 _).mpr (zcn5.mpr ⟨z,hz,rfl⟩)
 have b:=zaj6 (p:=fun _=>true) k1.1 (zs:=zb) fun z hz=>(k1.2 _).mpr ((mem _).mpr (zcn5.mpr ⟨z,hz,rfl⟩))
 have ft:∀ {α:Type}(l:List α),l.filter (fun _=>true)=l:=fun l=>List.filter_eq_self.mpr fun _ _=>rfl
 rw[ft,ft] at a b
 rw[← a,← b]
 congr 1
 refine zcn7 fun k hk=>?_
 have z1:=(k1.2 k).mp hk
 have:=h k
 rw[zn4,zn4,if_pos z1,if_pos ((mem k).mp z1)] at this
 exact Option.some.inj this
theorem zbp5{d e:PyData}(h:zw6 d e=true):tot (rwF (rowF d))=tot (rwF (rowF e)):=by
 have:=zbr6 (zbr2 h).2
 rw[zco0,zco0] at this
 unfold tot rwF
 rw[zco0,zco0]
 exact this
theorem zcb4(e:zg6 (.list ds)=true):(∀ i,i<ds.length->tot (rwF (rowF (ds.getD i .none)))=zt4 (.list ds))/\1<=zt4 (.list ds)/\∀ x∈ds,rowD x=true/\∀ z∈rowF x,1<=z.2.2:=by
 unfold zg6 zm8 at e
 simp only[zcn2,decide_eq_true_eq] at e
 obtain⟨eb,_,_,_,ea,_,_,em⟩:=e
 have ea:ds.all rowD=true:=ea
 have ea:=zcn6.mp ea
 have em:(List.range (ds.length - 1)).all (fun i=>zw6 (ds.getD i .none) (ds.getD (i+1) .none))=true:=em
 have em:=zcn6.mp em
 have pos:∀ x∈ds,∀ z∈rowF x,1<=z.2.2:=fun x hx z hz=>by
  have r:=ea x hx
  cases x with
  | list es=>
   have r:(es.all zq6&&incD es)=true:=r
   rw[zcn2] at r
   have r1:=zcn6.mp r.1
   unfold rowF at hz
   obtain⟨y,hy,rfl⟩:=zcn5.mp hz
   have fy:=r1 y hy
   cases y with
   | tuple us=>
    have l3:us.length=3:=Classical.byContradiction fun z=>by rw[zak2 z] at fy;cases fy
    match us,l3 with
    | [a,b,c],_=>
     have fy:(zj0 0 a&&zy3 0 (intD a) b&&zj0 1 c)=true:=fy
     rw[zcn2] at fy
     obtain⟨w,rfl,hw⟩:=zk3 fy.2
     exact hw
   | _=>simp[zq6] at fy
  | _=>simp[rowD] at r
 have eb:(decide (0<ds.length)&&rowD (ds.getD 0 .none)&&decide (0<(zb2 (ds.getD 0 .none)).length))=true:=eb
 simp only[zcn2,decide_eq_true_eq] at eb
 refine⟨fun i hi=>?_,?_,fun x hx=>⟨ea x hx,pos x hx⟩⟩
 ·induction i with
  | zero=>rfl
  | succ i ih=>rw[← ih (by rfl')];exact (zbp5 (em i (zcq6.mpr (by rfl')))).symm
 ·show 1<=tot (rwF (rowF (ds.getD 0 .none)))
  have m0:ds.getD 0 .none∈ds:=by rw[zcm4,zcm0 eb.1.1];exact zcs4 _
  have t:=zbb2 (l:=rwF (rowF (ds.getD 0 .none))) fun y hy=>by
   unfold rwF at hy
   obtain⟨z,hz,rfl⟩:=zcn5.mp hy
   exact pos _ m0 z hz
  have:rwF (rowF (ds.getD 0 .none))≠[]:=fun z=>by
   have l:(zb2 (ds.getD 0 .none)).length=0:=by
    have l:=congrArg List.length z
    unfold rwF rowF at l
    rw[zcl9,zcl9] at l
    exact l
   have:=eb.2
   omega
  have:tot (rwF (rowF (ds.getD 0 .none)))≠0:=fun z=>this (t.2 z)
  omega
def lamQ:Str:=("taken_apart":Str)++".<locals>."++"<lambda>"
@[irreducible] def zf5(zcf4 a_tab:Addr):Sp:=fun vs H Q E=>∃ (v:V) (d:PyData),vs=[v]/\ShV H v d/\sml d=true/\zq1 a_tab 88 42 lamQ H /\
 (zg6 d=true->(∀ x∈zb2 d,(zb2 x).length<=9)/\∀ p ts ms H',Chg a_tab H H'->zq1 a_tab 88 42 lamQ H'->zd1 H' p ts ms->Ap (zf3 d) (zt4 d) ((zb2 d).map rowF) ms->Q (.ref p) H')/\(zg6 d=false->∀ H',Same H H'->E (.ref zcf4) none H')
theorem zag3{zcf4 a_tab:Addr}{v:V}{d:PyData}(h:ShV H v d)(hs:sml d=true)(hT:zq1 a_tab 88 42 lamQ H)(q:zg6 d=true->(∀ x∈zb2 d,(zb2 x).length<=9)/\∀ p ts ms H',Chg a_tab H H'->zq1 a_tab 88 42 lamQ H'->zd1 H' p ts ms->Ap (zf3 d) (zt4 d) ((zb2 d).map rowF) ms->Q (.ref p) H')(qe:zg6 d=false->∀ H',Same H H'->E (.ref zcf4) none H'):zf5 zcf4 a_tab [v] H Q E:=by unfold zf5;exact⟨v,d,rfl,h,hs,hT,q,qe⟩
theorem zah5(F:Fun K "taken_apart" "taken_apart" zp4 f fd)(N:Nm mg)(hcd:fd.code=.ref a_cod)(hCH:PySem.W.CodeHd base a_cod a_tab)(hBM:Bm mg base)(zcg3:Def P w K mg base CX0 1 "hosts_in" ["stream"] zg0)(zcg7:Def P w K mg base (CXR P w) 9 "look_stream" ["stream"] (zd8 zcf4))(zck8:Def P w K mg base CX0 1 "sent_on" ["begun","row"] zl3)(zck2:Def P w K mg base CX0 1 "whole_in" ["stream"] zk0):FnOk P w K mg base (CXR P w) 10 f fd ["stream"] (zf5 zcf4 a_tab):=by
 refine F.okRC hcd zg9 (fun vs H Q E h=>by unfold zf5 at h;obtain⟨_,_,rfl,_⟩:=h;rfl) (fun A outer s H vs Q E hr hX h=>?_)
 unfold zf5 at h
 obtain⟨v,d,rfl,h,hs,hT,q,qe⟩:=h
 have hu:=hu40 hr
 refine⟨_,(za3 (zn8 (pD zcg7 hr (passR hX) (za0 (pq 0) za1)))
   (za3 (psS (i:=1) zg9.nd (pD zcg3 hr zb3 (za0 (pq 0) za1)))
   (za3 (psS (i:=2) zg9.nd (zq5 (za0 (zq2 (za0 (zq5 za1) (za0 (pD zck2 hr zb3 (za0 (pq 0) za1)) za1))) za1)))
   (za3 (PS.nox' (zac2 PassesOwn.never rfl (zf8 (K:=K) rfl (pq 0)) (za7 (i:=3) zg9.nd rfl (by eq_refl)) (za5 (psS (i:=2) zg9.nd (pD zck8 hr zb3 (za0 (peSoK (K:=K) (T:=a_tab) (c:=a_cod) (i:=1) (ln:=88) (co:=42) (qual:=lamQ) rfl (hr.mono (by decide)) N.sorted_ N.sum_ hCH hBM (za0 (pq 2) za1) rfl rfl rfl rfl rfl rfl rfl rfl (fun _ _ _ _=>rfl)) (za0 (pq 3) za1)))))))
   (za5 (za9 (pq 2))))))),?_⟩
 refine zt2 h hs (fun e H1 s1=>?_) (fun e H1 s1=>qe e _ s1)
 obtain⟨hw,q⟩:=q e
 have h1:=h.same s1
 obtain⟨ds,rfl,eb,hz,dl,ok⟩:=zbx6 e hs
 obtain⟨tt,W1,rows⟩:=zcb4 e
 have d0:0<ds.length:=by
  have eb:(decide (0<ds.length)&&rowD (ds.getD 0 .none)&&decide (0<(zb2 (ds.getD 0 .none)).length))=true:=eb
  simp only[zcn2,decide_eq_true_eq] at eb
  exact eb.1.1
 have hw:∀ x∈ds,(zb2 x).length<=9:=hw
 have g0:ds.getD 0 .none∈ds:=by rw[zcm4,zcm0 d0];exact zcs4 _
 refine zp3 h1 eb ?_
 refine zg8 (fun p2 H2 f2 s2 k2=>?_)
 refine zaw6 (h1.same s2) eb (by show (rowF (ds.getD 0 .none)).length<=1000;unfold rowF;rw[zcl9];have:=hw _ g0;omega) (fun H3 s3=>?_)
 refine zf2 (fun p4 H4 f4 s4 k4=>?_)
 refine zg8 (fun p5 H5 f5 s5 k5=>?_)
 have s05:=s1.trans (s2.trans (s3.trans (s4.trans s5)))
 have s15:=s2.trans (s3.trans (s4.trans s5))
 cases h1
 case lst a xs ea l=>
  have h1:=h.same s1
  have ll:=l.len
  have hk:∀ x∈ds,(∀ z∈rowF x,1<=z.2.2)/\(rowF x).length<=9:=fun x hx=>⟨(rows x hx).2,by unfold rowF;rw[zcl9];exact hw x hx⟩
  refine zb9 (s15 _ _ ea) ?_
  refine zo2 (xs:=xs) (fun i σ I=>∃ (x3:Option V) (bg:Addr) (ts:List (Addr×Addr)) (ms:List (List Int×Int)),σ=[some (.ref a),some (.int (zf3 (.list ds))),some (.ref bg),x3]/\Chg a_tab H1 I/\zq1 a_tab 88 42 lamQ I/\zd1 I bg ts ms/\Ap (zf3 (.list ds)) (zt4 (.list ds)) ((ds.take i).map rowF) ms) ?_ ?_ ?_ ?_
  ·refine⟨_,p5,[(p4,p2)],[([],zt4 (.list ds))],rfl,s15.toChg,hT.same s05,⟨k5,rfl,fun i t x g1 g2=>?_⟩,?_⟩
   ·match i with
    | 0=>cases g1;cases g2;exact⟨s5 _ _ k4,s5 _ _ (s4 _ _ (s3 _ _ k2))⟩
    | i+1=>simp at g1
   ·rw[List.take_zero];exact .nil
  ·rintro i σ I hi ⟨x3,bg,ts,ms,rfl,cI,TI,M,Aq⟩
   obtain⟨tab,et,_⟩:=hT.same s1
   exact SqL.of (cI _ _ (fun z=>by rw[z,et] at ea;cases ea) ea)
  ·rintro i x σ I hx ⟨x3,bg,ts,ms,rfl,cI,TI,M,Aq⟩
   obtain⟨dr,ed,hd⟩:=l.get i x hx
   have il:i<ds.length:=(zcm1.mp ed).1
   have mem:=zcm6 ed
   obtain⟨m1,m2,m3,m4⟩:=Aq.ok W1 (fun ys hy=>by
    obtain⟨y,hy',rfl⟩:=zcn5.mp hy
    exact hk y (List.mem_of_mem_take hy'))
   have tl:((ds.take i).map rowF).length=i:=by rw[zcl9,zcr6];omega
   rw[tl] at m1 m4
   have ml:=M.len
   obtain⟨r,bs,es,rfl,rfl,hr',hlr,hp,_⟩:=zw2 hd (rows _ mem).1
   obtain⟨tab1,et1,_⟩:=hT.same s1
   have RR:RwAt H1 r bs (rowF (.list es)):=⟨hr',by rw[ze2];exact hlr,hp⟩
   have RI:RwAt I r bs (rowF (.list es)):=by
    have nt:∀ {b:Addr}{o:HO},H1 b=some o->(∀ t,o≠.tbl t)->I b=some o:=fun e n=>cI _ _ (fun z=>by rw[z,et1] at e;cases e;exact n _ rfl) e
    refine⟨nt RR.out (fun t=>by intro z;cases z),RR.len,fun i b x e1 e2=>nt (RR.row i b x e1 e2) (fun t=>by intro z;cases z)⟩
   refine soK_rd (bs:=ts.map (·.1)) (kz:=ms.map fun x=>zf3 (.list ds) - x.1.sum) (by rw[M.out,zco0];rfl) (by rw[zcl9];omega) (by rw[zcl9,zcl9];omega) (fun j b k g1 g2=>?_) TI (fun p6 H6 ps f6 c6 T6 pp po k6=>?_)
   ·rw[zcm5] at g1 g2
    obtain⟨t,et,rfl⟩:=zcm7.mp g1
    obtain⟨y,ey,rfl⟩:=zcm7.mp g2
    have f:=M.part j t y et ey
    exact⟨t.2,_,y.1,f.1,f.2,rfl⟩
   obtain⟨tabI,etI,_⟩:=TI
   obtain⟨ts2,ms2,M2,pm,po2⟩:=M.sorted etI c6 pp po k6
   have R6:RwAt H6 r bs (rowF (.list es)):=by
    have nt:∀ {b:Addr}{o:HO},I b=some o->(∀ t,o≠.tbl t)->H6 b=some o:=fun e n=>c6 _ _ (fun z=>by rw[z,etI] at e;cases e;exact n _ rfl) e
    exact⟨nt RI.out (fun t=>by intro z;cases z),RI.len,fun i b x e1 e2=>nt (RI.row i b x e1 e2) (fun t=>by intro z;cases z)⟩
   refine zbd7 M2 R6 (fun y hy=>(m1 y (pm.mem_iff.mp hy)).1) (rows _ mem).2 (by rw[zay6 pm,m2,← tt i il,getD_some ed]) (by rw[pm.length_eq];omega) (by have:=(hk _ mem).2;omega) (fun y hy=>by rw[(m1 y (pm.mem_iff.mp hy)).2];omega) (fun p7 ts7 out H7 f7 s7 M7 g7=>?_)
   ac_nf
   refine⟨_,p7,ts7,outM out,rfl,(cI.trans c6).same s7,T6.same s7,M7,?_⟩
   rw[List.take_add_one,ed]
   simp only[Option.toList_some,zco1,zcn9,zcu1]
   exact .step Aq pm po2 g7
  ·rintro σ I ⟨x3,bg,ts,ms,rfl,cI,TI,M,Aq⟩
   ac_nf
   rw[show xs.length=ds.length from ll,List.take_length] at Aq
   exact q bg ts ms I (fun b o n e=>cI b o n (s1 _ _ e)) TI M Aq
def shr(h:Nat)(xs:List (Int×Int×Int)):List Int:=(List.range (h+1)).map fun (c:Nat)=>(valG (sumG (xs.map fun z=>(z.2.1,z.2.2))) (c:Int)).getD 0
@[irreducible] def zg5:Sp:=fun vs H Q _=>∃ (h:Nat) (v:V) (d:PyData),vs=[.int h,v]/\ShV H v d/\rowD d=true/\(zb2 d).length<=1000/\h<=40/\∀ r H',H r=none->Same H H'->H' r=some (.lst ((shr h (rowF d)).map V.int))->Q (.ref r) H'
theorem zam0{h:Nat}{v:V}{d:PyData}(hv:ShV H v d)(rd:rowD d=true)(ld:(zb2 d).length<=1000)(hh:h<=40)(q:∀ r H',H r=none->Same H H'->H' r=some (.lst ((shr h (rowF d)).map V.int))->Q (.ref r) H'):zg5 [.int h,v] H Q E:=by unfold zg5;exact⟨h,v,d,rfl,hv,rd,ld,hh,q⟩
theorem zam6(F:Fun K "row_shares" "row_shares" zq9 f fd)(N:Nm mg)(zch2:Def P w K mg base CX0 1 "summed" ["pairs"] zh0):FnOk P w K mg base CX0 2 f fd ["hosts","row"] zg5:=by
 refine F.ok zv5 (fun vs H Q E h=>by unfold zg5 at h;obtain⟨_,_,_,rfl,_⟩:=h;rfl) fun _ _ _ s H vs Q E hr h=>?_
 unfold zg5 at h
 obtain⟨h,v,d,rfl,hv,rd,ld,hh,q⟩:=h
 have hu:=hu40 hr
 obtain⟨a,ts,ds,rfl,rfl,ha,hl,hp,_⟩:=zw2 hv rd
 have ld:ds.length<=1000:=ld
 refine⟨_,(za3 (psS (i:=2) zv5.nd (pD zch2 hr zb3 (za0 (zd5 (N:=["left","sent","flow"]) (ks:=[none,none,none]) (zf8 (K:=K) rfl (pq 1)) (fun _ _ _ _ _=>(zi4 (K:=K) (n:=3) rfl rfl (zb0 (za7 (i:=0) nb_17 rfl (by eq_refl)) (zb0 (za7 (i:=1) nb_17 rfl (by eq_refl)) (zb0 (za7 (i:=2) nb_17 rfl (by eq_refl)) zi2))))) (fun _ _ _ _ _=>zc6) (fun _ _ _ _ _=>(zq2 (za0 (pq 1) (za0 (pq 2) za1)))) (.skip (.skip (.skip .nil)))) za1)))
   (za5 (za9 (zd5 (N:=["count","flows"]) (ks:=[none,some 2]) (zq0 N.range_ (za0 (zb8 oAdd (pq 0) za2) za1)) (fun _ _ _ _ _=>(za7 (i:=0) nb_18 rfl (by eq_refl))) (fun _ _ _ _ _=>zc6) (fun _ _ _ _ _=>(zba3 (by exact hu) (pq 1) (pq 0) za2)) (.skip (.take rfl rfl (by eq_refl) .nil)))))),?_⟩
 refine zb9 ha ?_
 refine zas7 (Wk.list (SqL.of ha)) (by rw[zcl9,zcv5];omega) (fun i=>.tup [.int ((rowF (.list ds)).getD i (0,0,0)).2.1,.int ((rowF (.list ds)).getD i (0,0,0)).2.2]) (fun j σ=>∃ t u w:Option V,σ=[t,u,w]) ⟨none,none,none,rfl⟩ ?_ ?_
 ·rintro i x σ I R S hi s1 hx ⟨_,_,_,rfl⟩ k
  rw[zcl9] at hi
  rw[zcm5] at hx
  obtain⟨t,et,rfl⟩:=zcm7.mp hx
  obtain⟨z,ez⟩:∃ z,(rowF (.list ds))[i]?=some z:=⟨_,zcm0 (by rw[ze2];omega)⟩
  rw[show (rowF (.list ds)).getD i (0,0,0)=z by rw[zcm4,ez];rfl] at k
  refine zd0 (s1 _ _ (hp i t z et ez)) ?_
  refine br_T ?_
  refine zf2 (fun p I1 f1 r1 k1=>?_)
  ac_nf
  exact k _ _ _ f1 r1 k1 ⟨_,_,_,rfl⟩
 rintro l1 ps1 H1 F1
 rw[zcl9] at F1
 refine zx7 (zs:=(rowF (.list ds)).map fun z=>(z.2.1,z.2.2)) F1.out (by rw[F1.len,zcl9,ze2];exact hl) (by rw[zcl9,ze2];omega) (fun i t z g1 g2=>?_) (fun r2 H2 f2 s2 h2=>?_)
 ·rw[zcm5] at g2
  obtain⟨y,ey,rfl⟩:=zcm7.mp g2
  have:=(F1.row i t g1).2
  rw[show (rowF (.list ds)).getD i (0,0,0)=y by rw[zcm4,ey];rfl] at this
  exact this
 refine zh1 (by rfl') (by rfl') (by rfl') (by rfl') ?_
 rw[show ((h:Int)+1 - 0).toNat=h+1 by rfl']
 refine zk7 (n:=h+1) Wk.range (by rw[zcv5];omega) (fun i=>.int ((valG (sumG ((rowF (.list ds)).map fun z=>(z.2.1,z.2.2))) (i:Int)).getD 0)) (fun _=>true) (fun j σ=>∃ t:Option V,σ=[t,some (.ref r2)]) ⟨none,rfl⟩ ?_ ?_
 ·rintro i x σ I R S hi s3 hx ⟨_,rfl⟩ k _
  obtain rfl:x=.int i:=by rw[hx,zct5]
  have ev:(valV (dF Sum.inl (sumG ((rowF (.list ds)).map fun z=>(z.2.1,z.2.2)))) (Sum.inl (i:Int):Key)).getD (V.int 0)=.int ((valG (sumG ((rowF (.list ds)).map fun z=>(z.2.1,z.2.2))) (i:Int)).getD 0):=by
   rw[zad1 zam4]
   cases valG (sumG ((rowF (.list ds)).map fun z=>(z.2.1,z.2.2))) (i:Int)<;>rfl
  refine br_T ?_
  refine zbm7 (s3 _ _ h2) ?_
  refine zbj2 (s3 _ _ h2) ?_
  rw[ev]
  ac_nf
  exact k rfl _ _ (Same.refl _) ⟨_,rfl⟩
 intro acc H3 f3 s3 h3
 rw[ze1] at h3
 have s02:=F1.same.trans s2
 ac_nf
 exact q acc H3 (s02.free f3) (s02.trans s3) (by rw[h3];unfold shr;rw[zco0];rfl)
@[irreducible] def zh6(zcf4:Addr):Sp:=fun vs H Q E=>∃ (v:V) (d:PyData),vs=[v]/\ShV H v d/\sml d=true/\(zg6 d=true->∀ (r:Addr) (ps:List Addr) (H':Hp),H r=none->Same H H'->H' r=some (.lst (ps.map V.ref))->ps.length=(zb2 d).length->(∀ (i:Nat) p,ps[i]?=some p->H' p=some (.lst ((shr (zf3 d).toNat (rowF ((zb2 d).getD i .none))).map V.int)))->Q (.ref r) H')/\(zg6 d=false->∀ H',Same H H'->E (.ref zcf4) none H')
theorem zao3{zcf4:Addr}{v:V}{d:PyData}(h:ShV H v d)(hs:sml d=true)(q:zg6 d=true->∀ (r:Addr) (ps:List Addr) (H':Hp),H r=none->Same H H'->H' r=some (.lst (ps.map V.ref))->ps.length=(zb2 d).length->(∀ (i:Nat) p,ps[i]?=some p->H' p=some (.lst ((shr (zf3 d).toNat (rowF ((zb2 d).getD i .none))).map V.int)))->Q (.ref r) H')(qe:zg6 d=false->∀ H',Same H H'->E (.ref zcf4) none H'):zh6 zcf4 [v] H Q E:=by unfold zh6;exact⟨v,d,rfl,h,hs,q,qe⟩
theorem zat3(F:Fun K "shares_of" "shares_of" zv1 f fd)(N:Nm mg)(zcg3:Def P w K mg base CX0 1 "hosts_in" ["stream"] zg0)(zcg7:Def P w K mg base (CXR P w) 9 "look_stream" ["stream"] (zd8 zcf4))(zci3:Def P w K mg base CX0 2 "row_shares" ["hosts","row"] zg5):FnOk P w K mg base (CXR P w) 10 f fd ["stream"] (zh6 zcf4):=by
 refine F.okR zas1 (fun vs H Q E h=>by unfold zh6 at h;obtain⟨_,_,rfl,_⟩:=h;rfl) (fun cdv A outer s H vs Q E hr hX h=>?_)
 unfold zh6 at h
 obtain⟨v,d,rfl,h,hs,q,qe⟩:=h
 have hu:=hu40 hr
 refine⟨_,(za3 (zn8 (pD zcg7 hr (passR hX) (za0 (pq 0) za1)))
   (za5 (za9 (zd5 (N:=["row","stream"]) (ks:=[none,some 0]) (zf8 (K:=K) rfl (pq 0)) (fun _ _ _ _ _=>(za7 (i:=0) nb_19 rfl (by eq_refl))) (fun _ _ _ _ _=>zc6) (fun _ _ _ _ _=>(pD zci3 hr zb3 (za0 (pD zcg3 hr zb3 (za0 (pq 1) za1)) (za0 (pq 0) za1)))) (.skip (.take rfl rfl (by eq_refl) .nil)))))),?_⟩
 refine zt2 h hs (fun e H1 s1=>?_) (fun e H1 s1=>qe e _ s1)
 have q:=q e
 obtain⟨ds,rfl,eb,hz,dl,ok⟩:=zbx6 e hs
 have h1:=h.same s1
 cases h1
 case lst a xs e1 l=>
  have h1:=h.same s1
  have ll:=l.len
  refine zb9 e1 ?_
  refine zas7 (Wk.list (SqL.of e1)) (by rw[zcv5];omega) (fun i=>.lst ((shr (zf3 (.list ds)).toNat (rowF (ds.getD i .none))).map V.int)) (fun j σ=>∃ t:Option V,σ=[t,some (.ref a)]) ⟨none,rfl⟩ ?_ ?_
  ·rintro i x σ I R S hi s2 hx ⟨_,rfl⟩ k
   obtain⟨d,ed,hd⟩:=l.get i x hx
   rw[getD_some ed] at k
   refine br_T ?_
   refine zp3 (h1.same s2) eb ?_
   rw[show zf3 (.list ds)=(((zf3 (.list ds)).toNat:Nat):Int) by rfl']
   refine zam0 (hd.same s2) (ok d (zcm6 ed)).1 (ok d (zcm6 ed)).2 (by rfl') (fun r3 H3 f3 s3 h3=>?_)
   ac_nf
   exact k _ _ _ f3 s3 h3 ⟨_,rfl⟩
  rintro r ps H2 F2
  ac_nf
  exact q r ps H2 (s1.free F2.facc) (s1.trans F2.same) F2.out (by rw[F2.len];exact ll) fun i p ep=>(F2.row i p ep).2
theorem zcd0(n:Nat):((List.range n).map fun _=>V.bl true)=((List.range n).map fun _=>true).map V.bl:=by rw[zco0];rfl
theorem zbr8(n:Nat):((List.range n).map fun _=>true).all id=true:=by rw[zcs2];exact zbt3 n
inductive Fd where
 | more (w t:Int)
 | lead (w l:Int)
 | tab (g:Nat->Nat->Int)
def Fd.won:Fd->Nat->Nat->Int
 | .more w t,x,y=>if x=y then t else if y<x then w else -w
 | .lead w l,x,y=>if l<=(x:Int) - y then w else -w
 | .tab g,x,y=>g x y
def Fd.Ok:Fd->Prop
 | .more w t=>1<=w/\-w<=t/\t<=w
 | .lead w _=>1<=w
 | .tab _=>True
def FdAt(H:Hp)(p:Addr)(a c:Nat):Fd->Prop
 | .more w t=>H p=some (.tup [.str "more",.int w,.int t])
 | .lead w l=>H p=some (.tup [.str "lead",.int w,.int l])
 | .tab g=>∃ q ps,H p=some (.tup [.str "table",.ref q])/\zt1 H q ps (a+1) (c+1) g
theorem FdAt.same{H H':Hp}{p:Addr}{a c:Nat}{f:Fd}(F:FdAt H p a c f)(s:Same H H'):FdAt H' p a c f:=by
 cases f with
 | more w t=>exact s _ _ F
 | lead w l=>exact s _ _ F
 | tab g=>
  obtain⟨q,ps,h1,h2⟩:=F
  exact⟨q,ps,s _ _ h1,h2.same s⟩
theorem FdAt.some{H:Hp}{p:Addr}{a c:Nat}{f:Fd}(F:FdAt H p a c f):∃ xs,H p=some (.tup xs):=by
 cases f with
 | more w t=>exact⟨_,F⟩
 | lead w l=>exact⟨_,F⟩
 | tab g=>
  obtain⟨q,ps,h1,h2⟩:=F
  exact⟨_,h1⟩
structure zj2(H:Hp)(b l:Addr)(ps:List Addr)(a c:Nat)(fs:List Fd):Prop where
 out:H b=some (.tup [.int a,.int c,.ref l])
 lst:H l=some (.lst (ps.map V.ref))
 len:ps.length=fs.length
 fld:∀ (i:Nat) p f,ps[i]?=some p->fs[i]?=some f->FdAt H p a c f/\f.Ok
abbrev OkB(a c:Nat)(fs:List Fd):Prop:=(a<=10/\c<=10)/\1<=fs.length/\fs.length<=5
theorem zj2.same{H H':Hp}{b l:Addr}{ps:List Addr}{a c:Nat}{fs:List Fd}(B:zj2 H b l ps a c fs)(s:Same H H'):zj2 H' b l ps a c fs:=⟨s _ _ B.out,s _ _ B.lst,B.len,fun i p f h1 h2=>⟨(B.fld i p f h1 h2).1.same s,(B.fld i p f h1 h2).2⟩⟩
theorem zj2.elt{b:Addr}{a:Nat}{fs:List Fd}(B:zj2 H b l ps a c fs){v:V}(e:(ps.map V.ref)[i]?=some v):∃ p f,v=.ref p/\ps[i]?=some p/\fs[i]?=some f/\FdAt H p a c f/\f.Ok:=by
 rw[zcm5] at e
 obtain⟨p,ep,rfl⟩:=zcm7.mp e
 obtain⟨f,ef⟩:∃ f,fs[i]?=some f:=⟨_,zcm0 (by have:=(zcm1.mp ep).1;have:=B.len;omega)⟩
 exact⟨p,f,rfl,ep,ef,B.fld i p f ep ef⟩
@[irreducible] def zh5:Sp:=fun vs H Q _=>∃ x y:Int,vs=[.int x,.int y]/\Q (.bl (decide ((0<=x/\x<=10)/\0<=y/\y<=10))) H
theorem zan4{x y:Int}(q:Q (.bl (decide ((0<=x/\x<=10)/\0<=y/\y<=10))) H):zh5 [.int x,.int y] H Q E:=by unfold zh5;exact⟨x,y,rfl,q⟩
theorem zat2(F:Fun K "are_hosts" "are_hosts" zu4 f fd)(N:Nm mg){zch0:Tok}(c_MOST_HOSTS_fields:mg "MOST_HOSTS_fields"=some (.int 10 zch0))(zcf9:Def P w K mg base CX0 3 "is_between" ["thing","least","most"] zc3):FnOk P w K mg base CX0 4 f fd ["first","second"] zh5:=by
 refine F.ok zao4 (fun vs H Q E h=>by unfold zh5 at h;obtain⟨_,_,rfl,_⟩:=h;rfl) fun _ _ _ s H vs Q E hr h=>?_
 unfold zh5 at h
 obtain⟨x,y,rfl,q⟩:=h
 refine⟨_,(za5 (za9 (zl0 (pD zcf9 hr zb3 (za0 (pq 0) (za0 za2 (za0 (zab2 (v:=.int 10) rfl c_MOST_HOSTS_fields ⟨_,rfl⟩) za1)))) (zk6 (pD zcf9 hr zb3 (za0 (pq 1) (za0 za2 (za0 (zab2 (v:=.int 10) rfl c_MOST_HOSTS_fields ⟨_,rfl⟩) za1)))))))),?_⟩
 refine zao8 ?_
 refine zd6 (fun h=>?_) (fun h=>?_)
 ·ac_nf
  refine zao8 ?_
  ac_nf
  rw[zaa9 h] at q
  exact q
 ·ac_nf
  rw[zab1 h] at q
  exact q
inductive Fx where
 | flat (w:Str) (zs:List Int)
 | tab (rows:List (List Int))
structure zx0(H:Hp)(q:Addr)(ps:List Addr)(rows:List (List Int)):Prop where
 out:H q=some (.lst (ps.map V.ref))
 len:ps.length=rows.length
 row:∀ (i:Nat) p r,ps[i]?=some p->rows[i]?=some r->H p=some (.lst (r.map V.int))
theorem zx0.same{rows:List (List Int)}(R:zx0 H q ps rows)(s:Same H H'):zx0 H' q ps rows:=⟨s _ _ R.out,R.len,fun i p r h1 h2=>s _ _ (R.row i p r h1 h2)⟩
theorem zx0.elt{rows:List (List Int)}(R:zx0 H q ps rows){v:V}(e:(ps.map V.ref)[i]?=some v):∃ p r,v=.ref p/\ps[i]?=some p/\rows[i]?=some r/\H p=some (.lst (r.map V.int)):=by
 rw[zcm5] at e
 obtain⟨p,ep,rfl⟩:=zcm7.mp e
 obtain⟨r,er⟩:∃ r,rows[i]?=some r:=⟨_,zcm0 (by have:=(zcm1.mp ep).1;have:=R.len;omega)⟩
 exact⟨p,r,rfl,ep,er,R.row i p r ep er⟩
def FxAt(H:Hp)(p:Addr):Fx->Prop
 | .flat w zs=>H p=some (.tup (.str w :: zs.map V.int))
 | .tab rows=>∃ q ps,H p=some (.tup [.str "table",.ref q])/\zx0 H q ps rows
def Fx.Gd:Fx->Prop
 | .flat w zs=>w≠"table"/\zs.length<=10
 | .tab rows=>rows.length<=100/\∀ r∈rows,r.length<=100
theorem FxAt.same{H H':Hp}{p:Addr}{f:Fx}(F:FxAt H p f)(s:Same H H'):FxAt H' p f:=by
 cases f with
 | flat w zs=>exact s _ _ F
 | tab rows=>
  obtain⟨q,ps,h1,h2⟩:=F
  exact⟨q,ps,s _ _ h1,h2.same s⟩
def isF(a c:Int):Fx->Bool
 | .flat w [x,y]=>if w="more" then decide (1<=x/\-x<=y/\y<=x) else if w="lead" then decide (1<=x) else false
 | .flat _ _=>false
 | .tab rows=>decide ((rows.length:Int)=a+1)&&rows.all fun r=>decide ((r.length:Int)=c+1)
structure BxAt(H:Hp)(b l:Addr)(ps:List Addr)(a c:Int)(fs:List Fx):Prop where
 out:H b=some (.tup [.int a,.int c,.ref l])
 lst:H l=some (.lst (ps.map V.ref))
 len:ps.length=fs.length
 fld:∀ (i:Nat) p f,ps[i]?=some p->fs[i]?=some f->FxAt H p f/\f.Gd
theorem BxAt.same{H H':Hp}{b l:Addr}{ps:List Addr}{a c:Int}{fs:List Fx}(B:BxAt H b l ps a c fs)(s:Same H H'):BxAt H' b l ps a c fs:=⟨s _ _ B.out,s _ _ B.lst,B.len,fun i p f h1 h2=>⟨(B.fld i p f h1 h2).1.same s,(B.fld i p f h1 h2).2⟩⟩
theorem BxAt.elt{b:Addr}{a c:Int}{fs:List Fx}(B:BxAt H b l ps a c fs){v:V}(e:(ps.map V.ref)[i]?=some v):∃ p f,v=.ref p/\ps[i]?=some p/\fs[i]?=some f/\FxAt H p f/\f.Gd:=by
 rw[zcm5] at e
 obtain⟨p,ep,rfl⟩:=zcm7.mp e
 obtain⟨f,ef⟩:∃ f,fs[i]?=some f:=⟨_,zcm0 (by have:=(zcm1.mp ep).1;have:=B.len;omega)⟩
 exact⟨p,f,rfl,ep,ef,B.fld i p f ep ef⟩
abbrev Sz(a c:Int)(n:Nat):Prop:=((0<=a/\a<=10)/\0<=c/\c<=10)/\1<=n/\n<=5
def BadB(H:Hp)(b:Addr)(k:Int):Prop:=∃ l ps a c fs,BxAt H b l ps a c fs/\fs.length<=100 /\
 ((¬ Sz a c fs.length/\k=-1)∨(Sz a c fs.length/\∃ (j:Nat) (f:Fx),k=j/\fs[j]?=some f/\isF a c f=false/\∀ (i:Nat) g,i<j->fs[i]?=some g->isF a c g=true))
theorem BadB.same{H H':Hp}{b:Addr}{k:Int}(B:BadB H b k)(s:Same H H'):BadB H' b k:=by
 obtain⟨l,ps,a,c,fs,B,r⟩:=B
 exact⟨l,ps,a,c,fs,B.same s,r⟩
def toFx(a c:Nat):Fd->Fx
 | .more w t=>.flat "more" [w,t]
 | .lead w l=>.flat "lead" [w,l]
 | .tab g=>.tab ((List.range (a+1)).map fun x=>(List.range (c+1)).map (g x))
theorem zbm4{n m:Nat}{g:Nat->Nat->Int}(G:zt1 H q ps n m g):zx0 H q ps ((List.range n).map fun x=>(List.range m).map (g x)):=by
 refine⟨G.out,by rw[G.len,zcl9,zcq9],fun i p r h1 h2=>?_⟩
 have hi:i<n:=by have:=(zcm1.mp h1).1;have:=G.len;omega
 rw[zcm5,zcs0 hi] at h2
 cases h2
 rw[← zbf1]
 exact G.row i p h1
theorem zby9{p:Addr}{a:Nat}{f:Fd}(F:FdAt H p a c f)(ha:a<=10)(hc:c<=10):FxAt H p (toFx a c f)/\(toFx a c f).Gd:=by
 cases f with
 | more w t=>exact⟨F,by decide,by simp⟩
 | lead w l=>exact⟨F,by decide,by simp⟩
 | tab g=>
  obtain⟨q,ps,h1,h2⟩:=F
  refine⟨⟨q,ps,h1,zbm4 h2⟩,by rw[zcl9,zcq9];omega,fun r hr=>?_⟩
  obtain⟨x,_,rfl⟩:=zcn5.mp hr
  rw[zcl9,zcq9];omega
theorem zcb6{a:Nat}{f:Fd}(O:f.Ok):isF a c (toFx a c f)=true:=by
 cases f with
 | more w t=>exact decide_eq_true (show 1<=w/\-w<=t/\t<=w from O)
 | lead w l=>exact decide_eq_true (show 1<=w from O)
 | tab g=>
  show (decide _&&List.all _ _)=true
  rw[zcn2,zcn6]
  refine⟨decide_eq_true (by rw[zcl9,zcq9];rfl),fun r hr=>?_⟩
  obtain⟨x,_,rfl⟩:=zcn5.mp hr
  exact decide_eq_true (by rw[zcl9,zcq9];rfl)
theorem toBx{b:Addr}{a:Nat}{fs:List Fd}(B:zj2 H b l ps a c fs)(ha:a<=10)(hc:c<=10):BxAt H b l ps a c (fs.map (toFx a c)):=by
 refine⟨B.out,B.lst,by rw[B.len,zcl9],fun i p f h1 h2=>?_⟩
 rw[zcm5] at h2
 obtain⟨f',e,rfl⟩:=zcm7.mp h2
 exact zby9 (B.fld i p f' h1 e).1 ha hc
@[irreducible] def ze7:Sp:=fun vs H Q _=>∃ (r:Addr) (n:Int) (zs:List Int),vs=[.int n,.ref r]/\H r=some (.lst (zs.map V.int))/\zs.length<=1000/\∀ H',Same H H'->Q (.bl (decide ((zs.length:Int)=n))) H'
theorem zad2{r:Addr}{n:Int}{zs:List Int}(h:H r=some (.lst (zs.map V.int)))(hn:zs.length<=1000)(q:∀ H',Same H H'->Q (.bl (decide ((zs.length:Int)=n))) H'):ze7 [.int n,.ref r] H Q E:=by unfold ze7;exact⟨r,n,zs,rfl,h,hn,q⟩
theorem zag0(F:Fun K "is_table_row" "is_table_row" zn7 f fd)(N:Nm mg)(zcg5:Def P w K mg base CX0 1 "is_whole" ["thing"] zf1):FnOk P w K mg base CX0 2 f fd ["many_numbers","row"] ze7:=by
 refine F.ok zab5 (fun vs H Q E h=>by unfold ze7 at h;obtain⟨_,_,_,rfl,_⟩:=h;rfl) fun _ _ _ s H vs Q E hr h=>?_
 unfold ze7 at h
 obtain⟨r,n,zs,rfl,h,hn,q⟩:=h
 have hu:=hu40 hr
 refine⟨_,(za5 (za9 (zl0 (pB (zae3 (K:=K) rfl) N.isinstance_ zc5 (za0 (pq 1) (za0 (pTy N.list_ zt7) za1))) (zl0 (peC (oEqK (K:=K) rfl (by exact hu)) (pB (zm1 (K:=K) rfl) N.len_ zg1 (za0 (pq 1) za1)) (pq 0)) (zk6 (pB (zae5 (K:=K) rfl rfl) N.all_ zq8 (za0 (zd5 (N:=["number"]) (ks:=[none]) (zf8 (K:=K) rfl (pq 1)) (fun _ _ _ _ _=>(za7 (i:=0) nb_3 rfl (by eq_refl))) (fun _ _ _ _ _=>zc6) (fun _ _ _ _ _=>(pD zcg5 hr zb3 (za0 (pq 0) za1))) (.skip .nil)) za1))))))),?_⟩
 refine zan1 h ?_
 refine br_T ?_
 refine ze8 h ?_
 rw[zcl9]
 refine zd6 (fun en=>?_) (fun en=>?_)
 ·rw[decide_eq_true en] at q
  refine zb9 h ?_
  refine zk7 (Wk.list (SqL.of h)) (by rw[zcl9,zcv5];omega) (fun i=>.bl true) (fun _=>true) (fun j σ=>∃ t:Option V,σ=[t]) ⟨none,rfl⟩ ?_ ?_
  ·rintro j v σ H1 R S hj s1 hx ⟨t,rfl⟩ k _
   rw[zcm5] at hx
   obtain⟨z,_,rfl⟩:=zcm7.mp hx
   refine br_T ?_
   refine zbx1 ?_
   ac_nf
   exact k rfl _ _ (Same.refl _) ⟨_,rfl⟩
  intro acc H1 f1 s1 h1
  rw[ze1,zcl9,zcd0] at h1
  refine zs2 h1 ?_
  rw[zbr8]
  ac_nf
  exact q _ s1
 ·rw[decide_eq_false en] at q
  ac_nf
  exact q _ (Same.refl _)
theorem zbl3(l:List Bool):(l.map V.bl)=(List.range l.length).map fun i=>V.bl (l.getD i false):=by
 apply zct6
 intro i
 rw[zcm5,zcm5]
 by_cases h:i<l.length
 ·rw[zcs0 h,zcm0 h]
  simp[h]
 ·rw[zcp7 (by rfl'),zcp7 (by simp;omega)]
  rfl
@[irreducible] def zk1:Sp:=fun vs H Q _=>∃ (r:Addr) (ps:List Addr) (n m:Int) (rows:List (List Int)),vs=[.int n,.int m,.ref r]/\zx0 H r ps rows/\rows.length<=100/\(∀ r∈rows,r.length<=100)/\∀ H',Same H H'->Q (.bl (decide ((rows.length:Int)=n)&&rows.all fun r=>decide ((r.length:Int)=m))) H'
theorem zau0{r:Addr}{n m:Int}{rows:List (List Int)}(h:zx0 H r ps rows)(hn:rows.length<=100)(hm:∀ r∈rows,r.length<=100)(q:∀ H',Same H H'->Q (.bl (decide ((rows.length:Int)=n)&&rows.all fun r=>decide ((r.length:Int)=m))) H'):zk1 [.int n,.int m,.ref r] H Q E:=by unfold zk1;exact⟨r,ps,n,m,rows,rfl,h,hn,hm,q⟩
theorem zax1(F:Fun K "is_table" "is_table" zx9 f fd)(N:Nm mg)(zch8:Def P w K mg base CX0 2 "is_table_row" ["many_numbers","row"] ze7):FnOk P w K mg base CX0 3 f fd ["many_rows","many_numbers","rows"] zk1:=by
 refine F.ok zav5 (fun vs H Q E h=>by unfold zk1 at h;obtain⟨_,_,_,_,_,rfl,_⟩:=h;rfl) fun _ _ _ s H vs Q E hr h=>?_
 unfold zk1 at h
 obtain⟨r,ps,n,m,rows,rfl,R,hn,hm,q⟩:=h
 have hu:=hu40 hr
 have gl:=R.len
 refine⟨_,(za3 (psIf (ptW (pwOr (zh4 (ptV (pB (zae3 (K:=K) rfl) N.isinstance_ zc5 (za0 (pq 2) (za0 (pTy N.list_ zt7) za1))))) (zz5 (ptC (oNeK (K:=K) rfl (by exact hu)) (pB (zm1 (K:=K) rfl) N.len_ zg1 (za0 (pq 2) za1)) (pq 0))))) (za5 (za9 zab6)) zc0)
   (za5 (za9 (pB (zae5 (K:=K) rfl rfl) N.all_ zq8 (za0 (zd5 (N:=["row","many_numbers"]) (ks:=[none,some 1]) (zf8 (K:=K) rfl (pq 2)) (fun _ _ _ _ _=>(za7 (i:=0) nb_4 rfl (by eq_refl))) (fun _ _ _ _ _=>zc6) (fun _ _ _ _ _=>(pD zch8 hr zb3 (za0 (pq 1) (za0 (pq 0) za1)))) (.skip (.take rfl rfl (by eq_refl) .nil))) za1))))),?_⟩
 refine zan1 R.out ?_
 refine zc1 (br_T ?_)
 refine ze8 R.out ?_
 rw[zcl9,gl]
 refine zc1 (zd6 (fun en=>?_) (fun en=>?_))
 ·rw[decide_eq_true en,zcp9] at q
  refine zb9 R.out ?_
  refine zk7 (Wk.list (SqL.of R.out)) (by rw[zcl9,zcv5];omega) (fun i=>.bl ((rows.map fun r=>decide ((r.length:Int)=m)).getD i false)) (fun _=>true) (fun j σ=>∃ t:Option V,σ=[t,some (.int m)]) ⟨none,rfl⟩ ?_ ?_
  ·rintro j v σ H1 R' S hj s1 hx ⟨t,rfl⟩ k _
   obtain⟨p,r1,rfl,ep,er,hp⟩:=(R.same s1).elt hx
   have eb:(rows.map fun r=>decide ((r.length:Int)=m)).getD j false=decide ((r1.length:Int)=m):=by
    rw[zcm4,zcm5,er];rfl
   rw[eb] at k
   refine br_T ?_
   refine zad2 hp (by have:=hm r1 (zcm6 er);omega) (fun H2 s2=>?_)
   ac_nf
   exact k rfl _ _ s2 ⟨_,rfl⟩
  intro acc H1 f1 s1 h1
  have eb:=zbl3 (rows.map fun r=>decide ((r.length:Int)=m))
  rw[zcl9] at eb
  rw[ze1,zcl9,gl,← eb] at h1
  refine zs2 h1 ?_
  rw[zcs2]
  ac_nf
  exact q _ s1
 ·rw[decide_eq_false en,Bool.false_and] at q
  ac_nf
  exact q _ (Same.refl _)
@[irreducible] def zj9:Sp:=fun vs H Q _=>∃ (p:Addr) (a c:Int) (f:Fx),vs=[.int a,.int c,.ref p]/\FxAt H p f/\f.Gd/\∀ H',Same H H'->Q (.bl (isF a c f)) H'
theorem zab8{p:Addr}{a c:Int}{f:Fx}(F:FxAt H p f)(O:f.Gd)(q:∀ H',Same H H'->Q (.bl (isF a c f)) H'):zj9 [.int a,.int c,.ref p] H Q E:=by unfold zj9;exact⟨p,a,c,f,rfl,F,O,q⟩
theorem zce2{a c:Int}{w:Str}{zs:List Int}(h:zs.length≠2):isF a c (.flat w zs)=false:=by
 match zs,h with
 | [],_=>rfl
 | [_],_=>rfl
 | [_,_],h=>exact absurd rfl h
 | _ :: _ :: _ :: _,_=>rfl
theorem zau2(F:Fun K "is_field" "is_field" zy4 f fd)(N:Nm mg)(zcf9:Def P w K mg base CX0 3 "is_between" ["thing","least","most"] zc3)(zcg0:Def P w K mg base CX0 2 "is_from" ["thing","least"] ze6)(zck3:Def P w K mg base CX0 3 "is_table" ["many_rows","many_numbers","rows"] zk1)(zcg5:Def P w K mg base CX0 1 "is_whole" ["thing"] zf1):FnOk P w K mg base CX0 4 f fd ["first","second","field"] zj9:=by
 refine F.ok zau4 (fun vs H Q E h=>by unfold zj9 at h;obtain⟨_,_,_,_,rfl,_⟩:=h;rfl) fun _ _ _ s H vs Q E hr h=>?_
 unfold zj9 at h
 obtain⟨p,a,c,f,rfl,F,O,q⟩:=h
 have hu:=hu40 hr
 refine⟨_,(za3 (psIf (zh4 (ptV (pB (zae3 (K:=K) rfl) N.isinstance_ zc5 (za0 (pq 2) (za0 (pTy N.tuple_ zaj7) za1))))) (za5 (za9 zab6)) zc0)
   (za3 (psIf (ptW (pwAnd (ptC (oEqK (K:=K) rfl (by exact hu)) (pB (zm1 (K:=K) rfl) N.len_ zg1 (za0 (pq 2) za1)) za2) (zav9 (ptC (oEqK (K:=K) rfl (by exact hu)) (zb4 (K:=K) rfl (pq 2) za2) zr3)))) (za5 (za9 (zl0 (pD zcg0 hr zb3 (za0 (zb4 (K:=K) rfl (pq 2) za2) (za0 za2 za1))) (zk6 (pD zcf9 hr zb3 (za0 (zb4 (K:=K) rfl (pq 2) za2) (za0 (zbc4 uNeg (zb4 (K:=K) rfl (pq 2) za2)) (za0 (zb4 (K:=K) rfl (pq 2) za2) za1)))))))) zc0)
   (za3 (psIf (ptW (pwAnd (ptC (oEqK (K:=K) rfl (by exact hu)) (pB (zm1 (K:=K) rfl) N.len_ zg1 (za0 (pq 2) za1)) za2) (zav9 (ptC (oEqK (K:=K) rfl (by exact hu)) (zb4 (K:=K) rfl (pq 2) za2) zr3)))) (za5 (za9 (zl0 (pD zcg0 hr zb3 (za0 (zb4 (K:=K) rfl (pq 2) za2) (za0 za2 za1))) (zk6 (pD zcg5 hr zb3 (za0 (zb4 (K:=K) rfl (pq 2) za2) za1)))))) zc0)
   (za3 (psIf (ptW (pwAnd (ptC (oEqK (K:=K) rfl (by exact hu)) (pB (zm1 (K:=K) rfl) N.len_ zg1 (za0 (pq 2) za1)) za2) (zav9 (ptC (oEqK (K:=K) rfl (by exact hu)) (zb4 (K:=K) rfl (pq 2) za2) zr3)))) (za5 (za9 (pD zck3 hr zb3 (za0 (zb8 oAdd (pq 0) za2) (za0 (zb8 oAdd (pq 1) za2) (za0 (zb4 (K:=K) rfl (pq 2) za2) za1)))))) zc0)
   (za5 (za9 zab6)))))),?_⟩
 cases f with
 | flat w zs=>
  have F:H p=some (.tup (.str w :: zs.map V.int)):=F
  obtain⟨nt,zl⟩:w≠"table"/\zs.length<=10:=O
  have q:=q _ (Same.refl _)
  refine zal3 F ?_
  refine zc1 (br_T ?_)
  refine zl4 F ?_
  rw[zco4,zcl9]
  ac_nf
  by_cases e2:zs.length=2
  ·obtain⟨x,y,rfl⟩:∃ x y,zs=[x,y]:=by
    match zs,e2 with
    | [x,y],_=>exact⟨x,y,rfl⟩
   refine zy7 rfl ?_
   refine zb6 (v:=.str w) F rfl ?_
   refine zd6 (fun em=>?_) (fun em=>?_)
   ·subst em
    have q:Q (.bl (decide (1<=x/\-x<=y/\y<=x))) H:=q
    refine zb6 (v:=.int x) F rfl ?_
    refine zbx8 ?_
    refine zd6 (fun e1=>?_) (fun e1=>?_)
    ·rw[zaa9 e1] at q
     refine zb6 (v:=.int y) F rfl ?_
     refine zb6 (v:=.int x) F rfl ?_
     refine zb6 (v:=.int x) F rfl ?_
     refine zao8 ?_
     ac_nf
     exact q
    ·rw[zab1 e1] at q
     ac_nf
     exact q
   ·have q:Q (.bl (if w="more" then decide (1<=x/\-x<=y/\y<=x) else if w="lead" then decide (1<=x) else false)) H:=q
    rw[if_neg em] at q
    refine zl4 F ?_
    refine zy7 rfl ?_
    refine zb6 (v:=.str w) F rfl ?_
    refine zd6 (fun el=>?_) (fun el=>?_)
    ·rw[if_pos el] at q
     refine zb6 (v:=.int x) F rfl ?_
     refine zbx8 ?_
     refine zd6 (fun e1=>?_) (fun e1=>?_)
     ·rw[decide_eq_true e1] at q
      refine zb6 (v:=.int y) F rfl ?_
      refine zbx1 ?_
      ac_nf
      exact q
     ·rw[decide_eq_false e1] at q
      ac_nf
      exact q
    ·rw[if_neg el] at q
     refine zl4 F ?_
     refine zaa6 (by show ¬ ((3:Nat):Int)=2;decide) ?_
     refine br_F ?_
     ac_nf
     exact q
  ·rw[zce2 e2] at q
   refine zaa6 (by rfl') ?_
   refine br_F ?_
   refine zl4 F ?_
   rw[zco4,zcl9]
   refine zaa6 (by rfl') ?_
   refine br_F ?_
   refine zl4 F ?_
   rw[zco4,zcl9]
   refine zd6 (fun e1=>?_) (fun e1=>?_)
   ·obtain⟨z,rfl⟩:∃ z,zs=[z]:=by
     match zs,(show zs.length=1 by rfl') with
     | [z],_=>exact⟨z,rfl⟩
    refine zb6 (v:=.str w) F rfl ?_
    refine zaa6 nt ?_
    ac_nf
    exact q _ (Same.refl _)
   ·ac_nf
    refine br_F ?_
    ac_nf
    exact q
 | tab rows=>
  obtain⟨q',ps,F,R⟩:=F
  obtain⟨o1,o2⟩:rows.length<=100/\∀ r∈rows,r.length<=100:=O
  refine zal3 F ?_
  refine zc1 (br_T ?_)
  refine zl4 F ?_
  refine zaa6 (by show ¬ ((2:Nat):Int)=3;decide) ?_
  refine br_F ?_
  refine zl4 F ?_
  refine zaa6 (by show ¬ ((2:Nat):Int)=3;decide) ?_
  refine br_F ?_
  refine zl4 F ?_
  refine zy7 rfl ?_
  refine zb6 (v:=.str "table") F rfl ?_
  refine zy7 rfl ?_
  refine zb6 (v:=.ref q') F rfl ?_
  refine zau0 (n:=a+1) (m:=c+1) R o1 o2 (fun H1 s1=>?_)
  ac_nf
  exact q _ s1
@[irreducible] def zj7:Sp:=fun vs H Q _=>∃ (b l:Addr) (ys:List V) (a c:Int),vs=[.ref b]/\H b=some (.tup [.int a,.int c,.ref l])/\H l=some (.lst ys)/\Q (.bl (decide (Sz a c ys.length))) H
theorem zu9{b:Addr}{ys:List V}{a c:Int}(h1:H b=some (.tup [.int a,.int c,.ref l]))(h2:H l=some (.lst ys))(q:Q (.bl (decide (Sz a c ys.length))) H):zj7 [.ref b] H Q E:=by unfold zj7;exact⟨b,l,ys,a,c,rfl,h1,h2,q⟩
theorem zav6(F:Fun K "has_size" "has_size" zy5 f fd)(N:Nm mg){zcg4:Tok}(c_MOST_FIELDS_fields:mg "MOST_FIELDS_fields"=some (.int 5 zcg4))(zcj1:Def P w K mg base CX0 4 "are_hosts" ["first","second"] zh5):FnOk P w K mg base CX0 5 f fd ["battle"] zj7:=by
 refine F.ok zav7 (fun vs H Q E h=>by unfold zj7 at h;obtain⟨_,_,_,_,_,rfl,_⟩:=h;rfl) fun _ _ _ s H vs Q E hr h=>?_
 unfold zj7 at h
 obtain⟨b,l,ys,a,c,rfl,h1,h2,q⟩:=h
 refine⟨_,(za5 (za9 (zl0 (pD zcj1 hr zb3 (za0 (zb4 (K:=K) rfl (pq 0) za2) (za0 (zb4 (K:=K) rfl (pq 0) za2) za1))) (zk6 (zcb1 oLe oLe za2 (pB (zm1 (K:=K) rfl) N.len_ zg1 (za0 (zb4 (K:=K) rfl (pq 0) za2) za1)) (zab2 (v:=.int 5) rfl c_MOST_FIELDS_fields ⟨_,rfl⟩)))))),?_⟩
 refine zb6 (v:=.int a) h1 rfl ?_
 refine zb6 (v:=.int c) h1 rfl ?_
 refine zan4 ?_
 refine zd6 (fun e1=>?_) (fun e1=>?_)
 ·ac_nf
  refine zb6 (v:=.ref l) h1 rfl ?_
  refine ze8 h2 ?_
  ac_nf
  rw[zaa9 e1] at q
  refine zd6 (fun e2=>?_) (fun e2=>?_)
  ·ac_nf
   rw[show decide (1<=ys.length/\ys.length<=5)=decide ((ys.length:Int)<=5) by rw[Bool.eq_iff_iff,decide_eq_true_iff,decide_eq_true_iff];omega] at q
   exact q
  ·ac_nf
   rw[decide_eq_false (by rfl')] at q
   exact q
 ·rw[zab1 e1] at q
  ac_nf
  exact q
@[irreducible] def zd9(zcf5:Addr):Sp:=fun vs H Q E=>∃ b:Addr,vs=[.ref b] /\
 ((∃ (l:Addr) (ps:List Addr) (a c:Nat) (fs:List Fd),zj2 H b l ps a c fs/\OkB a c fs/\∀ H',Same H H'->Q .non H') ∨
  ∃ k:Int,BadB H b k/\∀ d H',H d=none->Same H H'->H' d=some (.xd [("field",.int k)])->E (.ref zcf5) (some d) H')
theorem zt3{zcf5:Addr}{b:Addr}{a:Nat}{fs:List Fd}(B:zj2 H b l ps a c fs)(O:OkB a c fs)(q:∀ H',Same H H'->Q .non H'):zd9 zcf5 [.ref b] H Q E:=by unfold zd9;exact⟨b,rfl,.inl ⟨l,ps,a,c,fs,B,O,q⟩⟩
theorem zah1(F:Fun K "look_battle" "look_battle" zp8 f fd)(N:Nm mg)(zck4:Def P w K mg base CX0 5 "has_size" ["battle"] zj7)(zck5:Def P w K mg base CX0 4 "is_field" ["first","second","field"] zj9)(Z:Cz K mg base zcf8 zcf5 zcg1 zcf7 zcf4 zcg2):FnOk P w K mg base (CXR P w) 6 f fd ["battle"] (zd9 zcf5):=by
 refine F.okR zm9 (fun vs H Q E h=>by unfold zd9 at h;obtain⟨_,rfl,_⟩:=h;rfl) (fun cdv A outer s H vs Q E hr hX h=>?_)
 unfold zd9 at h
 obtain⟨b,rfl,h⟩:=h
 refine⟨_,(za3 (psIf (zh4 (ptV (pD zck4 hr zb3 (za0 (pq 0) za1)))) (za5 (zba4 Z.z_NoBattle Z.g_NoBattle (zz4 Z.fi_NoBattle Z.z_NoBattle) (hr.mono (by decide)) rfl hX (zbc4 uNeg za2))) zc0)
   (za5 (zac2 PassesOwn.leaving rfl (zce9 (K:=K) rfl N.enumerate_ (za0 (zb4 (K:=K) rfl (pq 0) za2) za1)) (zi4 (K:=K) (n:=2) rfl rfl (zb0 (za7 (i:=1) zm9.nd rfl (by eq_refl)) (zb0 (za7 (i:=2) zm9.nd rfl (by eq_refl)) zi2))) (za5 (psIf (zh4 (ptV (pD zck5 hr zb3 (za0 (zb4 (K:=K) rfl (pq 0) za2) (za0 (zb4 (K:=K) rfl (pq 0) za2) (za0 (pq 2) za1)))))) (za5 (zba4 Z.z_NoBattle Z.g_NoBattle (zz4 Z.fi_NoBattle Z.z_NoBattle) (hr.mono (by decide)) rfl hX (pq 1))) zc0))))),?_⟩
 rcases h with ⟨l,ps,a,c,fs,B,O,q⟩|⟨k,⟨l,ps,a,c,fs,B,hl,hk⟩,q⟩
 ·have X:=toBx B O.1.1 O.1.2
  have bl:=B.len
  refine zu9 B.out B.lst ?_
  rw[decide_eq_true (by rw[zcl9,bl];exact⟨⟨⟨by rfl',by rfl'⟩,by rfl',by rfl'⟩,O.2⟩)]
  refine zc1 (br_T ?_)
  refine zb6 (v:=.ref l) B.out rfl ?_
  refine zbj8 B.lst ?_
  refine zaq9 (xs:=ps.map V.ref) (fun i σ H1=>∃ x y:Option V,σ=[some (.ref b),x,y]/\Same H H1) ?_ ?_ ?_ ?_
  ·exact⟨_,_,rfl,Same.refl _⟩
  ·rintro i σ H1 _ ⟨_,_,_,s1⟩
   exact SqL.of (s1 _ _ B.lst)
  ·rintro i v σ H1 p H2 hi ⟨x,y,rfl,s1⟩ f2 s2 h2
   have s12:=s1.trans s2
   obtain⟨p',f,rfl,e1,e2,hf,ok⟩:=(X.same s12).elt hi
   rw[zcm5] at e2
   obtain⟨f',e3,rfl⟩:=zcm7.mp e2
   refine zd0 h2 ?_
   refine zb6 (v:=.int a) (s12 _ _ B.out) rfl ?_
   refine zb6 (v:=.int c) (s12 _ _ B.out) rfl ?_
   refine zab8 hf ok (fun H3 s3=>?_)
   rw[zcb6 (B.fld i p' f' e1 e3).2]
   refine zc1 (br_T ?_)
   ac_nf
   exact⟨_,_,rfl,s12.trans s3⟩
  ·rintro σ H1 ⟨x,y,rfl,s1⟩
   ac_nf
   exact q _ s1
 ·have bl:=B.len
  rcases hk with ⟨nz,rfl⟩|⟨sz,j,f,rfl,ej,bad,good⟩
  ·ac_nf
   refine zu9 B.out B.lst ?_
   rw[decide_eq_false (by rw[zcl9,bl];exact nz)]
   refine zc1 (br_F ?_)
   ac_nf
   exact zap0 q
  ·have hj:j<ps.length:=by have:=(zcm1.mp ej).1;omega
   refine zu9 B.out B.lst ?_
   rw[decide_eq_true (by rw[zcl9,bl];exact sz)]
   refine zc1 (br_T ?_)
   refine zb6 (v:=.ref l) B.out rfl ?_
   refine zbj8 B.lst ?_
   refine zaq9 (xs:=ps.map V.ref) (fun i σ H1=>∃ x y:Option V,σ=[some (.ref b),x,y]/\Same H H1/\i<=j) ?_ ?_ ?_ ?_
   ·exact⟨_,_,rfl,Same.refl _,zcp5 _⟩
   ·rintro i σ H1 _ ⟨_,_,_,s1,_⟩
    exact SqL.of (s1 _ _ B.lst)
   ·rintro i v σ H1 p H2 hi ⟨x,y,rfl,s1,ij⟩ f2 s2 h2
    have s12:=s1.trans s2
    obtain⟨p',f',rfl,e1,e2,hf,ok⟩:=(B.same s12).elt hi
    refine zd0 h2 ?_
    refine zb6 (v:=.int a) (s12 _ _ B.out) rfl ?_
    refine zb6 (v:=.int c) (s12 _ _ B.out) rfl ?_
    refine zab8 hf ok (fun H3 s3=>?_)
    by_cases e:i=j
    ·subst e
     have:f'=f:=Option.some.inj (e2.symm.trans ej)
     subst this
     rw[bad]
     refine zc1 (br_F ?_)
     ac_nf
     exact zap0 (fun d H4 f4 s4 h4=>q d H4 ((s12.trans s3).free f4) ((s12.trans s3).trans s4) h4)
    ·rw[good i f' (by rfl') e2]
     refine zc1 (br_T ?_)
     ac_nf
     exact⟨_,_,rfl,s12.trans s3,by rfl'⟩
   ·rintro σ H1 ⟨x,y,rfl,s1,ij⟩
    rw[zcl9] at ij
    omega
@[irreducible] def zac9:Sp:=fun vs H Q _=>∃ (p:Addr) (a c x y:Nat) (f:Fd),vs=[.ref p,.int x,.int y]/\FdAt H p a c f/\x<=a/\y<=c/\Q (.int (f.won x y)) H
theorem zbw0{p:Addr}{a x y:Nat}{f:Fd}(F:FdAt H p a c f)(h1:x<=a)(h2:y<=c)(q:Q (.int (f.won x y)) H):zac9 [.ref p,.int x,.int y] H Q E:=by unfold zac9;exact⟨p,a,c,x,y,f,rfl,F,h1,h2,q⟩
theorem ok_won(F:Fun K "won" "won" s_won f fd)(N:Nm mg):FnOk P w K mg base CX0 1 f fd ["field","x","y"] zac9:=by
 refine F.ok sc_won (fun vs H Q E h=>by unfold zac9 at h;obtain⟨_,_,_,_,_,_,rfl,_⟩:=h;rfl) fun _ _ _ s H vs Q E hr h=>?_
 unfold zac9 at h
 obtain⟨p,a,c,x,y,f,rfl,F,h1,h2,q⟩:=h
 have hu:=hu40 hr
 refine⟨_,(za3 (psIf (ptC (oEqK (K:=K) rfl (by exact hu)) (zb4 (K:=K) rfl (pq 0) za2) zr3) (za5 (za9 (zb4 (K:=K) rfl (zb4 (K:=K) rfl (zb4 (K:=K) rfl (pq 0) za2) (pq 1)) (pq 2)))) zc0)
   (za3 (psIf (ptC (oEqK (K:=K) rfl (by exact hu)) (zb4 (K:=K) rfl (pq 0) za2) zr3) (za5 (za9 (peIf (ptC oGe (zb8 oSub (pq 1) (pq 2)) (zb4 (K:=K) rfl (pq 0) za2)) (zb4 (K:=K) rfl (pq 0) za2) (zbc4 uNeg (zb4 (K:=K) rfl (pq 0) za2))))) zc0)
   (za3 (psIf (ptC (oEqK (K:=K) rfl (by exact hu)) (pq 1) (pq 2)) (za5 (za9 (zb4 (K:=K) rfl (pq 0) za2))) zc0)
   (za5 (za9 (peIf (ptC oGt (pq 1) (pq 2)) (zb4 (K:=K) rfl (pq 0) za2) (zbc4 uNeg (zb4 (K:=K) rfl (pq 0) za2)))))))),?_⟩
 cases f with
 | more wt t=>
  have F:H p=some (.tup [.str "more",.int wt,.int t]):=F
  refine zb6 (v:=.str "more") F rfl ?_
  refine zaa6 (by decide) ?_
  refine zb6 (v:=.str "more") F rfl ?_
  refine zaa6 (by decide) ?_
  ac_nf
  have q:Q (.int (if x=y then t else if y<x then wt else -wt)) H:=q
  refine zd6 (fun h=>?_) (fun h=>?_)
  ·ac_nf
   refine zb6 (v:=.int t) F rfl ?_
   ac_nf
   rw[if_pos (by rfl')] at q
   exact q
  ·rw[if_neg (by rfl')] at q
   refine zd6 (fun h=>?_) (fun h=>?_)
   ·ac_nf
    refine zb6 (v:=.int wt) F rfl ?_
    ac_nf
    rw[if_pos (by rfl')] at q
    exact q
   ·ac_nf
    refine zb6 (v:=.int wt) F rfl ?_
    ac_nf
    rw[if_neg (by rfl')] at q
    exact q
 | lead wt l=>
  have F:H p=some (.tup [.str "lead",.int wt,.int l]):=F
  refine zb6 (v:=.str "lead") F rfl ?_
  refine zaa6 (by decide) ?_
  refine zb6 (v:=.str "lead") F rfl ?_
  refine zy7 rfl ?_
  refine zb6 (v:=.int l) F rfl ?_
  ac_nf
  have q:Q (.int (if l<=(x:Int) - y then wt else -wt)) H:=q
  refine zd6 (fun h=>?_) (fun h=>?_)
  ·ac_nf
   refine zb6 (v:=.int wt) F rfl ?_
   ac_nf
   rw[if_pos (by rfl')] at q
   exact q
  ·ac_nf
   refine zb6 (v:=.int wt) F rfl ?_
   ac_nf
   rw[if_neg (by rfl')] at q
   exact q
 | tab g=>
  obtain⟨q',ps,F,G⟩:=F
  obtain⟨r,er,hr'⟩:=G.some (i:=x) (by rfl')
  refine zb6 (v:=.str "table") F rfl ?_
  refine zy7 rfl ?_
  refine zb6 (v:=.ref q') F rfl ?_
  refine zc2 (v:=.ref r) G.out (zg2 (by rw[zcm5,er];rfl)) ?_
  refine zc2 (v:=.int (g x y)) hr' (zg2 (zaz9 (by rfl'))) ?_
  ac_nf
  exact q
def zb7(H:Hp)(a:Addr)(b:Int):Prop:=∃ x y z:Int,H a=some (.lst [.int x,.int y,.int z])/\(y=1∨(y=0/\0<=x/\x<2147483629))/\0<=z/\z<=b
theorem zb7.same{H H':Hp}{a:Addr}{b:Int}(h:zb7 H a b)(s:Same H H'):zb7 H' a b:=by
 obtain⟨x,y,z,e,r⟩:=h
 exact⟨x,y,z,s _ _ e,r⟩
local macro_rules | `(tactic| walk_at "la")=>`(tactic| first|assumption|(refine zb7.same (H:=?H) ?l ?s;(case s=>assumption);(case l=>walk_at "la"))|fail "la")
theorem zb7.up{a:Addr}{b c:Int}(h:zb7 H a b)(l:b<=c):zb7 H a c:=by
 obtain⟨x,y,z,e1,e2,e3,e4⟩:=h
 exact⟨x,y,z,e1,e2,e3,by rfl'⟩
theorem zb7.ne{H:Hp}{a p:Addr}{b:Int}(h:zb7 H a b)(f:H p=none):p≠a:=by
 obtain⟨x,y,z,e,_⟩:=h
 exact Ne.symm (za4 e f)
local macro_rules | `(tactic| walk_at "ne")=>`(tactic| first|assumption|(apply Ne.symm;assumption)|(refine zb7.ne (H:=?H) (b:=?b) ?l ?f;(case f=>assumption);(case l=>walk_at "la"))|fail "ne")
@[irreducible] def zk2:Sp:=fun vs H Q _=>∃ n k:Int,vs=[.int n,.int k]/\0<=n/\n<2147483629/\0<=k/\k<=10000000/\∀ r:Int,0<=r->r<2147483587->Q (.int r) H
theorem zbb5{n k:Int}(h0:0<=n)(h1:n<2147483629)(h2:0<=k)(h3:k<=10000000)(q:∀ r:Int,0<=r->r<2147483587->Q (.int r) H):zk2 [.int n,.int k] H Q E:=by
 unfold zk2;exact⟨n,k,rfl,h0,h1,h2,h3,q⟩
theorem zax5(F:Fun K "_law_mix" "_law_mix" zx6 f fd)(N:Nm mg):FnOk P w K mg base CX0 1 f fd ["_law_number","_law_k"] zk2:=by
 refine F.ok zad7 (fun vs H Q E h=>by unfold zk2 at h;obtain⟨n,k,rfl,_⟩:=h;rfl) fun _ _ _ s H vs Q E hr h=>?_
 unfold zk2 at h
 obtain⟨n,k,rfl,h1,h2,h3,h4,q⟩:=h
 refine⟨_,(za3 (psS (i:=2) zad7.nd (zb8 oMod (zb8 oMul (zb8 oAdd (zb8 oAdd (zb8 oMul (pq 0) (pq 0)) (zb8 oMul (pq 1) (pq 0))) (zb8 oMul (zb8 oMul za2 (pq 1)) (pq 1))) za2) za2))
   (za5 (za9 (zb8 oMod (zb8 oMul (pq 2) (pq 2)) za2)))),?_⟩
 repeat walk_at "st"
 ac_nf
 exact q _ (by assumption) (by assumption)
@[irreducible] def ze3:Sp:=fun vs H Q _=>∃ (a:Addr) (z:Int),vs=[.ref a,.int 0]/\H a=some (.lst [.int z])/\Q (.int z) H
theorem zbc9{a:Addr}{z:Int}(h:H a=some (.lst [.int z]))(q:Q (.int z) H):ze3 [.ref a,.int 0] H Q E:=by unfold ze3;exact⟨a,z,rfl,h,q⟩
theorem zad4(F:Fun K "_law_cell_at" "_law_cell_at" zm7 f fd)(N:Nm mg):FnOk P w K mg base CX0 1 f fd ["_law_script","_law_k"] ze3:=by
 refine F.ok zaf8 (fun vs H Q E h=>by unfold ze3 at h;obtain⟨_,_,rfl,_⟩:=h;rfl) fun _ _ _ s H vs Q E hr h=>?_
 unfold ze3 at h
 obtain⟨a,z,rfl,h,q⟩:=h
 have hu:=hu40 hr
 refine⟨_,(za3 (psIf (ptC oLt (pq 1) (pB (zm1 (K:=K) rfl) N.len_ zg1 (za0 (pq 0) za1))) (za5 (za9 (zb4 (K:=K) rfl (pq 0) (pq 1)))) zc0)
   (za5 (za9 za2))),?_⟩
 refine ze8 h ?_
 refine zy7 (by show (0:Int)<((1:Nat):Int);decide) ?_
 refine zc2 (v:=.int z) h rfl ?_
 ac_nf
 exact q
@[irreducible] def zh3:Sp:=fun vs H Q _=>∃ (a:Addr) (z:Int),vs=[.ref a,.int 0]/\H a=some (.lst [.int z])/\∀ p H',H p=none->Same H H'->zb7 H' p 0->Q (.ref p) H'
theorem zca9{a:Addr}{z:Int}(h:H a=some (.lst [.int z]))(q:∀ p H',H p=none->Same H H'->zb7 H' p 0->Q (.ref p) H'):zh3 [.ref a,.int 0] H Q E:=by unfold zh3;exact⟨a,z,rfl,h,q⟩
theorem zat4(F:Fun K "_law_left" "_law_left" zu0 f fd)(N:Nm mg)(zch9:Def P w K mg base CX0 1 "_law_cell_at" ["_law_script","_law_k"] ze3):FnOk P w K mg base CX0 2 f fd ["_law_script","_law_k"] zh3:=by
 refine F.ok zaa1 (fun vs H Q E h=>by unfold zh3 at h;obtain⟨_,_,rfl,_⟩:=h;rfl) fun _ _ _ s H vs Q E hr h=>?_
 unfold zh3 at h
 obtain⟨a,z,rfl,h,q⟩:=h
 have hu:=hu40 hr
 refine⟨_,(za3 (psS (i:=2) zaa1.nd (pD zch9 hr zb3 (za0 (pq 0) (za0 (pq 1) za1))))
   (za3 (psIf (ptC oLt (pq 2) (zb8 oPow za2 za2)) (za5 (za9 (zq5 (za0 (zb8 oMod (pq 2) za2) (za0 za2 (za0 za2 za1)))))) zc0)
   (za5 (za9 (zq5 (za0 (zb8 oSub (pq 2) (zb8 oPow za2 za2)) (za0 za2 (za0 za2 za1)))))))),?_⟩
 refine zbc9 h ?_
 walk_at "st"
 refine zd6 (fun h=>?_) (fun h=>?_)
 ·repeat walk_at "st"
  ac_nf
  exact q _ _ (by assumption) (by assumption) ⟨_,_,_,by assumption,.inr ⟨rfl,by assumption,by assumption⟩,by rfl',by rfl'⟩
 ·repeat walk_at "st"
  ac_nf
  exact q _ _ (by assumption) (by assumption) ⟨_,_,_,by assumption,.inl rfl,by rfl',by rfl'⟩
@[irreducible] def zc8:Sp:=fun vs H Q _=>∃ (a:Addr) (m b:Int),vs=[.ref a,.int m]/\zb7 H a b/\b<=1000000/\0<m/\m<10 ^ 60/\∀ (d:Int) H',0<=d->d<m->Chg a H H'->zb7 H' a (b+1)->Q (.int d) H'
theorem zf6{a:Addr}{m b:Int}(hL:zb7 H a b)(hb:b<=1000000)(h0:0<m)(h1:m<10 ^ 60)(q:∀ (d:Int) H',0<=d->d<m->Chg a H H'->zb7 H' a (b+1)->Q (.int d) H'):zc8 [.ref a,.int m] H Q E:=by
 unfold zc8;exact⟨a,m,b,rfl,hL,hb,h0,h1,q⟩
theorem zas0(F:Fun K "_law_draw" "_law_draw" zt8 f fd)(N:Nm mg)(zci8:Def P w K mg base CX0 1 "_law_mix" ["_law_number","_law_k"] zk2):FnOk P w K mg base CX0 2 f fd ["_law_left_here","_law_base"] zc8:=by
 refine F.ok zr1 (fun vs H Q E h=>by unfold zc8 at h;obtain⟨a,m,b,rfl,_⟩:=h;rfl) fun _ _ _ s H vs Q E hr h=>?_
 unfold zc8 at h
 obtain⟨a,m,b,rfl,⟨x,y,z,hl,hy,hz0,hz1⟩,hb,hm0,hm1,q⟩:=h
 have hu:=hu40 hr
 refine⟨_,(za3 (zbn5 (zb8 oAdd (zb4 (K:=K) rfl (pq 0) za2) za2) (zbw3 (pq 0) za2 setM))
   (za3 (psIf (ptC (oEqK (K:=K) rfl (by exact hu)) (zb4 (K:=K) rfl (pq 0) za2) za2) (za3 (psS (i:=2) zr1.nd (pD zci8 hr zb3 (za0 (zb4 (K:=K) rfl (pq 0) za2) (za0 (zb4 (K:=K) rfl (pq 0) za2) za1))))
   (za3 (psIf (ptC oGt (pq 1) (zb8 oPow za2 za2)) (za5 (za9 (zb8 oMod (zb8 oMul (pq 2) (zb8 oAdd (zb8 oPow (pD zci8 hr zb3 (za0 (zb4 (K:=K) rfl (pq 0) za2) (za0 (zb8 oAdd (zb4 (K:=K) rfl (pq 0) za2) za2) za1))) za2) za2)) (pq 1)))) zc0)
   (za5 (za9 (zb8 oMod (zb8 oMod (zb8 oMul (pq 2) (zb8 oAdd (pq 2) za2)) za2) (pq 1)))))) zc0)
   (za3 (psS (i:=3) zr1.nd (zb8 oMod (zb4 (K:=K) rfl (pq 0) za2) (pq 1)))
   (za3 (zbn5 (zb8 oDiv (zb4 (K:=K) rfl (pq 0) za2) (pq 1)) (zbw3 (pq 0) za2 setM))
   (za5 (za9 (pq 3))))))),?_⟩
 walk_at "st"
 refine zbx3 hl (by rfl) (fun H1 c1 h1=>?_)
 have h1:H1 a=some (.lst [.int x,.int y,.int (z+1)]):=h1
 refine zc2 (v:=.int y) h1 rfl ?_
 refine zd6 (fun h=>?_) (fun h=>?_)
 ·obtain⟨hx0,hx1⟩:0<=x/\x<2147483629:=by rfl'
  subst h
  refine zc2 (v:=.int x) h1 rfl ?_
  refine zc2 (v:=.int (z+1)) h1 rfl ?_
  refine zbb5 hx0 hx1 (by rfl') (by rfl') (fun r r0 r1=>?_)
  walk_at "st"
  refine zd6 (fun g=>?_) (fun g=>?_)
  ·ac_nf
   refine zc2 (v:=.int x) h1 rfl ?_
   refine zc2 (v:=.int (z+1)) h1 rfl ?_
   refine zbb5 hx0 hx1 (by rfl') (by rfl') (fun r2 r20 r21=>?_)
   refine zbx7 ⟨by decide,by decide,by rfl'⟩ ?_
   refine zac7 (by rfl') (by rfl') ?_
   refine zab4 (by rfl') (fun d d0 d1=>?_)
   ac_nf
   exact q _ _ d0 d1 c1 ⟨_,_,_,h1,.inr ⟨rfl,hx0,hx1⟩,by rfl',by rfl'⟩
  ·ac_nf
   refine zac7 (by rfl') (by rfl') ?_
   refine zab4 (by rfl') (fun d1 d10 d11=>?_)
   refine zab4 (by rfl') (fun d d0 d1=>?_)
   ac_nf
   exact q _ _ d0 d1 c1 ⟨_,_,_,h1,.inr ⟨rfl,hx0,hx1⟩,by rfl',by rfl'⟩
 ·have hy1:y=1:=by rfl'
  subst hy1
  refine zc2 (v:=.int x) h1 rfl ?_
  refine zab4 (by rfl') (fun d d0 d1=>?_)
  refine zc2 (v:=.int x) h1 rfl ?_
  walk_at "st"
  refine zbx3 h1 (by rfl) (fun H2 c2 h2=>?_)
  ac_nf
  exact q _ _ d0 d1 (c1.trans c2) ⟨_,_,_,h2,.inl rfl,by rfl',by rfl'⟩
theorem zb7.chg{a p:Addr}{b:Int}(h:zb7 H a b)(c:Chg p H H')(n:a≠p):zb7 H' a b:=by
 obtain⟨x,y,z,e,r⟩:=h
 exact⟨x,y,z,c _ _ n e,r⟩
theorem zb7.some{H:Hp}{a:Addr}{b:Int}(h:zb7 H a b):∃ o,H a=some o:=by
 obtain⟨x,y,z,e,r⟩:=h
 exact⟨_,e⟩
theorem Chg.free'{a:Addr}(x:Chg a H H')(h:H' l=none)(n:l≠a):H l=none:=by
 cases e:H l with
 | none=>rfl
 | some o=>
  have:=x l o n e
  rw[h] at this
  cases this
def Fd.Bd(a c:Nat):Fd->Prop
 | .more w _=>w<=2*10 ^ 28
 | .lead w _=>w<=2*10 ^ 28
 | .tab g=>∀ x y,x<=a->y<=c->-(2*10 ^ 28)<=g x y/\g x y<=2*10 ^ 28
@[irreducible] def zh7:Sp:=fun vs H Q _=>∃ (a:Addr) (b:Int),vs=[.ref a]/\zb7 H a b/\b<=100000/\∀ (d:Int) H',-(10 ^ 28)<=d->d<=10 ^ 28->Chg a H H'->zb7 H' a (b+2)->Q (.int d) H'
theorem zca5{a:Addr}{b:Int}(hL:zb7 H a b)(hb:b<=100000)(q:∀ (d:Int) H',-(10 ^ 28)<=d->d<=10 ^ 28->Chg a H H'->zb7 H' a (b+2)->Q (.int d) H'):zh7 [.ref a] H Q E:=by unfold zh7;exact⟨a,b,rfl,hL,hb,q⟩
theorem zao2(F:Fun K "_law_some" "_law_some" zu5 f fd)(N:Nm mg)(zcf6:Def P w K mg base CX0 2 "_law_draw" ["_law_left_here","_law_base"] zc8):FnOk P w K mg base CX0 3 f fd ["_law_left_here"] zh7:=by
 refine F.ok zz9 (fun vs H Q E h=>by unfold zh7 at h;obtain⟨_,_,rfl,_⟩:=h;rfl) fun _ _ _ s H vs Q E hr h=>?_
 unfold zh7 at h
 obtain⟨a,b,rfl,hL,hb,q⟩:=h
 refine⟨_,(za3 (psS (i:=1) zz9.nd (zb4 (K:=K) rfl (zq5 (za0 za2 (za0 za2 (za0 (zb8 oPow za2 za2) za1)))) (pD zcf6 hr zb3 (za0 (pq 0) (za0 za2 za1)))))
   (za5 (za9 (zb8 oSub (pD zcf6 hr zb3 (za0 (pq 0) (za0 (zb8 oAdd (zb8 oMul za2 (pq 1)) za2) za1))) (pq 1))))),?_⟩
 walk_at "st"
 refine zg8 (fun p1 H1 f1 s1 h1=>?_)
 refine zf6 (hL.same s1) (by rfl') (by rfl') (by rfl') (fun d1 H2 d10 d11 c2 L2=>?_)
 have h12:=c2 _ _ (hL.ne f1) h1
 refine zw9 h12 (by rfl') (by simp only[zco4,zcr4];omega) ?_
 intro v hv
 obtain⟨m,rfl,m1,m2⟩:∃ m:Int,v=.int m/\1<=m/\m<=10 ^ 28:=by
  simp only[zcm9,zcp1,or_false] at hv
  rcases hv with rfl|rfl|rfl<;>exact⟨_,rfl,by rfl',by rfl'⟩
 clear hv
 refine zac7 (by decide) (by decide) ?_
 refine zf6 L2 (by rfl') (by rfl') (by rfl') (fun d3 H3 d30 d31 c3 L3=>?_)
 ac_nf
 exact q _ _ (by rfl') (by rfl') ((s1.toChg.trans c2).trans c3) (L3.up (by rfl'))
theorem zbl8{z:List Int}{n:Nat}(h:z.length=n):z.map V.int=rowV n fun y=>z.getD y 0:=by
 subst h
 apply zct6
 intro i
 by_cases hi:i<z.length
 ·rw[zaz9 hi,zcm5,zcm0 hi,zcm4,zcm0 hi]
  rfl
 ·rw[zcp7 (by simp;omega),zcp7 (by rw[zbt9];omega)]
@[irreducible] def zi0:Sp:=fun vs H Q _=>∃ (a:Addr) (b:Int) (n m:Nat),vs=[.ref a,.int n,.int m]/\zb7 H a b/\b<=90000/\n<=10/\m<=10/\∀ p f H',Chg a H H'->zb7 H' a (b+1000)->FdAt (nw H H') p n m f->f.Ok->f.Bd n m->Q (.ref p) H'
theorem zcf3{a:Addr}{b:Int}{n m:Nat}(hL:zb7 H a b)(hb:b<=90000)(h1:n<=10)(h2:m<=10)(q:∀ p f H',Chg a H H'->zb7 H' a (b+1000)->FdAt (nw H H') p n m f->f.Ok->f.Bd n m->Q (.ref p) H'):zi0 [.ref a,.int n,.int m] H Q E:=by unfold zi0;exact⟨a,b,n,m,rfl,hL,hb,h1,h2,q⟩
theorem zap8(F:Fun K "_law_rule" "_law_rule" zv2 f fd)(N:Nm mg)(zcf6:Def P w K mg base CX0 2 "_law_draw" ["_law_left_here","_law_base"] zc8)(zcj2:Def P w K mg base CX0 3 "_law_some" ["_law_left_here"] zh7):FnOk P w K mg base CX0 4 f fd ["_law_left_here","_law_first","_law_second"] zi0:=by
 refine F.ok zr7 (fun vs H Q E h=>by unfold zi0 at h;obtain⟨_,_,_,_,rfl,_⟩:=h;rfl) fun _ _ _ s H vs Q E hr h=>?_
 unfold zi0 at h
 obtain⟨a,b,n,m,rfl,hL,hb,h1,h2,q⟩:=h
 have hu:=hu40 hr
 refine⟨_,(za3 (psS (i:=3) zr7.nd (pD zcf6 hr zb3 (za0 (pq 0) (za0 za2 za1))))
   (za3 (psS (i:=4) zr7.nd (zb8 oAdd za2 (pD zcf6 hr zb3 (za0 (pq 0) (za0 (zb4 (K:=K) rfl (zq5 (za0 za2 (za0 za2 (za0 (zb8 oPow za2 za2) za1)))) (pD zcf6 hr zb3 (za0 (pq 0) (za0 za2 za1)))) za1)))))
   (za3 (psIf (ptC oLt (pq 3) za2) (za5 (za9 (zq2 (za0 zr3 (za0 (pq 4) (za0 (zb8 oSub (pD zcf6 hr zb3 (za0 (pq 0) (za0 (zb8 oAdd (zb8 oMul za2 (pq 4)) za2) za1))) (pq 4)) za1)))))) zc0)
   (za3 (psIf (ptC (oEqK (K:=K) rfl (by exact hu)) (pq 3) za2) (za5 (za9 (zq2 (za0 zr3 (za0 (pq 4) (za0 (zb8 oSub (pD zcf6 hr zb3 (za0 (pq 0) (za0 (zb4 (K:=K) rfl (zq5 (za0 za2 (za0 za2 za1))) (pD zcf6 hr zb3 (za0 (pq 0) (za0 za2 za1)))) za1))) za2) za1)))))) zc0)
   (za3 (psIf (ptC (oEqK (K:=K) rfl (by exact hu)) (pq 3) za2) (za5 (za9 (zq2 (za0 zr3 (za0 (zd5 (N:=["_law_x","_law_second","_law_left_here"]) (ks:=[none,some 2,some 0]) (zq0 N.range_ (za0 (zb8 oAdd (pq 1) za2) za1)) (fun _ _ _ _ _=>(za7 (i:=0) nb_20 rfl (by eq_refl))) (fun _ _ _ _ _=>zc6) (fun _ _ _ _ _=>(zd5 (N:=["_law_y","_law_left_here"]) (ks:=[none,some 2]) (zq0 N.range_ (za0 (zb8 oAdd (pq 1) za2) za1)) (fun _ _ _ _ _=>(za7 (i:=0) nb_21 rfl (by eq_refl))) (fun _ _ _ _ _=>zc6) (fun _ _ _ _ _=>(zb8 oSub (pD zcf6 hr zb3 (za0 (pq 1) (za0 za2 za1))) za2)) (.skip (.take rfl rfl (by eq_refl) .nil)))) (.skip (.take rfl rfl (by eq_refl) (.take rfl rfl (by eq_refl) .nil)))) za1))))) zc0)
   (za5 (za9 (zq2 (za0 zr3 (za0 (zd5 (N:=["_law_x","_law_second","_law_left_here"]) (ks:=[none,some 2,some 0]) (zq0 N.range_ (za0 (zb8 oAdd (pq 1) za2) za1)) (fun _ _ _ _ _=>(za7 (i:=0) nb_20 rfl (by eq_refl))) (fun _ _ _ _ _=>zc6) (fun _ _ _ _ _=>(zd5 (N:=["_law_y","_law_left_here"]) (ks:=[none,some 2]) (zq0 N.range_ (za0 (zb8 oAdd (pq 1) za2) za1)) (fun _ _ _ _ _=>(za7 (i:=0) nb_21 rfl (by eq_refl))) (fun _ _ _ _ _=>zc6) (fun _ _ _ _ _=>(pD zcj2 hr zb3 (za0 (pq 1) za1))) (.skip (.take rfl rfl (by eq_refl) .nil)))) (.skip (.take rfl rfl (by eq_refl) (.take rfl rfl (by eq_refl) .nil)))) za1)))))))))),?_⟩
 refine zf6 hL (by rfl') (by rfl') (by rfl') (fun kd H1 k0 k1 c1 L1=>?_)
 walk_at "st"
 refine zg8 (fun q1 Ha fa sa ha=>?_)
 refine zf6 (L1.same sa) (by rfl') (by rfl') (by rfl') (fun d3 Hb d30 d31 cb Lb=>?_)
 have hab:=cb _ _ (L1.ne fa) ha
 refine zw9 hab (by rfl') (by simp only[zco4,zcr4];omega) ?_
 intro v hv
 obtain⟨tp,rfl,tp1,tp2⟩:∃ t:Int,v=.int t/\1<=t/\t<=10 ^ 28:=by
  simp only[zcm9,zcp1,or_false] at hv
  rcases hv with rfl|rfl|rfl<;>exact⟨_,rfl,by rfl',by rfl'⟩
 clear hv hab ha
 refine zf6 Lb (by rfl') (by rfl') (by rfl') (fun d4 H2 d40 d41 c2 L2=>?_)
 have c02:Chg a H H2:=((c1.same sa).trans cb).trans c2
 obtain⟨wt,ewt,w0,w1⟩:∃ wt:Int,1+d4=wt/\1<=wt/\wt<=10 ^ 28:=⟨_,rfl,by rfl',by rfl'⟩
 ac_nf
 rw[ewt]
 refine zd6 (fun e0=>?_) (fun e0=>?_)
 ·ac_nf
  refine zac7 (by decide) (by decide) ?_
  refine zf6 L2 (by rfl') (by rfl') (by rfl') (fun d5 H5 d50 d51 c5 L5=>?_)
  refine zf2 (fun p6 H6 f6 s6 h6=>?_)
  ac_nf
  have c05:=c02.trans c5
  exact q p6 (.more wt (d5 - wt)) H6 (c05.same s6) ((L5.same s6).up (by rfl')) (zu8 (Chg.free' c05 f6 (L5.ne f6)) h6) ⟨w0,by rfl',by rfl'⟩ (show wt<=2*10 ^ 28 by rfl')
 refine zd6 (fun e1=>?_) (fun e1=>?_)
 ·ac_nf
  refine zg8 (fun p4 H4 f4 s4 h4=>?_)
  refine zf6 (L2.same s4) (by rfl') (by rfl') (by rfl') (fun d5 H5 d50 d51 c5 L5=>?_)
  have h45:=c5 _ _ (L2.ne f4) h4
  refine zw9 h45 (by rfl') (by simp only[zco4,zcr4];omega) ?_
  intro v hv
  obtain⟨tq,rfl,tq1,tq2⟩:∃ t:Int,v=.int t/\1<=t/\t<=25:=by
   simp only[zcm9,zcp1,or_false] at hv
   rcases hv with rfl|rfl<;>exact⟨_,rfl,by rfl',by rfl'⟩
  clear hv
  refine zf6 L5 (by rfl') (by rfl') (by rfl') (fun d6 H6 d60 d61 c6 L6=>?_)
  refine zf2 (fun p7 H7 f7 s7 h7=>?_)
  ac_nf
  have c06:=((c02.same s4).trans c5).trans c6
  exact q p7 (.lead wt (d6 - 2)) H7 (c06.same s7) ((L6.same s7).up (by rfl')) (zu8 (Chg.free' c06 f7 (L6.ne f7)) h7) w0 (show wt<=2*10 ^ 28 by rfl')
 refine zd6 (fun e2=>?_) (fun e2=>?_)
 ·ac_nf
  refine zh1 (by decide) (by decide) (by rfl') (by rfl') ?_
  rw[show ((n:Int)+1 - 0).toNat=n+1 by rfl']
  refine zl8 (by rw[zcv5];omega) (fun r H3 f3 s3 h3=>?_)
  have nr:r≠a:=L2.ne f3
  have fr:H r=none:=Chg.free' c02 f3 nr
  refine⟨fun i ys σ H4=>∃ (t:Option V) (qs:List Addr) (zs:List (List Int)),σ=[t,some (.int m),some (.ref a)]/\ys=qs.map V.ref/\zb7 H4 a (b+20+50*i)/\Chg2 a r H2 H4/\qs.length=i/\zs.length=i/\∀ (k:Nat) q z,qs[k]?=some q->zs[k]?=some z->H q=none/\q≠r/\q≠a/\H4 q=some (.lst (z.map V.int))/\z.length=m+1/\∀ y∈z,-(10 ^ 28)<=y/\y<=10 ^ 28,?_,?_,?_⟩
  ·exact⟨none,[],[],rfl,rfl,(L2.same s3).up (by rfl'),s3.to2,rfl,rfl,fun k q z e=>by simp at e⟩
  ·rintro i mm ys σ H4 hi hm hl h4 ⟨t,qs,zs,rfl,rfl,L4,c4,ql,zl,pr⟩
   have hi:i<n+1:=hi
   refine br_T ?_
   refine zh1 (by decide) (by decide) (by rfl') (by rfl') ?_
   rw[show ((m:Int)+1 - 0).toNat=m+1 by rfl']
   refine zl8 (by rw[zcv5];omega) (fun acc H5 f5 s5 h5=>?_)
   have na:acc≠a:=L4.ne f5
   have nra:r≠acc:=za4 h4 f5
   refine⟨fun j ys σ H6=>∃ (t:Option V) (z:List Int),σ=[t,some (.ref a)]/\ys=z.map V.int/\z.length=j/\(∀ y∈z,-(10 ^ 28)<=y/\y<=10 ^ 28)/\zb7 H6 a (b+20+50*i+4*j)/\Chg2 a acc H4 H6,?_,?_,?_⟩
   ·exact⟨none,[],rfl,rfl,rfl,fun y hy=>by (cases hy),(L4.same s5).up (by rfl'),s5.to2⟩
   ·rintro j m' ys σ H6 hj hm' hl' h6 ⟨t,z,rfl,rfl,lz,bz,L6,c6⟩
    have hj:j<m+1:=hj
    refine br_T ?_
    refine zf6 L6 (by rfl') (by rfl') (by rfl') (fun d H7 d0 d1 c7 L7=>?_)
    refine zx3 hj hm' hl' (c7 _ _ na h6) (fun H8 c8 h8=>?_)
    exact⟨_,z++[_],rfl,by rw[zco1];rfl,by rw[zcn1,lz];rfl,(fun y hy=>by
     rcases zcq0.mp hy with hy|hy
     ·exact bz y hy
     ·rw[zct1.mp hy];omega),(L7.chg c8 (Ne.symm na)).up (by rfl'),(c6.trans c7.toL).trans c8.toR⟩
   ·rintro ys σ H6 h6 ⟨t,z,rfl,rfl,lz,bz,L6,c6⟩
    have facc:H acc=none:=Chg.free' c02 (by
     cases e:H2 acc with
     | none=>rfl
     | some o=>
      have:=c4 _ _ na (Ne.symm nra) e
      rw[f5] at this
      cases this) na
    refine zx3 hi hm hl (c6 _ _ nr nra h4) (fun H7 c7 h7=>?_)
    refine⟨_,qs++[acc],zs++[z],rfl,by rw[zco1];rfl,(L6.chg c7 (Ne.symm nr)).up (by rfl'),fun x o z1 z2 e=>?_,by rw[zcn1,ql];rfl,by rw[zcn1,zl];rfl,fun k q z' g1 g2=>?_⟩
    ·have e4:=c4 _ _ z1 z2 e
     exact c7 _ _ z2 (c6 _ _ z1 (za4 e4 f5) e4)
    by_cases hk:k<qs.length
    ·rw[zco2 hk] at g1
     rw[zco2 (by rfl')] at g2
     obtain⟨y1,y2,y3,y4,y5,y6⟩:=pr k q z' g1 g2
     exact⟨y1,y2,y3,c7 _ _ y2 (c6 _ _ y3 (za4 y4 f5) y4),y5,y6⟩
    ·rw[zco5 (by rfl')] at g1 g2
     have k0:k - qs.length=0:=by
      have:=(zcm1.mp g1).1
      simp at this;omega
     rw[k0] at g1
     rw[show k - zs.length=0 by rfl'] at g2
     cases g1
     cases g2
     exact⟨facc,Ne.symm nra,na,c7 _ _ (Ne.symm nra) h6,lz,bz⟩
  ·rintro ys σ H4 h4 ⟨t,qs,zs,rfl,rfl,L4,c4,ql,zl,pr⟩
   have c04:Chg a H H4:=fun x o z1 e=>c4 _ _ z1 (za4 e fr) (c02 _ _ z1 e)
   refine zf2 (fun p5 H5 f5 s5 h5=>?_)
   ac_nf
   refine q p5 (.tab fun x y=>(zs.getD x []).getD y 0) H5 (c04.same s5) ((L4.same s5).up (by rfl')) ⟨r,qs,zu8 (Chg.free' c04 f5 (L4.ne f5)) h5,zu8 fr (s5 _ _ h4),ql,fun i p e=>?_⟩ trivial (fun x y hx hy=>by
    obtain⟨z,ez⟩:∃ z,zs[x]?=some z:=⟨_,zcm0 (by rfl')⟩
    obtain⟨p,ep⟩:∃ p,qs[x]?=some p:=⟨_,zcm0 (by rfl')⟩
    obtain⟨y1,y2,y3,y4,y5,y6⟩:=pr x p z ep ez
    have e1:zs.getD x []=z:=by rw[zcm4,ez];rfl
    show -(2*10 ^ 28)<=(zs.getD x []).getD y 0/\(zs.getD x []).getD y 0<=2*10 ^ 28
    rw[e1]
    have hm:=y6 (z.getD y 0) (by rw[zcm4,zcm0 (by rfl')];exact zcs4 _)
    omega)
   obtain⟨z,ez⟩:∃ z,zs[i]?=some z:=⟨_,zcm0 (by have:=(zcm1.mp e).1;omega)⟩
   obtain⟨y1,y2,y3,y4,y5,_⟩:=pr i p z e ez
   have eg:zs.getD i []=z:=by rw[zcm4,ez];rfl
   show nw H H5 p=some (.lst (rowV (m+1) fun y=>(zs.getD i []).getD y 0))
   rw[eg,← zbl8 y5]
   exact zu8 y1 (s5 _ _ y4)
 ·ac_nf
  refine zh1 (by decide) (by decide) (by rfl') (by rfl') ?_
  rw[show ((n:Int)+1 - 0).toNat=n+1 by rfl']
  refine zl8 (by rw[zcv5];omega) (fun r H3 f3 s3 h3=>?_)
  have nr:r≠a:=L2.ne f3
  have fr:H r=none:=Chg.free' c02 f3 nr
  refine⟨fun i ys σ H4=>∃ (t:Option V) (qs:List Addr) (zs:List (List Int)),σ=[t,some (.int m),some (.ref a)]/\ys=qs.map V.ref/\zb7 H4 a (b+20+50*i)/\Chg2 a r H2 H4/\qs.length=i/\zs.length=i/\∀ (k:Nat) q z,qs[k]?=some q->zs[k]?=some z->H q=none/\q≠r/\q≠a/\H4 q=some (.lst (z.map V.int))/\z.length=m+1/\∀ y∈z,-(10 ^ 28)<=y/\y<=10 ^ 28,?_,?_,?_⟩
  ·exact⟨none,[],[],rfl,rfl,(L2.same s3).up (by rfl'),s3.to2,rfl,rfl,fun k q z e=>by simp at e⟩
  ·rintro i mm ys σ H4 hi hm hl h4 ⟨t,qs,zs,rfl,rfl,L4,c4,ql,zl,pr⟩
   have hi:i<n+1:=hi
   refine br_T ?_
   refine zh1 (by decide) (by decide) (by rfl') (by rfl') ?_
   rw[show ((m:Int)+1 - 0).toNat=m+1 by rfl']
   refine zl8 (by rw[zcv5];omega) (fun acc H5 f5 s5 h5=>?_)
   have na:acc≠a:=L4.ne f5
   have nra:r≠acc:=za4 h4 f5
   refine⟨fun j ys σ H6=>∃ (t:Option V) (z:List Int),σ=[t,some (.ref a)]/\ys=z.map V.int/\z.length=j/\(∀ y∈z,-(10 ^ 28)<=y/\y<=10 ^ 28)/\zb7 H6 a (b+20+50*i+4*j)/\Chg2 a acc H4 H6,?_,?_,?_⟩
   ·exact⟨none,[],rfl,rfl,rfl,fun y hy=>by (cases hy),(L4.same s5).up (by rfl'),s5.to2⟩
   ·rintro j m' ys σ H6 hj hm' hl' h6 ⟨t,z,rfl,rfl,lz,bz,L6,c6⟩
    have hj:j<m+1:=hj
    refine br_T ?_
    refine zca5 L6 (by rfl') (fun d H7 d0 d1 c7 L7=>?_)
    refine zx3 hj hm' hl' (c7 _ _ na h6) (fun H8 c8 h8=>?_)
    exact⟨_,z++[_],rfl,by rw[zco1];rfl,by rw[zcn1,lz];rfl,(fun y hy=>by
     rcases zcq0.mp hy with hy|hy
     ·exact bz y hy
     ·rw[zct1.mp hy];omega),(L7.chg c8 (Ne.symm na)).up (by rfl'),(c6.trans c7.toL).trans c8.toR⟩
   ·rintro ys σ H6 h6 ⟨t,z,rfl,rfl,lz,bz,L6,c6⟩
    have facc:H acc=none:=Chg.free' c02 (by
     cases e:H2 acc with
     | none=>rfl
     | some o=>
      have:=c4 _ _ na (Ne.symm nra) e
      rw[f5] at this
      cases this) na
    refine zx3 hi hm hl (c6 _ _ nr nra h4) (fun H7 c7 h7=>?_)
    refine⟨_,qs++[acc],zs++[z],rfl,by rw[zco1];rfl,(L6.chg c7 (Ne.symm nr)).up (by rfl'),fun x o z1 z2 e=>?_,by rw[zcn1,ql];rfl,by rw[zcn1,zl];rfl,fun k q z' g1 g2=>?_⟩
    ·have e4:=c4 _ _ z1 z2 e
     exact c7 _ _ z2 (c6 _ _ z1 (za4 e4 f5) e4)
    by_cases hk:k<qs.length
    ·rw[zco2 hk] at g1
     rw[zco2 (by rfl')] at g2
     obtain⟨y1,y2,y3,y4,y5,y6⟩:=pr k q z' g1 g2
     exact⟨y1,y2,y3,c7 _ _ y2 (c6 _ _ y3 (za4 y4 f5) y4),y5,y6⟩
    ·rw[zco5 (by rfl')] at g1 g2
     have k0:k - qs.length=0:=by
      have:=(zcm1.mp g1).1
      simp at this;omega
     rw[k0] at g1
     rw[show k - zs.length=0 by rfl'] at g2
     cases g1
     cases g2
     exact⟨facc,Ne.symm nra,na,c7 _ _ (Ne.symm nra) h6,lz,bz⟩
  ·rintro ys σ H4 h4 ⟨t,qs,zs,rfl,rfl,L4,c4,ql,zl,pr⟩
   have c04:Chg a H H4:=fun x o z1 e=>c4 _ _ z1 (za4 e fr) (c02 _ _ z1 e)
   refine zf2 (fun p5 H5 f5 s5 h5=>?_)
   ac_nf
   refine q p5 (.tab fun x y=>(zs.getD x []).getD y 0) H5 (c04.same s5) ((L4.same s5).up (by rfl')) ⟨r,qs,zu8 (Chg.free' c04 f5 (L4.ne f5)) h5,zu8 fr (s5 _ _ h4),ql,fun i p e=>?_⟩ trivial (fun x y hx hy=>by
    obtain⟨z,ez⟩:∃ z,zs[x]?=some z:=⟨_,zcm0 (by rfl')⟩
    obtain⟨p,ep⟩:∃ p,qs[x]?=some p:=⟨_,zcm0 (by rfl')⟩
    obtain⟨y1,y2,y3,y4,y5,y6⟩:=pr x p z ep ez
    have e1:zs.getD x []=z:=by rw[zcm4,ez];rfl
    show -(2*10 ^ 28)<=(zs.getD x []).getD y 0/\(zs.getD x []).getD y 0<=2*10 ^ 28
    rw[e1]
    have hm:=y6 (z.getD y 0) (by rw[zcm4,zcm0 (by rfl')];exact zcs4 _)
    omega)
   obtain⟨z,ez⟩:∃ z,zs[i]?=some z:=⟨_,zcm0 (by have:=(zcm1.mp e).1;omega)⟩
   obtain⟨y1,y2,y3,y4,y5,_⟩:=pr i p z e ez
   have eg:zs.getD i []=z:=by rw[zcm4,ez];rfl
   show nw H H5 p=some (.lst (rowV (m+1) fun y=>(zs.getD i []).getD y 0))
   rw[eg,← zbl8 y5]
   exact zu8 y1 (s5 _ _ y4)
@[irreducible] def zf4:Sp:=fun vs H Q _=>∃ (a:Addr) (b:Int) (t:Nat),vs=[.ref a,.int t,.int 5]/\t<=10/\zb7 H a b/\b<=1000/\∀ bt l ps n m fs H',Chg a H H'->zb7 H' a (b+10000)->zj2 (rm a H') bt l ps n m fs->OkB n m fs->(∀ f∈fs,f.Bd n m)->Q (.ref bt) H'
theorem zal6{a:Addr}{b:Int}{t:Nat}(ht:t<=10)(hL:zb7 H a b)(hb:b<=1000)(q:∀ bt l ps n m fs H',Chg a H H'->zb7 H' a (b+10000)->zj2 (rm a H') bt l ps n m fs->OkB n m fs->(∀ f∈fs,f.Bd n m)->Q (.ref bt) H'):zf4 [.ref a,.int t,.int 5] H Q E:=by unfold zf4;exact⟨a,b,t,rfl,ht,hL,hb,q⟩
theorem zag8(F:Fun K "_law_battle" "_law_battle" zp5 f fd)(N:Nm mg)(zcf6:Def P w K mg base CX0 2 "_law_draw" ["_law_left_here","_law_base"] zc8)(zcj3:Def P w K mg base CX0 4 "_law_rule" ["_law_left_here","_law_first","_law_second"] zi0):FnOk P w K mg base CX0 5 f fd ["_law_left_here","_law_most","_law_fields"] zf4:=by
 refine F.ok zn3 (fun vs H Q E h=>by unfold zf4 at h;obtain⟨_,_,_,rfl,_⟩:=h;rfl) fun _ _ _ s H vs Q E hr h=>?_
 unfold zf4 at h
 obtain⟨a,b,tt,rfl,ht,hL,hb,q⟩:=h
 refine⟨_,(za3 (psS (i:=3) zn3.nd (pD zcf6 hr zb3 (za0 (pq 0) (za0 (zb8 oAdd (pq 1) za2) za1))))
   (za3 (psS (i:=4) zn3.nd (pD zcf6 hr zb3 (za0 (pq 0) (za0 (zb8 oAdd (pq 1) za2) za1))))
   (za5 (za9 (zq2 (za0 (pq 3) (za0 (pq 4) (za0 (zd5 (N:=["_law_k","_law_left_here","_law_first","_law_second"]) (ks:=[none,some 0,some 3,some 4]) (zq0 N.range_ (za0 (zb8 oAdd za2 (pD zcf6 hr zb3 (za0 (pq 0) (za0 (pq 2) za1)))) za1)) (fun _ _ _ _ _=>(za7 (i:=0) nb_22 rfl (by eq_refl))) (fun _ _ _ _ _=>zc6) (fun _ _ _ _ _=>(pD zcj3 hr zb3 (za0 (pq 1) (za0 (pq 2) (za0 (pq 3) za1))))) (.skip (.take rfl rfl (by eq_refl) (.take rfl rfl (by eq_refl) (.take rfl rfl (by eq_refl) .nil))))) za1)))))))),?_⟩
 refine zf6 hL (by rfl') (by rfl') (by rfl') (fun d1 H1 d10 d11 c1 L1=>?_)
 obtain⟨n,rfl⟩:∃ n:Nat,d1=n:=⟨d1.toNat,by rfl'⟩
 refine zf6 L1 (by rfl') (by rfl') (by rfl') (fun d2 H2 d20 d21 c2 L2=>?_)
 obtain⟨m,rfl⟩:∃ n:Nat,d2=n:=⟨d2.toNat,by rfl'⟩
 refine zf6 L2 (by rfl') (by rfl') (by rfl') (fun d3 H3 d30 d31 c3 L3=>?_)
 have c03:=(c1.trans c2).trans c3
 refine zh1 (by decide) (by decide) (by rfl') (by rfl') ?_
 obtain⟨z,ez⟩:∃ z:Nat,(1+d3 - 0).toNat=z:=⟨_,rfl⟩
 rw[ez]
 have hz:1<=z/\z<=5:=by rfl'
 refine zl8 (by rw[zcv5];omega) (fun acc H4 f4 s4 h4=>?_)
 have na:acc≠a:=L3.ne f4
 have facc:H acc=none:=Chg.free' c03 f4 na
 refine⟨fun j ys σ H5=>∃ (t:Option V) (qs:List Addr) (fs:List Fd),σ=[t,some (.ref a),some (.int n),some (.int m)]/\ys=qs.map V.ref/\qs.length=j/\fs.length=j/\zb7 H5 a (b+12+1000*j)/\Chg2 a acc H3 H5/\∀ (k:Nat) q f,qs[k]?=some q->fs[k]?=some f->FdAt (rm a (rm acc H5)) q n m f/\f.Ok/\f.Bd n m,?_,?_,?_⟩
 ·exact⟨none,[],[],rfl,rfl,rfl,rfl,(L3.same s4).up (by rfl'),s4.to2,fun k q f e=>by simp at e⟩
 ·rintro j m' ys σ H5 hj hm hl h5 ⟨t,qs,fs,rfl,rfl,ql,fl,L5,c5,pr⟩
  have hj:j<z:=hj
  obtain⟨oa,ea⟩:=L5.some
  refine br_T ?_
  refine zcf3 L5 (by rfl') (by rfl') (by rfl') (fun p6 f H6 c6 L6 F6 ok okb=>?_)
  refine zx3 hj hm hl (c6 _ _ na h5) (fun H7 c7 h7=>?_)
  refine⟨_,qs++[p6],fs++[f],rfl,by rw[zco1];rfl,by rw[zcn1,ql];rfl,by rw[zcn1,fl];rfl,(L6.chg c7 (Ne.symm na)).up (by rfl'),(c5.trans c6.toL).trans c7.toR,fun k p f' g1 g2=>?_⟩
  by_cases hk:k<qs.length
  ·rw[zco2 hk] at g1
   rw[zco2 (by rfl')] at g2
   obtain⟨y1,y2,y3⟩:=pr k p f' g1 g2
   refine⟨y1.same (fun b o e=>?_),y2,y3⟩
   have e1:=zag4 e
   have e2:=zag4 e1.2
   exact zu2 e1.1 (zu2 e2.1 (c7 _ _ e2.1 (c6 _ _ e1.1 e2.2)))
  ·rw[zco5 (by rfl')] at g1 g2
   have k0:k - qs.length=0:=by
    have:=(zcm1.mp g1).1
    simp at this;omega
   rw[k0] at g1
   rw[show k - fs.length=0 by rfl'] at g2
   cases g1
   cases g2
   refine⟨F6.same (fun b o e=>?_),ok,okb⟩
   have e1:=zam8 e
   have n1:b≠a:=fun w=>by rw[w,ea] at e1;cases e1.1
   have n2:b≠acc:=fun w=>by rw[w,h5] at e1;cases e1.1
   exact zu2 n1 (zu2 n2 (c7 _ _ n2 e1.2))
 ·rintro ys σ H5 h5 ⟨t,qs,fs,rfl,rfl,ql,fl,L5,c5,pr⟩
  have c05:Chg a H H5:=fun b o z1 e=>c5 _ _ z1 (za4 e facc) (c03 _ _ z1 e)
  refine zf2 (fun p7 H7 f7 s7 h7=>?_)
  ac_nf
  exact q p7 acc qs n m fs H7 (c05.same s7) ((L5.same s7).up (by rfl')) ⟨zu2 (L5.ne f7) h7,zu2 na (s7 _ _ h5),by rfl',fun i p f g1 g2=>⟨((pr i p f g1 g2).1.same (Same.rm (zn1 acc H5))).same (Same.rm s7),(pr i p f g1 g2).2.1⟩⟩ ⟨⟨by rfl',by rfl'⟩,by rfl'⟩ (fun f hf=>by
   obtain⟨i,ei⟩:=zcp3 hf
   obtain⟨p,ep⟩:∃ p,qs[i]?=some p:=⟨_,zcm0 (by have:=(zcm1.mp ei).1;omega)⟩
   exact (pr i p f ep ei).2.2)
@[irreducible] def zi5:Sp:=fun vs H Q _=>∃ (a:Addr) (b:Int) (h f:Nat),vs=[.ref a,.int h,.int f]/\zb7 H a b/\b<=100000/\h<=40/\(1<=f/\f<=8)/\∀ l H' (ns:List Int),H l=none->Chg a H H'->zb7 H' a (b+10)->l≠a->H' l=some (.lst (ns.map V.int))->ns.length=f->ns.sum=h->(∀ x∈ns,0<=x)->Q (.ref l) H'
theorem zcd3{a:Addr}{b:Int}{h f:Nat}(hL:zb7 H a b)(hb:b<=100000)(h1:h<=40)(h2:1<=f)(h3:f<=8)(q:∀ l H' (ns:List Int),H l=none->Chg a H H'->zb7 H' a (b+10)->l≠a->H' l=some (.lst (ns.map V.int))->ns.length=f->ns.sum=h->(∀ x∈ns,0<=x)->Q (.ref l) H'):zi5 [.ref a,.int h,.int f] H Q E:=by
 unfold zi5;exact⟨a,b,h,f,rfl,hL,hb,h1,⟨h2,h3⟩,q⟩
theorem zbz3(ns:List Int)(k:Nat):(ns.drop k++ns.take k).sum=ns.sum:=by
 have:=congrArg List.sum (List.take_append_drop k ns)
 rw[zct8] at this ⊢
 omega
theorem zar4(F:Fun K "_law_plan" "_law_plan" zu6 f fd)(N:Nm mg)(zcf6:Def P w K mg base CX0 2 "_law_draw" ["_law_left_here","_law_base"] zc8):FnOk P w K mg base CX0 3 f fd ["_law_left_here","_law_hosts","_law_many"] zi5:=by
 refine F.ok zi3 (fun vs H Q E h=>by unfold zi5 at h;obtain⟨_,_,_,_,rfl,_⟩:=h;rfl) fun _ _ _ s H vs Q E hr h=>?_
 unfold zi5 at h
 obtain⟨a,b,h,f,rfl,hL,hb,h1,⟨h2,h3⟩,q⟩:=h
 refine⟨_,(za3 (psS (i:=3) zi3.nd (zq5 za1))
   (za3 (psS (i:=4) zi3.nd (pq 1))
   (za3 (zac2 PassesOwn.never rfl (zq0 N.range_ (za0 (zb8 oSub (pq 2) za2) za1)) (za7 (i:=5) zi3.nd rfl (by eq_refl)) (za3 (zn8 (zs5 (pq 3) (za0 (pD zcf6 hr zb3 (za0 (pq 0) (za0 (zb8 oAdd (pq 4) za2) za1))) za1)))
   (za5 (psS (i:=4) zi3.nd (zb8 oSub (pq 4) (zb4 (K:=K) rfl (pq 3) (zbc4 uNeg za2)))))))
   (za3 (zn8 (zs5 (pq 3) (za0 (pq 4) za1)))
   (za3 (psS (i:=6) zi3.nd (pD zcf6 hr zb3 (za0 (pq 0) (za0 (pq 2) za1))))
   (za5 (za9 (zb8 oAdd (zm4 (slXK (K:=K) rfl) (pq 3) (zz6 (pq 6)) zs0) (zm4 (slXK (K:=K) rfl) (pq 3) zs0 (zz6 (pq 6))))))))))),?_⟩
 refine zg8 (fun l H1 f1 s1 h1'=>?_)
 have n1:l≠a:=hL.ne f1
 refine zh1 (by decide) (by decide) (by rfl') (by rfl') ?_
 refine zo7 (fun i σ H2=>∃ (x y:Option V) (ns:List Int) (r:Int),σ=[some (.ref a),some (.int h),some (.int f),some (.ref l),some (.int r),x,y]/\Chg a H H2/\zb7 H2 a (b+i)/\H2 l=some (.lst (ns.map V.int))/\ns.length=i/\ns.sum+r=h/\0<=r/\r<=40/\∀ x∈ns,0<=x) ?_ ?_ ?_
 ·exact⟨_,_,[],h,rfl,s1.toChg,(hL.same s1).up (by rfl'),h1',rfl,by simp,by rfl',by rfl',by simp⟩
 ·rintro i σ H2 hi ⟨x0,y0,ns,r,rfl,c2,L2,e2,l2,t2,r0,r1,nn⟩
  have hi:i<8:=by rfl'
  refine zbb4 e2 ?_
  refine zf6 L2 (by rfl') (by rfl') (by rfl') (fun d3 H3 d30 d31 c3 L3=>?_)
  have e3:=c3 _ _ n1 e2
  refine zbb0 e3 (by rw[zcl9,zcv5];omega) (fun H4 c4 h4=>?_)
  have h4:H4 l=some (.lst ((ns++[d3]).map V.int)):=by rw[h4,zco1];rfl
  refine zc2 (v:=.int d3) h4 (zbj6 (n:=i) (by rw[zcl9,zcn1,l2];rfl) (by rw[zcm5,zco5 (by rfl'),l2,Nat.sub_self];rfl)) ?_
  ac_nf
  have c23:Chg a H H3:=c2.trans c3
  refine⟨_,_,ns++[d3],r - d3,rfl,fun b o h1 e=>c4 _ _ (za4 e f1) (c23 _ _ h1 e),(L3.chg c4 (Ne.symm n1)).up (by rfl'),h4,by rw[zcn1,l2];rfl,by rw[zct8];simp;omega,by rfl',by rfl',fun x hx=>?_⟩
  rcases zcq0.mp hx with hx|hx
  ·exact nn x hx
  ·have:x=d3:=by simpa using hx
   omega
 ·rintro σ H2 ⟨x0,y0,ns,r,rfl,c2,L2,e2,l2,t2,r0,r1,nn⟩
  refine zbb4 e2 ?_
  refine zbb0 e2 (by rw[zcl9,zcv5];omega) (fun H3 c3 h3'=>?_)
  have h3':H3 l=some (.lst ((ns++[r]).map V.int)):=by rw[h3',zco1];rfl
  have L3:=L2.chg c3 (Ne.symm n1)
  refine zf6 L3 (by rfl') (by rfl') (by rfl') (fun at_ H4 a0 a1 c4 L4=>?_)
  have h4:=c4 _ _ n1 h3'
  refine zai0 (SqL.of h4) (fun p5 H5 f5 s5 h5=>?_)
  rw[zaa8 (by rfl'),← List.map_drop] at h5
  refine zai0 (SqL.of (s5 _ _ h4)) (fun p6 H6 f6 s6 h6=>?_)
  rw[zag2 (by rfl'),← List.map_take] at h6
  refine zbo2 (s6 _ _ h5) h6 (by rw[zcl9,zcl9,zcr7,zcr6,zcv5,zcn1,l2,zcs9];omega) (fun p7 H7 f7 s7 h7=>?_)
  ac_nf
  have s56:=s5.trans s6
  have L6:=L4.same s56
  have c06:Chg a H H6:=fun b o h1 e=>s56 _ _ (c4 _ _ h1 (c3 _ _ (za4 e f1) (c2 _ _ h1 e)))
  refine q p7 H7 ((ns++[r]).drop at_.toNat++(ns++[r]).take at_.toNat) (Chg.free' c06 f7 (L6.ne f7)) (c06.same s7) ((L6.same s7).up (by rfl')) (L6.ne f7) (by rw[h7,zco1]) (by rw[zcn1,zcr7,zcr6,zcn1,l2,zcs9];omega) (by rw[zbz3,zct8];simp;omega) (fun x hx=>?_)
  have hx:x∈ns++[r]:=by
   rcases zcq0.mp hx with hx|hx
   ·exact zcu9 hx
   ·exact List.mem_of_mem_take hx
  rcases zcq0.mp hx with hx|hx
  ·exact nn x hx
  ·have:x=r:=by simpa using hx
   omega
theorem zba5{a:Addr}{ns:List Int}(h:H a=some (.lst (ns.map V.int))):ShV H (.ref a) (.list (ns.map PyData.int)):=.lst h (ShL.idx (by rw[zcl9,zcl9]) fun i x d e1 e2=>by
 rw[zcm5] at e1 e2
 obtain⟨y,ey,rfl⟩:=zcm7.mp e1
 rw[ey] at e2
 cases e2
 exact .int _)
theorem zaq7{ns:List Int}{f:Nat}(nn:∀ x∈ns,0<=x)(hl:ns.length=f)(hs:ns.sum=h):zv0 h f (.list (ns.map PyData.int))=true:=by
 unfold zv0
 rw[zs3,decide_eq_true (show ((ns.length:Nat):Int)=f by rw[hl]),decide_eq_true hs,Bool.and_true,Bool.and_true]
 show (ns.map PyData.int).all (zj0 0)=true
 rw[zcs2,zcn6]
 exact fun x hx=>decide_eq_true (nn x hx)
theorem zba2{ns:List Int}(h:ns.length<=1000):sml (.list (ns.map PyData.int))=true:=(okD.list (n:=0) (by rw[zcl9];exact h) fun d hd=>by
 obtain⟨y,_,rfl⟩:=zcn5.mp hd
 exact⟨rfl,rfl,zcp5 _⟩).1
structure Pln(h f:Nat)(ns:List Int):Prop where
 nn:∀ x∈ns,0<=x
 len:ns.length=f
 sum:ns.sum=h
def zaf9(fs:List Fd)(xs ys:List Int):Int:=((List.range fs.length).map fun k=>(fs.getD k (.more 0 0)).won (xs.getD k 0).toNat (ys.getD k 0).toNat).sum
@[irreducible] def zg3:Sp:=fun vs H Q _=>∃ (b l p1 p2:Addr) (ps:List Addr) (a c:Nat) (fs:List Fd) (xs ys:List Int),vs=[.ref b,.ref p1,.ref p2]/\zj2 H b l ps a c fs/\OkB a c fs/\H p1=some (.lst (xs.map V.int))/\H p2=some (.lst (ys.map V.int))/\Pln a fs.length xs/\Pln c fs.length ys/\∀ H',Same H H'->Q .non H'
theorem zal4{b p1 p2:Addr}{a:Nat}{fs:List Fd}{xs:List Int}(B:zj2 H b l ps a c fs)(O:OkB a c fs)(h1:H p1=some (.lst (xs.map V.int)))(h2:H p2=some (.lst (ys.map V.int)))(P1:Pln a fs.length xs)(P2:Pln c fs.length ys)(q:∀ H',Same H H'->Q .non H'):zg3 [.ref b,.ref p1,.ref p2] H Q E:=by
 unfold zg3;exact⟨b,l,p1,p2,ps,a,c,fs,xs,ys,rfl,B,O,h1,h2,P1,P2,q⟩
theorem zak0(F:Fun K "look_plans" "look_plans" zr2 f fd)(N:Nm mg)(zch6:Def P w K mg base CX0 4 "is_plan" ["hosts","fields","plan"] zj8)(Z:Cz K mg base zcf8 zcf5 zcg1 zcf7 zcf4 zcg2):FnOk P w K mg base CX0 5 f fd ["battle","one","other"] zg3:=by
 refine F.ok zw7 (fun vs H Q E h=>by unfold zg3 at h;obtain⟨_,_,_,_,_,_,_,_,_,_,rfl,_⟩:=h;rfl) fun _ _ _ s H vs Q E hr h=>?_
 unfold zg3 at h
 obtain⟨b,l,p1,p2,ps,a,c,fs,xs,ys,rfl,B,O,h1,h2,P1,P2,q⟩:=h
 have bl:=B.len
 have o2:=O.2
 have l1:=P1.len
 have l2:=P2.len
 refine⟨_,(za3 (psS (i:=3) zw7.nd (pB (zm1 (K:=K) rfl) N.len_ zg1 (za0 (zb4 (K:=K) rfl (pq 0) za2) za1)))
   (za5 (psIf (ptW (pwOr (zh4 (ptV (pD zch6 hr zb3 (za0 (zb4 (K:=K) rfl (pq 0) za2) (za0 (pq 3) (za0 (pq 1) za1)))))) (zz5 (zh4 (ptV (pD zch6 hr zb3 (za0 (zb4 (K:=K) rfl (pq 0) za2) (za0 (pq 3) (za0 (pq 2) za1))))))))) (za5 zal1) zc0))),?_⟩
 refine zb6 (v:=.ref l) B.out rfl ?_
 refine ze8 B.lst ?_
 rw[zcl9,bl]
 refine zb6 (v:=.int a) B.out rfl ?_
 refine zak1 (zba5 h1) (zba2 (by rfl')) (fun H1 s1=>?_)
 rw[zaq7 P1.nn l1 P1.sum]
 refine zc1 (br_T ?_)
 refine zb6 (v:=.int c) (s1 _ _ B.out) rfl ?_
 refine zak1 (zba5 (s1 _ _ h2)) (zba2 (by rfl')) (fun H2 s2=>?_)
 rw[zaq7 P2.nn l2 P2.sum]
 refine zc1 (br_T ?_)
 ac_nf
 exact q _ (s1.trans s2)
@[irreducible] def zg4:Sp:=fun vs H Q _=>∃ (b l p1 p2:Addr) (ps:List Addr) (a c:Nat) (fs:List Fd) (xs ys:List Int),vs=[.ref l,.ref p1,.ref p2]/\zj2 H b l ps a c fs/\OkB a c fs/\H p1=some (.lst (xs.map V.int))/\H p2=some (.lst (ys.map V.int))/\Pln a fs.length xs/\Pln c fs.length ys/\∀ H',Same H H'->Q (.int (zaf9 fs xs ys)) H'
theorem zam1{b p1 p2:Addr}{a:Nat}{fs:List Fd}{xs:List Int}(B:zj2 H b l ps a c fs)(O:OkB a c fs)(h1:H p1=some (.lst (xs.map V.int)))(h2:H p2=some (.lst (ys.map V.int)))(P1:Pln a fs.length xs)(P2:Pln c fs.length ys)(q:∀ H',Same H H'->Q (.int (zaf9 fs xs ys)) H'):zg4 [.ref l,.ref p1,.ref p2] H Q E:=by
 unfold zg4;exact⟨b,l,p1,p2,ps,a,c,fs,xs,ys,rfl,B,O,h1,h2,P1,P2,q⟩
theorem zak6(F:Fun K "won_in_all" "won_in_all" zr0 f fd)(N:Nm mg)(zcl6:Def P w K mg base CX0 1 "won" ["field","x","y"] zac9):FnOk P w K mg base CX0 2 f fd ["fields","one","other"] zg4:=by
 refine F.ok zal5 (fun vs H Q E h=>by unfold zg4 at h;obtain⟨_,_,_,_,_,_,_,_,_,_,rfl,_⟩:=h;rfl) fun _ _ _ s H vs Q E hr h=>?_
 unfold zg4 at h
 obtain⟨b,l,p1,p2,ps,a,c,fs,xs,ys,rfl,B,O,h1,h2,P1,P2,q⟩:=h
 have bl:=B.len
 have o2:=O.2
 have l1:=P1.len
 have l2:=P2.len
 refine⟨_,(za5 (za9 (pB (zau1 (K:=K) rfl rfl) N.sum_ zz8 (za0 (zd5 (N:=["field","x","y"]) (ks:=[none,none,none]) (zcc3 (K:=K) rfl N.zip_ (za0 (pq 0) (za0 (pq 1) (za0 (pq 2) za1)))) (fun _ _ _ _ _=>(zi4 (K:=K) (n:=3) rfl rfl (zb0 (za7 (i:=0) nb_5 rfl (by eq_refl)) (zb0 (za7 (i:=1) nb_5 rfl (by eq_refl)) (zb0 (za7 (i:=2) nb_5 rfl (by eq_refl)) zi2))))) (fun _ _ _ _ _=>zc6) (fun _ _ _ _ _=>(pD zcl6 hr zb3 (za0 (pq 0) (za0 (pq 1) (za0 (pq 2) za1))))) (.skip (.skip (.skip .nil)))) za1)))),?_⟩
 refine zca2 (SqL.of B.lst) (SqL.of h1) (SqL.of h2) ?_
 refine zk7 (Wk.zip3 (n:=fs.length) (SqL.of B.lst) (SqL.of h1) (SqL.of h2) (by rw[zcl9,bl]) (by rw[zcl9,l1]) (by rw[zcl9,l2])) (by rw[zcv5];omega) (fun i=>.int ((fs.getD i (.more 0 0)).won (xs.getD i 0).toNat (ys.getD i 0).toNat)) (fun _=>true) (fun j σ=>∃ t u v:Option V,σ=[t,u,v]) ⟨none,none,none,rfl⟩ ?_ ?_
 ·rintro j v σ H1 R S hj s1 ⟨t,u1,u2,u3,rfl,ht,e1,e2,e3⟩ ⟨t',u',v',rfl⟩ k _
  obtain⟨p,f,rfl,ep,ef,hf,ok⟩:=(B.same s1).elt e1
  rw[zcm5] at e2 e3
  obtain⟨x,ex,rfl⟩:=zcm7.mp e2
  obtain⟨y,ey,rfl⟩:=zcm7.mp e3
  have x0:=P1.nn x (zcm6 ex)
  have y0:=P2.nn y (zcm6 ey)
  have xm:=(zj4 P1.nn).1 x (zcm6 ex)
  have ym:=(zj4 P2.nn).1 y (zcm6 ey)
  rw[P1.sum] at xm
  rw[P2.sum] at ym
  rw[show fs.getD j (.more 0 0)=f by rw[zcm4,ef];rfl,show xs.getD j 0=x by rw[zcm4,ex];rfl,show ys.getD j 0=y by rw[zcm4,ey];rfl] at k
  obtain⟨x',rfl⟩:∃ x':Nat,x=x':=⟨x.toNat,by rfl'⟩
  obtain⟨y',rfl⟩:∃ y':Nat,y=y':=⟨y.toNat,by rfl'⟩
  refine zd0 ht ?_
  refine br_T ?_
  refine zbw0 hf (by rfl') (by rfl') ?_
  ac_nf
  exact k rfl _ _ (Same.refl _) ⟨_,_,_,rfl⟩
 intro acc H1 f1 s1 h1'
 rw[ze1] at h1'
 refine zab3 (ns:=(List.range fs.length).map fun k=>(fs.getD k (.more 0 0)).won (xs.getD k 0).toNat (ys.getD k 0).toNat) (by rw[h1',zco0];rfl) ?_
 ac_nf
 exact q _ s1
@[irreducible] def zz3:Sp:=fun vs H Q _=>∃ (b l p1 p2:Addr) (ps:List Addr) (a c:Nat) (fs:List Fd) (xs ys:List Int),vs=[.ref b,.ref p1,.ref p2]/\zj2 H b l ps a c fs/\OkB a c fs/\H p1=some (.lst (xs.map V.int))/\H p2=some (.lst (ys.map V.int))/\Pln a fs.length xs/\Pln c fs.length ys/\∀ H',Same H H'->Q (.int (zaf9 fs xs ys)) H'
theorem zbi4{b p1 p2:Addr}{a:Nat}{fs:List Fd}{xs:List Int}(B:zj2 H b l ps a c fs)(O:OkB a c fs)(h1:H p1=some (.lst (xs.map V.int)))(h2:H p2=some (.lst (ys.map V.int)))(P1:Pln a fs.length xs)(P2:Pln c fs.length ys)(q:∀ H',Same H H'->Q (.int (zaf9 fs xs ys)) H'):zz3 [.ref b,.ref p1,.ref p2] H Q E:=by
 unfold zz3;exact⟨b,l,p1,p2,ps,a,c,fs,xs,ys,rfl,B,O,h1,h2,P1,P2,q⟩
theorem zcc4(F:Fun K "gain" "gain" zbf7 f fd)(N:Nm mg)(zcg8:Def P w K mg base (CXR P w) 6 "look_battle" ["battle"] (zd9 zcf5))(zci4:Def P w K mg base CX0 5 "look_plans" ["battle","one","other"] zg3)(zci5:Def P w K mg base CX0 2 "won_in_all" ["fields","one","other"] zg4):FnOk P w K mg base CX0 7 f fd ["battle","one","other"] zz3:=by
 refine F.ok zcf2 (fun vs H Q E h=>by unfold zz3 at h;obtain⟨_,_,_,_,_,_,_,_,_,_,rfl,_⟩:=h;rfl) fun _ _ _ s H vs Q E hr h=>?_
 unfold zz3 at h
 obtain⟨b,l,p1,p2,ps,a,c,fs,xs,ys,rfl,B,O,h1,h2,P1,P2,q⟩:=h
 refine⟨_,(za3 (zn8 (pD zcg8 hr zao6 (za0 (pq 0) za1)))
   (za3 (zn8 (pD zci4 hr zb3 (za0 (pq 0) (za0 (pq 1) (za0 (pq 2) za1)))))
   (za5 (za9 (pD zci5 hr zb3 (za0 (zb4 (K:=K) rfl (pq 0) za2) (za0 (pq 1) (za0 (pq 2) za1)))))))),?_⟩
 refine zt3 B O (fun H1 s1=>?_)
 refine zal4 (B.same s1) O (s1 _ _ h1) (s1 _ _ h2) P1 P2 (fun H2 s2=>?_)
 have s12:=s1.trans s2
 refine zb6 (v:=.ref l) (s12 _ _ B.out) rfl ?_
 refine zam1 (B.same s12) O (s12 _ _ h1) (s12 _ _ h2) P1 P2 (fun H3 s3=>?_)
 ac_nf
 exact q _ (s12.trans s3)
@[irreducible] def zai3:Sp:=fun vs H Q _=>∃ (b l:Addr) (ps:List Addr) (a c:Nat) (fs:List Fd) (k x y:Nat) (f:Fd),vs=[.ref b,.int k,.int x,.int y]/\zj2 H b l ps a c fs/\OkB a c fs/\fs[k]?=some f/\x<=a/\y<=c/\∀ H',Same H H'->Q (.int (f.won x y)) H'
theorem zby0{b:Addr}{a:Nat}{fs:List Fd}{k x y:Nat}{f:Fd}(B:zj2 H b l ps a c fs)(O:OkB a c fs)(ef:fs[k]?=some f)(h1:x<=a)(h2:y<=c)(q:∀ H',Same H H'->Q (.int (f.won x y)) H'):zai3 [.ref b,.int k,.int x,.int y] H Q E:=by unfold zai3;exact⟨b,l,ps,a,c,fs,k,x,y,f,rfl,B,O,ef,h1,h2,q⟩
theorem ok_pay(F:Fun K "pay" "pay" s_pay f fd)(N:Nm mg)(zcf9:Def P w K mg base CX0 3 "is_between" ["thing","least","most"] zc3)(zcg8:Def P w K mg base (CXR P w) 6 "look_battle" ["battle"] (zd9 zcf5))(zcl6:Def P w K mg base CX0 1 "won" ["field","x","y"] zac9)(Z:Cz K mg base zcf8 zcf5 zcg1 zcf7 zcf4 zcg2):FnOk P w K mg base CX0 7 f fd ["battle","field","x","y"] zai3:=by
 refine F.ok sc_pay (fun vs H Q E h=>by unfold zai3 at h;obtain⟨_,_,_,_,_,_,_,_,_,_,rfl,_⟩:=h;rfl) fun _ _ _ s H vs Q E hr h=>?_
 unfold zai3 at h
 obtain⟨b,l,ps,a,c,fs,k,x,y,f,rfl,B,O,ef,h1,h2,q⟩:=h
 have bl:=B.len
 have kl:=(zcm1.mp ef).1
 obtain⟨p,ep⟩:∃ p,ps[k]?=some p:=⟨_,zcm0 (by rfl')⟩
 refine⟨_,(za3 (zn8 (pD zcg8 hr zao6 (za0 (pq 0) za1)))
   (za3 (psIf (zh4 (ptV (pD zcf9 hr zb3 (za0 (pq 1) (za0 za2 (za0 (zb8 oSub (pB (zm1 (K:=K) rfl) N.len_ zg1 (za0 (zb4 (K:=K) rfl (pq 0) za2) za1)) za2) za1)))))) (za5 zal1) zc0)
   (za3 (psIf (ptW (pwOr (zh4 (ptV (pD zcf9 hr zb3 (za0 (pq 2) (za0 za2 (za0 (zb4 (K:=K) rfl (pq 0) za2) za1)))))) (zz5 (zh4 (ptV (pD zcf9 hr zb3 (za0 (pq 3) (za0 za2 (za0 (zb4 (K:=K) rfl (pq 0) za2) za1))))))))) (za5 zal1) zc0)
   (za5 (za9 (pD zcl6 hr zb3 (za0 (zb4 (K:=K) rfl (zb4 (K:=K) rfl (pq 0) za2) (pq 1)) (za0 (pq 2) (za0 (pq 3) za1))))))))),?_⟩
 refine zt3 B O (fun H1 s1=>?_)
 have B1:=B.same s1
 refine zb6 (v:=.ref l) B1.out rfl ?_
 refine ze8 B1.lst ?_
 rw[zcl9,bl]
 refine zaf6 (.int _) ?_
 rw[show zy3 _ _ (.int _)=true from decide_eq_true ⟨by rfl',by rfl'⟩]
 refine zc1 (br_T ?_)
 refine zb6 (v:=.int a) B1.out rfl ?_
 refine zaf6 (.int _) ?_
 rw[show zy3 _ _ (.int _)=true from decide_eq_true ⟨by rfl',by rfl'⟩]
 refine zc1 (br_T ?_)
 refine zb6 (v:=.int c) B1.out rfl ?_
 refine zaf6 (.int _) ?_
 rw[show zy3 _ _ (.int _)=true from decide_eq_true ⟨by rfl',by rfl'⟩]
 refine zc1 (br_T ?_)
 refine zb6 (v:=.ref l) B1.out rfl ?_
 refine zc2 (v:=.ref p) B1.lst (zg2 (by rw[zcm5,ep];rfl)) ?_
 refine zbw0 (B1.fld k p f ep ef).1 h1 h2 ?_
 ac_nf
 exact q _ s1
def zm5(ms:List (List Int×Int)):Int:=(ms.map fun x=>x.2).sum
def wsum{α:Type}(l:List (α×Int))(f:α->Int):Int:=(l.map fun x=>x.2*f x.1).sum
theorem zc4{α:Type}(x:α×Int)(l:List (α×Int))(f:α->Int):wsum (x :: l) f=x.2*f x.1+wsum l f:=by unfold wsum;rw[zcn9,zcp6]
theorem zan9{α:Type}{l m:List (α×Int)}(h:l.Perm m)(f:α->Int):wsum l f=wsum m f:=by unfold wsum;exact zas6 (h.map _)
theorem zu7{α:Type}{f:α->Int}(hf:∀ a,0<=f a):∀ {l:List (α×Int)},(∀ x∈l,0<=x.2)->0<=wsum l f
 | [],_=>by unfold wsum;simp
 | x :: l,h=>by
  rw[zc4]
  have:=zu7 hf (l:=l) fun y hy=>h y (.tail _ hy)
  have:=Int.mul_nonneg (h x (.head _)) (hf x.1)
  omega
theorem zs4{α:Type}{l:List (α×Int)}{f g:α->Int}(h:∀ x∈l,f x.1=g x.1):wsum l f=wsum l g:=by
 unfold wsum
 congr 1
 exact zcn7 fun x hx=>by rw[h x hx]
def ind(b:Bool):Int:=if b=true then 1 else 0
theorem zbp9(b:Bool):0<=ind b:=by cases b<;>decide
theorem zv8{α:Type}{f:α->Bool}:∀ {l:List (α×Int)},(∀ x∈l,1<=x.2)->∀ x∈l,f x.1=true->1<=wsum l (fun a=>ind (f a))
 | y :: l,h,x,hx,e=>by
  rw[zc4]
  have h0:0<=wsum l (fun a=>ind (f a)):=zu7 (fun a=>zbp9 _) fun z hz=>by have:=h z (.tail _ hz);omega
  have h1:=h y (.head _)
  rcases zcm9.mp hx with rfl|hx
  ·rw[e]
   show 1<=x.2*1+_
   omega
  ·have:=zv8 (l:=l) (fun z hz=>h z (.tail _ hz)) x hx e
   have:=Int.mul_nonneg (show 0<=y.2 by rfl') (zbp9 (f y.1))
   omega
theorem zv9{α:Type}{f:α->Bool}{l:List (α×Int)}(h:∀ x∈l,f x.1=false):wsum l (fun a=>ind (f a))=0:=by
 rw[zs4 (g:=fun _=>0) fun x hx=>by rw[h x hx];rfl]
 unfold wsum
 simp only[Int.mul_zero]
 induction l with
 | nil=>rfl
 | cons x l ih=>rw[zcn9,zcp6,ih fun y hy=>h y (.tail _ hy)];rfl
theorem Mrg.align{α β:Type}{ka:α->Int}{kb:β->Int}{ps:List (α×Int)}{rs:List (β×Int)}{out:List (α×β×Int)}(m:Mrg ps rs out):(∀ x∈ps,1<=x.2)->(∀ x∈rs,1<=x.2)->ps.Pairwise (fun x y=>ka x.1<=ka y.1)->rs.Pairwise (fun x y=>kb x.1<=kb y.1) ->
  (∀ k,wsum ps (fun a=>ind (decide (ka a=k)))=wsum rs (fun a=>ind (decide (kb a=k))))->∀ z∈out,ka z.1=kb z.2.1:=by
 have head:∀ {p:α}{w v:Int}{ps:List (α×Int)}{r:β}{rs:List (β×Int)},(∀ x∈(p,w) :: ps,1<=x.2)->(∀ x∈(r,v) :: rs,1<=x.2)->((p,w) :: ps).Pairwise (fun x y=>ka x.1<=ka y.1)->((r,v) :: rs).Pairwise (fun x y=>kb x.1<=kb y.1) ->
   (∀ k,wsum ((p,w) :: ps) (fun a=>ind (decide (ka a=k)))=wsum ((r,v) :: rs) (fun a=>ind (decide (kb a=k))))->ka p=kb r:=by
  intro p w v ps r rs h1 h2 s1 s2 e
  have s1:=(zcq3.mp s1).1
  have s2:=(zcq3.mp s2).1
  rcases Int.lt_trichotomy (ka p) (kb r) with z|z|z
  ·have a:=zv8 (f:=fun a=>decide (ka a=ka p)) h1 (p,w) (.head _) (decide_eq_true rfl)
   have b:=zv9 (f:=fun a=>decide (kb a=ka p)) (l:=(r,v) :: rs) fun x hx=>decide_eq_false (by
    rcases zcm9.mp hx with rfl|hx
    ·show ¬ kb r=ka p;omega
    ·have:=s2 x hx
     show ¬ kb x.1=ka p
     have:kb r<=kb x.1:=this
     omega)
   rw[e,b] at a
   omega
  ·exact z
  ·have a:=zv8 (f:=fun a=>decide (kb a=kb r)) h2 (r,v) (.head _) (decide_eq_true rfl)
   have b:=zv9 (f:=fun a=>decide (ka a=kb r)) (l:=(p,w) :: ps) fun x hx=>decide_eq_false (by
    rcases zcm9.mp hx with rfl|hx
    ·show ¬ ka p=kb r;omega
    ·have:=s1 x hx
     show ¬ ka x.1=kb r
     have:ka p<=ka x.1:=this
     omega)
   rw[← e,b] at a
   omega
 induction m with
 | nil=>intro _ _ _ _ _ z hz;cases hz
 | @lt p w v ps r rs out hl hm ih=>
  intro h1 h2 s1 s2 e z hz
  have hk:=head h1 h2 s1 s2 e
  rcases zcm9.mp hz with rfl|hz
  ·exact hk
  ·refine ih (fun x hx=>h1 x (.tail _ hx)) (fun x hx=>?_) (zcq3.mp s1).2 ?_ (fun k=>?_) z hz
   ·rcases zcm9.mp hx with rfl|hx
    ·show 1<=v - w;omega
    ·exact h2 x (.tail _ hx)
   ·exact zcq3.mpr ⟨(zcq3.mp s2).1,(zcq3.mp s2).2⟩
   ·have e:=e k
    rw[zc4,zc4] at e
    rw[zc4]
    dsimp only at e ⊢
    rw[hk] at e
    rw[Int.sub_mul]
    omega
 | @eq p w ps r rs out hm ih=>
  intro h1 h2 s1 s2 e z hz
  have hk:=head h1 h2 s1 s2 e
  rcases zcm9.mp hz with rfl|hz
  ·exact hk
  ·refine ih (fun x hx=>h1 x (.tail _ hx)) (fun x hx=>h2 x (.tail _ hx)) (zcq3.mp s1).2 (zcq3.mp s2).2 (fun k=>?_) z hz
   have e:=e k
   rw[zc4,zc4] at e
   dsimp only at e
   rw[hk] at e
   omega
 | @gt p w v ps r rs out hl hm ih=>
  intro h1 h2 s1 s2 e z hz
  have hk:=head h1 h2 s1 s2 e
  rcases zcm9.mp hz with rfl|hz
  ·exact hk
  ·refine ih (fun x hx=>?_) (fun x hx=>h2 x (.tail _ hx)) ?_ (zcq3.mp s2).2 (fun k=>?_) z hz
   ·rcases zcm9.mp hx with rfl|hx
    ·show 1<=w - v;omega
    ·exact h1 x (.tail _ hx)
   ·exact zcq3.mpr ⟨(zcq3.mp s1).1,(zcq3.mp s1).2⟩
   ·have e:=e k
    rw[zc4,zc4] at e
    rw[zc4]
    dsimp only at e ⊢
    rw[hk] at e ⊢
    rw[Int.sub_mul]
    omega
def lvR(h W:Int)(rs:List (List (Int×Int×Int)))(k:Int):Int:=match rs.getLast? with
 | none=>if h=k then W else 0
 | some xs=>wsum (rwF xs) (fun r=>ind (decide (r.1 - r.2=k)))
theorem zaj9(h W:Int)(rs:List (List (Int×Int×Int)))(xs:List (Int×Int×Int))(k:Int):lvR h W (rs++[xs]) k=wsum (rwF xs) (fun r=>ind (decide (r.1 - r.2=k))):=by
 unfold lvR
 rw[List.getLast?_append]
 rfl
theorem zaq2{out:List (List Int×(Int×Int)×Int)}(f:List Int->Int):wsum (outM out) f=(out.map fun z=>z.2.2*f (z.1++[z.2.1.2])).sum:=by
 unfold wsum outM
 rw[zco0]
 rfl
theorem Ap.keys{W:Int}{rs:List (List (Int×Int×Int))}(A:Ap h W rs ms)(hW:1<=W) :
  (∀ (i:Nat) xs,rs[i]?=some xs->(rwF xs).Pairwise (fun x y=>x.1.1<=y.1.1)/\(∀ x∈xs,1<=x.2.2/\0<=x.2.1)/\∀ k,wsum (rwF xs) (fun r=>ind (decide (r.1=k)))=lvR h W (rs.take i) k) ->
  (∀ k,wsum ms (fun p=>ind (decide (h - p.sum=k)))=lvR h W rs k)/\(∀ x∈ms,1<=x.2/\∀ n∈x.1,0<=n):=by
 induction A with
 | nil=>
  intro _
  refine⟨fun k=>?_,fun x hx=>?_⟩
  ·unfold wsum lvR
   simp only[zcn9,zcu1,zcp6,List.sum_nil,List.getLast?_nil,Int.add_zero,Int.sub_zero]
   by_cases e:h=k
   ·rw[if_pos e];simp[ind,e]
   ·rw[if_neg e];simp[ind,e]
  ·have:x=([],W):=by simpa using hx
   subst this
   exact⟨hW,fun n hn=>by cases hn⟩
 | @step rs ms ms2 xs out A hp hs hm ih=>
  intro hc
  obtain⟨i1,i2⟩:=ih fun i ys hy=>by
   have il:=(zcm1.mp hy).1
   have:=hc i ys (by rw[zco2 il];exact hy)
   rw[List.take_append_of_le_length (by rfl')] at this
   exact this
  obtain⟨c1,c2,c3⟩:=hc rs.length xs (by rw[zco5 (zcn4 _),Nat.sub_self];rfl)
  rw[List.take_append_of_le_length (zcn4 _),List.take_length] at c3
  have p1:∀ x∈ms2,1<=x.2:=fun x hx=>(i2 x (hp.mem_iff.mp hx)).1
  have p2:∀ x∈rwF xs,1<=x.2:=fun x hx=>by
   unfold rwF at hx
   obtain⟨y,hy,rfl⟩:=zcn5.mp hx
   exact (c2 y hy).1
  have al:=hm.align (ka:=fun p=>h - p.sum) (kb:=fun r=>r.1) p1 p2 hs c1 (fun k=>by rw[zan9 hp,i1,c3])
  refine⟨fun k=>?_,fun x hx=>?_⟩
  ·rw[zaj9,zaq2]
   have e1:(out.map fun z=>z.2.2*ind (decide (h - (z.1++[z.2.1.2]).sum=k)))=out.map fun z=>z.2.2*ind (decide (z.2.1.1 - z.2.1.2=k)):=zcn7 fun z hz=>by
    have:=al z hz
    rw[zct8,List.sum_singleton]
    rw[show h - (z.1.sum+z.2.1.2)=z.2.1.1 - z.2.1.2 by rfl']
   rw[e1]
   exact hm.sumR fun r=>ind (decide (r.1 - r.2=k))
  ·unfold outM at hx
   obtain⟨z,hz,rfl⟩:=zcn5.mp hx
   refine⟨hm.pos p1 p2 z hz,fun n hn=>?_⟩
   obtain⟨a1,a2⟩:=hm.memL z hz
   rcases zcq0.mp hn with hn|hn
   ·obtain⟨y,hy,ey⟩:=zcn5.mp a1
    exact (i2 y (hp.mem_iff.mp hy)).2 n (by rw[ey];exact hn)
   ·rw[zct1.mp hn]
    obtain⟨y,hy,ey⟩:=zcn5.mp a2
    unfold rwF at hy
    obtain⟨x',hx',rfl⟩:=zcn5.mp hy
    rw[← ey]
    exact (c2 x' hx').2
theorem Ap.shares{W:Int}{rs:List (List (Int×Int×Int))}(A:Ap h W rs ms):(∀ x∈ms,x.1.length=rs.length)/\∀ (k:Nat) xs,rs[k]?=some xs->∀ s,wsum ms (fun p=>ind (decide (p.getD k 0=s)))=wsum (rwF xs) (fun r=>ind (decide (r.2=s))):=by
 induction A with
 | nil=>
  refine⟨fun x hx=>?_,fun k xs e=>by simp at e⟩
  have:x=([],W):=by simpa using hx
  subst this
  rfl
 | @step rs ms ms2 xs out A hp hs hm ih=>
  obtain⟨i1,i2⟩:=ih
  have zl:∀ z∈out,z.1.length=rs.length:=fun z hz=>by
   obtain⟨y,hy,ey⟩:=zcn5.mp (hm.memL z hz).1
   rw[← ey]
   exact i1 y (hp.mem_iff.mp hy)
  refine⟨fun x hx=>?_,fun k ys e s=>?_⟩
  ·unfold outM at hx
   obtain⟨z,hz,rfl⟩:=zcn5.mp hx
   rw[zcn1,zcn1,zl z hz]
   rfl
  ·rw[zaq2]
   by_cases hk:k<rs.length
   ·rw[zco2 hk] at e
    have e1:(out.map fun z=>z.2.2*ind (decide ((z.1++[z.2.1.2]).getD k 0=s)))=out.map fun z=>z.2.2*ind (decide (z.1.getD k 0=s)):=zcn7 fun z hz=>by
     rw[zcm4,zco2 (by rw[zl z hz];exact hk),← zcm4]
    rw[e1,hm.sumL fun p=>ind (decide (p.getD k 0=s)),← i2 k ys e s]
    exact zan9 hp fun p=>ind (decide (p.getD k 0=s))
   ·have e0:k=rs.length:=by
     have:=(zcm1.mp e).1
     rw[zcn1] at this
     have:k<rs.length+1:=this
     omega
    subst e0
    rw[zco5 (zcn4 _),Nat.sub_self] at e
    cases e
    have e1:(out.map fun z=>z.2.2*ind (decide ((z.1++[z.2.1.2]).getD rs.length 0=s)))=out.map fun z=>z.2.2*ind (decide (z.2.1.2=s)):=zcn7 fun z hz=>by
     rw[zcm4,zco5 (by rw[zl z hz];exact zcn4 _),zl z hz,Nat.sub_self]
     rfl
    rw[e1]
    exact hm.sumR fun r=>ind (decide (r.2=s))
theorem OkM.toS{f:Nat}(O:OkM h f ms):OkS ms h f:=⟨O.1,by have:=O.2.2.1.2;omega,fun x hx=>by
 obtain⟨a,b,c,d⟩:=O.2.2.2 x hx
 exact⟨a,by rfl',c,d⟩⟩
theorem zbe6{f:Nat}(O:OkM h f ms):sml (zq7 ms)=true:=(show okD 3 (zq7 ms) from okD.list (n:=2) (by rw[zcl9];have:=O.2.1;omega) fun d hd=>by
 obtain⟨x,hx,rfl⟩:=zcn5.mp hd
 obtain⟨_,xl,_⟩:=O.2.2.2 x hx
 have:=O.2.2.1.2
 refine okD.tuple (n:=1) (by show 2<=1000;decide) fun e he=>?_
 simp only[zcm9,zcp1,or_false] at he
 rcases he with rfl|rfl
 ·exact okD.list (n:=0) (by rw[zcl9];omega) fun y hy=>by
   obtain⟨z,_,rfl⟩:=zcn5.mp hy
   exact⟨rfl,rfl,zcp5 _⟩
 ·exact⟨rfl,rfl,zcp5 _⟩).1
theorem zbc2{f:Nat}(O:OkM h f ms):mixD (zq7 ms)=true/\zp7 (zq7 ms)=f:=zbf9 O.toS O.2.2.1.1 (by have:=O.2.2.1.2;omega)
structure LsAt(H:Hp)(r:Addr)(ps:List Addr)(es:List (List Int)):Prop where
 out:H r=some (.lst (ps.map V.ref))
 len:ps.length=es.length
 row:∀ (i:Nat) p e,ps[i]?=some p->es[i]?=some e->H p=some (.lst (e.map V.int))
theorem LsAt.same{r:Addr}{es:List (List Int)}(L:LsAt H r ps es)(s:Same H H'):LsAt H' r ps es:=⟨s _ _ L.out,L.len,fun i p e h1 h2=>s _ _ (L.row i p e h1 h2)⟩
theorem zbo7{κ:Type}[DecidableEq κ](zs:List (κ×Int))(k:κ):(valG (sumG zs) k).getD 0=atG zs k:=by
 rw[zn4]
 by_cases h:k∈zs.map (·.1)
 ·rw[if_pos h];rfl
 ·rw[if_neg h]
  have:(zs.filter fun z=>decide (z.1=k))=[]:=List.filter_eq_nil_iff.mpr fun z hz e=>h (zcn5.mpr ⟨z,hz,of_decide_eq_true e⟩)
  unfold atG
  rw[this];rfl
theorem zaa7{α:Type}(g:α->Int)(k:Int):∀ l:List (α×Int),wsum l (fun r=>ind (decide (g r=k)))=atG (l.map fun z=>(g z.1,z.2)) k
 | []=>by unfold wsum atG;simp
 | x :: l=>by
  rw[zc4,zcn9,zak9,zaa7 g k l]
  by_cases e:g x.1=k
  ·rw[if_pos (show (g x.1,x.2).1=k from e),decide_eq_true e];show x.2*1+_=x.2+_;omega
  ·rw[if_neg (show ¬ (g x.1,x.2).1=k from e),decide_eq_false e];show x.2*0+_=0+_;omega
theorem zbo0(g:Int×Int->Int)(xs:List (Int×Int×Int)):(rwF xs).map (fun z=>(g z.1,z.2))=xs.map fun z=>(g (keyT z),z.2.2):=by
 unfold rwF
 rw[zco0]
 rfl
section
variable {ms:List (List Int×Int)}{h:Int}{f:Nat}{xss:List (List (Int×Int×Int))}
theorem zs7(O:OkS ms h f)(hi:i<f)(R:zt0 ms i xs)(g:Int×Int->Int)(k:Int):wsum (rwF xs) (fun r=>ind (decide (g r=k)))=wsum ms (fun p=>ind (decide (g ((p.drop i).sum,p.getD i 0)=k))):=by
 have e:=zad3 R (fun z hz=>(zp6 O hi R hz).2.2.1) g k
 have e2:=zaa7 (fun p:List Int=>g ((p.drop i).sum,p.getD i 0)) k ms
 rw[zaa7,zbo0,← zbo7,e,zbo7,e2]
 unfold flw
 rw[zco0]
 rfl
theorem zaf5(S:zaw3 ms f xss)(hi:i<f):∃ xs,xss[i]?=some xs/\zt0 ms i xs:=by
 obtain⟨xs,e⟩:∃ xs,xss[i]?=some xs:=⟨_,zcm0 (by rw[S.1];exact hi)⟩
 exact⟨xs,e,(S.2 i xs e).1⟩
theorem zl6(ms:List (List Int×Int)):wsum ms (fun _=>1)=zm5 ms:=by unfold wsum zm5;simp
theorem zaz1{α:Type}(l:List (α×Int)):wsum l (fun _=>1)=tot l:=by unfold wsum tot;simp
theorem zbf8(O:OkS ms h f)(S:zaw3 ms f xss):zt4 (stmD xss)=zm5 ms:=by
 have f1:=O.f1
 obtain⟨xs,e,R⟩:=zaf5 S (i:=0) (by rfl')
 have e0:(zb2 (stmD xss)).getD 0 .none=zd7 xs:=by
  show (xss.map zd7).getD 0 .none=_
  rw[zcm4,zcm5,e];rfl
 unfold zt4
 rw[e0,zp2,← zaz1,← zl6]
 have:=zs7 O (by rfl') R (fun _=>0) 0
 exact this
theorem zbe4(xss:List (List (Int×Int×Int))):(zb2 (stmD xss)).map rowF=xss:=by
 show (xss.map zd7).map rowF=xss
 rw[zco0]
 exact (zcn7 fun x _=>zp2 x).trans (List.map_id _)
theorem dropS{p:List Int}(hi:i<p.length):(p.drop i).sum=p.getD i 0+(p.drop (i+1)).sum:=by
 rw[zcr9 hi,zcp6,zcm4,zcm0 hi]
 rfl
theorem zbs7{ms2:List (List Int×Int)}(O:OkS ms h f)(S:zaw3 ms f xss)(hh:0<=h/\h<=40)(hf:f<=8)(ml:ms.length<=7)(A:Ap h (zm5 ms) xss ms2):OkM h f ms2/\zm5 ms2=zm5 ms/\∀ (k:Nat) (s:Int),k<f->wsum ms2 (fun p=>ind (decide (p.getD k 0=s)))=wsum ms (fun p=>ind (decide (p.getD k 0=s))):=by
 have w1:∀ x∈ms,1<=x.2:=fun x hx=>(O.all x hx).2.2.2
 have W1:1<=zm5 ms:=by
  obtain⟨x,hx⟩:∃ x,x∈ms:=List.exists_mem_of_length_pos (by have:=O.ne;omega)
  rw[← zl6]
  exact zv8 (f:=fun _:List Int=>true) w1 x hx rfl
 have at_:∀ i xs,xss[i]?=some xs->i<f/\zt0 ms i xs/\xs.length<=7:=fun i xs e=>by
  have il:=(zcm1.mp e).1
  rw[S.1] at il
  have:=S.2 i xs e
  exact⟨il,this.1,by rfl'⟩
 obtain⟨o1,o2,o3,o4⟩:=A.ok W1 (fun xs hx=>by
  obtain⟨i,ei⟩:=zcp3 hx
  obtain⟨a1,a2,a3⟩:=at_ i xs ei
  exact⟨fun z hz=>(zp6 O a1 a2 hz).2.2.2,by rfl'⟩)
 rw[S.1] at o1 o4
 obtain⟨k1,k2⟩:=A.keys W1 (fun i xs e=>by
  obtain⟨a1,a2,a3⟩:=at_ i xs e
  refine⟨?_,fun z hz=>⟨(zp6 O a1 a2 hz).2.2.2,(zp6 O a1 a2 hz).1⟩,fun k=>?_⟩
  ·have:=a2.1.2
   unfold rwF
   rw[List.pairwise_map] at this ⊢
   exact this.imp fun {x y} hxy=>by
    have:x.1<y.1∨(x.1=y.1/\x.2.1<y.2.1):=zag1.mp hxy
    show x.1<=y.1
    omega
  ·rw[zs7 O a1 a2 (fun r=>r.1) k]
   cases i with
   | zero=>
    rw[List.take_zero]
    show _=if h=k then zm5 ms else 0
    have e1:wsum ms (fun p=>ind (decide ((p.drop 0).sum=k)))=wsum ms (fun _=>ind (decide (h=k))):=zs4 fun x hx=>by
     rw[List.drop_zero,(O.all x hx).2.2.1]
    show wsum ms (fun p=>ind (decide ((p.drop 0).sum=k)))=_
    rw[e1]
    by_cases z:h=k
    ·rw[if_pos z,decide_eq_true z];exact zl6 ms
    ·rw[if_neg z,decide_eq_false z];exact zv9 (f:=fun _:List Int=>false) fun _ _=>rfl
   | succ i=>
    obtain⟨ys,ey,Ry⟩:=zaf5 S (i:=i) (by rfl')
    rw[List.take_succ,ey]
    show _=lvR h (zm5 ms) (xss.take i++[ys]) k
    rw[zaj9,zs7 O (by rfl') Ry (fun r=>r.1 - r.2) k]
    refine zs4 fun x hx=>?_
    have xl:=(O.all x hx).2.1
    have:=dropS (p:=x.1) (i:=i) (by rfl')
    show ind (decide ((x.1.drop (i+1)).sum=k))=ind (decide ((x.1.drop i).sum - x.1.getD i 0=k))
    rw[this,show x.1.getD i 0+(x.1.drop (i+1)).sum - x.1.getD i 0=(x.1.drop (i+1)).sum by rfl'])
 have f1:=O.f1
 have last:∀ k,k≠0->lvR h (zm5 ms) xss k=0:=fun k hk=>by
  obtain⟨ys,ey,Ry⟩:=zaf5 S (i:=f - 1) (by rfl')
  have e2:xss=xss.take (f - 1)++[ys]:=by
   have:xss.take (f - 1+1)=xss:=zcr1 (by rw[S.1];omega)
   rw[List.take_succ,ey] at this
   exact this.symm
  rw[e2,zaj9,zs7 O (by rfl') Ry (fun r=>r.1 - r.2) k]
  refine zv9 (f:=fun p:List Int=>decide (((p.drop (f - 1)).sum - p.getD (f - 1) 0)=k)) fun x hx=>decide_eq_false ?_
  have xl:=(O.all x hx).2.1
  have:=dropS (p:=x.1) (i:=f - 1) (by rfl')
  rw[zcu2 (i:=f - 1+1) (by rfl'),List.sum_nil] at this
  omega
 have sums:∀ x∈ms2,x.1.sum=h:=fun x hx=>Classical.byContradiction fun z=>by
  have a:=zv8 (f:=fun p:List Int=>decide (h - p.sum=h - x.1.sum)) (fun y hy=>(k2 y hy).1) x hx (decide_eq_true rfl)
  rw[k1,last _ (by rfl')] at a
  omega
 obtain⟨_,sh⟩:=A.shares
 refine⟨⟨?_,by rfl',⟨hh,by rfl',by rfl'⟩,fun x hx=>⟨(k2 x hx).2,by rw[(o1 x hx).2],sums x hx,(k2 x hx).1⟩⟩,?_,fun k s hk=>?_⟩
 ·cases ms2 with
  | nil=>exact absurd rfl o3
  | cons=>simp
 ·rw[← zl6,zaz1,o2]
 ·obtain⟨xs,e,R⟩:=zaf5 S hk
  rw[sh k xs e s,zs7 O hk R (fun r=>r.2) s]
end
theorem zay8{α:Type}(f g:α->Int):∀ l:List (α×Int),wsum l (fun a=>f a+g a)=wsum l f+wsum l g
 | []=>by unfold wsum;simp
 | x :: l=>by rw[zc4,zc4,zc4,zay8 f g l,Int.mul_add];omega
theorem zbf0{α:Type}(l:List (α×Int)):wsum l (fun _=>0)=0:=by
 induction l with
 | nil=>rfl
 | cons x l ih=>rw[zc4,ih];simp
theorem zak7{α β:Type}(F:β->α->Int)(l:List (α×Int)):∀ L:List β,wsum l (fun a=>(L.map fun k=>F k a).sum)=(L.map fun k=>wsum l (F k)).sum
 | []=>by simp only[zcu1,List.sum_nil];exact zbf0 l
 | k :: L=>by
  simp only[zcn9,zcp6]
  rw[zay8 (F k) (fun a=>(L.map fun k=>F k a).sum) l,zak7 F l L]
theorem zai2{α:Type}(f:α->Int)(c:Int):∀ l:List (α×Int),wsum l (fun a=>f a*c)=wsum l f*c
 | []=>by unfold wsum;simp
 | x :: l=>by rw[zc4,zc4,zai2 f c l,Int.add_mul,Int.mul_assoc]
theorem zaz3(G:Int->Int):∀ (n:Nat) (v:Int),0<=v->v<n->((List.range n).map fun (c:Nat)=>ind (decide (v=(c:Int)))*G c).sum=G v
 | 0,v,h0,h1=>by rfl'
 | n+1,v,h0,h1=>by
  rw[List.range_succ,zco1,zct8]
  simp only[zcn9,zcu1,zcp6,List.sum_nil,Int.add_zero]
  by_cases e:v=n
  ·rw[decide_eq_true e,e]
   have:((List.range n).map fun (c:Nat)=>ind (decide ((n:Int)=(c:Int)))*G c)=(List.range n).map fun _=>0:=zcn7 fun c hc=>by
    have:=zcq6.mp hc
    rw[decide_eq_false (by rfl')]
    show 0*G c=0
    omega
   rw[this]
   have z:∀ L:List Nat,(L.map fun _=>(0:Int)).sum=0:=by
    intro L
    induction L with
    | nil=>rfl
    | cons x L ih=>rw[zcn9,zcp6,ih];rfl
   rw[z]
   show 0+1*G n=G n
   omega
  ·rw[zaz3 G n v h0 (by rfl'),decide_eq_false e]
   show G v+0*G n=G v
   omega
def gs(G:Nat->Int->Int)(f:Nat)(p:List Int):Int:=((List.range f).map fun k=>G k (p.getD k 0)).sum
def shs(S:Nat->Nat->Int)(G:Nat->Int->Int)(f h:Nat):Int:=((List.range f).map fun k=>((List.range (h+1)).map fun (c:Nat)=>S k c*G k c).sum).sum
theorem zan5{G:Nat->Int->Int}{f h:Nat}(hb:∀ x∈ms,∀ k,k<f->0<=x.1.getD k 0/\x.1.getD k 0<=h):wsum ms (gs G f)=shs (fun k c=>wsum ms (fun p=>ind (decide (p.getD k 0=(c:Int))))) G f h:=by
 unfold gs shs
 rw[zak7 (fun k (p:List Int)=>G k (p.getD k 0)) ms (List.range f)]
 congr 1
 refine zcn7 fun k hk=>?_
 have hk:=zcq6.mp hk
 have e1:wsum ms (fun p=>G k (p.getD k 0))=wsum ms (fun p=>((List.range (h+1)).map fun (c:Nat)=>ind (decide (p.getD k 0=(c:Int)))*G k c).sum):=zs4 fun x hx=>by
  have:=hb x hx k hk
  rw[zaz3 (G k) (h+1) (x.1.getD k 0) this.1 (by rfl')]
 rw[e1,zak7 (fun (c:Nat) (p:List Int)=>ind (decide (p.getD k 0=(c:Int)))*G k c) ms (List.range (h+1))]
 congr 1
 exact zcn7 fun c _=>zai2 _ _ _
theorem zas3{S S':Nat->Nat->Int}{G:Nat->Int->Int}{f h:Nat}(e:∀ k c,k<f->c<=h->S k c=S' k c):shs S G f h=shs S' G f h:=by
 unfold shs
 congr 1
 refine zcn7 fun k hk=>?_
 congr 1
 refine zcn7 fun c hc=>?_
 rw[e k c (zcq6.mp hk) (by have:=zcq6.mp hc;omega)]
theorem zaf2{p:List Int}(nn:∀ n∈p,0<=n)(hs:p.sum=h)(k:Nat):0<=p.getD k 0/\p.getD k 0<=h:=by
 rw[zcm4]
 have m:=zj4 nn
 cases e:p[k]? with
 | none=>rw[hs] at m;exact⟨Int.le_refl _,m.2⟩
 | some x=>
  have hx:=zcm6 e
  have:=m.1 x hx
  rw[hs] at this
  exact⟨nn x hx,this⟩
def zu3(sd:Bool)(fs:List Fd)(ys:List Int)(k:Nat)(v:Int):Int:=if sd=true then (fs.getD k (.more 0 0)).won (ys.getD k 0).toNat v.toNat else (fs.getD k (.more 0 0)).won v.toNat (ys.getD k 0).toNat
theorem zal0{i j:Int}(h1:-(10 ^ 60)<=i/\i<=10 ^ 60)(h2:-(10 ^ 60)<=j/\j<=10 ^ 60):IntMulOk i j:=by
 have p:(10:Int) ^ 60<10 ^ 240:=by decide
 refine zbs8 ?_ ?_ ?_ ?_<;>(generalize (10:Int) ^ 240=N at p ⊢;generalize (10:Int) ^ 60=M at p h1 h2;omega)
theorem zbh8{B:Int}(hB:0<=B):∀ {l:List Int},(∀ x∈l,-B<=x/\x<=B)->-(l.length*B)<=l.sum/\l.sum<=l.length*B
 | [],_=>by simp
 | x :: l,h=>by
  have:=zbh8 hB (l:=l) fun y hy=>h y (.tail _ hy)
  have h0:=h x (.head _)
  rw[zcp6,zco4]
  push_cast
  rw[Int.add_mul,Int.one_mul]
  omega
theorem Fd.won_bd{f:Fd}{a x y:Nat}(O:f.Ok)(B:f.Bd a c)(hx:x<=a)(hy:y<=c):-(2*10 ^ 28)<=f.won x y/\f.won x y<=2*10 ^ 28:=by
 cases f with
 | more w t=>
  have O:1<=w/\-w<=t/\t<=w:=O
  have B:w<=2*10 ^ 28:=B
  show _<=(if x=y then t else if y<x then w else -w)/\(if x=y then t else if y<x then w else -w)<=_
  split
  ·omega
  ·split<;>omega
 | lead w l=>
  have O:1<=w:=O
  have B:w<=2*10 ^ 28:=B
  show _<=(if l<=(x:Int) - y then w else -w)/\(if l<=(x:Int) - y then w else -w)<=_
  split<;>omega
 | tab g=>exact B x y hx hy
theorem zbp0{n m:Nat}{fs:List Fd}{xs:List Int}(O:OkB n m fs)(ok:∀ f∈fs,f.Ok)(bd:∀ f∈fs,f.Bd n m)(P1:Pln n fs.length xs)(P2:Pln m fs.length ys):-(10 ^ 60)<=zaf9 fs xs ys/\zaf9 fs xs ys<=10 ^ 60:=by
 unfold zaf9
 have:=zbh8 (B:=2*10 ^ 28) (by decide) (l:=(List.range fs.length).map fun k=>(fs.getD k (.more 0 0)).won (xs.getD k 0).toNat (ys.getD k 0).toNat) (fun x hx=>by
  obtain⟨k,hk,rfl⟩:=zcn5.mp hx
  have hk:=zcq6.mp hk
  have g:fs.getD k (.more 0 0)∈fs:=by rw[zcm4,zcm0 hk];exact zcs4 _
  have b1:=zaf2 P1.nn P1.sum k
  have b2:=zaf2 P2.nn P2.sum k
  exact Fd.won_bd (ok _ g) (bd _ g) (by rfl') (by rfl'))
 rw[zcl9,zcq9] at this
 have l:=O.2.2
 have:(fs.length:Int)*(2*10 ^ 28)<=5*(2*10 ^ 28):=Int.mul_le_mul_of_nonneg_right (by rfl') (by decide)
 have p:5*(2*(10:Int) ^ 28)<=10 ^ 60:=by decide
 generalize (10:Int) ^ 60=N at p ⊢
 omega
@[irreducible] def ze5:Sp:=fun vs H Q _=>∃ (a:Addr) (b:Int) (h f:Nat),vs=[.ref a,.int h,.int f]/\zb7 H a b/\b<=60000/\h<=40/\(1<=f/\f<=8)/\∀ m ts ms H',H m=none->Chg a H H'->zb7 H' a (b+1000)->zd1 H' m ts ms->m≠a->Off a ts->OkM h f ms->(∀ x∈ms,x.2<=10 ^ 20)->ms.length<=4->Q (.ref m) H'
theorem zah9{a:Addr}{b:Int}{h f:Nat}(hL:zb7 H a b)(hb:b<=60000)(h1:h<=40)(h2:1<=f)(h3:f<=8)(q:∀ m ts ms H',H m=none->Chg a H H'->zb7 H' a (b+1000)->zd1 H' m ts ms->m≠a->Off a ts->OkM h f ms->(∀ x∈ms,x.2<=10 ^ 20)->ms.length<=4->Q (.ref m) H'):ze5 [.ref a,.int h,.int f] H Q E:=by
 unfold ze5;exact⟨a,b,h,f,rfl,hL,hb,h1,⟨h2,h3⟩,q⟩
theorem zad8(F:Fun K "_law_own_mix" "_law_own_mix" zn9 f fd)(N:Nm mg)(zcf6:Def P w K mg base CX0 2 "_law_draw" ["_law_left_here","_law_base"] zc8)(zcj4:Def P w K mg base CX0 3 "_law_plan" ["_law_left_here","_law_hosts","_law_many"] zi5):FnOk P w K mg base CX0 4 f fd ["_law_left_here","_law_hosts","_law_many"] ze5:=by
 refine F.ok zl7 (fun vs H Q E h=>by unfold ze5 at h;obtain⟨_,_,_,_,rfl,_⟩:=h;rfl) fun _ _ _ s H vs Q E hr h=>?_
 unfold ze5 at h
 obtain⟨a,b,h,f,rfl,hL,hb,h1,⟨h2,h3⟩,q⟩:=h
 have hu:=hu40 hr
 refine⟨_,(za3 (psS (i:=3) zl7.nd (zq5 za1))
   (za3 (zac2 PassesOwn.never rfl (zq0 N.range_ (za0 (zb8 oAdd za2 (pD zcf6 hr zb3 (za0 (pq 0) (za0 za2 za1)))) za1)) (za7 (i:=4) zl7.nd rfl (by eq_refl)) (za5 (zn8 (zs5 (pq 3) (za0 (zq2 (za0 (pD zcj4 hr zb3 (za0 (pq 0) (za0 (pq 1) (za0 (pq 2) za1)))) (za0 (zb8 oAdd za2 (pD zcf6 hr zb3 (za0 (pq 0) (za0 (zb4 (K:=K) rfl (zq5 (za0 za2 (za0 za2 (za0 (zb8 oPow za2 za2) za1)))) (pD zcf6 hr zb3 (za0 (pq 0) (za0 za2 za1)))) za1)))) za1))) za1)))))
   (za5 (za9 (pq 3))))),?_⟩
 refine zg8 (fun l H1 f1 s1 h1'=>?_)
 have n1:l≠a:=hL.ne f1
 refine zf6 (hL.same s1) (by rfl') (by rfl') (by rfl') (fun d H2 d0 d1 c2 L2=>?_)
 refine zh1 (by decide) (by decide) (by rfl') (by rfl') ?_
 obtain⟨n,en⟩:∃ n:Nat,(1+d - 0).toNat=n:=⟨_,rfl⟩
 rw[en]
 have hn1:1<=n/\n<=4:=by rfl'
 have c12:Chg a H H2:=s1.toChg.trans c2
 refine zo7 (fun i σ H3=>∃ (y:Option V) (ts:List (Addr×Addr)) (ms:List (List Int×Int)),σ=[some (.ref a),some (.int h),some (.int f),some (.ref l),y]/\Chg a H H3/\zb7 H3 a (b+4+200*i)/\zd1 H3 l ts ms/\Off a ts/\Off l ts/\ms.length=i/\∀ x∈ms,OkX h f x/\x.2<=10 ^ 20) ?_ ?_ ?_
 ·refine⟨_,[],[],rfl,c12,L2.up (by rfl'),⟨c2 _ _ n1 h1',rfl,fun i t x e=>by simp at e⟩,?_,?_,rfl,?_⟩
  ·intro t ht;cases ht
  ·intro t ht;cases ht
  ·intro x hx;cases hx
 ·rintro i σ H3 hi ⟨y0,ts,ms,rfl,c3,L3,M3,O1,O2,l3,k3⟩
  have hi:i<4:=by rfl'
  refine zbb4 M3.out ?_
  refine zcd3 L3 (by rfl') h1 h2 h3 (fun p8 H8 ns f8 c8 L8 n8 h8 k81 k82 k83=>?_)
  have M8:=M3.chg c8 n1 O1
  have p8l:p8≠l:=Ne.symm (za4 M3.out f8)
  walk_at "st"
  refine zg8 (fun p5 H5 f5 s5 h5=>?_)
  refine zf6 (L8.same s5) (by rfl') (by rfl') (by rfl') (fun d6 H6 d60 d61 c6 L6=>?_)
  refine zw9 (c6 _ _ (L8.ne f5) h5) (by rfl') (by simp only[zco4,zcr4];omega) ?_
  intro v hv
  obtain⟨wm,rfl,wm0,wm1⟩:∃ m:Int,v=.int m/\1<=m/\m<=10 ^ 20:=by
   simp only[zcm9,zcp1,or_false] at hv
   rcases hv with rfl|rfl|rfl<;>exact⟨_,rfl,by rfl',by rfl'⟩
  clear hv h5
  refine zf6 L6 (by rfl') (by rfl') (by rfl') (fun d4 H4 d40 d41 c4 L4=>?_)
  have M4:=((M8.same s5).chg c6 n1 O1).chg c4 n1 O1
  have c84:Chg a H8 H4:=(s5.toChg.trans c6).trans c4
  refine zf2 (fun p9 H9 f9 s9 h9=>?_)
  have M9:=M4.same s9
  have p9l:p9≠l:=Ne.symm (za4 M4.out f9)
  refine zbb0 M9.out (by rw[zcl9,zcv5,M9.len];omega) (fun Ha ca ha=>?_)
  ac_nf
  have Ma:=M9.push ca O2 ha (x:=(ns,1+d4)) (ca _ _ p9l h9) (ca _ _ p8l (s9 _ _ (c84 _ _ n8 h8)))
  have c39:Chg a H H9:=((c3.trans c8).trans c84).same s9
  exact⟨_,_,_,rfl,fun b o z e=>ca _ _ (za4 e f1) (c39 _ _ z e),((L4.same s9).chg ca (Ne.symm n1)).up (by rfl'),Ma,O1.push (L4.ne f9) n8,O2.push p9l p8l,by rw[zcn1,l3];rfl,zbu7 k3 ⟨⟨k83,by rw[k81],k82,by rfl'⟩,by rfl'⟩⟩
 ·rintro σ H3 ⟨y0,ts,ms,rfl,c3,L3,M3,O1,O2,l3,k3⟩
  ac_nf
  exact q l ts ms H3 f1 c3 (L3.up (by rfl')) M3 n1 O1 ⟨by rfl',by rfl',by rfl',fun x hx=>(k3 x hx).1⟩ (fun x hx=>(k3 x hx).2) (by rfl')
theorem zj2.oks{b:Addr}{a:Nat}{fs:List Fd}(B:zj2 H b l ps a c fs):∀ f∈fs,f.Ok:=fun f hf=>by
 obtain⟨i,ei⟩:=zcp3 hf
 obtain⟨p,ep⟩:∃ p,ps[i]?=some p:=⟨_,zcm0 (by have:=(zcm1.mp ei).1;have:=B.len;omega)⟩
 exact (B.fld i p f ep ei).2
def sI(sd:Bool):Int:=if sd=true then 1 else 0
def ownN(sd:Bool)(n m:Nat):Nat:=if sd=true then m else n
def othN(sd:Bool)(n m:Nat):Nat:=if sd=true then n else m
theorem zbg7{g:List Int->Int}{k:Nat}(hk:k=ms.length):((List.range k).map fun i=>V.int ((ms.getD i ([],0)).2*g (ms.getD i ([],0)).1))=(ms.map fun z=>z.2*g z.1).map V.int:=by
 subst hk
 apply zct6
 intro i
 rw[zcm5,zcm5,zcm5]
 by_cases h:i<ms.length
 ·rw[zcs0 h,zcm0 h]
  simp[h]
 ·rw[zcp7 (by simp;omega),zcp7 (by rfl')]
  rfl
@[irreducible] def ze4:Sp:=fun vs H Q _=>∃ (b l m p:Addr) (ps:List Addr) (n c:Nat) (fs:List Fd) (ts:List (Addr×Addr)) (ms:List (List Int×Int)) (ys:List Int) (sd:Bool),vs=[.ref b,.ref m,.ref p,.int (sI sd)]/\zj2 H b l ps n c fs/\OkB n c fs/\(∀ f∈fs,f.Bd n c)/\zd1 H m ts ms/\ms.length<=1000/\H p=some (.lst (ys.map V.int))/\Pln (othN sd n c) fs.length ys /\
 (∀ x∈ms,Pln (ownN sd n c) fs.length x.1/\0<=x.2/\x.2<=10 ^ 60)/\∀ H',Same H H'->Q (.int (wsum ms (gs (zu3 sd fs ys) fs.length))) H'
theorem zai8{b p:Addr}{n:Nat}{fs:List Fd}{sd:Bool}(B:zj2 H b l ps n c fs)(O:OkB n c fs)(bd:∀ f∈fs,f.Bd n c)(M:zd1 H m ts ms)(ml:ms.length<=1000)(hp:H p=some (.lst (ys.map V.int)))(P:Pln (othN sd n c) fs.length ys)(ok:∀ x∈ms,Pln (ownN sd n c) fs.length x.1/\0<=x.2/\x.2<=10 ^ 60)(q:∀ H',Same H H'->Q (.int (wsum ms (gs (zu3 sd fs ys) fs.length))) H'):ze4 [.ref b,.ref m,.ref p,.int (sI sd)] H Q E:=by unfold ze4;exact⟨b,l,m,p,ps,n,c,fs,ts,ms,ys,sd,rfl,B,O,bd,M,ml,hp,P,ok,q⟩
theorem zac8(F:Fun K "_law_against" "_law_against" zn2 f fd)(N:Nm mg)(zcl5:Def P w K mg base CX0 7 "gain" ["battle","one","other"] zz3):FnOk P w K mg base CX0 8 f fd ["_law_battle_here","_law_mix_here","_law_plan_here","_law_side"] ze4:=by
 refine F.ok zae9 (fun vs H Q E h=>by unfold ze4 at h;obtain⟨_,_,_,_,_,_,_,_,_,_,_,_,rfl,_⟩:=h;rfl) fun _ _ _ s H vs Q E hr h=>?_
 unfold ze4 at h
 obtain⟨b,l,m,p,ps,n,c,fs,ts,ms,ys,sd,rfl,B,O,bd,M,ml,hp,P2,ok,q⟩:=h
 have hu:=hu40 hr
 have oks:=B.oks
 have tl:=M.len
 have p60:(10:Int) ^ 60=10 ^ 60:=rfl
 refine⟨_,(za3 (psIf (ptC (oEqK (K:=K) rfl (by exact hu)) (pq 3) za2) (za5 (za9 (pB (zau1 (K:=K) rfl rfl) N.sum_ zz8 (za0 (zd5 (N:=["_law_one","_law_weight","_law_battle_here","_law_plan_here"]) (ks:=[none,none,some 0,some 2]) (zf8 (K:=K) rfl (pq 1)) (fun _ _ _ _ _=>(zi4 (K:=K) (n:=2) rfl rfl (zb0 (za7 (i:=0) nb_23 rfl (by eq_refl)) (zb0 (za7 (i:=1) nb_23 rfl (by eq_refl)) zi2)))) (fun _ _ _ _ _=>zc6) (fun _ _ _ _ _=>(zb8 oMul (pq 1) (pD zcl5 hr zb3 (za0 (pq 2) (za0 (pq 0) (za0 (pq 3) za1)))))) (.skip (.skip (.take rfl rfl (by eq_refl) (.take rfl rfl (by eq_refl) .nil))))) za1)))) zc0)
   (za5 (za9 (pB (zau1 (K:=K) rfl rfl) N.sum_ zz8 (za0 (zd5 (N:=["_law_one","_law_weight","_law_battle_here","_law_plan_here"]) (ks:=[none,none,some 0,some 2]) (zf8 (K:=K) rfl (pq 1)) (fun _ _ _ _ _=>(zi4 (K:=K) (n:=2) rfl rfl (zb0 (za7 (i:=0) nb_23 rfl (by eq_refl)) (zb0 (za7 (i:=1) nb_23 rfl (by eq_refl)) zi2)))) (fun _ _ _ _ _=>zc6) (fun _ _ _ _ _=>(zb8 oMul (pq 1) (pD zcl5 hr zb3 (za0 (pq 2) (za0 (pq 3) (za0 (pq 0) za1)))))) (.skip (.skip (.take rfl rfl (by eq_refl) (.take rfl rfl (by eq_refl) .nil))))) za1))))),?_⟩
 cases sd
 ·ac_nf
  refine zy7 rfl ?_
  refine zb9 M.out ?_
  refine zk7 (Wk.list (SqL.of M.out)) (by rw[zcl9,zcv5];omega) (fun i=>.int ((ms.getD i ([],0)).2*zaf9 fs (ms.getD i ([],0)).1 ys)) (fun _=>true) (fun j σ=>∃ t u:Option V,σ=[t,u,some (.ref b),some (.ref p)]) ⟨none,none,rfl⟩ ?_ ?_
  ·rintro j v σ J R S hj s2 hx ⟨t',u',rfl⟩ k _
   obtain⟨t,x,rfl,e1,e2,e3,e4⟩:=(M.same s2).elt hx
   rw[show ms.getD j ([],0)=x by rw[zcm4,e2];rfl] at k
   obtain⟨P1,w0,w1⟩:=ok x (zcm6 e2)
   refine zd0 e3 ?_
   refine br_T ?_
   refine zbi4 (B.same s2) O e4 (s2 _ _ hp) P1 P2 (fun J3 s3=>?_)
   refine zah8 (zal0 ⟨by rfl',w1⟩ (zbp0 O oks bd P1 P2)) ?_
   ac_nf
   exact k rfl _ _ s3 ⟨_,_,rfl⟩
  intro acc H1 f1 s1 h1
  rw[ze1,zbg7 (g:=fun x=>zaf9 fs x ys) (by rw[zcl9];exact tl)] at h1
  refine zab3 h1 ?_
  ac_nf
  exact q _ s1
 ·ac_nf
  refine zaa6 (by decide) ?_
  refine zb9 M.out ?_
  refine zk7 (Wk.list (SqL.of M.out)) (by rw[zcl9,zcv5];omega) (fun i=>.int ((ms.getD i ([],0)).2*zaf9 fs ys (ms.getD i ([],0)).1)) (fun _=>true) (fun j σ=>∃ t u:Option V,σ=[t,u,some (.ref b),some (.ref p)]) ⟨none,none,rfl⟩ ?_ ?_
  ·rintro j v σ J R S hj s2 hx ⟨t',u',rfl⟩ k _
   obtain⟨t,x,rfl,e1,e2,e3,e4⟩:=(M.same s2).elt hx
   rw[show ms.getD j ([],0)=x by rw[zcm4,e2];rfl] at k
   obtain⟨P1,w0,w1⟩:=ok x (zcm6 e2)
   refine zd0 e3 ?_
   refine br_T ?_
   refine zbi4 (B.same s2) O (s2 _ _ hp) e4 P2 P1 (fun J3 s3=>?_)
   refine zah8 (zal0 ⟨by rfl',w1⟩ (zbp0 O oks bd P2 P1)) ?_
   ac_nf
   exact k rfl _ _ s3 ⟨_,_,rfl⟩
  intro acc H1 f1 s1 h1
  rw[ze1,zbg7 (g:=fun x=>zaf9 fs ys x) (by rw[zcl9];exact tl)] at h1
  refine zab3 h1 ?_
  ac_nf
  exact q _ s1
def zae7(rows:List (List Int))(k c:Nat):Int:=(rows.getD k []).getD c 0
@[irreducible] def zc9:Sp:=fun vs H Q _=>∃ (b l r p:Addr) (ps qs:List Addr) (n c:Nat) (fs:List Fd) (rows:List (List Int)) (ys:List Int) (sd:Bool),vs=[.ref b,.ref r,.ref p,.int (sI sd)]/\zj2 H b l ps n c fs/\OkB n c fs/\(∀ f∈fs,f.Bd n c)/\LsAt H r qs rows/\rows.length=fs.length/\(∀ e∈rows,e.length=ownN sd n c+1/\∀ x∈e,-(10 ^ 60)<=x/\x<=10 ^ 60) /\
 H p=some (.lst (ys.map V.int))/\Pln (othN sd n c) fs.length ys/\∀ H',Same H H'->Q (.int (shs (zae7 rows) (zu3 sd fs ys) fs.length (ownN sd n c))) H'
theorem zar5{b r p:Addr}{qs:List Addr}{n:Nat}{fs:List Fd}{rows:List (List Int)}{sd:Bool}(B:zj2 H b l ps n c fs)(O:OkB n c fs)(bd:∀ f∈fs,f.Bd n c)(L:LsAt H r qs rows)(rl:rows.length=fs.length)(re:∀ e∈rows,e.length=ownN sd n c+1/\∀ x∈e,-(10 ^ 60)<=x/\x<=10 ^ 60)(hp:H p=some (.lst (ys.map V.int)))(P:Pln (othN sd n c) fs.length ys)(q:∀ H',Same H H'->Q (.int (shs (zae7 rows) (zu3 sd fs ys) fs.length (ownN sd n c))) H'):zc9 [.ref b,.ref r,.ref p,.int (sI sd)] H Q E:=by unfold zc9;exact⟨b,l,r,p,ps,qs,n,c,fs,rows,ys,sd,rfl,B,O,bd,L,rl,re,hp,P,q⟩
theorem zae6(f:Nat->Int)(n:Nat):((List.range (n+1)).map f).sum=((List.range n).map f).sum+f n:=by rw[List.range_succ,zco1,zct8];simp
theorem zz2(F:Fun K "_law_by_shares" "_law_by_shares" zk4 f fd)(N:Nm mg)(D_pay:Def P w K mg base CX0 7 "pay" ["battle","field","x","y"] zai3):FnOk P w K mg base CX0 8 f fd ["_law_battle_here","_law_shares","_law_plan_here","_law_side"] zc9:=by
 refine F.ok zc7 (fun vs H Q E h=>by unfold zc9 at h;obtain⟨_,_,_,_,_,_,_,_,_,_,_,_,rfl,_⟩:=h;rfl) fun _ _ _ s H vs Q E hr h=>?_
 unfold zc9 at h
 obtain⟨b,l,r,p,ps,qs,n,c,fs,rows,ys,sd,rfl,B,O,bd,L,rl,re,hp,P2,q⟩:=h
 have hu:=hu40 hr
 have oks:=B.oks
 have ql:=L.len
 have yl:=P2.len
 have o1:=O.1
 have o2:=O.2
 have on:ownN sd n c<=10:=by unfold ownN;split<;>omega
 refine⟨_,(za3 (psS (i:=4) zc7.nd za2)
   (za3 (zac2 PassesOwn.never rfl (zq0 N.range_ (za0 (pB (zm1 (K:=K) rfl) N.len_ zg1 (za0 (pq 2) za1)) za1)) (za7 (i:=5) zc7.nd rfl (by eq_refl)) (za5 (zac2 PassesOwn.never rfl (zq0 N.range_ (za0 (pB (zm1 (K:=K) rfl) N.len_ zg1 (za0 (zb4 (K:=K) rfl (pq 1) (pq 5)) za1)) za1)) (za7 (i:=6) zc7.nd rfl (by eq_refl)) (za3 (zbn5 (zb4 (K:=K) rfl (zq5 (za0 (zq2 (za0 (pq 6) (za0 (zb4 (K:=K) rfl (pq 2) (pq 5)) za1))) (za0 (zq2 (za0 (zb4 (K:=K) rfl (pq 2) (pq 5)) (za0 (pq 6) za1))) za1))) (pq 3)) (zi4 (K:=K) (n:=2) rfl rfl (zb0 (za7 (i:=7) zc7.nd rfl (by eq_refl)) (zb0 (za7 (i:=8) zc7.nd rfl (by eq_refl)) zi2))))
   (za5 (psS (i:=4) zc7.nd (zb8 oAdd (pq 4) (zb8 oMul (zb4 (K:=K) rfl (zb4 (K:=K) rfl (pq 1) (pq 5)) (pq 6)) (pD D_pay hr zb3 (za0 (pq 0) (za0 (pq 5) (za0 (pq 7) (za0 (pq 8) za1)))))))))))))
   (za5 (za9 (pq 4))))),?_⟩
 refine ze8 hp ?_
 rw[zcl9,yl]
 refine zh1 (by decide) (by decide) (by rfl') (by rfl') ?_
 rw[show ((fs.length:Int) - 0).toNat=fs.length by rfl']
 refine zo7 (fun i σ I=>∃ x5 x6 x7 x8:Option V,σ=[some (.ref b),some (.ref r),some (.ref p),some (.int (sI sd)),some (.int ((List.range i).map fun k=>((List.range (ownN sd n c+1)).map fun (c:Nat)=>zae7 rows k c*zu3 sd fs ys k c).sum).sum),x5,x6,x7,x8]/\Same H I) ?_ ?_ ?_
 ·exact⟨_,_,_,_,rfl,Same.refl _⟩
 ·rintro i σ I hi ⟨x5,x6,x7,x8,rfl,sI'⟩
  obtain⟨q0,eq0⟩:∃ p,qs[i]?=some p:=⟨_,zcm0 (by rfl')⟩
  obtain⟨e,ee⟩:∃ p,rows[i]?=some p:=⟨_,zcm0 (by rfl')⟩
  obtain⟨f,ef⟩:∃ f,fs[i]?=some f:=⟨_,zcm0 hi⟩
  obtain⟨el,eb⟩:=re e (zcm6 ee)
  have ati:∀ {zs:List V}{v:V},zs[i]?=some v->atI zs (0+(i:Int))=some v:=fun h=>by rw[zct5];exact zg2 h
  have atq:atI (qs.map V.ref) (0+(i:Int))=some (.ref q0):=ati (by rw[zcm5,eq0];rfl)
  have py:=zaf2 P2.nn P2.sum i
  obtain⟨y,ey⟩:∃ y:Nat,ys.getD i 0=y:=⟨(ys.getD i 0).toNat,by rfl'⟩
  have atp:atI (ys.map V.int) (0+(i:Int))=some (.int y):=ati (by rw[zcm5,← ey,zcm4,zcm0 (by rfl')];rfl)
  refine zc2 (v:=.ref q0) (sI' _ _ L.out) atq ?_
  refine ze8 (sI' _ _ (L.row i q0 e eq0 ee)) ?_
  rw[zcl9,el]
  refine zh1 (by decide) (by decide) (by rfl') (by rfl') ?_
  rw[show (((ownN sd n c+1:Nat):Int) - 0).toNat=ownN sd n c+1 by rfl']
  refine zo7 (fun j σ J=>∃ x6 x7 x8:Option V,σ=[some (.ref b),some (.ref r),some (.ref p),some (.int (sI sd)),some (.int (((List.range i).map fun k=>((List.range (ownN sd n c+1)).map fun (c:Nat)=>zae7 rows k c*zu3 sd fs ys k c).sum).sum+((List.range j).map fun (c:Nat)=>zae7 rows i c*zu3 sd fs ys i c).sum)),some (.int (0+(i:Int))),x6,x7,x8]/\Same H J) ?_ ?_ ?_
  ·rw[show ((List.range 0).map fun (c:Nat)=>zae7 rows i c*zu3 sd fs ys i c).sum=0 from rfl,Int.add_zero]
   exact⟨_,_,_,rfl,sI'⟩
  ·rintro j σ J hj ⟨x6,x7,x8,rfl,sJ⟩
   have zj:e[j]?=some (e.getD j 0):=by rw[zcm4,zcm0 (by rfl')];rfl
   have bj:=eb _ (zcm6 zj)
   have er:zae7 rows i j=e.getD j 0:=by unfold zae7;rw[show rows.getD i []=e by rw[zcm4,ee];rfl]
   have gf:fs.getD i (.more 0 0)=f:=by rw[zcm4,ef];rfl
   have fm:=zcm6 ef
   refine zc2 (v:=.int y) (sJ _ _ hp) atp ?_
   refine zf2 (fun t1 J1 f1 u1 k1=>?_)
   refine zc2 (v:=.int y) (u1 _ _ (sJ _ _ hp)) atp ?_
   refine zf2 (fun t2 J2 f2 u2 k2=>?_)
   refine zg8 (fun t3 J3 f3 u3 k3=>?_)
   have s3:=((sJ.trans u1).trans u2).trans u3
   rw[zct5] at k1 k2
   cases sd
   ·have hj:j<n+1:=hj
    have py:y<=c:=by have:(othN false n c:Int)=c:=rfl;omega
    refine zc2 (v:=.ref t1) k3 rfl ?_
    refine zd0 ((u2.trans u3) _ _ k1) ?_
    refine zc2 (v:=.ref q0) (s3 _ _ L.out) atq ?_
    ac_nf
    rw[zct5]
    refine zc2 (v:=.int (e.getD j 0)) (s3 _ _ (L.row i q0 e eq0 ee)) (zg2 (by rw[zcm5,zj];rfl)) ?_
    ac_nf
    rw[zct5]
    refine zby0 (B.same s3) O ef (by rfl') py (fun J4 s4=>?_)
    have wb:=Fd.won_bd (oks f fm) (bd f fm) (show j<=n by rfl') py
    refine zah8 (zal0 bj ⟨by rfl',by rfl'⟩) ?_
    ac_nf
    have eg:zu3 false fs ys i (j:Int)=f.won j y:=by
     show (fs.getD i (.more 0 0)).won ((j:Int)).toNat (ys.getD i 0).toNat=_
     rw[gf,ey];rfl
    rw[zae6,er,eg,← Int.add_assoc]
    exact⟨_,_,_,rfl,s3.trans s4⟩
   ·have hj:j<c+1:=hj
    have py:y<=n:=by have:(othN true n c:Int)=n:=rfl;omega
    refine zc2 (v:=.ref t2) k3 rfl ?_
    refine zd0 (u3 _ _ k2) ?_
    refine zc2 (v:=.ref q0) (s3 _ _ L.out) atq ?_
    ac_nf
    rw[zct5]
    refine zc2 (v:=.int (e.getD j 0)) (s3 _ _ (L.row i q0 e eq0 ee)) (zg2 (by rw[zcm5,zj];rfl)) ?_
    ac_nf
    rw[zct5]
    refine zby0 (B.same s3) O ef py (by rfl') (fun J4 s4=>?_)
    have wb:=Fd.won_bd (oks f fm) (bd f fm) py (show j<=c by rfl')
    refine zah8 (zal0 bj ⟨by rfl',by rfl'⟩) ?_
    ac_nf
    have eg:zu3 true fs ys i (j:Int)=f.won y j:=by
     show (fs.getD i (.more 0 0)).won (ys.getD i 0).toNat ((j:Int)).toNat=_
     rw[gf,ey];rfl
    rw[zae6,er,eg,← Int.add_assoc]
    exact⟨_,_,_,rfl,s3.trans s4⟩
  ·rintro σ J ⟨x6,x7,x8,rfl,sJ⟩
   ac_nf
   rw[zae6 (fun k=>((List.range (ownN sd n c+1)).map fun (c:Nat)=>zae7 rows k c*zu3 sd fs ys k c).sum) i]
   exact⟨_,_,_,_,rfl,sJ⟩
 ·rintro σ I ⟨x5,x6,x7,x8,rfl,sI'⟩
  ac_nf
  exact q _ sI'
mutual
theorem zby2{T:Addr}{tab:Array Value}{H H':Hp}(hT:H T=some (.tbl tab))(c:Chg T H H'){v:V}{d:PyData}(h:ShV H v d):ShV H' v d:=match h with
 | .non=>.non
 | .bl b=>.bl b
 | .int i=>.int i
 | .str x=>.str x
 | .lst e l=>.lst (c _ _ (fun z=>by rw[z,hT] at e;cases e) e) (zax2 hT c l)
 | .tup e l=>.tup (c _ _ (fun z=>by rw[z,hT] at e;cases e) e) (zax2 hT c l)
theorem zax2{T:Addr}{tab:Array Value}{H H':Hp}(hT:H T=some (.tbl tab))(c:Chg T H H'){xs:List V}{ds:List PyData}(h:ShL H xs ds):ShL H' xs ds:=match h with
 | .nil=>.nil
 | .cons h l=>.cons (zby2 hT c h) (zax2 hT c l)
end
theorem zbn4{ln co:Nat}{qual:Str}(x:zq1 T ln co qual H):∃ tab,H T=some (.tbl tab):=let ⟨tab,e,_⟩:=x;⟨tab,e⟩
section
variable {T:Addr}{tabv:Array Value}{H H':Hp}
theorem zf7(hT:H T=Option.some (HO.tbl tabv))(c:Chg T H H'){b:Addr}(n:∀ t,o≠.tbl t)(e:H b=some o):H' b=some o:=c _ _ (fun z=>by rw[z,hT] at e;cases e;exact n _ rfl) e
theorem zd1.tab(M:zd1 H m ts ms)(hT:H T=Option.some (HO.tbl tabv))(c:Chg T H H'):zd1 H' m ts ms:=
 ⟨zf7 hT c (fun _ z=>by cases z) M.out,M.len,fun i t x h1 h2=>⟨zf7 hT c (fun _ z=>by cases z) (M.part i t x h1 h2).1,zf7 hT c (fun _ z=>by cases z) (M.part i t x h1 h2).2⟩⟩
theorem LsAt.tab{r:Addr}{es:List (List Int)}(L:LsAt H r ps es)(hT:H T=Option.some (HO.tbl tabv))(c:Chg T H H'):LsAt H' r ps es:=
 ⟨zf7 hT c (fun _ z=>by cases z) L.out,L.len,fun i p e h1 h2=>zf7 hT c (fun _ z=>by cases z) (L.row i p e h1 h2)⟩
theorem FdAt.tab{p:Addr}{a c:Nat}{f:Fd}(F:FdAt H p a c f)(hT:H T=Option.some (HO.tbl tabv))(k:Chg T H H'):FdAt H' p a c f:=by
 cases f with
 | more w t=>exact zf7 hT k (fun _ z=>by cases z) F
 | lead w l=>exact zf7 hT k (fun _ z=>by cases z) F
 | tab g=>
  obtain⟨q,ps,h1,h2⟩:=F
  exact⟨q,ps,zf7 hT k (fun _ z=>by cases z) h1,⟨zf7 hT k (fun _ z=>by cases z) h2.out,h2.len,fun i p e=>zf7 hT k (fun _ z=>by cases z) (h2.row i p e)⟩⟩
theorem zj2.tab{b l:Addr}{ps:List Addr}{a c:Nat}{fs:List Fd}(B:zj2 H b l ps a c fs)(hT:H T=Option.some (HO.tbl tabv))(k:Chg T H H'):zj2 H' b l ps a c fs:=
 ⟨zf7 hT k (fun _ z=>by cases z) B.out,zf7 hT k (fun _ z=>by cases z) B.lst,B.len,fun i p f h1 h2=>⟨(B.fld i p f h1 h2).1.tab hT k,(B.fld i p f h1 h2).2⟩⟩
end
def zbb3(K:zcm2)(a_tab:Addr):Sp:=fun vs H Q _=>∃ (a:Addr) (ns:List Int),vs=[.ref a]/\SqL K H a (ns.map V.int)/\ns.length<=63/\H a_tab=some (.tbl #[])/\∀ H',Q (.bl true) H'
theorem zas9{ns:List Int}(h:ns.length<=63):[V.int 0].length+(cutV (ns.map V.int) none (some 20)).length<=sizeLine:=by
 rw[zag2 (by decide),zcr6,zcl9,zcv5,zcs9];omega
theorem zao9{ns:List Int}{x:V}(h:([V.int 0]++cutV (ns.map V.int) none (some 20))[i]?=some x):∃ z,x=.int z:=by
 rw[zag2 (by decide)] at h
 rcases zcq0.mp (zcm6 h) with h|h
 ·exact⟨0,by simpa using h⟩
 ·obtain⟨z,_,rfl⟩:=zcn5.mp (List.mem_of_mem_take h)
  exact⟨z,rfl⟩
theorem OkM.pln{h f:Nat}(O:OkM h f ms):∀ x∈ms,Pln h f x.1:=fun x hx=>by
 obtain⟨a,b,c,_⟩:=O.2.2.2 x hx
 exact⟨a,by rfl',c⟩
theorem zbn3{α:Type}{f:α->Int}(h1:∀ a,f a<=1):∀ {l:List (α×Int)},(∀ x∈l,0<=x.2)->wsum l f<=wsum l (fun _=>1)
 | [],_=>Int.le_refl _
 | x :: l,h=>by
  rw[zc4,zc4]
  have:=zbn3 h1 (l:=l) fun y hy=>h y (.tail _ hy)
  have:=Int.mul_le_mul_of_nonneg_left (h1 x.1) (h x (.head _))
  omega
theorem ind_le(b:Bool):ind b<=1:=by cases b<;>decide
theorem zbq1(h:∀ x∈ms,0<=x.2):∀ x∈ms,x.2<=zm5 ms:=fun x hx=>by
 have:=(zj4 (ns:=ms.map fun x=>x.2) fun y hy=>by obtain⟨z,hz,rfl⟩:=zcn5.mp hy;exact h z hz).1 x.2 (zcn5.mpr ⟨x,hx,rfl⟩)
 exact this
theorem zbs4(h:∀ x∈ms,1<=x.2/\x.2<=10 ^ 20)(hl:ms.length<=4):zm5 ms<=10 ^ 60:=by
 have:=(zbh8 (B:=10 ^ 20) (by decide) (l:=ms.map fun x=>x.2) fun y hy=>by
  obtain⟨z,hz,rfl⟩:=zcn5.mp hy
  have:=h z hz
  exact⟨by rfl',this.2⟩).2
 rw[zcl9] at this
 have:(ms.length:Int)*10 ^ 20<=4*10 ^ 20:=Int.mul_le_mul_of_nonneg_right (by rfl') (by decide)
 unfold zm5
 have p:4*(10:Int) ^ 20<=10 ^ 60:=by decide
 generalize (10:Int) ^ 60=N at p ⊢
 omega
theorem zbq0(h:Nat)(xs:List (Int×Int×Int)):(shr h xs).length=h+1:=by unfold shr;rw[zcl9,zcq9]
theorem zbq2{hh:Int}{f k h:Nat}(O:OkS ms hh f)(hk:k<f)(R:zt0 ms k xs)(hc:c<=h):(shr h xs).getD c 0=wsum ms (fun p=>ind (decide (p.getD k 0=(c:Int)))):=by
 unfold shr
 rw[zcm4,zcm5,zcs0 (by rfl')]
 show (valG (sumG (xs.map fun z=>(z.2.1,z.2.2))) (c:Int)).getD 0=_
 rw[zbo7]
 have:=zs7 O hk R (fun r=>r.2) (c:Int)
 rw[zaa7,zbo0] at this
 exact this
theorem shr_bd{hh:Int}{f k h:Nat}(O:OkS ms hh f)(hk:k<f)(R:zt0 ms k xs)(hw:zm5 ms<=10 ^ 60):∀ x∈shr h xs,-(10 ^ 60)<=x/\x<=10 ^ 60:=fun x hx=>by
 obtain⟨c,ec⟩:=zcp3 hx
 have cl:=(zcm1.mp ec).1
 rw[zbq0] at cl
 have e:(shr h xs).getD c 0=x:=by rw[zcm4,ec];rfl
 rw[zbq2 O hk R (by rfl')] at e
 have w0:∀ x∈ms,0<=x.2:=fun x hx=>by have:=(O.all x hx).2.2.2;omega
 have a:=zu7 (f:=fun p:List Int=>ind (decide (p.getD k 0=(c:Int)))) (fun _=>zbp9 _) w0
 have b:=zbn3 (f:=fun p:List Int=>ind (decide (p.getD k 0=(c:Int)))) (fun _=>ind_le _) w0
 rw[zl6] at b
 rw[← e]
 exact⟨by rfl',by rfl'⟩
theorem ok_law(F:Fun K "law" "law" zaw5 f fd)(N:Nm mg)(zch3:Def P w K mg base CX0 8 "_law_against" ["_law_battle_here","_law_mix_here","_law_plan_here","_law_side"] ze4)(zci1:Def P w K mg base CX0 5 "_law_battle" ["_law_left_here","_law_most","_law_fields"] zf4)(zch5:Def P w K mg base CX0 8 "_law_by_shares" ["_law_battle_here","_law_shares","_law_plan_here","_law_side"] zc9)(zcf6:Def P w K mg base CX0 2 "_law_draw" ["_law_left_here","_law_base"] zc8)(zcj5:Def P w K mg base CX0 2 "_law_left" ["_law_script","_law_k"] zh3)(zch4:Def P w K mg base CX0 4 "_law_own_mix" ["_law_left_here","_law_hosts","_law_many"] ze5)(zcj6:Def P w K mg base (CXR P w) 10 "shares_of" ["stream"] (zh6 zcf4))(zcj7:Def P w K mg base (CXR P w) 7 "stream_of" ["mix"] (zh9 zcf7))(zci2:Def P w K mg base (CXR P w) 10 "taken_apart" ["stream"] (zf5 zcf4 a_tab)):FnOk P w K mg base CX0 12 f fd ["_law_script"] (zbb3 K a_tab):=by
 refine F.ok zo3 (fun vs H Q E h=>by obtain⟨n,k,rfl,_⟩:=h;rfl) fun _ _ _ s H vs Q E hr h=>?_
 obtain⟨a,ns0,rfl,hS,hlen,hTab,k⟩:=h
 have hu:=hu40 hr
 have T0:zq1 a_tab 88 42 lamQ H:=⟨_,hTab,.inl rfl⟩
 refine⟨_,(za3 (zac2 PassesOwn.never rfl (zf8 (K:=K) rfl (zb8 oAdd (zq5 (za0 za2 za1)) (zm4 (slXK (K:=K) rfl) (pq 0) zs0 (zz6 za2)))) (za7 (i:=1) zo3.nd rfl (by eq_refl)) (za3 (psS (i:=2) zo3.nd (pD zcj5 hr zb3 (za0 (zq5 (za0 (pq 1) za1)) (za0 za2 za1))))
   (za3 (psS (i:=3) zo3.nd (pD zci1 hr zb3 (za0 (pq 2) (za0 (zb4 (K:=K) rfl (zq5 (za0 za2 (za0 za2 za1))) (pD zcf6 hr zb3 (za0 (pq 2) (za0 za2 za1)))) (za0 za2 za1)))))
   (za3 (psS (i:=4) zo3.nd (pB (zm1 (K:=K) rfl) N.len_ zg1 (za0 (zb4 (K:=K) rfl (pq 3) za2) za1)))
   (za3 (psS (i:=5) zo3.nd (zq5 (za0 (pD zch4 hr zb3 (za0 (pq 2) (za0 (zb4 (K:=K) rfl (pq 3) za2) (za0 (pq 4) za1)))) (za0 (pD zch4 hr zb3 (za0 (pq 2) (za0 (zb4 (K:=K) rfl (pq 3) za2) (za0 (pq 4) za1)))) za1))))
   (za5 (zac2 PassesOwn.never rfl (zq0 N.range_ (za0 za2 za1)) (za7 (i:=6) zo3.nd rfl (by eq_refl)) (za3 (psS (i:=7) zo3.nd (pD zcj7 hr zao6 (za0 (zd5 (N:=["_law_plan_here","_law_weight"]) (ks:=[none,none]) (zf8 (K:=K) rfl (zb4 (K:=K) rfl (pq 5) (pq 6))) (fun _ _ _ _ _=>(zi4 (K:=K) (n:=2) rfl rfl (zb0 (za7 (i:=0) nb_24 rfl (by eq_refl)) (zb0 (za7 (i:=1) nb_24 rfl (by eq_refl)) zi2)))) (fun _ _ _ _ _=>zc6) (fun _ _ _ _ _=>(zq2 (za0 (pT (cListK (K:=K) rfl) N.list_ zt7 (za0 (pq 0) za1)) (za0 (pq 1) za1)))) (.skip (.skip .nil))) za1)))
   (za3 (psS (i:=8) zo3.nd (pD zci2 hr zao6 (za0 (pq 7) za1)))
   (za3 (psS (i:=9) zo3.nd (pD zcj6 hr zao6 (za0 (pq 7) za1)))
   (za5 (zac2 PassesOwn.never rfl (zf8 (K:=K) rfl (zb4 (K:=K) rfl (pq 5) (zb8 oSub za2 (pq 6)))) (zi4 (K:=K) (n:=2) rfl rfl (zb0 (za7 (i:=10) zo3.nd rfl (by eq_refl)) (zb0 (za7 (i:=11) zo3.nd rfl (by eq_refl)) zi2))) (za3 (psS (i:=12) zo3.nd (pD zch3 hr zb3 (za0 (pq 3) (za0 (zb4 (K:=K) rfl (pq 5) (pq 6)) (za0 (pq 10) (za0 (pq 6) za1))))))
   (za3 (psIf (ptC (oNeXK (K:=K) rfl (by exact hu)) (pD zch3 hr zb3 (za0 (pq 3) (za0 (pq 8) (za0 (pq 10) (za0 (pq 6) za1))))) (pq 12)) (za5 (za9 zab6)) zc0)
   (za5 (psIf (ptC (oNeXK (K:=K) rfl (by exact hu)) (pD zch5 hr zb3 (za0 (pq 3) (za0 (pq 9) (za0 (pq 10) (za0 (pq 6) za1))))) (pq 12)) (za5 (za9 zab6)) zc0))))))))))))))))
   (za5 (za9 zab6))),?_⟩
 refine zg8 (fun p1 H1 hf1 hs1 ha1=>?_)
 refine zai0 (hs1.seq hS) (fun p2 H2 hf2 hs2 ha2=>?_)
 refine zbo2 (hs2 _ _ ha1) ha2 (zas9 hlen) (fun p3 H3 hf3 hs3 ha3=>?_)
 have T3:=T0.same ((hs1.trans hs2).trans hs3)
 obtain⟨tab3,et3⟩:=zbn4 T3
 refine zb9 ha3 ?_
 refine zo2 (xs:=[V.int 0]++cutV (ns0.map V.int) none (some 20)) (fun i σ H4=>∃ x1 x2 x3 x4 x5 x6 x7 x8 x9 x10 x11 x12:Option V,σ=[some (.ref a),x1,x2,x3,x4,x5,x6,x7,x8,x9,x10,x11,x12]/\Chg a_tab H3 H4/\zq1 a_tab 88 42 lamQ H4) ?_ ?_ ?_ ?_
 ·exact⟨_,_,_,_,_,_,_,_,_,_,_,_,rfl,Chg.refl _ _,T3⟩
 ·rintro i σ H4 _ ⟨_,_,_,_,_,_,_,_,_,_,_,_,_,c4,_⟩
  exact SqL.of (c4 _ _ (fun z=>by rw[z,et3] at ha3;cases ha3) ha3)
 ·rintro i x σ H4 hi ⟨x1,x2,x3,x4,x5,x6,x7,x8,x9,x10,x11,x12,rfl,cT4,T4⟩
  obtain⟨z,rfl⟩:=zao9 hi
  refine zg8 (fun c5 H5 f5 s5 h5=>?_)
  refine zca9 h5 (fun pl H6 f6 s6 L6=>?_)
  have fpl:H4 pl=none:=s5.free f6
  refine zg8 (fun q7 H7 f7 s7 h7=>?_)
  refine zf6 (L6.same s7) (by rfl') (by rfl') (by rfl') (fun d8 H8 d80 d81 c8 L8=>?_)
  have h78:=c8 _ _ (L6.ne f7) h7
  refine zw9 h78 (by rfl') (by simp only[zco4,zcr4];omega) ?_
  intro v hv
  obtain⟨t,rfl,ht⟩:∃ t:Nat,v=.int t/\t<=10:=by
   simp only[zcm9,zcp1,or_false] at hv
   rcases hv with rfl|rfl
   ·exact⟨5,rfl,by rfl'⟩
   ·exact⟨10,rfl,by rfl'⟩
  clear hv h78 h7
  have s48:Same H4 H8:=(((s5.trans s6).trans s7)).chg fpl c8
  refine zal6 ht L8 (by rfl') (fun bt l ps n m fs H9 c9 L9 B9 O bd=>?_)
  have s49:=s48.chg fpl c9
  have o1:=O.1
  have o2:=O.2
  have B9':=B9.same (zn1 pl H9)
  have bl:=B9.len
  refine zb6 (v:=.ref l) B9'.out rfl ?_
  refine ze8 B9'.lst ?_
  rw[zcl9,bl]
  refine zb6 (v:=.int n) B9'.out rfl ?_
  refine zah9 L9 (by rfl') (by rfl') (by rfl') (by rfl') (fun m1 ts1 ms1 H10 f10 c10 L10 M10 n10 O10 K1 w1 l1=>?_)
  have s410:=s49.chg fpl c10
  have B10:=B9.same (Chg.rm c10)
  have B10':=B10.same (zn1 pl H10)
  refine zb6 (v:=.int m) B10'.out rfl ?_
  refine zah9 L10 (by rfl') (by rfl') (by rfl') (by rfl') (fun m2 ts2 ms2 H11 f11 c11 L11 M11 n11 O11 K2 w2 l2=>?_)
  have s411:=s410.chg fpl c11
  refine zg8 (fun mx H12 f12 s12 h12=>?_)
  have s412:=s411.trans s12
  have B12:zj2 H12 bt l ps n m fs:=((B10.same (Chg.rm c11)).same (zn1 pl H11)).same s12
  have M1:=(M10.chg c11 n10 O10).same s12
  have M2:=M11.same s12
  have T12:=T4.same s412
  have cT12:Chg a_tab H3 H12:=cT4.same s412
  obtain⟨tb12,et12⟩:=zbn4 T12
  clear c8 c9 c10 c11 L6 L8 L9 L10 L11 s5 s6 s7 B9 B9' B10 B10' M10 M11 s48 s49 s410 s411
  refine zh1 (by decide) (by decide) (by decide) (by decide) ?_
  refine zo7 (fun j σ I=>∃ x6 x7 x8 x9 x10 x11 x12:Option V,σ=[some (.ref a),some (.int z),some (.ref pl),some (.ref bt),some (.int fs.length),some (.ref mx),x6,x7,x8,x9,x10,x11,x12]/\Chg a_tab H12 I/\zq1 a_tab 88 42 lamQ I) ?_ ?_ ?_
  ·exact⟨_,_,_,_,_,_,_,rfl,Chg.refl _ _,T12⟩
  ·rintro j σ I hj ⟨y6,y7,y8,y9,y10,y11,y12,rfl,cI,TI⟩
   have hj:j<2:=hj
   have BI:=B12.tab et12 cI
   have mxI:I mx=some (.lst [.ref m1,.ref m2]):=zf7 et12 cI (fun _ z=>by cases z) h12
   obtain⟨sd,mo,mt,tso,tst,mso,mst,hsd,ao,at_,Mo,Mt,Ko,Kt,wo,lo⟩:∃ (sd:Bool) (mo mt:Addr) (tso tst:List (Addr×Addr)) (mso mst:List (List Int×Int)),(0+(j:Int))=sI sd/\atI [V.ref m1,V.ref m2] (sI sd)=some (.ref mo)/\atI [V.ref m1,V.ref m2] (1 - sI sd)=some (.ref mt)/\zd1 I mo tso mso/\zd1 I mt tst mst/\OkM (ownN sd n m:Nat) (fs.length:Nat) mso/\OkM (othN sd n m:Nat) (fs.length:Nat) mst/\(∀ x∈mso,x.2<=10 ^ 20)/\mso.length<=4:=by
    obtain rfl|rfl:j=0∨j=1:=by rfl'
    ·exact⟨false,m1,m2,ts1,ts2,ms1,ms2,rfl,rfl,rfl,M1.tab et12 cI,M2.tab et12 cI,K1,K2,w1,l1⟩
    ·exact⟨true,m2,m1,ts2,ts1,ms2,ms1,rfl,rfl,rfl,M2.tab et12 cI,M1.tab et12 cI,K2,K1,w2,l2⟩
   rw[hsd]
   have on:ownN sd n m<=10:=by unfold ownN;split<;>omega
   have ml:=Mo.len
   have Os:=Ko.toS
   have wpos:∀ x∈mso,1<=x.2:=fun x hx=>(Ko.2.2.2 x hx).2.2.2
   have Wb:=zbs4 (fun x hx=>⟨wpos x hx,wo x hx⟩) lo
   refine zc2 (v:=.ref mo) mxI ao ?_
   refine zb9 Mo.out ?_
   refine zbf3 (Wk.list (SqL.of Mo.out)) (by rw[zcl9,zcv5];omega) (fun acc j ys σ J=>∃ (t u:Option V) (qs:List (Addr×Addr)),σ=[t,u]/\ys=(qs.map fun t=>V.ref t.1)/\qs.length=j/\∀ (k:Nat) q x,qs[k]?=some q->mso[k]?=some x->rm acc J q.1=some (.tup [.ref q.2,.int x.2])/\rm acc J q.2=some (.lst (x.1.map V.int))) ?_ ?_ ?_ ?_
   ·intro acc J f1 s1 h1
    exact⟨none,none,[],rfl,rfl,rfl,fun k q x e=>by simp at e⟩
   ·rintro acc j ys σ J J' s' ⟨t,u,qs,r1,r2,r3,r5⟩
    exact⟨t,u,qs,r1,r2,r3,fun k q x e1 e2=>⟨Same.rm s' _ _ (r5 k q x e1 e2).1,Same.rm s' _ _ (r5 k q x e1 e2).2⟩⟩
   ·rintro acc j' v ys σ J R S hj' facc s1 hacc hx ⟨t',u',qs,rfl,rfl,ql,qp⟩ kR _
    obtain⟨t,x,rfl,e1,e2,e3,e4⟩:=(Mo.same s1).elt hx
    refine zd0 e3 ?_
    refine br_T ?_
    refine zbr5 (SqL.of e4) (fun p1 J1 g1 t1 k1=>?_)
    refine zf2 (fun p2 J2 g2 t2 k2=>?_)
    have np1:p1≠acc:=fun z=>by rw[z,hacc] at g1;cases g1
    have np2:p2≠acc:=fun z=>by rw[z,t1 _ _ hacc] at g2;cases g2
    ac_nf
    refine kR _ _ _ (t1.trans t2) (fun I2 c2=>⟨_,_,qs++[(p2,p1)],rfl,by rw[zco1];rfl,by rw[zcn1,ql];rfl,fun k q x' g1' g2'=>?_⟩)
    rcases zi9 g1' with ⟨a1,a2⟩|⟨a1,rfl⟩
    ·have old:=qp k q x' a2 g2'
     have up:∀ {b:Addr}{o:HO},rm acc J b=some o->rm acc I2 b=some o:=fun h=>by
      obtain⟨z1,z2⟩:=zag4 h
      exact zu2 z1 (c2 _ _ z1 ((t1.trans t2) _ _ z2))
     exact⟨up old.1,up old.2⟩
    ·rw[a1,ql,e2] at g2'
     cases g2'
     exact⟨zu2 np2 (c2 _ _ np2 k2),zu2 np1 (c2 _ _ np1 (t2 _ _ k1))⟩
   rintro acc ys σ J facc s1 hacc ⟨t',u',qs,rfl,rfl,ql,qp⟩
   have Mc:zd1 J acc qs mso:=⟨hacc,by rw[ql,zcl9];exact ml,fun k q x e1 e2=>⟨zn1 _ _ _ _ (qp k q x e1 e2).1,zn1 _ _ _ _ (qp k q x e1 e2).2⟩⟩
   have em:=zbc2 Ko
   refine zan6 Mc.sh (zbe6 Ko) (fun _=>⟨by show (mso.map zi6).length<64;rw[zcl9];omega,fun r13 rs13 xss H13 s13 S13 I13=>?_⟩) (fun z=>by rw[em.1] at z;cases z)
   rw[zcb9,em.2] at I13
   have hz:zr8 (ownN sd n m:Nat) (fs.length:Nat)=true:=by
    unfold zr8
    rw[decide_eq_true (show (0:Int)<=((ownN sd n m:Nat):Int)/\((ownN sd n m:Nat):Int)<=40 by rfl'),decide_eq_true (show (1:Int)<=((fs.length:Nat):Int)/\((fs.length:Nat):Int)<=8 by rfl')];rfl
   obtain⟨an,ah⟩:=any_ok Os I13 hz
   have xl:∀ xs∈xss,xs.length<=4:=fun xs hx=>by
    obtain⟨i,ei⟩:=zcp3 hx
    have:=(I13.2 i xs ei).2
    omega
   have sm:sml (stmD xss)=true:=by
    rw[zbt7]
    exact (zca0 (c:=false) (by rw[I13.1];omega) fun xs hx=>by have:=xl xs hx;omega).1
   have D13:ShV H13 (.ref r13) (stmD xss):=(S13.same (zbl2 _ _)).sh
   have sI13:=s1.trans s13
   have T13:=TI.same sI13
   refine zag3 D13 sm T13 (fun _=>⟨fun x hx=>?_,fun r14 ts14 ms14 H14 c14 T14 M14 A14=>?_⟩) (fun z=>by rw[an] at z;cases z)
   ·obtain⟨xs,hxs,rfl⟩:=zcn5.mp (show x∈xss.map zd7 from hx)
    have:=xl xs hxs
    show (xs.map _).length<=9
    rw[zcl9];omega
   rw[ah,zbf8 Os I13,zbe4] at A14
   obtain⟨K14,w14,sh14⟩:=zbs7 Os I13 (by rfl') (by rfl') (by rfl') A14
   obtain⟨tb13,et13⟩:=zbn4 T13
   have D14:=zby2 et13 c14 D13
   have c1214:Chg a_tab H12 H14:=(cI.same sI13).trans c14
   have ml14:ms14.length<=100:=K14.2.1
   have wp14:∀ x∈ms14,0<=x.2:=fun x hx=>by have:=(K14.2.2.2 x hx).2.2.2;omega
   refine zao3 D14 sm (fun _ r15 ps15 H15 f15 s15 o15 l15 k15=>?_) (fun z=>by rw[an] at z;cases z)
   have il:(zb2 (stmD xss)).length=fs.length:=by show (xss.map zd7).length=_;rw[zcl9,I13.1]
   have L15:LsAt H15 r15 ps15 (xss.map (shr (ownN sd n m))):=⟨o15,by rw[zcl9,l15,il,I13.1],fun i p e g1 g2=>by
    rw[zcm5] at g2
    obtain⟨xs,exs,rfl⟩:=zcm7.mp g2
    have:=k15 i p g1
    rw[this,ah,show (zb2 (stmD xss)).getD i .none=zd7 xs by show (xss.map zd7).getD i .none=_;rw[zcm4,zcm5,exs];rfl,zp2,show (((ownN sd n m:Nat):Int)).toNat=ownN sd n m by rfl']⟩
   have rows_get:∀ k c,k<fs.length->c<=ownN sd n m->zae7 (xss.map (shr (ownN sd n m))) k c=wsum mso (fun p=>ind (decide (p.getD k 0=(c:Int)))):=fun k c hk hc=>by
    obtain⟨xs,exs,Rx⟩:=zaf5 I13 hk
    unfold zae7
    rw[show (xss.map (shr (ownN sd n m))).getD k []=shr (ownN sd n m) xs by rw[zcm4,zcm5,exs];rfl]
    exact zbq2 Os hk Rx hc
   have c1215:Chg a_tab H12 H15:=c1214.same s15
   have B15:=B12.tab et12 c1215
   have M15:=M14.same s15
   have Mo15:zd1 H15 mo tso mso:=by
    have e:=Mo.same sI13
    exact (e.tab et13 c14).same s15
   have Mt15:zd1 H15 mt tst mst:=by
    have e:=Mt.same sI13
    exact (e.tab et13 c14).same s15
   have mx15:H15 mx=some (.lst [.ref m1,.ref m2]):=zf7 et12 c1215 (fun _ z=>by cases z) h12
   have T15:=T14.same s15
   clear Mc qp hacc facc S13 D13 D14 o15 k15 BI mxI
   refine zc2 (v:=.ref mt) mx15 at_ ?_
   refine zb9 Mt15.out ?_
   refine zo2 (xs:=tst.map fun t=>V.ref t.1) (fun j2 σ J2=>∃ y10 y11 y12:Option V,σ=[some (.ref a),some (.int z),some (.ref pl),some (.ref bt),some (.int fs.length),some (.ref mx),some (.int (sI sd)),some (.ref r13),some (.ref r14),some (.ref r15),y10,y11,y12]/\Same H15 J2) ?_ ?_ ?_ ?_
   ·exact⟨_,_,_,rfl,Same.refl _⟩
   ·rintro j2 σ J2 _ ⟨_,_,_,_,sJ⟩
    exact SqL.of (sJ _ _ Mt15.out)
   ·rintro j2 v σ J2 hj2 ⟨u10,u11,u12,rfl,sJ⟩
    obtain⟨t,x,rfl,e1,e2,e3,e4⟩:=(Mt15.same sJ).elt hj2
    have P2:=Kt.pln x (zcm6 e2)
    have own_eq:wsum mso (gs (zu3 sd fs x.1) fs.length)=shs (fun k c=>wsum mso (fun p=>ind (decide (p.getD k 0=(c:Int))))) (zu3 sd fs x.1) fs.length (ownN sd n m):=zan5 fun y hy k _=>zaf2 (Ko.2.2.2 y hy).1 (Ko.2.2.2 y hy).2.2.1 k
    have part_eq:wsum ms14 (gs (zu3 sd fs x.1) fs.length)=wsum mso (gs (zu3 sd fs x.1) fs.length):=by
     rw[own_eq,zan5 (h:=ownN sd n m) fun y hy k _=>zaf2 (K14.2.2.2 y hy).1 (K14.2.2.2 y hy).2.2.1 k]
     exact zas3 fun k c hk _=>sh14 k c hk
    refine zd0 e3 ?_
    refine zc2 (v:=.ref mo) (sJ _ _ mx15) ao ?_
    refine zai8 (B15.same sJ) O bd (Mo15.same sJ) (by rfl') e4 P2 (fun y hy=>⟨Ko.pln y hy,by have:=wpos y hy;omega,by have:=wo y hy;have p:(10:Int) ^ 20<=10 ^ 60:=(by decide);omega⟩) (fun J3 s3=>?_)
    have sJ3:=sJ.trans s3
    refine zai8 (B15.same sJ3) O bd (M15.same sJ3) (by rfl') (s3 _ _ e4) P2 (fun y hy=>⟨K14.pln y hy,wp14 y hy,by have:=zbq1 wp14 y hy;rw[w14] at this;omega⟩) (fun J4 s4=>?_)
    have sJ4:=sJ3.trans s4
    rw[part_eq]
    refine zc1 (zy7 rfl ?_)
    refine zar5 (B15.same sJ4) O bd (L15.same sJ4) (by rw[zcl9,I13.1]) (fun e he=>?_) (s4 _ _ (s3 _ _ e4)) P2 (fun J5 s5=>?_)
    ·obtain⟨xs,hxs,rfl⟩:=zcn5.mp he
     obtain⟨i,ei⟩:=zcp3 hxs
     have il:=(zcm1.mp ei).1
     rw[I13.1] at il
     exact⟨zbq0 _ _,shr_bd Os il (I13.2 i xs ei).1 Wb⟩
    have sJ5:=sJ4.trans s5
    rw[zas3 (S':=fun k c=>wsum mso (fun p=>ind (decide (p.getD k 0=(c:Int))))) rows_get,← own_eq]
    refine zc1 (zy7 rfl ?_)
    ac_nf
    exact⟨_,_,_,rfl,sJ5⟩
   ·rintro σ J2 ⟨u10,u11,u12,rfl,sJ⟩
    ac_nf
    exact⟨_,_,_,_,_,_,_,rfl,c1215.same sJ,T15.same sJ⟩
  ·rintro σ I ⟨y6,y7,y8,y9,y10,y11,y12,rfl,cI,TI⟩
   ac_nf
   exact⟨_,_,_,_,_,_,_,_,_,_,_,_,rfl,cT12.trans cI,TI⟩
 ·rintro σ H4 ⟨_,_,_,_,_,_,_,_,_,_,_,_,rfl,_⟩
  exact k H4
end
abbrev FA(K:zcm2)(x:Str)(st:Stmt):Prop:=∃ (f:Addr) (od an:Option Addr) (sl:Array (Option Value)) (oc kV dc pm cd ct:Value),zcp8 K zcv9 x=some (some (.ref f))/\K.lookup f=some ⟨oc,od,.func (zcs1 x x (zl9 st) (zi8 st) (za6 st) .none kV dc pm an cd ct),sl⟩/\zcv1 K cd x=true/\zct4 K (.ref f)=true
theorem FA.of{K:zcm2}{x:Str}{st:Stmt}{od an:Option Addr}{sl:Array (Option Value)}{oc kV dc pm cd ct:Value}(a:zcp8 K zcv9 x=some (some (.ref f)))(l:K.lookup f=some ⟨oc,od,.func (zcs1 x x (zl9 st) (zi8 st) (za6 st) .none kV dc pm an cd ct),sl⟩)(c:zcv1 K cd x=true)(k:zct4 K (.ref f)=true):FA K x st:=⟨_,_,_,_,_,_,_,_,_,_,a,l,c,k⟩
structure Ev(P:Program)(w:World)(K:zcm2)(mg:Str->Option Value)(base h:Heap):Prop where
 x:K.In h
 g:h.Ns zcv9 mg
local macro_rules | `(tactic| walk_at "bd")=>`(tactic| (intro _ _ _ _ _ _ us hl;rcases us with _|⟨_,_|⟨_,_|⟨_,_|⟨_,_|⟨_,_|⟨_,_|⟨_,_⟩⟩⟩⟩⟩⟩⟩<;>first|rfl|exact Nat.noConfusion hl|cases hl))
section
variable {P:Program}{w:World}{K:zcm2}{mg:Str->Option Value}{base h:Heap}{CX:CXT}{k:Nat}{x:Str}{ps:List Str}{sp:Sp}{st:Stmt}
theorem Ev.r(E:Ev P w K mg base h)(A:FA K x st)(ok:∀ {f:Addr}{fd:FuncData},Fun K x x st f fd->mg x=some (.ref f)->zct4 K (.ref f)=true->zag6 K fd ps []->FnOk P w K mg base CX k f fd ps sp)(b:∀ (kV doc pm:Value) (an:Option Addr) (cdv ct:Value) (us:List Value),us.length=ps.length->bindArgs (zcs1 x x (zl9 st) (zi8 st) (za6 st) .none kV doc pm an cdv ct) ⟨us,[]⟩=pure (ps.zip us):=by walk_at "bd"):Def P w K mg base CX k x ps sp:=by
 obtain⟨f,od,an,sl,oc,kV,dc,pm,cd,ct,a,l,c,k⟩:=A
 have F:=zap4 (st:=st) l c k
 have a:=zcr8 E.x E.g a
 exact⟨⟨_,_,ok F a k (F.binds b),a,k,F.binds b⟩⟩
theorem Ev.d(E:Ev P w K mg base h)(A:FA K x st)(ok:∀ {f:Addr}{fd:FuncData},Fun K x x st f fd->FnOk P w K mg base CX k f fd ps sp)(b:∀ (kV doc pm:Value) (an:Option Addr) (cdv ct:Value) (us:List Value),us.length=ps.length->bindArgs (zcs1 x x (zl9 st) (zi8 st) (za6 st) .none kV doc pm an cdv ct) ⟨us,[]⟩=pure (ps.zip us):=by walk_at "bd"):Def P w K mg base CX k x ps sp:=E.r A (fun F _ _ _=>ok F) b
theorem Ev.dc{c T:Addr}(E:Ev P w K mg base h)(A:FA K x st)(hT:zcv0 K x=some (c,T))(ok:∀ {f:Addr}{fd:FuncData},Fun K x x st f fd->fd.code=.ref c->FnOk P w K mg base CX k f fd ps sp)(b:∀ (kV doc pm:Value) (an:Option Addr) (cdv ct:Value) (us:List Value),us.length=ps.length->bindArgs (zcs1 x x (zl9 st) (zi8 st) (za6 st) .none kV doc pm an cdv ct) ⟨us,[]⟩=pure (ps.zip us):=by walk_at "bd"):Def P w K mg base CX k x ps sp:=by
 obtain⟨f,od,an,sl,oc,kV,dc,pm,cd,ct,a,l,c,k⟩:=A
 have F:=zap4 (st:=st) l c k
 have e:cd=.ref _:=zbq6 hT a l
 have a:=zcr8 E.x E.g a
 exact⟨⟨_,_,ok F e,a,k,F.binds b⟩⟩
end
theorem all_mk{l:PySem.W.OpenLaw}{w:World}{K:zcm2}{h:Heap}{mg:Str->Option Value}{fa:Addr}(X:K.In h)(G:h.Ns zcv9 mg)(hfa:mg "law"=some (.ref fa)){zch1:Tok}{zcg9:Tok}{zch0:Tok}{zcg4:Tok}{zcf8:Addr}{zcl1:ClassData}{zcf5:Addr}{zcl3:ClassData}{zcg1:Addr}{zcl7:ClassData}{zcf7:Addr}{zcl8:ClassData}{zcf4:Addr}{zcl4:ClassData}{nm_NoBattle qn_NoBattle:Str}{N_NoBattle:Addr}{bs_NoBattle:List Value}{sn_NoBattle:List Str}{sub_NoBattle:List Value}{ab_NoBattle:Bool}{col_NoBattle:Option Bool}{dd_NoBattle:Option Addr}{k0_NoBattle k1_NoBattle k2_NoBattle k3_NoBattle k5_NoBattle:Option Value}{zcg2:Addr}{iod_NoBattle ian_NoBattle:Option Addr}{isl_NoBattle:Array (Option Value)}{ioc_NoBattle ikV_NoBattle idc_NoBattle ipm_NoBattle icd_NoBattle ict_NoBattle:Value}{a_cod a_tab:Addr}(e_MOST_HOSTS_plans:zcp8 K zcv9 "MOST_HOSTS_plans"=some (some (.int 40 zch1)))(e_MOST_FIELDS_plans:zcp8 K zcv9 "MOST_FIELDS_plans"=some (some (.int 8 zcg9)))(e_MOST_HOSTS_fields:zcp8 K zcv9 "MOST_HOSTS_fields"=some (some (.int 10 zch0)))(e_MOST_FIELDS_fields:zcp8 K zcv9 "MOST_FIELDS_fields"=some (some (.int 5 zcg4)))(A_0:FA K "is_whole" zy0)(A_1:FA K "is_from" zad0)(A_2:FA K "is_between" zs1)(A_3:FA K "sends_hosts" zp9)(A_4:FA K "is_plan" zac1)(A_5:FA K "is_size" zae4)(A_6:FA K "is_part" zac3)(A_7:FA K "is_mix" zan3)(A_8:FA K "look_mix" zy1)(A_9:FA K "are_hosts" zu4)(A_10:FA K "has_size" zy5)(A_11:FA K "is_table_row" zn7)(A_12:FA K "is_table" zx9)(A_13:FA K "is_field" zy4)(A_14:FA K "look_battle" zp8)(A_15:FA K "look_plans" zr2)(A_16:FA K "won" s_won)(A_17:FA K "won_in_all" zr0)(A_18:FA K "gain" zbf7)(A_19:FA K "pay" s_pay)(A_20:FA K "is_flow" zaf1)(A_21:FA K "is_row" zal8)(A_22:FA K "begins" zaj5)(A_23:FA K "summed" zak5)(A_24:FA K "meets" zax4)(A_25:FA K "is_stream" zt9)(A_26:FA K "hosts_in" zx5)(A_27:FA K "is_any_stream" zm0)(A_28:FA K "look_stream" zp0)(A_29:FA K "whole_in" zz1)(A_30:FA K "row_of" zaj3)(A_31:FA K "stream_of" zt6)(A_32:FA K "sent_on" zae1)(A_33:FA K "taken_apart" zp4)(A_34:FA K "row_shares" zq9)(A_35:FA K "shares_of" zv1)(A_36:FA K "_law_mix" zx6)(A_37:FA K "_law_cell_at" zm7)(A_38:FA K "_law_left" zu0)(A_39:FA K "_law_draw" zt8)(A_40:FA K "_law_some" zu5)(A_41:FA K "_law_rule" zv2)(A_42:FA K "_law_battle" zp5)(A_43:FA K "_law_plan" zu6)(A_44:FA K "_law_own_mix" zn9)(A_45:FA K "_law_against" zn2)(A_46:FA K "_law_by_shares" zk4)(A_47:FA K "law" zaw5)(z_all:zcp8 K zcv9 "all"=some none)(z_bool:zcp8 K zcv9 "bool"=some none)(z_enumerate:zcp8 K zcv9 "enumerate"=some none)(z_int:zcp8 K zcv9 "int"=some none)(z_isinstance:zcp8 K zcv9 "isinstance"=some none)(z_len:zcp8 K zcv9 "len"=some none)(z_list:zcp8 K zcv9 "list"=some none)(z_min:zcp8 K zcv9 "min"=some none)(z_range:zcp8 K zcv9 "range"=some none)(z_sorted:zcp8 K zcv9 "sorted"=some none)(z_sum:zcp8 K zcv9 "sum"=some none)(z_tuple:zcp8 K zcv9 "tuple"=some none)(z_zip:zcp8 K zcv9 "zip"=some none)(e_HostError:zcp8 K zcv9 "HostError"=some (some (.ref zcf8)))(kk_HostError:zcs6 K zcf8=some zcl1)(tt_HostError:zcs3 K (.ref zcf8)=some (.type "type"))(nn_HostError:zco8 K (.type "NoneType") (.ref zcf8)=some false)(e_NoBattle:zcp8 K zcv9 "NoBattle"=some (some (.ref zcf5)))(kk_NoBattle:zcs6 K zcf5=some zcl3)(tt_NoBattle:zcs3 K (.ref zcf5)=some (.type "type"))(nn_NoBattle:zco8 K (.type "NoneType") (.ref zcf5)=some false)(e_NoPlan:zcp8 K zcv9 "NoPlan"=some (some (.ref zcg1)))(kk_NoPlan:zcs6 K zcg1=some zcl7)(tt_NoPlan:zcs3 K (.ref zcg1)=some (.type "type"))(nn_NoPlan:zco8 K (.type "NoneType") (.ref zcg1)=some false)(e_NoMix:zcp8 K zcv9 "NoMix"=some (some (.ref zcf7)))(kk_NoMix:zcs6 K zcf7=some zcl8)(tt_NoMix:zcs3 K (.ref zcf7)=some (.type "type"))(nn_NoMix:zco8 K (.type "NoneType") (.ref zcf7)=some false)(e_NoStream:zcp8 K zcv9 "NoStream"=some (some (.ref zcf4)))(kk_NoStream:zcs6 K zcf4=some zcl4)(tt_NoStream:zcs3 K (.ref zcf4)=some (.type "type"))(nn_NoStream:zco8 K (.type "NoneType") (.ref zcf4)=some false)(bb_HostError:zco8 K (.ref zcf8) (.type "BaseException")=some true)(x_HostError:PySem.W.excIn K zcf8 bmV newV=true)(ob_NoBattle:K.lookup zcf5=some (excClassObj nm_NoBattle qn_NoBattle zcf5 N_NoBattle bs_NoBattle (.ref zcf8 :: bmV) true sn_NoBattle sub_NoBattle ab_NoBattle col_NoBattle dd_NoBattle k0_NoBattle k1_NoBattle k2_NoBattle k3_NoBattle k5_NoBattle newV))(in_NoBattle:zcp0 K (.ref zcf5) "__init__"=some (some (.ref zcg2)))(ty_NoBattle:zcs3 K (.ref zcg2)=some (.type "function"))(sa_NoBattle:zcp0 K (.ref zcf5) "__setattr__"=some (some (.builtin "object.__setattr__")))(nf_NoBattle:zcp0 K (.ref zcf5) "field"=some none)(hd_NoBattle:PySem.W.hasDictIn K zcf5=true)(li_NoBattle:K.lookup zcg2=some ⟨ioc_NoBattle,iod_NoBattle,.func (zcs1 "__init__" "NoBattle.__init__" (zl9 zi1) (zi8 zi1) (za6 zi1) .none ikV_NoBattle idc_NoBattle ipm_NoBattle ian_NoBattle icd_NoBattle ict_NoBattle),isl_NoBattle⟩)(ci_NoBattle:zcv1 K icd_NoBattle "NoBattle.__init__"=true)(ki_NoBattle:zct4 K (.ref zcg2)=true)(f1_NoBattle:zcp0 K (.ref zcf5) "__getattribute__"=some (some (.builtin "BaseException.__getattribute__")))(f2_NoBattle:zcp0 K (.ref zcf5) "__getattr__"=some none)(f3_NoBattle:zcp0 K (.ref zcf5) "__class__"=some (some (.builtin "object.__class__")))(f4_NoBattle:zco8 K (.ref zcf5) (.type "BaseException")=some true)(f5_NoBattle:PySem.W.mroIn K zcf5 (.type "object")=some true)(f6_NoBattle:zco8 K (.ref zcf5) (.type "ValueError")=some true)(s_NoBattle_HostError:zco8 K (.ref zcf5) (.ref zcf8)=some true)(s_NoBattle_NoBattle:zco8 K (.ref zcf5) (.ref zcf5)=some true)(s_NoBattle_NoPlan:zco8 K (.ref zcf5) (.ref zcg1)=some false)(s_NoBattle_NoMix:zco8 K (.ref zcf5) (.ref zcf7)=some false)(s_NoBattle_NoStream:zco8 K (.ref zcf5) (.ref zcf4)=some false)(x_NoMix:PySem.W.excIn K zcf7 bmV newV=true)(f1_NoMix:zcp0 K (.ref zcf7) "__getattribute__"=some (some (.builtin "BaseException.__getattribute__")))(f2_NoMix:zcp0 K (.ref zcf7) "__getattr__"=some none)(f3_NoMix:zcp0 K (.ref zcf7) "__class__"=some (some (.builtin "object.__class__")))(f4_NoMix:zco8 K (.ref zcf7) (.type "BaseException")=some true)(f5_NoMix:PySem.W.mroIn K zcf7 (.type "object")=some true)(f6_NoMix:zco8 K (.ref zcf7) (.type "ValueError")=some true)(s_NoMix_HostError:zco8 K (.ref zcf7) (.ref zcf8)=some true)(s_NoMix_NoBattle:zco8 K (.ref zcf7) (.ref zcf5)=some false)(s_NoMix_NoPlan:zco8 K (.ref zcf7) (.ref zcg1)=some false)(s_NoMix_NoMix:zco8 K (.ref zcf7) (.ref zcf7)=some true)(s_NoMix_NoStream:zco8 K (.ref zcf7) (.ref zcf4)=some false)(x_NoStream:PySem.W.excIn K zcf4 bmV newV=true)(f1_NoStream:zcp0 K (.ref zcf4) "__getattribute__"=some (some (.builtin "BaseException.__getattribute__")))(f2_NoStream:zcp0 K (.ref zcf4) "__getattr__"=some none)(f3_NoStream:zcp0 K (.ref zcf4) "__class__"=some (some (.builtin "object.__class__")))(f4_NoStream:zco8 K (.ref zcf4) (.type "BaseException")=some true)(f5_NoStream:PySem.W.mroIn K zcf4 (.type "object")=some true)(f6_NoStream:zco8 K (.ref zcf4) (.type "ValueError")=some true)(s_NoStream_HostError:zco8 K (.ref zcf4) (.ref zcf8)=some true)(s_NoStream_NoBattle:zco8 K (.ref zcf4) (.ref zcf5)=some false)(s_NoStream_NoPlan:zco8 K (.ref zcf4) (.ref zcg1)=some false)(s_NoStream_NoMix:zco8 K (.ref zcf4) (.ref zcf7)=some false)(s_NoStream_NoStream:zco8 K (.ref zcf4) (.ref zcf4)=some true)(hTAB:zcv0 K "taken_apart"=some (a_cod,a_tab)) :
  ∃ (c T:Addr) (fd:FuncData),zcv0 K "taken_apart"=some (c,T)/\(∀ (s:Shared) (v:Value),BindsTo s fd ⟨[v],[]⟩ [("_law_script",v)])/\∀ base:Heap,K.In base->base.Ns zcv9 mg->PySem.W.CodeHd base c T->Bm mg base->FnOk l.prog w K mg base CX0 12 fa fd ["_law_script"] (zbb3 K T):=by
 obtain⟨_,_,an,_,_,kV,dc,pm,cd,ct,aL,lL,cL,kL⟩:=A_47
 have e:=hfa.symm.trans (zcr8 X G aL)
 cases e
 have N:Nm mg:=⟨zcq2 X G z_all,zcq2 X G z_bool,zcq2 X G z_enumerate,zcq2 X G z_int,zcq2 X G z_isinstance,zcq2 X G z_len,zcq2 X G z_list,zcq2 X G z_min,zcq2 X G z_range,zcq2 X G z_sorted,zcq2 X G z_sum,zcq2 X G z_tuple,zcq2 X G z_zip⟩
 have zck0:=zcr8 X G e_MOST_HOSTS_plans
 have zcj8:=zcr8 X G e_MOST_FIELDS_plans
 have zcj9:=zcr8 X G e_MOST_HOSTS_fields
 have zci9:=zcr8 X G e_MOST_FIELDS_fields
 refine⟨a_cod,a_tab,zcs1 "law" "law" (zl9 zaw5) (zi8 zaw5) (za6 zaw5) .none kV dc pm an cd ct,hTAB,fun s v=>.of_eq rfl,fun base XB GB hCH hBM=>?_⟩
 have E:Ev l.prog w K mg base h:=⟨X,G⟩
 have Z:Cz K mg base zcf8 zcf5 zcg1 zcf7 zcf4 zcg2:=⟨zcr8 X G e_HostError,zcr8 X G e_NoBattle,zcr8 X G e_NoPlan,zcr8 X G e_NoMix,zcr8 X G e_NoStream,⟨⟨_,_,_,_,_,_,_,_,_,_,_,_,_,_,ob_NoBattle⟩,fun h X=>zbg5 X x_HostError,in_NoBattle,ty_NoBattle,sa_NoBattle,nf_NoBattle⟩,⟨_,zap4 (st:=zi1) li_NoBattle ci_NoBattle ki_NoBattle,(zap4 (st:=zi1) li_NoBattle ci_NoBattle ki_NoBattle).binds fun _ _ _ _ _ _ us hl=>match us,hl with | [_,_],_=>rfl⟩,hd_NoBattle,⟨f1_NoBattle,f2_NoBattle,f3_NoBattle,f4_NoBattle,f5_NoBattle⟩,by rw[kk_NoBattle];rfl,zau6 bb_HostError kk_HostError tt_HostError s_NoBattle_HostError,zn5 f6_NoBattle,zh2 kk_HostError tt_HostError s_NoBattle_HostError s_NoBattle_NoBattle,zh2 kk_NoBattle tt_NoBattle s_NoBattle_NoBattle s_NoBattle_NoBattle,zh2 kk_NoPlan tt_NoPlan s_NoBattle_NoPlan s_NoBattle_NoBattle,zh2 kk_NoMix tt_NoMix s_NoBattle_NoMix s_NoBattle_NoBattle,zh2 kk_NoStream tt_NoStream s_NoBattle_NoStream s_NoBattle_NoBattle,zaz2 XB GB e_NoMix x_NoMix,⟨f1_NoMix,f2_NoMix,f3_NoMix,f4_NoMix,f5_NoMix⟩,by rw[kk_NoMix];rfl,zau6 bb_HostError kk_HostError tt_HostError s_NoMix_HostError,zn5 f6_NoMix,zh2 kk_HostError tt_HostError s_NoMix_HostError s_NoMix_NoMix,zh2 kk_NoBattle tt_NoBattle s_NoMix_NoBattle s_NoMix_NoMix,zh2 kk_NoPlan tt_NoPlan s_NoMix_NoPlan s_NoMix_NoMix,zh2 kk_NoMix tt_NoMix s_NoMix_NoMix s_NoMix_NoMix,zh2 kk_NoStream tt_NoStream s_NoMix_NoStream s_NoMix_NoMix,zaz2 XB GB e_NoStream x_NoStream,⟨f1_NoStream,f2_NoStream,f3_NoStream,f4_NoStream,f5_NoStream⟩,by rw[kk_NoStream];rfl,zau6 bb_HostError kk_HostError tt_HostError s_NoStream_HostError,zn5 f6_NoStream,zh2 kk_HostError tt_HostError s_NoStream_HostError s_NoStream_NoStream,zh2 kk_NoBattle tt_NoBattle s_NoStream_NoBattle s_NoStream_NoStream,zh2 kk_NoPlan tt_NoPlan s_NoStream_NoPlan s_NoStream_NoStream,zh2 kk_NoMix tt_NoMix s_NoStream_NoMix s_NoStream_NoStream,zh2 kk_NoStream tt_NoStream s_NoStream_NoStream s_NoStream_NoStream,zw0 kk_HostError tt_HostError nn_HostError,zw0 kk_NoBattle tt_NoBattle nn_NoBattle,zw0 kk_NoPlan tt_NoPlan nn_NoPlan,zw0 kk_NoMix tt_NoMix nn_NoMix,zw0 kk_NoStream tt_NoStream nn_NoStream⟩
 have zcg5:=E.d A_0 fun F=>zau5 F N
 have zcg0:=E.d A_1 fun F=>zbd9 F N zcg5
 have zcf9:=E.d A_2 fun F=>zam7 F N zcg0
 have zcg6:=E.d A_3 fun F=>zah4 F N zcg0
 have zch6:=E.d A_4 fun F=>zbb8 F N zcg6
 have zci0:=E.d A_5 fun F=>zbd2 F N zcj8 zck0 zcf9
 have zck6:=E.d A_6 fun F=>zbe7 F N zcg0 zcg6
 have zck9:=E.d A_7 fun F=>zbk2 F N zck6 zch6 zci0
 have zck1:=E.d A_8 fun F=>zax3 F N zck9 Z
 have zcj1:=E.d A_9 fun F=>zat2 F N zcj9 zcf9
 have zck4:=E.d A_10 fun F=>zav6 F N zci9 zcj1
 have zch8:=E.d A_11 fun F=>zag0 F N zcg5
 have zck3:=E.d A_12 fun F=>zax1 F N zch8
 have zck5:=E.d A_13 fun F=>zau2 F N zcf9 zcg0 zck3 zcg5
 have zcg8:=E.d A_14 fun F=>zah1 F N zck4 zck5 Z
 have zci4:=E.d A_15 fun F=>zak0 F N zch6 Z
 have zcl6:=E.d A_16 fun F=>ok_won F N
 have zci5:=E.d A_17 fun F=>zak6 F N zcl6
 have zcl5:=E.d A_18 fun F=>zcc4 F N zcg8 zci4 zci5
 have D_pay:=E.d A_19 fun F=>ok_pay F N zcf9 zcg8 zcl6 Z
 have zck7:=E.d A_20 fun F=>zbc8 F N zcf9 zcg0
 have zci6:=E.d A_21 fun F=>zbk7 F N zck7
 have zci7:=E.d A_22 fun F=>zbi8 F N zci6
 have zch2:=E.d A_23 fun F=>zbh4 F N
 have zcl2:=E.d A_24 fun F=>zbs6 F N zch2
 have zcj0:=E.d A_25 fun F=>zap6 F N zci7 zci6 zcl2
 have zcg3:=E.d A_26 fun F=>zax6 F N
 have zch7:=E.d A_27 fun F=>zaa4 F N zci7 zcg3 zci0 zcj0
 have zcg7:=E.d A_28 fun F=>zah7 F N zch7 Z
 have zck2:=E.d A_29 fun F=>zaw4 F N
 have zcl0:=E.d A_30 fun F=>zbi2 F N zch2
 have zcj7:=E.d A_31 fun F=>zat1 F N zck1 zcl0
 have zck8:=E.d A_32 fun F=>zbd4 F N
 have zci2:=E.dc A_33 hTAB fun F hc=>zah5 F N hc hCH hBM zcg3 zcg7 zck8 zck2
 have zci3:=E.d A_34 fun F=>zam6 F N zch2
 have zcj6:=E.d A_35 fun F=>zat3 F N zcg3 zcg7 zci3
 have zci8:=E.d A_36 fun F=>zax5 F N
 have zch9:=E.d A_37 fun F=>zad4 F N
 have zcj5:=E.d A_38 fun F=>zat4 F N zch9
 have zcf6:=E.d A_39 fun F=>zas0 F N zci8
 have zcj2:=E.d A_40 fun F=>zao2 F N zcf6
 have zcj3:=E.d A_41 fun F=>zap8 F N zcf6 zcj2
 have zci1:=E.d A_42 fun F=>zag8 F N zcf6 zcj3
 have zcj4:=E.d A_43 fun F=>zar4 F N zcf6
 have zch4:=E.d A_44 fun F=>zad8 F N zcf6 zcj4
 have zch3:=E.d A_45 fun F=>zac8 F N zcl5
 have zch5:=E.d A_46 fun F=>zz2 F N D_pay
 exact ok_law (P:=l.prog) (w:=w) (base:=base) (zap4 (st:=zaw5) lL cL kL) N zch3 zci1 zch5 zcf6 zcj5 zch4 zcj6 zcj7 zci2
theorem walk{l:PySem.W.OpenLaw}{q:Program}{loose:List Str}{XP:(Str->Option Value)->Heap->Prop}{YP:World->Heap->Prop}{d:DefRec}{K:Params->zcm2}(hn:l.most=some 63)(hdf:d.params.defaults=[])(hY:∀ (w:World) (h:Heap),YP w h->(K w.params).In h){d9:DefRec}(hnt:∀ w:World,PySem.W.noTabs (K w.params)=true)(hrec:(PyProof.Rows.recsOf q).find? (fun e=>e.name==Str.ofString "taken_apart")=some d9)(F:∀ (w:World) (mg:Str->Option Value) (fa:Addr) (h:Heap),(K w.params).In h->h.Ns zcv9 mg->mg d.name=some (.ref fa) ->
   ∃ (c T:Addr) (fd:FuncData),zcv0 (K w.params) (Str.ofString "taken_apart")=some (c,T)/\(∀ (s:Shared) (u:Value),BindsTo s fd ⟨[u],[]⟩ [("_law_script",u)])/\∀ base:Heap,(K w.params).In base->base.Ns zcv9 mg->PySem.W.CodeHd base c T->Bm mg base->FnOk l.prog w (K w.params) mg base CX0 12 fa fd ["_law_script"] (zbb3 (K w.params) T)) :
  PySem.W.WalkO q loose XP YP l.row.toRowW d [] (fun f vs=>PySem.call f vs):=
 L2.walk_ofT (n:=63) (k:=12) (x:="_law_script") (CX:=fun _=>CX0) (sp:=fun w T=>zbb3 (K w.params) T) hn (by decide) hdf ⟨rfl,by decide,by decide,rfl⟩ hY "taken_apart" hnt hrec F (fun _ _ _ a ns hl hT hS=>⟨a,ns,rfl,hS,hl,hT,fun _=>rfl⟩) fun _ _ _ _ _ z=>z
end G
namespace PySem.W.Fast
theorem tw15115480801949199995:True:=⟨⟩
theorem tw13051634991181006251:True:=⟨⟩
theorem tw3899730303729536427:True:=⟨⟩
theorem tw2603013649220708142:True:=⟨⟩
theorem tw17666258617892107744:True:=⟨⟩
theorem tw16432116675373868335:True:=⟨⟩
theorem tw4342670305870931790:True:=⟨⟩
theorem tw17481275904054498097:True:=⟨⟩
theorem tw8173738513101930529:True:=⟨⟩
theorem tw2878623001301349888:True:=⟨⟩
theorem tw1563589929386143281:True:=⟨⟩
theorem tw1549650556307675649:True:=⟨⟩
theorem tw13749103137864966341:True:=⟨⟩
theorem tw3085946362826566583:True:=⟨⟩
theorem tw1343040957341601900:True:=⟨⟩
theorem tw1366513413396523018:True:=⟨⟩
theorem tw10293081590343862574:True:=⟨⟩
theorem tw9330663636947476151:True:=⟨⟩
theorem tw13172231059731476290:True:=⟨⟩
theorem tw13518267414802236245:True:=⟨⟩
theorem tw7801401755489459456:True:=⟨⟩
theorem tw16452922444638010995:True:=⟨⟩
theorem tw3809901306125629369:True:=⟨⟩
theorem tw5510054897086207693:True:=⟨⟩
theorem tw926911770840536024:True:=⟨⟩
theorem tw10745652575444994192:True:=⟨⟩
theorem tw17699823395974497352:True:=⟨⟩
theorem tw1917914531362021857:True:=⟨⟩
theorem tw5971293445468202183:True:=⟨⟩
theorem tw14633550223453855361:True:=⟨⟩
theorem tw15800273474790241864:True:=⟨⟩
theorem tw2537614227697124240:True:=⟨⟩
theorem tw16373878402277458322:True:=⟨⟩
theorem tw7850137557408756311:True:=⟨⟩
theorem tw2018633931091478062:True:=⟨⟩
theorem tw5676656740127083986:True:=⟨⟩
theorem tw9503450520296163538:True:=⟨⟩
theorem tw10838574546813623997:True:=⟨⟩
theorem tw14564270373578460054:True:=⟨⟩
theorem tw4687415643016189887:True:=⟨⟩
theorem tw14459315043264196287:True:=⟨⟩
theorem tw10929083761123354313:True:=⟨⟩
theorem tw1304444771188064523:True:=⟨⟩
theorem tw6745161906262443036:True:=⟨⟩
theorem tw8634077739706300074:True:=⟨⟩
theorem tw18303894302309888940:True:=⟨⟩
theorem tw5924142808229374768:True:=⟨⟩
theorem tw11248373443145831403:True:=⟨⟩
theorem tw5087638758862300422:True:=⟨⟩
theorem tw851487303051665891:True:=⟨⟩
theorem tw15083912719391486581:True:=⟨⟩
theorem tw6020494555326275888:True:=⟨⟩
theorem tw283950236273576450:True:=⟨⟩
theorem tw3450897389736952332:True:=⟨⟩
theorem tw17177232530445947299:True:=⟨⟩
theorem tw15501350639660508716:True:=⟨⟩
theorem tw11726084011120075844:True:=⟨⟩
theorem tw16135089005948929208:True:=⟨⟩
theorem tw16897769799004530585:True:=⟨⟩
theorem tw6320494074183969966:True:=⟨⟩
theorem tw14074402495059592570:True:=⟨⟩
theorem tw659758762850290391:True:=⟨⟩
theorem tw13145598259871511322:True:=⟨⟩
theorem tw9320698324215913651:True:=⟨⟩
theorem tw1225432697976348950:True:=⟨⟩
theorem tw3424323269581848314:True:=⟨⟩
theorem tw2732043175812767495:True:=⟨⟩
theorem tw10851872390074879766:True:=⟨⟩
theorem tw6906097149861903852:True:=⟨⟩
theorem tw12247219119499561911:True:=⟨⟩
theorem tw15937144526075579068:True:=⟨⟩
theorem tw1478975869028005233:True:=⟨⟩
theorem tw5876562068360559942:True:=⟨⟩
theorem tw11792271300982050539:True:=⟨⟩
theorem tw1756624766456390416:True:=⟨⟩
theorem tw9037247631261978756:True:=⟨⟩
theorem tw12155464005386665666:True:=⟨⟩
theorem tw5025668054738844506:True:=⟨⟩
theorem tw14430455795109005510:True:=⟨⟩
theorem tw18375019852080372104:True:=⟨⟩
theorem tw2779072570957773182:True:=⟨⟩
theorem tw2840615309135774967:True:=⟨⟩
theorem tw896074936251452865:True:=⟨⟩
theorem tw16792506968687883402:True:=⟨⟩
theorem tw12942467100320677590:True:=⟨⟩
theorem tw15349401344593212104:True:=⟨⟩
theorem tw1338760486508614349:True:=⟨⟩
theorem tw13657053364687607273:True:=⟨⟩
theorem tw9511655813492526416:True:=⟨⟩
theorem tw8154307498511018219:True:=⟨⟩
theorem tw17488317375111543660:True:=⟨⟩
theorem tw9340782517354105856:True:=⟨⟩
theorem tw14864154650895608016:True:=⟨⟩
theorem tw3792649747016394516:True:=⟨⟩
theorem tw5268946842465967870:True:=⟨⟩
theorem tw16168481266749734409:True:=⟨⟩
theorem tw7835580084507410553:True:=⟨⟩
theorem tw9667727025214909287:True:=⟨⟩
theorem tw7227846977897285702:True:=⟨⟩
theorem tw12009693409074617825:True:=⟨⟩
theorem tw17062310360885650045:True:=⟨⟩
theorem tw12506780665279866115:True:=⟨⟩
theorem tw1690005009653481568:True:=⟨⟩
theorem tw3692495693546717399:True:=⟨⟩
theorem tw4185322933478072290:True:=⟨⟩
theorem tw12858631076675908375:True:=⟨⟩
theorem tw11002399078988815047:True:=⟨⟩
theorem tw6955219028399743423:True:=⟨⟩
theorem tw15054350942713088454:True:=⟨⟩
theorem tw14283503705398981541:True:=⟨⟩
theorem tw12478088940831706799:True:=⟨⟩
theorem tw8666235142096180856:True:=⟨⟩
theorem tw14358624932573646445:True:=⟨⟩
theorem tw18118380062617966423:True:=⟨⟩
theorem tw5945779138091574118:True:=⟨⟩
theorem tw9552681884290491991:True:=⟨⟩
theorem tw15237913189907241352:True:=⟨⟩
theorem tw793708238346413183:True:=⟨⟩
theorem tw3917477426076883439:True:=⟨⟩
theorem tw13242137584528325932:True:=⟨⟩
theorem tw18014485951504991114:True:=⟨⟩
theorem tw9515257314576674093:True:=⟨⟩
theorem tw10461367679464329564:True:=⟨⟩
theorem tw14248400969427532336:True:=⟨⟩
theorem tw11977758979907786071:True:=⟨⟩
theorem tw3616168115282542027:True:=⟨⟩
theorem tw15266524500151226113:True:=⟨⟩
theorem tw12931540628134087582:True:=⟨⟩
theorem tw2473980145577909013:True:=⟨⟩
theorem tw1372045394617644965:True:=⟨⟩
theorem tw18084853984418367253:True:=⟨⟩
theorem tw3904215482362183686:True:=⟨⟩
theorem tw291585589637626854:True:=⟨⟩
theorem tw16557095799344319432:True:=⟨⟩
theorem tw9323012980421303173:True:=⟨⟩
theorem tw5810836432594873986:True:=⟨⟩
theorem tw16812984642420731295:True:=⟨⟩
theorem tw6767291096201196279:True:=⟨⟩
theorem tw4790618644407256301:True:=⟨⟩
theorem tw338073437198722966:True:=⟨⟩
theorem tw5771245260819528349:True:=⟨⟩
theorem tw1102103347239576077:True:=⟨⟩
theorem tw2193484772163690135:True:=⟨⟩
theorem tw14658227245470763098:True:=⟨⟩
theorem tw7545302176727793969:True:=⟨⟩
theorem tw16885802953729909421:True:=⟨⟩
theorem tw14985271698747903163:True:=⟨⟩
theorem tw4440110725845163796:True:=⟨⟩
theorem tw13187489184850408689:True:=⟨⟩
theorem tw14075475073964467342:True:=⟨⟩
theorem tw16490442281731438880:True:=⟨⟩
theorem tw99737841386757053:True:=⟨⟩
theorem tw2863748768728005571:True:=⟨⟩
theorem tw9357041123032683511:True:=⟨⟩
theorem tw1020093559105344694:True:=⟨⟩
theorem tw6160593550224633839:True:=⟨⟩
theorem tw1728322101631941458:True:=⟨⟩
theorem tw11948721530526335087:True:=⟨⟩
theorem tw16119987733244123371:True:=⟨⟩
theorem tw14263903485645514591:True:=⟨⟩
theorem tw5767593206804591265:True:=⟨⟩
theorem tw14687132754451830746:True:=⟨⟩
theorem tw15296025691944279371:True:=⟨⟩
theorem tw2777425426450899285:True:=⟨⟩
theorem tw3126725199957204245:True:=⟨⟩
theorem tw5724755262173112107:True:=⟨⟩
theorem tw10981754775575112565:True:=⟨⟩
theorem tw2808811710475387133:True:=⟨⟩
theorem tw11695487276382328696:True:=⟨⟩
theorem tw6911545665746490900:True:=⟨⟩
theorem tw4199737391006249379:True:=⟨⟩
theorem tw11506835841374096087:True:=⟨⟩
theorem tw14678576802046907243:True:=⟨⟩
theorem tw11334068115603904353:True:=⟨⟩
theorem tw7623434703314863332:True:=⟨⟩
theorem tw18044658954703167138:True:=⟨⟩
theorem tw14145590202064090434:True:=⟨⟩
theorem tw10390425870518144359:True:=⟨⟩
theorem tw6116584573241648882:True:=⟨⟩
theorem tw4042117204051819573:True:=⟨⟩
theorem tw8676087007121509623:True:=⟨⟩
theorem tw256016759355652908:True:=⟨⟩
theorem tw17411092835056009732:True:=⟨⟩
theorem tw4485251486286126952:True:=⟨⟩
theorem tw11076357203332364393:True:=⟨⟩
theorem tw124551152886667316:True:=⟨⟩
theorem tw8108462130531756113:True:=⟨⟩
theorem tw11942853558520741606:True:=⟨⟩
theorem tw16075247069588856276:True:=⟨⟩
theorem tw16777857340157964245:True:=⟨⟩
theorem tw9533254831268663233:True:=⟨⟩
theorem tw16497872550844787936:True:=⟨⟩
theorem tw2575510670927978439:True:=⟨⟩
theorem tw15957069857507451803:True:=⟨⟩
theorem tw12789274711511771495:True:=⟨⟩
theorem tw10487805308876064476:True:=⟨⟩
theorem tw13677246929809903625:True:=⟨⟩
theorem tw7459724961161033533:True:=⟨⟩
theorem tw9156433714347437410:True:=⟨⟩
theorem tw6398846565255853456:True:=⟨⟩
theorem tw7997395248787582201:True:=⟨⟩
theorem tw6039751424542770004:True:=⟨⟩
theorem tw5698096618665518687:True:=⟨⟩
theorem tw5799392038624584417:True:=⟨⟩
theorem tw16557014482789995724:True:=⟨⟩
theorem tw11326311024246546246:True:=⟨⟩
theorem tw13345309431649879409:True:=⟨⟩
theorem tw235896750077770469:True:=⟨⟩
theorem tw7918372359393663194:True:=⟨⟩
theorem tw13253436369169992182:True:=⟨⟩
theorem tw11780437819955491990:True:=⟨⟩
theorem tw238557343064376477:True:=⟨⟩
theorem tw2429436070930999363:True:=⟨⟩
theorem tw3509648225126433755:True:=⟨⟩
theorem tw1142489224955933986:True:=⟨⟩
theorem tw9055588653557791625:True:=⟨⟩
theorem tw13598536029973014993:True:=⟨⟩
theorem tw1104774857877129618:True:=⟨⟩
theorem tw11485368481219881294:True:=⟨⟩
theorem tw13089811394595185360:True:=⟨⟩
theorem tw4410070604867474121:True:=⟨⟩
theorem tw408329703234012860:True:=⟨⟩
theorem tw13091960118692404721:True:=⟨⟩
theorem tw6573823752516262646:True:=⟨⟩
theorem tw12626994684685041515:True:=⟨⟩
theorem tw3614047053056526184:True:=⟨⟩
theorem tw159273762577732486:True:=⟨⟩
theorem tw4103063818366846431:True:=⟨⟩
theorem tw14451541635222584000:True:=⟨⟩
theorem tw15676790161734138663:True:=⟨⟩
end PySem.W.Fast
open PySem PySem.W PyProof.Rows
set_option maxRecDepth 100000 in
theorem PySem.Challenge.cw_hostfields_k23_whole_shares_alone_count_holds : PySem.Challenge.rw_hostfields_k23_whole_shares_alone_count.Holds := by
 w_on;o_law;k_head;(case hw=>w_witness2)
 k_fill
 first|refine' G.walk (l:=PySem.Challenge.rw_hostfields_k23_whole_shares_alone_count) rfl rfl (fun w h Y=>PySem.W.kIn_of Y) ?hnt ?hrec ?F|refine' G.walk (l:=PySem.Challenge.rw_hostfields_k23_whole_shares_alone_count) rfl rfl (fun w h Y=>PySem.W.km_in_of Y) ?hnt ?hrec ?F
 (case hnt=>intro w;kernel_rfl)
 (case hrec=>rfl)
 case F=>
  intro w mg fa h KX GG hmg
  refine' G.all_mk (a_cod:=219) (a_tab:=215) KX GG hmg ?e_MOST_HOSTS_plans ?e_MOST_FIELDS_plans ?e_MOST_HOSTS_fields ?e_MOST_FIELDS_fields ?_ ?_ ?_ ?_ ?_ ?_ ?_ ?_ ?_ ?_ ?_ ?_ ?_ ?_ ?_ ?_ ?_ ?_ ?_ ?_ ?_ ?_ ?_ ?_ ?_ ?_ ?_ ?_ ?_ ?_ ?_ ?_ ?_ ?_ ?_ ?_ ?_ ?_ ?_ ?_ ?_ ?_ ?_ ?_ ?_ ?_ ?_ ?_ ?z_all ?z_bool ?z_enumerate ?z_int ?z_isinstance ?z_len ?z_list ?z_min ?z_range ?z_sorted ?z_sum ?z_tuple ?z_zip ?e_HostError ?kk_HostError ?tt_HostError ?nn_HostError ?e_NoBattle ?kk_NoBattle ?tt_NoBattle ?nn_NoBattle ?e_NoPlan ?kk_NoPlan ?tt_NoPlan ?nn_NoPlan ?e_NoMix ?kk_NoMix ?tt_NoMix ?nn_NoMix ?e_NoStream ?kk_NoStream ?tt_NoStream ?nn_NoStream ?bb_HostError ?x_HostError ?ob_NoBattle ?in_NoBattle ?ty_NoBattle ?sa_NoBattle ?nf_NoBattle ?hd_NoBattle ?li_NoBattle ?ci_NoBattle ?ki_NoBattle ?f1_NoBattle ?f2_NoBattle ?f3_NoBattle ?f4_NoBattle ?f5_NoBattle ?f6_NoBattle ?s_NoBattle_HostError ?s_NoBattle_NoBattle ?s_NoBattle_NoPlan ?s_NoBattle_NoMix ?s_NoBattle_NoStream ?x_NoMix ?f1_NoMix ?f2_NoMix ?f3_NoMix ?f4_NoMix ?f5_NoMix ?f6_NoMix ?s_NoMix_HostError ?s_NoMix_NoBattle ?s_NoMix_NoPlan ?s_NoMix_NoMix ?s_NoMix_NoStream ?x_NoStream ?f1_NoStream ?f2_NoStream ?f3_NoStream ?f4_NoStream ?f5_NoStream ?f6_NoStream ?s_NoStream_HostError ?s_NoStream_NoBattle ?s_NoStream_NoPlan ?s_NoStream_NoMix ?s_NoStream_NoStream ?hTAB
  (case e_MOST_HOSTS_plans=>k_is)
  (case e_MOST_FIELDS_plans=>k_is)
  (case e_MOST_HOSTS_fields=>k_is)
  (case e_MOST_FIELDS_fields=>k_is)
  (case z_all=>k_is)
  (case z_bool=>k_is)
  (case z_enumerate=>k_is)
  (case z_int=>k_is)
  (case z_isinstance=>k_is)
  (case z_len=>k_is)
  (case z_list=>k_is)
  (case z_min=>k_is)
  (case z_range=>k_is)
  (case z_sorted=>k_is)
  (case z_sum=>k_is)
  (case z_tuple=>k_is)
  (case z_zip=>k_is)
  (case e_HostError=>k_is)
  (case kk_HostError=>k_is)
  (case tt_HostError=>k_is)
  (case nn_HostError=>k_is)
  (case e_NoBattle=>k_is)
  (case kk_NoBattle=>k_is)
  (case tt_NoBattle=>k_is)
  (case nn_NoBattle=>k_is)
  (case e_NoPlan=>k_is)
  (case kk_NoPlan=>k_is)
  (case tt_NoPlan=>k_is)
  (case nn_NoPlan=>k_is)
  (case e_NoMix=>k_is)
  (case kk_NoMix=>k_is)
  (case tt_NoMix=>k_is)
  (case nn_NoMix=>k_is)
  (case e_NoStream=>k_is)
  (case kk_NoStream=>k_is)
  (case tt_NoStream=>k_is)
  (case nn_NoStream=>k_is)
  (case bb_HostError=>k_is)
  (case x_HostError=>k_exc)
  (case ob_NoBattle=>k_is)
  (case in_NoBattle=>k_is)
  (case ty_NoBattle=>k_is)
  (case sa_NoBattle=>k_is)
  (case nf_NoBattle=>k_is)
  (case hd_NoBattle=>k_is)
  (case li_NoBattle=>k_is)
  (case ci_NoBattle=>k_is)
  (case ki_NoBattle=>k_is)
  (case f1_NoBattle=>k_is)
  (case f2_NoBattle=>k_is)
  (case f3_NoBattle=>k_is)
  (case f4_NoBattle=>k_is)
  (case f5_NoBattle=>k_is)
  (case f6_NoBattle=>k_is)
  (case s_NoBattle_HostError=>k_is)
  (case s_NoBattle_NoBattle=>k_is)
  (case s_NoBattle_NoPlan=>k_is)
  (case s_NoBattle_NoMix=>k_is)
  (case s_NoBattle_NoStream=>k_is)
  (case x_NoMix=>k_exc)
  (case f1_NoMix=>k_is)
  (case f2_NoMix=>k_is)
  (case f3_NoMix=>k_is)
  (case f4_NoMix=>k_is)
  (case f5_NoMix=>k_is)
  (case f6_NoMix=>k_is)
  (case s_NoMix_HostError=>k_is)
  (case s_NoMix_NoBattle=>k_is)
  (case s_NoMix_NoPlan=>k_is)
  (case s_NoMix_NoMix=>k_is)
  (case s_NoMix_NoStream=>k_is)
  (case x_NoStream=>k_exc)
  (case f1_NoStream=>k_is)
  (case f2_NoStream=>k_is)
  (case f3_NoStream=>k_is)
  (case f4_NoStream=>k_is)
  (case f5_NoStream=>k_is)
  (case f6_NoStream=>k_is)
  (case s_NoStream_HostError=>k_is)
  (case s_NoStream_NoBattle=>k_is)
  (case s_NoStream_NoPlan=>k_is)
  (case s_NoStream_NoMix=>k_is)
  (case s_NoStream_NoStream=>k_is)
  (case hTAB=>kernel_rfl)
  all_goals (apply G.FA.of;k_is;k_is;k_is;k_is)
