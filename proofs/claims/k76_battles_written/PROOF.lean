import PyProof.Rows.All
import Wide.All
import OpenK.AllK
import Wide.FinOn
import Lean
import PyProof.EqAt
import PyProof.EqKinds
import PyProof.TupleCall
import PyProof.NeKinds
import PyProof.CompFree
import PyProof.EnumMake
import KE.KTryMore
import PyProof.ExcArgsOwn
import PyProof.ZipIter
import PyProof.ListRange
import KE.KIsAll
import PyProof.InstStoreFacts
import PyProof.ExcInit
import PyProof.ReprRoads
import PyProof.CallStr
import KE.KEqDict
import PyProof.EqLayable
import KE.KRevIter
import PyProof.CollectIter
import PyProof.Rows.SetFrom
import PyProof.TupleKey
import PyProof.SetScanFacts
import KE.KSortKey
import PyProof.StrLawsRepr
import PySem.Challenge.RW_hostfields_k76_battles_written
open List renaming length_map->zcd9,getElem?_eq_getElem->zce0,getElem?_eq_some_iff->zce2,getElem?_map->zce3,size_toArray->zce4,mem_of_getElem?->zce5,length_append->zce6,getD_eq_getElem?_getD->zce9,length_cons->zcf1,mem_cons->zcf2,length_singleton->zcf4,mem_cons_of_mem->zcf5,length_range->zcf8,getElem?_eq_none->zcf9,mem_cons_self->zcg1,not_mem_nil->zcg2,getElem?_append_left->zcg9,map_append->zch0,mem_map->zch1,getElem?_append_right->zch2,mem_append_right->zch6,mem_append->zch8,getElem?_range->zci1,flatten_cons->zci2,lookup_cons->zci3,length_nil->zci4,length_reverse->zci6,take_of_length_le->zci8,eq_of_mem_replicate->zcj0,replicate_succ->zcj1,ext_getElem?->zcj2,getElem?_set_self->zcj3,map_cons->zcj4,mem_singleton->zcj5,nodup_cons->zcj6,all_eq_true->zcj7,length_replicate->zcj8,getElem?_cons_succ->zck0,getElem?_set_ne->zck1,flatten_append->zck3,map_map->zck4,length_take->zck7,getElem?_reverse->zck9,length_drop->zcl1,getElem?_of_mem->zcl3,mem_iff_getElem->zcl4,mem_of_mem_take->zcl5,find?_cons->zcl7,filterMap_cons->zcl9,mem_flatten->zcm0,mem_range->zcm1,nodup_nil->zcm2,length_set->zcm4,countP_cons->zcm9,map_reverse->zcn0
open PySem.W renaming Frag->zce1,kitOne->zce8,subIn->zcg4,nsIn->zcg5,clsIn->zcg8,mg_of->zch3,findIn->zch4,typeIn->zch5,mg_none_of->zci5,kia_one->zci9,keepIn->zck5,fnOf->zck8,kitAny->zcm3,hasDictIn->zcm5,codeIn->zcm8
open Option renaming map_eq_some_iff->zce7,isSome_iff_exists->zck6
open Bool renaming false_ne_true->zcf0,and_eq_true->zci7,eq_iff_iff->zcl6
open PySem.Heap renaming get?_push_of_some->zcf3,lt_size->zcf6,get?_update_other->zcg3,get?_push_size->zch7,get?_update_self->zcj9
open Array renaming length_toList->zcf7,getElem?_toList->zcg7,getElem?_eq_getElem->zcl2,mem_toList_iff->zcm6
open Nat renaming le_refl->zcg0,lt_of_lt_of_le->zcg6,ne_of_lt->zch9,le_trans->zci0,toDigits->zck2,zero_le->zcl0,lt_irrefl->zcm7,ne_of_gt->zcn1,succ_mul->zcn2
open Int renaming eq_ofNat_of_zero_le->zcl8
open PySem renaming wpAny_bind->zcn3,wpAny_pure->zcn4,sizeLine_eq->zcn5,wpAny_ite_false->zcn6,tupleKeyHash->zcn7,wpAny_holding->zcn8,mainGlobals->zcn9
set_option Elab.async false
set_option linter.all false
set_option maxRecDepth 100000
namespace L2
open PySem PySem.Spec PyProof.Rows
abbrev Key:=Sum Int Str
variable {h:Heap}{i:Nat}{E:Value->Shared->Prop}{u:Value}{e tg:Expr}{pins:List (Addr×Obj)}{pos:Pos}{us:List Value}{C:Addr}
def zaz6:Key->Value->Bool
 | .inl k,v=>Value.isInt k v
 | .inr x,v=>Value.isStrOf x v
def keyH(w:World):Key->Int
 | .inl k=>hashInt k
 | .inr x=>hashStr w x
theorem zf6:∀ {k:Key}{v:Value},zaz6 k v=true->(∃ i t,k=Sum.inl i/\v=Value.int i t)∨(∃ x t,k=Sum.inr x/\v=Value.str x t)
 | .inl i,v,h=>by
  obtain⟨t,e⟩:=Value.isInt_shape (k:=i) (v:=v) h
  exact .inl ⟨i,t,rfl,e⟩
 | .inr x,v,h=>by
  obtain⟨t,e⟩:=Value.isStrOf_shape (x:=x) (v:=v) h
  exact .inr ⟨x,t,rfl,e⟩
theorem zbd0(i:Int)(t:Tok):zaz6 (.inl i) (.int i t)=true:=by simp[zaz6,Value.isInt]
theorem zbg3(x:Str)(t:Tok):zaz6 (.inr x) (.str x t)=true:=by simp[zaz6,Value.isStrOf]
theorem key_ll(a b:Int):decide ((Sum.inl a:Key)=Sum.inl b)=(a==b):=by
 by_cases e:a=b
 ·subst e;simp
 ·have h:¬ (Sum.inl a:Key)=Sum.inl b:=fun q=>e (Sum.inl.inj q)
  rw[decide_eq_false h]
  exact (beq_eq_false_iff_ne.mpr e).symm
theorem key_rr(a b:Str):decide ((Sum.inr a:Key)=Sum.inr b)=decide (a=b):=by
 by_cases e:a=b
 ·subst e;simp
 ·have h:¬ (Sum.inr a:Key)=Sum.inr b:=fun q=>e (Sum.inr.inj q)
  rw[decide_eq_false h,decide_eq_false e]
theorem key_lr(a:Int)(b:Str):decide ((Sum.inl a:Key)=Sum.inr b)=false:=decide_eq_false (fun q=>nomatch q)
theorem key_rl(a:Str)(b:Int):decide ((Sum.inr a:Key)=Sum.inl b)=false:=decide_eq_false (fun q=>nomatch q)
def zm8(prog:Program)(w:World):PySem.KeyKind prog w Key where
 is:=zaz6
 hash:=keyH w
 inj:=fun v a b ha hb=>by
  rcases zf6 ha with ⟨i,t,rfl,rfl⟩|⟨x,t,rfl,rfl⟩
  ·rcases zf6 hb with ⟨j,u,rfl,e⟩|⟨y,u,rfl,e⟩
   ·injection e with e1 _;rw[e1]
   ·exact nomatch e
  ·rcases zf6 hb with ⟨j,u,rfl,e⟩|⟨y,u,rfl,e⟩
   ·exact nomatch e
   ·injection e with e1 _;rw[e1]
 byValue:=fun k v h=>by
  rcases zf6 h with ⟨i,t,rfl,rfl⟩|⟨x,t,rfl,rfl⟩<;>rfl
 pyHash:=fun hv h=>by
  rcases zf6 hv with ⟨i,t,rfl,rfl⟩|⟨x,t,rfl,rfl⟩
  ·exact wpAny_pyHash_int h
  ·exact wpAny_pyHash_str h
 eqBool:=fun hu hv h=>by
  rcases zf6 hu with ⟨i,t,rfl,rfl⟩|⟨x,t,rfl,rfl⟩
  ·rcases zf6 hv with ⟨j,u,rfl,rfl⟩|⟨y,u,rfl,rfl⟩
   ·rw[key_ll] at h;exact wpAny_eqBool_int h
   ·rw[key_lr] at h;exact SeqAt.EqAt.int_str i t y u _ _ _ _ h
  ·rcases zf6 hv with ⟨j,u,rfl,rfl⟩|⟨y,u,rfl,rfl⟩
   ·rw[key_rl] at h;exact SeqAt.EqAt.str_int x t j u _ _ _ _ h
   ·rw[key_rr] at h;exact wpAny_eqBool_str h
 «strs»:=fun k x t v h=>by
  rcases zf6 h with ⟨i,u,rfl,e⟩|⟨y,u,rfl,e⟩
  ·exact nomatch e
  ·injection e with e1 _
   subst e1
   cases v<;>rfl
theorem zar8(prog:Program)(w:World)(i:Int)(t:Tok):(zm8 prog w).is (.inl i) (.int i t)=true:=zbd0 i t
theorem zu1(prog:Program)(w:World)(x:Str)(t:Tok):(zm8 prog w).is (.inr x) (.str x t)=true:=zbg3 x t
inductive V where
 | non | bl (b:Bool) | int (i:Int) | str (x:Str) | byt (b:Array UInt8) | flt (b:UInt64) | ref (a:Addr) | ty (n:String)
 deriving DecidableEq
def RelV:V->Value->Prop
 | .non,u=>u=Value.none
 | .bl b,u=>u=Value.bool b
 | .int i,u=>∃ t,u=Value.int i t
 | .str x,u=>∃ t,u=Value.str x t
 | .byt b,u=>∃ t,u=Value.bytes b t
 | .flt b,u=>∃ t,u=Value.float b t
 | .ref a,u=>u=Value.ref a
 | .ty n,u=>u=Value.type n
abbrev Vals:List V->List Value->Prop:=Paired RelV
theorem Vals.length{xs:List V}{us:List Value}(r:Vals xs us):xs.length=us.length:=Paired.length r
theorem Vals.get:∀ {xs:List V}{us:List Value}{i:Nat}{x:V},Vals xs us->xs[i]?=some x->∃ u,us[i]?=some u/\RelV x u
 | _,_,_,_,.nil,e=>by simp at e
 | _,_,0,_,.cons r _,e=>by simp at e;subst e;exact⟨_,rfl,r⟩
 | _,_,i+1,x,.cons _ t,e=>by
  obtain⟨u,h1,h2⟩:=Vals.get (i:=i) (x:=x) t (by simpa using e)
  exact⟨u,by simpa using h1,h2⟩
theorem Vals.set{x:V}{u:Value}(r:RelV x u):∀ {xs:List V}{us:List Value}(i:Nat),Vals xs us->Vals (xs.set i x) (us.set i u)
 | _,_,_,.nil=>.nil
 | _,_,0,.cons _ t=>.cons r t
 | _,_,i+1,.cons q t=>.cons q (Vals.set r i t)
theorem Vals.append:∀ {xs ys:List V}{us ws:List Value},Vals xs us->Vals ys ws->Vals (xs++ys) (us++ws)
 | _,_,_,_,.nil,s=>s
 | _,_,_,_,.cons r t,s=>.cons r (Vals.append t s)
theorem Vals.take:∀ {xs:List V}{us:List Value}(n:Nat),Vals xs us->Vals (xs.take n) (us.take n)
 | _,_,0,_=>.nil
 | _,_,_+1,.nil=>.nil
 | _,_,n+1,.cons r t=>.cons r (Vals.take n t)
theorem Vals.drop:∀ {xs:List V}{us:List Value}(n:Nat),Vals xs us->Vals (xs.drop n) (us.drop n)
 | _,_,0,r=>r
 | _,_,_+1,.nil=>.nil
 | _,_,n+1,.cons _ t=>Vals.drop n t
def RelO:Option V->Option Value->Prop
 | some v,some u=>RelV v u
 | none,none=>True
 | _,_=>False
def KV{κ:Type}:List (κ×V)->List (κ×Value)->Prop:=Paired fun (p:κ×V) (q:κ×Value)=>p.1=q.1/\RelV p.2 q.2
def kV:Key->V
 | .inl i=>.int i
 | .inr x=>.str x
inductive HO where
 | lst (xs:List V)
 | tup (xs:List V)
 | dK (kvs:List (Key×V)) | dT (kvs:List (List Key×V))
 | set (S:Int->Bool) (n:Nat)
 | ins (C dx:Addr) (fs:List (Str×V))
 | own (x:Addr)
 | xd (fs:List (Str×V))
 | met (f x:Addr)
 | rng (lo hi:Int)
 | frz (o:Obj) (u:HO)
 | tbl (ps:Array Value)
 | ext (φ:Heap->Prop)
abbrev Hp:=Addr->Option HO
variable {H:Hp}
def upd(H:Hp)(a:Addr)(o:HO):Hp:=fun b=>if b=a then some o else H b
theorem zc3{a:Addr}{o:HO}:upd H a o a=some o:=by unfold upd;rw[if_pos rfl]
theorem zc6{a b:Addr}{o:HO}(h:b≠a):upd H a o b=H b:=by unfold upd;rw[if_neg h]
theorem ne_of{a b:Addr}{o u:HO}(h:H a=some o)(h':H b=some u)(d:o≠u):a≠b:=by
 intro e;subst e;rw[h] at h';exact d (Option.some.inj h')
theorem za6{a b:Addr}{o:HO}(h:H a=some o)(h':H b=none):a≠b:=by
 intro e;subst e;rw[h] at h';cases h'
section
variable (P:Program) (w:World)
def zf2(H:Hp)(h:Heap)(a:Addr):HO->Prop
 | .lst xs=>xs.length<=sizeLine/\∃ (its:List Value) (n:Nat),Vals xs its/\h.get? a=some { cls:=.type "list",data:=.seq its.toArray n }
 | .tup xs=>xs.length<=sizeLine/\∃ its:List Value,Vals xs its/\IsTup h a its.toArray
 | .dK kvs=>kvs.length<=sizeLine/\(a==sysModules)=false/\∃ vs,KV kvs vs/\h.DictOf (zm8 P w) a vs
 | .dT kvs=>kvs.length<=sizeLine/\(a==sysModules)=false/\∃ xs:List (List Key×Addr×Value),
   Paired (fun (p:List Key×V) (q:List Key×Addr×Value)=>p.1=q.1/\H q.2.1=some (.tup (p.1.map kV))/\RelV p.2 q.2.2) kvs xs /\
   ∃ o es ep,h.get? a=some o/\o.ExactDict/\o.data=.dict es ep/\es.toList=xs.map (entryOfKey (tupleKind (zm8 P w)))/\(xs.map (·.1)).Nodup
 | .set S n=>h.SetOf (intKind P w) a S n
 | .ins C dx fs=>H dx=some (.own a)/\fs.length<=1000/\dx≠a/\h.get? a=some (PySem.W.instObj C dx) /\
   ∃ mA,h.Ns1 dx mA/\(∀ f,RelO (fs.lookup f) (mA f))/\PySem.Within mA (fs.map (·.1))
 | .own _=>∃ o,h.get? a=some o
 | .xd fs=>∃ mA,h.Ns1 a mA/\∀ f,RelO (fs.lookup f) (mA f)
 | .rng lo hi=>∃ t u v,h.get? a=some { cls:=.type "range",data:=.fields #[.int lo t,.int hi u,.int 1 v] }
 | .frz o u=>h.get? a=some o/\zf2 H h a u
 | .tbl ps=>h.get? a=some { cls:=.none,data:=.fields ps }
 | .met f x=>h.get? a=some (PySem.W.methodObj (.ref f) (.ref x))
 | .ext φ=>φ h/\(∃ o,h.get? a=some o)/\∀ h1 h2:Heap,φ h1->(∀ o,h1.get? a=some o->h2.get? a=some o)->φ h2
def HOk(H:Hp)(h:Heap):Prop:=∀ a o,H a=some o->zf2 P w H h a o
end
section
variable {P:Program}{w:World}{H H':Hp}{h h':Heap}{a:Addr}{o:HO}
theorem zf2.lt(x:zf2 P w H h a o):a<h.objs.size:=by
 cases o with
 | lst xs=>obtain⟨_,_,_,_,e⟩:=x;exact zcf6 e
 | tup xs=>obtain⟨_,_,_,p⟩:=x;exact p.lt
 | dK kvs=>obtain⟨_,_,_,_,o,_,_,e,_⟩:=x;exact zcf6 e
 | dT kvs=>obtain⟨_,_,_,_,o,_,_,e,_⟩:=x;exact zcf6 e
 | set S n=>obtain⟨o,_,_,_,e,_⟩:=x;exact zcf6 e
 | ins C dx fs=>obtain⟨_,_,_,e,_⟩:=x;exact zcf6 e
 | own y=>obtain⟨_,e⟩:=x;exact zcf6 e
 | xd fs=>obtain⟨_,⟨_,_,_,e,_⟩,_⟩:=x;exact zcf6 e
 | rng lo hi=>obtain⟨_,_,_,e⟩:=x;exact zcf6 e
 | frz ob u=>obtain⟨e,_⟩:=x;exact zcf6 e
 | tbl ps=>exact zcf6 (show h.get? a=some _ from x)
 | met f y=>exact zcf6 (show h.get? a=some _ from x)
 | ext φ=>obtain⟨_,⟨_,e⟩,_⟩:=x;exact zcf6 e
theorem Paired.mapP{α β:Type}{F G:α->β->Prop}:∀ {l₁:List α}{l₂:List β},Paired F l₁ l₂->(∀ a b,F a b->G a b)->Paired G l₁ l₂
 | _,_,.nil,_=>.nil
 | _,_,.cons r t,f=>.cons (f _ _ r) (Paired.mapP t f)
theorem zf2.stay(x:zf2 P w H h a o)(k:∀ b u,(b=a∨H b=some (.own a))->h.get? b=some u->h'.get? b=some u)(ho:∀ b,H b=some (.own a)->H' b=some (.own a))(ht:∀ b xs,H b=some (.tup xs)->H' b=some (.tup xs)):zf2 P w H' h' a o:=by
 induction o with
 | lst xs=>obtain⟨z,its,n,r,e⟩:=x;exact⟨z,its,n,r,k _ _ (.inl rfl) e⟩
 | tup xs=>obtain⟨z,its,r,ob,e,c⟩:=x;exact⟨z,its,r,ob,k _ _ (.inl rfl) e,c⟩
 | dK kvs=>obtain⟨z,y,vs,r,ob,es,ep,e,c⟩:=x;exact⟨z,y,vs,r,ob,es,ep,k _ _ (.inl rfl) e,c⟩
 | dT kvs=>
  obtain⟨z,y,xs,r,ob,es,ep,e,c⟩:=x
  exact⟨z,y,xs,Paired.mapP r fun p q z=>⟨z.1,ht _ _ z.2.1,z.2.2⟩,ob,es,ep,k _ _ (.inl rfl) e,c⟩
 | set S n=>obtain⟨ob,es,ep,t,e,c⟩:=x;exact⟨ob,es,ep,t,k _ _ (.inl rfl) e,c⟩
 | ins C dx fs=>
  obtain⟨d,z,ne,e,mA,⟨od,es,ep,e2,c⟩,r⟩:=x
  exact⟨ho _ d,z,ne,k _ _ (.inl rfl) e,mA,⟨od,es,ep,k _ _ (.inr d) e2,c⟩,r⟩
 | own y=>obtain⟨ob,e⟩:=x;exact⟨ob,k _ _ (.inl rfl) e⟩
 | xd fs=>obtain⟨mA,⟨od,es,ep,e,c⟩,r⟩:=x;exact⟨mA,⟨od,es,ep,k _ _ (.inl rfl) e,c⟩,r⟩
 | rng lo hi=>obtain⟨t,u,v,e⟩:=x;exact⟨t,u,v,k _ _ (.inl rfl) e⟩
 | frz ob u ih=>obtain⟨e,q⟩:=x;exact⟨k _ _ (.inl rfl) e,ih q⟩
 | tbl ps=>
  have e:h.get? a=some { cls:=.none,data:=.fields ps }:=x
  show h'.get? a=some { cls:=.none,data:=.fields ps }
  exact k a _ (.inl rfl) e
 | met f y=>
  have e:h.get? a=some (PySem.W.methodObj (.ref f) (.ref y)):=x
  show h'.get? a=some (PySem.W.methodObj (.ref f) (.ref y))
  exact k a _ (.inl rfl) e
 | ext φ=>obtain⟨p,⟨o,e⟩,st⟩:=x;exact⟨st _ _ p fun o q=>k _ _ (.inl rfl) q,⟨o,k _ _ (.inl rfl) e⟩,st⟩
theorem HOk.lt(x:HOk P w H h)(e:H a=some o):a<h.objs.size:=(x a o e).lt
theorem HOk.fresh(x:HOk P w H h)(e:h.objs.size<=a):H a=none:=by
 cases q:H a with
 | none=>rfl
 | some u=>exact absurd (zcg6 (x.lt q) e) (zcm7 _)
theorem HOk.kept(x:HOk P w H h)(k:∀ b u,h.get? b=some u->h'.get? b=some u):HOk P w H h':=fun a o e=>
 (x a o e).stay (fun b u _ q=>k b u q) (fun _ q=>q) fun _ _ q=>q
theorem HOk.laid(x:HOk P w H h)(k:∀ b u,h.get? b=some u->h'.get? b=some u)(hp:h.objs.size<=a)(new:zf2 P w (upd H a o) h' a o):HOk P w (upd H a o) h':=fun b u e=>by
 have hn:=x.fresh hp
 by_cases hb:b=a
 ·subst hb;rw[zc3] at e;cases e;exact new
 ·rw[zc6 hb] at e
  exact (x b u e).stay (fun c v _ q=>k c v q) (fun c q=>by rw[zc6 (za6 q hn)];exact q) fun c xs q=>by rw[zc6 (za6 q hn)];exact q
end
def Rd(H:Hp)(a:Addr)(u:HO):Prop:=H a=some u∨∃ o,H a=some (.frz o u)
theorem Rd.of{a:Addr}{u:HO}(h:H a=some u):Rd H a u:=.inl h
theorem Rd.ok{P:Program}{w:World}{a:Addr}{u:HO}(r:Rd H a u)(x:HOk P w H h):zf2 P w H h a u:=by
 rcases r with r|⟨o,r⟩
 ·exact x a u r
 ·obtain⟨_,q⟩:=x a _ r
  exact q
def Mut:Option HO->Prop
 | some (.lst _)=>True
 | some (.dK _)=>True
 | some (.dT _)=>True
 | some (.set _ _)=>True
 | some (.ins _ _ _)=>True
 | some (.ext _)=>True
 | _=>False
section
variable {P:Program}{w:World}{H:Hp}{h h':Heap}{x e:Addr}{o':HO}
theorem HOk.write(ok:HOk P w H h)(mu:Mut (H x))(he:e=x∨H e=some (.own x))(k:∀ b u,b≠e->h.get? b=some u->h'.get? b=some u)(heo:∃ u,h'.get? e=some u)(new:zf2 P w (upd H x o') h' x o'):HOk P w (upd H x o') h':=fun b u q=>by
 have nown:∀ c y,H c=some (.own y)->c≠x:=fun c y r z=>by subst z;rw[r] at mu;exact mu
 have ntup:∀ c xs,H c=some (.tup xs)->c≠x:=fun c xs r z=>by subst z;rw[r] at mu;exact mu
 by_cases hb:b=x
 ·subst hb;rw[zc3] at q;cases q;exact new
 ·rw[zc6 hb] at q
  by_cases hbe:b=e
  ·have q':H b=some (.own x):=by
    rcases he with z|z
    ·exact absurd (hbe.trans z) hb
    ·rw[hbe];exact z
   rw[q] at q';cases q'
   obtain⟨v,hv⟩:=heo
   exact⟨v,by rw[hbe];exact hv⟩
  ·refine (ok b u q).stay (fun c v hc r=>k c v ?_ r) (fun c r=>by rw[zc6 (nown c b r)];exact r) fun c xs r=>by rw[zc6 (ntup c xs r)];exact r
   rcases hc with rfl|hc
   ·exact hbe
   ·rintro rfl
    rcases he with z|z
    ·exact nown c b hc z
    ·rw[hc] at z;cases z;exact hb rfl
end
structure Un(fs ex:List Addr)(H H':Hp)(h h':Heap):Prop where
 keep:∀ b o,h.get? b=some o->H b=none->b ∉ fs->b ∉ ex->h'.get? b=some o
 slot:∀ b o,h.get? b=some o->H b=none->b∈fs->b ∉ ex->∃ sl,h'.get? b=some { o with slots:=sl }
 free:∀ b o,h.get? b=some o->H b=none->b ∉ ex->H' b=none
 there:∀ b o,h.get? b=some o->b ∉ ex->∃ o',h'.get? b=some o'
 tups:∀ b xs,H b=some (.tup xs)->H' b=some (.tup xs)
 frzs:∀ b o u,H b=some (.frz o u)->H' b=some (.frz o u)
 tbls:∀ b ps,H b=some (.tbl ps)->∃ more,H' b=some (.tbl (ps++more))
section
variable {fs fs' ex ex':List Addr}{H H1 H2:Hp}{h h1 h2 h':Heap}{a x e:Addr}{o:HO}
theorem Un.any(u:Un fs ex H H1 h h1){b:Addr}{ob:Obj}(q:h.get? b=some ob)(n:H b=none)(hx:b ∉ ex):∃ sl,h1.get? b=some { ob with slots:=sl }:=by
 by_cases hb:b∈fs
 ·exact u.slot b ob q n hb hx
 ·exact⟨ob.slots,u.keep b ob q n hb hx⟩
theorem Un.trans(a:Un fs ex H H1 h h1)(b:Un fs ex H1 H2 h1 h2):Un fs ex H H2 h h2 where
 keep:=fun c ob q n hc hx=>b.keep c ob (a.keep c ob q n hc hx) (a.free c ob q n hx) hc hx
 slot:=fun c ob q n hc hx=>by
  obtain⟨sl,e1⟩:=a.slot c ob q n hc hx
  obtain⟨sl',e2⟩:=b.slot c _ e1 (a.free c ob q n hx) hc hx
  exact⟨sl',e2⟩
 free:=fun c ob q n hx=>by
  obtain⟨o',e1⟩:=a.there c ob q hx
  exact b.free c o' e1 (a.free c ob q n hx) hx
 there:=fun c ob q hx=>by
  obtain⟨o',e1⟩:=a.there c ob q hx
  exact b.there c o' e1 hx
 tups:=fun c xs q=>b.tups c xs (a.tups c xs q)
 frzs:=fun c ob xs q=>b.frzs c ob xs (a.frzs c ob xs q)
 tbls:=fun c ps q=>by
  obtain⟨m1,e1⟩:=a.tbls c ps q
  obtain⟨m2,e2⟩:=b.tbls c _ e1
  exact⟨m1++m2,by rw[e2,Array.append_assoc]⟩
theorem Un.kept(k:∀ b u,h.get? b=some u->h'.get? b=some u):Un fs ex H H h h':=
 ⟨fun b ob q _ _ _=>k b ob q,fun b ob q _ _ _=>⟨ob.slots,k b ob q⟩,fun _ _ _ n _=>n,fun b ob q _=>⟨ob,k b ob q⟩,fun _ _ q=>q,fun _ _ _ q=>q,fun _ ps q=>⟨#[],by rw[q];simp⟩⟩
theorem Un.refl:Un fs ex H H h h:=Un.kept fun _ _ q=>q
theorem Un.laid(k:∀ b u,h.get? b=some u->h'.get? b=some u)(hp:h.objs.size<=a)(hn:H a=none):Un fs ex H (upd H a o) h h' where
 keep:=fun b u q _ _ _=>k b u q
 slot:=fun b u q _ _ _=>⟨u.slots,k b u q⟩
 free:=fun b u q n _=>by rw[zc6 (zch9 (zcg6 (zcf6 q) hp))];exact n
 there:=fun b u q _=>⟨u,k b u q⟩
 tups:=fun b xs q=>by rw[zc6 (za6 q hn)];exact q
 frzs:=fun b u xs q=>by rw[zc6 (za6 q hn)];exact q
 tbls:=fun b ps q=>⟨#[],by rw[zc6 (za6 q hn),q];simp⟩
theorem Un.write(mu:Mut (H x))(he:e=x∨H e=some (.own x))(k:∀ b u,b≠e->h.get? b=some u->h'.get? b=some u)(heo:∃ u,h'.get? e=some u):Un fs ex H (upd H x o) h h':=by
 have hx:∀ b,H b=none->b≠x:=fun b n z=>by subst z;rw[n] at mu;exact mu
 have hb:∀ b,H b=none->b≠e:=fun b n z=>by
  subst z
  rcases he with r|r
  ·exact hx b n r
  ·rw[n] at r;cases r
 have hm:∀ b u,H b=some u->¬ Mut (some u)->b≠x:=fun b u q nm z=>by subst z;rw[q] at mu;exact nm mu
 refine⟨fun b u q n _ _=>k b u (hb b n) q,fun b u q n _ _=>⟨u.slots,k b u (hb b n) q⟩,fun b u q n _=>by rw[zc6 (hx b n)];exact n,fun b u q _=>?_,
  fun b xs q=>by rw[zc6 (hm b _ q fun z=>z)];exact q,fun b u xs q=>by rw[zc6 (hm b _ q fun z=>z)];exact q,fun b ps q=>⟨#[],by rw[zc6 (hm b _ q fun z=>z),q];simp⟩⟩
 by_cases hbe:b=e
 ·subst hbe;exact heo
 ·exact⟨u,k b u hbe q⟩
theorem Un.mono(u:Un fs ex H H1 h h1)(hs:∀ b∈fs,b∈fs')(hx:∀ b∈ex,b∈ex'):Un fs' ex' H H1 h h1:=
 ⟨fun b ob q n hb he=>u.keep b ob q n (fun z=>hb (hs b z)) fun z=>he (hx b z),fun _ _ q n _ he=>u.any q n fun z=>he (hx _ z),fun b ob q n he=>u.free b ob q n fun z=>he (hx b z),fun b ob q he=>u.there b ob q fun z=>he (hx b z),u.tups,u.frzs,u.tbls⟩
end
def trk(h:Heap)(H:Hp):List Addr:=(List.range h.objs.size).filter fun a=>(H a).isSome
def hidT(h:Heap)(H:Hp):Heap:=PySem.W.hideAll h (trk h H)
theorem zbf4(h:Heap)(H:Hp):(hidT h H).objs.size=h.objs.size:=PySem.W.hideAll_size _ _
theorem zbm0{b:Addr}{o:Obj}(e:h.get? b=some o)(n:H b=none):(hidT h H).get? b=some o:=
 PySem.W.hideAll_get _ e fun hm=>by
  have q:(H b).isSome=true:=(List.mem_filter.mp hm).2
  rw[n] at q;simp at q
theorem zbt0{b:Addr}{o:Obj}(e:(hidT h H).get? b=some o):h.get? b=some o/\H b=none:=by
 have e':h.get? b=some o:=PySem.W.of_hideAll (trk h H) e
 refine⟨e',?_⟩
 cases q:H b with
 | none=>rfl
 | some x=>
  have hm:b∈trk h H:=List.mem_filter.mpr ⟨zcm1.mpr (zcf6 e'),by simp[q]⟩
  have z:(hidT h H).get? b=none:=PySem.W.hideAll_none (trk h H) hm
  rw[z] at e;cases e
def zbt4(g h:Heap)(L:Addr):List (Addr×Obj):=(List.range h.objs.size).filterMap fun a=>if a=L∨(g.get? a).isSome=true then none else (h.get? a).map fun o=>(a,o)
def rest(g h:Heap)(L d:Addr):List (Addr×Obj):=(zbt4 g h L).filter fun p=>decide (p.1≠d)
structure Mod(K:zce1)(mg:Str->Option Value)(base:Heap):Prop where
 kin:K.In base
 glob:base.Ns zcn9 mg
 blt:∃ mb,base.Ns builtinsNs mb/\∀ x:Str,x≠"__name__"->mb x=bootBuiltins x
 nolimit:base.NoLimit
structure Cx where
 prog:Program
 w:World
 K:zce1
 mg:Str->Option Value
 base:Heap
 A:Around
 N:List Str
 s₀:Shared
 H₀:Hp
 env:Env
 outer:List Env
 stack:List Env
 ex:List Addr
 fn:Str->Bool
 calm:Bool
 pn:List (Addr×Obj)
 xe:Value->Shared->Prop
def frs(l:List Env):List Addr:=l.filterMap (·.frame)
abbrev Cx.fs(X:Cx):List Addr:=frs X.outer
def Vis(sc:Scope)(x:Str):Prop:=sc.names.lookup x=some .local∨sc.names.lookup x=some .cell∨sc.names.lookup x=some .free
def Loc(sc:Scope)(x:Str):Prop:=sc.names.lookup x=some .local∨sc.names.lookup x=some .cell
def Look(env:Env)(h:Heap)(m:Str->Option Value)(x:Str)(u:Value):Prop:=
 (env.kindOf x=some .local/\m x=some u)∨((env.kindOf x=some .cell∨env.kindOf x=some .free)/\∃ c,env.cells.lookup x=some c/\h.IsCell c (some u))
structure Cx.Ok(X:Cx):Prop where
 mod:Mod X.K X.mg X.base
 kind:X.env.scope.kind=.function
 glob:X.env.globals=zcn9
 blt:X.env.builtins=builtinsNs
 above:X.s₀.heap.objs.size<=X.env.locals
 inj:∀ x y c,X.env.cells.lookup x=some c->X.env.cells.lookup y=some c->x=y
 has:∀ x,(X.env.kindOf x=some .cell∨X.env.kindOf x=some .free)->∃ c,X.env.cells.lookup x=some c
 cab:∀ x c,X.fn x=true->X.env.cells.lookup x=some c->X.s₀.heap.objs.size<=c
 hd:X.calm=true->X.A.handled=none
 frames:X.A.frames=some X.stack
 stk:X.stack=X.outer∨(X.stack=X.env :: X.outer/\X.env.frame=some X.env.locals)
 exf:∀ b∈X.ex,b≠X.env.locals/\∀ x c,X.env.cells.lookup x=some c->c≠b
 bs:∀ b o,X.base.get? b=some o->X.s₀.heap.get? b=some o/\X.H₀ b=none
 bsz:X.base.objs.size<=X.s₀.heap.objs.size
 noex:∀ b o,X.base.get? b=some o->b ∉ X.ex
 exfs:∀ b∈X.ex,b ∉ X.fs
 funs:X.s₀.heap.FunFrames X.base X.outer
 frf:∀ b∈X.fs,X.H₀ b=none
structure Inv(X:Cx)(pins:List (Addr×Obj))(σ:List (Option V))(H:Hp)(s:Shared):Prop where
 ok:X.Ok
 os:s.os=X.s₀.os
 bare:AllBare s.gens
 base:Un X.fs X.ex X.H₀ H X.s₀.heap s.heap
 loc:∃ m,s.heap.Ns X.env.locals m/\∀ (i:Nat) (x:Str) (v:V),X.N[i]?=some x->σ[i]?=some (some v)->Vis X.env.scope x->∃ u,RelV v u/\Look X.env s.heap m x u
 cell:∀ x c,X.env.cells.lookup x=some c->∃ v,s.heap.IsCell c v
 free:H X.env.locals=none
 freeC:∀ x c,X.env.cells.lookup x=some c->H c=none
 pin:∀ p∈X.pn++pins,s.heap.get? p.1=some p.2/\H p.1=none/\p.1≠X.env.locals/\p.1 ∉ X.fs/\∀ v,p.2.data≠.cell v
 hok:HOk X.prog X.w H s.heap
 len:σ.length=X.N.length
section
variable {X:Cx}{pins:List (Addr×Obj)}{σ:List (Option V)}{H H':Hp}{s:Shared}{h':Heap}
theorem Cx.Ok.nofr(ok:X.Ok){b:Addr}{o:Obj}(e:X.base.get? b=some o):b ∉ X.fs:=fun hb=>by
 have:=(ok.funs.mem hb).1
 rw[e] at this;cases this
theorem Inv.bs(I:Inv X pins σ H s):∀ b o,X.base.get? b=some o->s.heap.get? b=some o/\H b=none:=fun b o e=>
 ⟨I.base.keep b o (I.ok.bs b o e).1 (I.ok.bs b o e).2 (I.ok.nofr e) (I.ok.noex b o e),I.base.free b o (I.ok.bs b o e).1 (I.ok.bs b o e).2 (I.ok.noex b o e)⟩
theorem Inv.bk(I:Inv X pins σ H s):∀ b o,X.base.get? b=some o->s.heap.get? b=some o:=fun b o e=>(I.bs b o e).1
theorem Inv.mod(I:Inv X pins σ H s):Mod X.K X.mg X.base:=I.ok.mod
theorem Inv.kIn(I:Inv X pins σ H s):X.K.In s.heap:=I.ok.mod.kin.keeps I.bk
theorem Inv.lt(I:Inv X pins σ H s):X.env.locals<s.heap.objs.size:=let ⟨_,hn,_⟩:=I.loc;hn.lt
theorem Inv.sz(I:Inv X pins σ H s):X.s₀.heap.objs.size<=s.heap.objs.size:=zci0 I.ok.above (Nat.le_of_lt I.lt)
theorem Inv.nofs(I:Inv X pins σ H s){a:Addr}(h:s.heap.objs.size<=a):a ∉ X.fs:=fun hb=>by
 obtain⟨_,o,ho,_⟩:=I.ok.funs.mem hb
 exact absurd (zcg6 (zcf6 ho) (zci0 I.sz h)) (zcm7 _)
theorem Inv.cne(I:Inv X pins σ H s):∀ x c,X.env.cells.lookup x=some c->c≠X.env.locals:=fun x c e z=>by
 obtain⟨v,o,ho,hd⟩:=I.cell x c e
 obtain⟨m,⟨o',es,ep,ho',hd',_⟩,_⟩:=I.loc
 rw[z,ho'] at ho;cases ho;rw[hd'] at hd;cases hd
theorem Inv.funs(I:Inv X pins σ H s):s.heap.FunFrames X.base X.outer:=by
 have all:∀ (l:List Env),(∀ b∈frs l,b∈X.fs)->X.s₀.heap.FunFrames X.base l->s.heap.FunFrames X.base l:=by
  intro l
  induction l with
  | nil=>intro _ _;trivial
  | cons env r ih=>
   intro hs hl
   obtain⟨hk,⟨L,o,hf,hn,ho,hd⟩,hr⟩:=hl
   have hL:L∈X.fs:=hs L (by unfold frs;rw[zcl9,hf];exact zcg1)
   obtain⟨sl,e⟩:=I.base.slot L o ho (I.ok.frf L hL) hL fun z=>I.ok.exfs L z hL
   exact⟨hk,⟨L,_,hf,hn,e,hd⟩,ih (fun b hb=>hs b (by unfold frs;rw[zcl9,hf];exact zcf5 _ hb)) hr⟩
 exact all X.outer (fun _ hb=>hb) I.ok.funs
theorem Inv.stack(I:Inv X pins σ H s):s.heap.FunFrames X.base X.stack:=by
 rcases I.ok.stk with e|⟨e,hf⟩
 ·rw[e];exact I.funs
 ·rw[e]
  obtain⟨m,hn,_⟩:=I.loc
  refine .cons (by rw[I.ok.kind];decide) hf hn ?_ I.funs
  exact Heap.get?_none_of_le (zci0 I.ok.bsz I.ok.above)
theorem Inv.stkSub(I:Inv X pins σ H s):∀ b∈frs X.stack,b∈X.env.locals :: X.fs:=fun b hb=>by
 rcases I.ok.stk with e|⟨e,hf⟩
 ·rw[e] at hb;exact zcf5 _ hb
 ·rw[e] at hb
  unfold frs at hb
  rw[zcl9,hf] at hb
  exact hb
theorem Inv.stkFree(I:Inv X pins σ H s):∀ b∈frs X.stack,H b=none:=fun b hb=>by
 rcases zcf2.mp (I.stkSub b hb) with e|hb
 ·rw[e];exact I.free
 ·obtain⟨_,o,ho,_⟩:=I.ok.funs.mem hb
  exact I.base.free b o ho (I.ok.frf b hb) fun z=>I.ok.exfs b z hb
theorem Inv.step{g':Array GenState}{t':Nat}{d':Drawn}{ch:List Addr}(I:Inv X pins σ H s)(hch:∀ b∈ch,(b∈X.ex∨X.s₀.heap.objs.size<=b)/\b≠X.env.locals/\(∀ x c,X.env.cells.lookup x=some c->c≠b)/\∀ p∈X.pn++pins,p.1≠b)(keep:∀ b o,b≠X.env.locals->b ∉ X.fs->b ∉ ch->s.heap.get? b=some o->H b=none->h'.get? b=some o)(slot:∀ b o,b≠X.env.locals->b∈X.fs->b ∉ ch->s.heap.get? b=some o->H b=none->∃ sl,h'.get? b=some { o with slots:=sl })(free:∀ b o,b ∉ ch->s.heap.get? b=some o->H b=none->H' b=none)(there:∀ b o,b ∉ ch->s.heap.get? b=some o->∃ o',h'.get? b=some o')(tups:∀ b xs,H b=some (.tup xs)->H' b=some (.tup xs))(frzs:∀ b o u,H b=some (.frz o u)->H' b=some (.frz o u))(tbls:∀ b ps,H b=some (.tbl ps)->∃ more,H' b=some (.tbl (ps++more)))(ns:∀ m,s.heap.Ns X.env.locals m->h'.Ns X.env.locals m)(hok:HOk X.prog X.w H' h')(hg:AllBare g') :
  Inv X pins σ H' { s with heap:=h',gens:=g',drawn:=d',toks:=t' }:=by
 have neL:∀ b o,X.s₀.heap.get? b=some o->b≠X.env.locals:=fun b o e=>zch9 (zcg6 (zcf6 e) I.ok.above)
 have neC:∀ b o,X.s₀.heap.get? b=some o->b ∉ X.ex->b ∉ ch:=fun b o e hx hb=>by
  rcases (hch b hb).1 with z|z
  ·exact hx z
  ·exact absurd (zcg6 (zcf6 e) z) (zcm7 _)
 have cellK:∀ x c,X.env.cells.lookup x=some c->∀ v,s.heap.IsCell c v->h'.IsCell c v:=fun x c e v ⟨o,ho,hd⟩=>by
  have nch:c ∉ ch:=fun z=>(hch c z).2.2.1 x c e rfl
  by_cases hc:c∈X.fs
  ·obtain⟨sl,q⟩:=slot c o (I.cne x c e) hc nch ho (I.freeC x c e)
   exact⟨_,q,hd⟩
  ·exact⟨o,keep c o (I.cne x c e) hc nch ho (I.freeC x c e),hd⟩
 refine⟨I.ok,I.os,hg,⟨fun b o e n hb hx=>?_,fun b o e n hb hx=>?_,fun b o e n hx=>?_,fun b o e hx=>?_,fun b xs e=>tups b xs (I.base.tups b xs e),fun b o xs e=>frzs b o xs (I.base.frzs b o xs e),fun b ps e=>?_⟩,?_,fun x c e=>?_,?_,fun x c e=>?_,fun p hp=>?_,hok,I.len⟩
 ·exact keep b o (neL b o e) hb (neC b o e hx) (I.base.keep b o e n hb hx) (I.base.free b o e n hx)
 ·obtain⟨sl,e1⟩:=I.base.slot b o e n hb hx
  obtain⟨sl',e2⟩:=slot b _ (neL b o e) hb (neC b o e hx) e1 (I.base.free b o e n hx)
  exact⟨sl',e2⟩
 ·obtain⟨o',e1⟩:=I.base.there b o e hx
  exact free b o' (neC b o e hx) e1 (I.base.free b o e n hx)
 ·obtain⟨o',e1⟩:=I.base.there b o e hx
  exact there b o' (neC b o e hx) e1
 ·obtain⟨m1,e1⟩:=I.base.tbls b ps e
  obtain⟨m2,e2⟩:=tbls b _ e1
  exact⟨m1++m2,by rw[e2,Array.append_assoc]⟩
 ·obtain⟨m,hn,hl⟩:=I.loc
  refine⟨m,ns m hn,fun i x v e1 e2 e3=>?_⟩
  obtain⟨u,r,l⟩:=hl i x v e1 e2 e3
  refine⟨u,r,?_⟩
  rcases l with l|⟨k,c,e,z⟩
  ·exact .inl l
  ·exact .inr ⟨k,c,e,cellK x c e _ z⟩
 ·obtain⟨v,z⟩:=I.cell x c e
  exact⟨v,cellK x c e v z⟩
 ·obtain⟨m,⟨o,_,_,ho,_⟩,_⟩:=I.loc
  exact free _ o (fun z=>(hch _ z).2.1 rfl) ho I.free
 ·obtain⟨v,o,ho,hd⟩:=I.cell x c e
  exact free c o (fun z=>(hch c z).2.2.1 x c e rfl) ho (I.freeC x c e)
 ·obtain⟨e,n,ne,nf,d⟩:=I.pin p hp
  have nch:p.1 ∉ ch:=fun z=>(hch p.1 z).2.2.2 p hp rfl
  exact⟨keep p.1 p.2 ne nf nch e n,free p.1 p.2 nch e n,ne,nf,d⟩
theorem Inv.un{t':Nat}(I:Inv X pins σ H s)(u:Un X.fs [] H H' s.heap h')(hok:HOk X.prog X.w H' h'):Inv X pins σ H' { s with heap:=h',toks:=t' }:=by
 obtain⟨m,⟨o,es,ep,ho,r⟩,_⟩:=id I.loc
 obtain⟨sl,hL⟩:=u.any ho I.free (by simp)
 exact I.step (g':=s.gens) (d':=s.drawn) (ch:=[]) (fun _ z=>nomatch z) (fun b o _ hb _ e n=>u.keep b o e n hb (by simp)) (fun b o _ hb _ e n=>u.slot b o e n hb (by simp)) (fun b o _ e n=>u.free b o e n (by simp)) (fun b o _ e=>u.there b o e (by simp)) u.tups u.frzs u.tbls (fun m' hm=>by
  obtain⟨o',es',ep',ho',r'⟩:=hm
  rw[ho] at ho';cases ho'
  exact⟨_,es',ep',hL,r'⟩) hok I.bare
theorem Inv.call{g':Array GenState}{t':Nat}{d':Drawn}{ch:List Addr}(I:Inv X pins σ H s)(u:Un (frs X.stack) ch H H' s.heap h')(hok:HOk X.prog X.w H' h')(hg:AllBare g')(hch:∀ b∈ch,(b∈X.ex∨X.s₀.heap.objs.size<=b)/\b≠X.env.locals/\(∀ x c,X.env.cells.lookup x=some c->c≠b)/\∀ p∈X.pn++pins,p.1≠b) :
  Inv X pins σ H' { s with heap:=h',gens:=g',drawn:=d',toks:=t' }:=by
 obtain⟨m,⟨o,es,ep,ho,r⟩,_⟩:=id I.loc
 obtain⟨sl,hL⟩:=u.any ho I.free fun z=>(hch _ z).2.1 rfl
 exact I.step (ch:=ch) hch (fun b o hL hb hc e n=>u.keep b o e n (fun z=>(zcf2.mp (I.stkSub b z)).elim hL hb) hc) (fun b o _ _ hc e n=>u.any e n hc) (fun b o hc e n=>u.free b o e n hc) (fun b o hc e=>u.there b o e hc) u.tups u.frzs u.tbls (fun m' hm=>by
  obtain⟨o',es',ep',ho',r'⟩:=hm
  rw[ho] at ho';cases ho'
  exact⟨_,es',ep',hL,r'⟩) hok hg
theorem Inv.turned{t':Nat}{it:Addr}(I:Inv X pins σ H s)(k:∀ b o,b≠it->s.heap.get? b=some o->h'.get? b=some o)(hn:H it=none)(hL:it≠X.env.locals)(h1:it∈X.ex∨X.s₀.heap.objs.size<=it)(h2:∀ x c,X.env.cells.lookup x=some c->c≠it)(h3:∀ p∈X.pn++pins,p.1≠it):Inv X pins σ H { s with heap:=h',toks:=t' }:=by
 have nit:∀ b u,H b=some u->b≠it:=fun b u e z=>by rw[z,hn] at e;cases e
 refine I.step (g':=s.gens) (d':=s.drawn) (ch:=[it]) (fun b hb=>?_) (fun b o _ _ hc e _=>k b o (fun z=>hc (by simp[z])) e) (fun b o _ _ hc e _=>⟨o.slots,k b o (fun z=>hc (by simp[z])) e⟩) (fun _ _ _ _ n=>n)
  (fun b o hc e=>⟨o,k b o (fun z=>hc (by simp[z])) e⟩) (fun _ _ e=>e) (fun _ _ _ e=>e) (fun b ps e=>⟨#[],by rw[e];simp⟩) (fun m hm=>?_) (fun b u e=>?_) I.bare
 ·have e:b=it:=by simpa using hb
  subst e
  exact⟨h1,hL,h2,h3⟩
 ·obtain⟨o,es,ep,ho,r⟩:=hm
  exact⟨o,es,ep,k _ o (Ne.symm hL) ho,r⟩
 ·refine (I.hok b u e).stay (fun c v hc q=>k c v ?_ q) (fun _ q=>q) fun _ _ q=>q
  rcases hc with z|z
  ·rw[z];exact nit b u e
  ·exact nit c _ z
theorem Inv.tok(I:Inv X pins σ H s)(t:Nat):Inv X pins σ H { s with toks:=t }:=I.un (h':=s.heap) (t':=t) Un.refl I.hok
theorem Inv.kept{t':Nat}(I:Inv X pins σ H s)(k:∀ b u,s.heap.get? b=some u->h'.get? b=some u):Inv X pins σ H { s with heap:=h',toks:=t' }:=I.un (Un.kept k) (I.hok.kept k)
theorem Inv.laid{a:Addr}{o:HO}{t':Nat}(I:Inv X pins σ H s)(k:∀ b u,s.heap.get? b=some u->h'.get? b=some u)(hp:s.heap.objs.size<=a)(new:zf2 X.prog X.w (upd H a o) h' a o) :
  Inv X pins σ (upd H a o) { s with heap:=h',toks:=t' }:=I.un (Un.laid k hp (I.hok.fresh hp)) (I.hok.laid k hp new)
theorem Inv.write{x e:Addr}{o:HO}{t':Nat}(I:Inv X pins σ H s)(mu:Mut (H x))(he:e=x∨H e=some (.own x))(k:∀ b u,b≠e->s.heap.get? b=some u->h'.get? b=some u)(heo:∃ u,h'.get? e=some u)(new:zf2 X.prog X.w (upd H x o) h' x o):Inv X pins σ (upd H x o) { s with heap:=h',toks:=t' }:=I.un (Un.write mu he k heo) (I.hok.write mu he k heo new)
theorem Inv.pins_of{pins':List (Addr×Obj)}(I:Inv X pins σ H s)(h:∀ p∈pins',s.heap.get? p.1=some p.2/\H p.1=none/\p.1≠X.env.locals/\p.1 ∉ X.fs/\∀ v,p.2.data≠.cell v):Inv X pins' σ H s:=
 ⟨I.ok,I.os,I.bare,I.base,I.loc,I.cell,I.free,I.freeC,fun p hp=>(zch8.mp hp).elim (fun z=>I.pin p (List.mem_append_left _ z)) (h p),I.hok,I.len⟩
theorem zak3{N:List Str}(hN:N.Nodup){j:Nat}{x:Str}(a:N[i]?=some x)(b:N[j]?=some x):i=j:=by
 obtain⟨h1,e1⟩:=zce2.mp a
 obtain⟨h2,e2⟩:=zce2.mp b
 exact (List.getElem_inj hN).mp (e1.trans e2.symm)
theorem zaq0{M:Model}{A:Around}{x:Str}{v:V}{Q:Unit->Shared->Prop}(I:Inv X pins σ H s)(hN:X.N.Nodup)(hi:X.N[i]?=some x)(hx:Loc X.env.scope x)(r:RelV v u)(h:∀ s',Inv X pins (σ.set i (some v)) H s'->(∃ a,Heap.SameBut a s.heap s'.heap/\(a=X.env.locals∨X.env.cells.lookup x=some a))->Q () s')(hf:X.fn x=true∨X.env.scope.names.lookup x=some .local:=by first|exact .inl rfl|exact .inr rfl|assumption):wpAny M A (storeName X.env x u) Q E s:=by
 obtain⟨m,hn,hl⟩:=id I.loc
 have hcls:(X.env.scope.kind==.class || (X.env.scope.kind==.module&&X.env.locals != X.env.globals))=false:=by rw[I.ok.kind];rfl
 have hiσ:i<σ.length:=by rw[I.len];exact (zce2.mp hi).1
 have cne:=I.cne
 have tracked:∀ {a:Addr}{h':Heap},(∃ o,s.heap.get? a=some o/\H a=none)->Heap.SameBut a s.heap h'->HOk X.prog X.w H h':=fun {a h'} ha hs b ob e=>by
  obtain⟨_,_,hfree⟩:=ha
  refine (I.hok b ob e).stay (fun c w' hc q=>(hs.2 c ?_).trans q) (fun _ q=>q) fun _ _ q=>q
  rintro rfl
  rcases hc with rfl|hc
  ·rw[hfree] at e;cases e
  ·rw[hfree] at hc;cases hc
 rcases hx with hk|hk
 ·refine wpAny_storeName_local hk hn (fun h' hn' hs=>?_) hcls
  obtain⟨oL,_,_,hoL,_⟩:=id hn
  refine h _ ⟨I.ok,I.os,I.bare,⟨fun b o e n hb hx=>?_,fun b o e n hb hx=>?_,I.base.free,fun b o e hx=>?_,I.base.tups,I.base.frzs,I.base.tbls⟩,⟨_,hn',fun j y v' e1 e2 e3=>?_⟩,fun y c e=>?_,I.free,I.freeC,fun p hp=>?_,tracked ⟨oL,hoL,I.free⟩ hs,by simpa using I.len⟩ ⟨_,hs,.inl rfl⟩
  ·exact (hs.2 b (zch9 (zcg6 (zcf6 e) I.ok.above))).trans (I.base.keep b o e n hb hx)
  ·obtain⟨sl,e1⟩:=I.base.slot b o e n hb hx
   exact⟨sl,(hs.2 b (zch9 (zcg6 (zcf6 e) I.ok.above))).trans e1⟩
  ·obtain⟨o',e1⟩:=I.base.there b o e hx
   exact⟨o',(hs.2 b (zch9 (zcg6 (zcf6 e) I.ok.above))).trans e1⟩
  ·by_cases hj:j=i
   ·subst hj
    rw[hi] at e1;cases e1
    rw[zcj3 hiσ] at e2
    cases e2
    exact⟨u,r,.inl ⟨hk,by simp⟩⟩
   ·rw[zck1 (Ne.symm hj)] at e2
    obtain⟨u',r',q⟩:=hl j y v' e1 e2 e3
    refine⟨u',r',?_⟩
    rcases q with ⟨k,e⟩|⟨k,c,e,z⟩
    ·refine .inl ⟨k,?_⟩
     have:y≠x:=fun e=>hj (zak3 hN e1 (e▸hi))
     simp[this,e]
    ·exact .inr ⟨k,c,e,z.sameBut hs (cne y c e)⟩
  ·obtain⟨w',z⟩:=I.cell y c e
   exact⟨w',z.sameBut hs (cne y c e)⟩
  ·obtain⟨e,n,ne,nf,d⟩:=I.pin p hp
   exact⟨(hs.2 p.1 ne).trans e,n,ne,nf,d⟩
 ·have hfn:X.fn x=true:=by
   rcases hf with z|z
   ·exact z
   ·rw[z] at hk;cases hk
  obtain⟨c,hc⟩:=I.ok.has x (.inl hk)
  obtain⟨w',z⟩:=I.cell x c hc
  refine wpAny_storeName_cell I.ok.kind hk hc z (fun h' hc' hs=>?_)
  obtain⟨oc,hoc,hocd⟩:=id z
  refine h { s with heap:=h' } ⟨I.ok,I.os,I.bare,⟨fun b o e n hb hx=>?_,fun b o e n hb hx=>?_,I.base.free,fun b o e hx=>?_,I.base.tups,I.base.frzs,I.base.tbls⟩,⟨m,hn.sameBut hs (Ne.symm (cne x c hc)),fun j y v' e1 e2 e3=>?_⟩,fun y c' e=>?_,I.free,I.freeC,fun p hp=>?_,tracked ⟨oc,hoc,I.freeC x c hc⟩ hs,by simpa using I.len⟩ ⟨c,hs,.inr hc⟩
  ·exact (hs.2 b (zch9 (zcg6 (zcf6 e) (I.ok.cab x c hfn hc)))).trans (I.base.keep b o e n hb hx)
  ·obtain⟨sl,e1⟩:=I.base.slot b o e n hb hx
   exact⟨sl,(hs.2 b (zch9 (zcg6 (zcf6 e) (I.ok.cab x c hfn hc)))).trans e1⟩
  ·obtain⟨o',e1⟩:=I.base.there b o e hx
   exact⟨o',(hs.2 b (zch9 (zcg6 (zcf6 e) (I.ok.cab x c hfn hc)))).trans e1⟩
  ·by_cases hj:j=i
   ·subst hj
    rw[hi] at e1;cases e1
    rw[zcj3 hiσ] at e2
    cases e2
    exact⟨u,r,.inr ⟨.inl hk,c,hc,hc'⟩⟩
   ·rw[zck1 (Ne.symm hj)] at e2
    obtain⟨u',r',q⟩:=hl j y v' e1 e2 e3
    refine⟨u',r',?_⟩
    rcases q with q|⟨k,c',e,z'⟩
    ·exact .inl q
    ·refine .inr ⟨k,c',e,z'.sameBut hs ?_⟩
     rintro rfl
     exact hj (zak3 hN e1 (I.ok.inj _ _ _ e hc▸hi))
  ·by_cases hcc:c'=c
   ·subst hcc;exact⟨_,hc'⟩
   ·obtain⟨w2,z2⟩:=I.cell y c' e
    exact⟨w2,z2.sameBut hs hcc⟩
  ·obtain⟨e,n,ne,nf,d⟩:=I.pin p hp
   refine⟨(hs.2 p.1 ?_).trans e,n,ne,nf,d⟩
   intro q
   rw[q,hoc] at e
   have q':oc=p.2:=Option.some.inj e
   exact d w' (by rw[← q'];exact hocd)
theorem zaa0{M:Model}{A:Around}{x:Str}{v:V}{Q:Unit->Shared->Prop}(I:Inv X pins σ H s)(hN:X.N.Nodup)(hi:X.N[i]?=some x)(hx:Loc X.env.scope x)(r:RelV v u)(h:∀ s',Inv X pins (σ.set i (some v)) H s'->Q () s')(hf:X.fn x=true∨X.env.scope.names.lookup x=some .local:=by first|exact .inl rfl|exact .inr rfl|assumption):wpAny M A (storeName X.env x u) Q E s:=
 zaq0 I hN hi hx r (fun s' I' _=>h s' I') hf
theorem Inv.call'{s':Shared}{ch:List Addr}(I:Inv X pins σ H s)(ho:s'.os=s.os)(u:Un (frs X.stack) ch H H' s.heap s'.heap)(hok:HOk X.prog X.w H' s'.heap)(hg:AllBare s'.gens)(hch:∀ b∈ch,(b∈X.ex∨X.s₀.heap.objs.size<=b)/\b≠X.env.locals/\(∀ x c,X.env.cells.lookup x=some c->c≠b)/\∀ p∈X.pn++pins,p.1≠b):Inv X pins σ H' s':=by
 obtain⟨h',g',d',t',o'⟩:=s'
 have e:o'=s.os:=ho
 subst e
 exact I.call (g':=g') (t':=t') (d':=d') u hok hg hch
end
abbrev XK:=Value->Option Addr->Hp->Prop
abbrev St:=List (Option V)
variable {σ:St}
abbrev VK:=V->Hp->Prop
abbrev TE:=St->Hp->VK->Prop
abbrev TT:=St->Hp->(Bool->Hp->Prop)->Prop
abbrev TA:=St->Hp->(List V->Hp->Prop)->Prop
structure Ends where
 nx:St->Hp->Prop
 rt:VK
 bk:St->Hp->Prop:=fun _ _=>False
 ct:St->Hp->Prop:=fun _ _=>False
abbrev TS:=Ends->St->Hp->Prop
def EP(X:Cx)(pins:List (Addr×Obj))(σ:St)(Q:VK)(u:Value)(s':Shared):Prop:=∃ v H',Inv X pins σ H' s'/\RelV v u/\Q v H'
def TP(X:Cx)(pins:List (Addr×Obj))(σ:St)(Q:Bool->Hp->Prop)(b:Bool)(s':Shared):Prop:=∃ H',Inv X pins σ H' s'/\Q b H'
def AP(X:Cx)(pins:List (Addr×Obj))(σ:St)(Q:List V->Hp->Prop)(us:List Value)(s':Shared):Prop:=∃ vs H',Inv X pins σ H' s'/\Vals vs us/\Q vs H'
def SP(X:Cx)(pins:List (Addr×Obj))(D:Ends)(f:Flow)(s':Shared):Prop:=
 match f with
 | .next=>∃ σ' H',Inv X pins σ' H' s'/\D.nx σ' H'
 | .brk=>∃ σ' H',Inv X pins σ' H' s'/\D.bk σ' H'
 | .cont=>∃ σ' H',Inv X pins σ' H' s'/\D.ct σ' H'
 | .ret u=>∃ v σ' H',Inv X pins σ' H' s'/\RelV v u/\D.rt v H'
def PE(X:Cx)(e:Expr)(t:TE):Prop:=
 ∀ (pins:List (Addr×Obj)) (s:Shared) (σ:St) (H:Hp) (Q:VK),Inv X pins σ H s->t σ H Q->wpAny (model X.prog X.w) X.A (eval e X.env) (EP X pins σ Q) X.xe s
def PT(X:Cx)(e:Expr)(t:TT):Prop:=
 ∀ (pins:List (Addr×Obj)) (s:Shared) (σ:St) (H:Hp) (Q:Bool->Hp->Prop),Inv X pins σ H s->t σ H Q->wpAny (model X.prog X.w) X.A (isTrue e X.env (eval e X.env)) (TP X pins σ Q) X.xe s
def PW(X:Cx)(e:Expr)(t:TT):Prop:=
 ∀ (whole:Sem Value) (pins:List (Addr×Obj)) (s:Shared) (σ:St) (H:Hp) (Q:Bool->Hp->Prop),Inv X pins σ H s->t σ H Q->wpAny (model X.prog X.w) X.A (isTrue e X.env whole) (TP X pins σ Q) X.xe s
theorem PW.pt{X:Cx}{t:TT}(h:PW X e t):PT X e t:=h _
def PA(X:Cx)(es:List Expr)(t:TA):Prop:=
 ∀ (pos:Pos) (pins:List (Addr×Obj)) (s:Shared) (σ:St) (H:Hp) (Q:List V->Hp->Prop),Inv X pins σ H s->t σ H Q->wpAny (model X.prog X.w) X.A (spliced (backTo pos (starEach es X.env))) (AP X pins σ Q) X.xe s
def PS(X:Cx)(st:Stmt)(t:TS):Prop:=
 ∀ (pins:List (Addr×Obj)) (s:Shared) (σ:St) (H:Hp) (D:Ends),Inv X pins σ H s->t D σ H->wpAny (model X.prog X.w) X.A (exec st X.env) (SP X pins D) X.xe s
def PSs(X:Cx)(st:List Stmt)(t:TS):Prop:=
 ∀ (pins:List (Addr×Obj)) (s:Shared) (σ:St) (H:Hp) (D:Ends),Inv X pins σ H s->t D σ H->wpAny (model X.prog X.w) X.A (execs st X.env) (SP X pins D) X.xe s
theorem thn{α:Type}{t:Sem α}{Q Q':α->Shared->Prop}{M:Model}{A:Around}{s:Shared}(h:wpAny M A t Q E s)(hQ:∀ a s,Q a s->Q' a s):wpAny M A t Q' E s:=wpAny_mono h hQ fun _ _ x=>x
section
variable {X:Cx}
theorem bin{a b:Expr}{ta tb:TE}(ha:PE X a ta)(hb:PE X b tb){s:Shared}{R:V->V->Hp->Prop}(I:Inv X pins σ H s)(h:ta σ H fun x H1=>tb σ H1 fun y H2=>R x y H2){α:Type}{Q:α->Shared->Prop}{f:Value->Value->Sem α}(hf:∀ v u s2 x y H2,Inv X pins σ H2 s2->RelV x v->RelV y u->R x y H2->wpAny (model X.prog X.w) X.A (f v u) Q X.xe s2) :
  wpAny (model X.prog X.w) X.A (eval a X.env) (fun v s₁=>wpAny (model X.prog X.w) X.A (eval b X.env) (fun u s₂=>wpAny (model X.prog X.w) X.A (f v u) Q X.xe s₂) X.xe s₁) X.xe s:=by
 refine thn (ha pins s σ H _ I h) fun v s1 ⟨x,H1,I1,r1,q1⟩=>?_
 refine thn (hb pins s1 σ H1 _ I1 q1) fun u s2 ⟨y,H2,I2,r2,q2⟩=>?_
 exact hf v u s2 x y H2 I2 r1 r2 q2
def tVar(i:Nat):TE:=fun σ H Q=>∃ v,σ[i]?=some (some v)/\Q v H
def tC(v:V):TE:=fun _ H Q=>Q v H
theorem pe_var{x:Str}(hN:X.N[i]?=some x)(hv:Vis X.env.scope x)(hd:(x==("__debug__":Str))=false:=by decide)(hcd:(x==("__classdict__":Str))=false:=by decide):PE X (.Name x pos) (tVar i):=by
 intro pins s σ H Q I h
 obtain⟨v,e,h⟩:=h
 obtain⟨m,hn,hl⟩:=I.loc
 obtain⟨u,r,l⟩:=hl i x v hN e hv
 have fin:EP X pins σ Q u s:=⟨v,H,I,r,h⟩
 rcases l with ⟨hk,hm⟩|⟨hk,c,hc,hcell⟩
 ·exact wpAny_Name (wpAny_loadName_local I.ok.kind hk hn hm fin) hd
 ·rcases hk with hk|hk
  ·exact wpAny_Name (wpAny_loadName_cell I.ok.kind hk hc hcell fin) hd
  ·exact wpAny_Name (wpAny_loadName_free I.ok.kind hk hc hcell fin hcd) hd
theorem za2{i j pos}:PE X (.Constant (.int i) j pos) (tC (.int i)):=fun _ _ _ H _ I h=>wpAny_Constant_int ⟨.int i,H,I.tok _,⟨_,rfl⟩,h⟩
theorem zt5{b j pos}:PE X (.Constant (.bool b) j pos) (tC (.bl b)):=fun _ _ _ H _ I h=>Constant_bool ⟨.bl b,H,I,rfl,h⟩
theorem zy6{j pos}:PE X (.Constant .none j pos) (tC .non):=fun _ _ _ H _ I h=>Constant_none ⟨.non,H,I,rfl,h⟩
theorem zb4{x j pos}:PE X (.Constant (.str x) j pos) (tC (.str x)):=fun _ _ _ H _ I h=>Calls.Constant_str ⟨.str x,H,I.tok _,⟨_,rfl⟩,h⟩
def Gl(X:Cx)(x:Str):Prop:=X.env.kindOf x=some .globalImplicit
theorem zq6{s:Shared}{x:Str}{Q:Value->Shared->Prop}(I:Inv X pins σ H s)(hg:Gl X x)(hm:X.mg x=some u)(h:Q u s)(hd:(x==("__debug__":Str))=false:=by decide):wpAny (model X.prog X.w) X.A (eval (.Name x pos) X.env) Q E s:=
 Calls.Name_function_global I.ok.kind hg (Calls.loadGlobal_global (by rw[I.ok.glob];exact I.mod.glob.keeps I.bk) hm h) hd
theorem zal7{s:Shared}{x:Str}{Q:Value->Shared->Prop}(I:Inv X pins σ H s)(hg:Gl X x)(hm:X.mg x=none)(hv:bootBuiltins x=some u)(h:Q u s)(hn:x≠"__name__":=by decide)(hd:(x==("__debug__":Str))=false:=by decide):wpAny (model X.prog X.w) X.A (eval (.Name x pos) X.env) Q E s:=by
 obtain⟨mb,h1,h2⟩:=I.mod.blt
 exact Calls.Name_function_global I.ok.kind hg (Calls.loadGlobal_builtin (by rw[I.ok.glob];exact I.mod.glob.keeps I.bk) hm (by rw[I.ok.blt];exact h1.keeps I.bk) ((h2 x hn).trans hv) h) hd
theorem zf8{x:Str}{v:V}(hg:Gl X x)(hm:X.mg x=some u)(r:RelV v u)(hd:(x==("__debug__":Str))=false:=by decide):PE X (.Name x pos) (tC v):=
 fun _ _ _ H _ I h=>zq6 I hg hm ⟨v,H,I,r,h⟩ hd
theorem zbv4{x:Str}{v:V}(hg:Gl X x)(hm:X.mg x=none)(hv:bootBuiltins x=some u)(r:RelV v u)(hn:x≠"__name__":=by decide)(hd:(x==("__debug__":Str))=false:=by decide):PE X (.Name x pos) (tC v):=
 fun _ _ _ H _ I h=>zal7 I hg hm hv ⟨v,H,I,r,h⟩ hn hd
variable {a b:Expr}{ta tb:TE}{pos:Pos}
variable {tA tB':TT}{rest:List Expr}
def tAnd(t u:TT):TT:=fun σ H Q=>t σ H fun c H1=>if c=true then u σ H1 Q else Q false H1
def tOr(t u:TT):TT:=fun σ H Q=>t σ H fun c H1=>if c=true then Q true H1 else u σ H1 Q
def tNot(t:TT):TT:=fun σ H Q=>t σ H fun c H1=>Q (!c) H1
theorem zw3(ha:PT X a tA):PW X (.BoolOp .And [a] pos) tA:=by
 intro wh pins s σ H Q I h
 refine isTrue_and (thn (ha pins s σ H Q I h) fun c s1 e=>?_)
 cases c with
 | true=>exact isTrue_and_nil e
 | false=>exact e
theorem zy4(ha:PT X a tA):PW X (.BoolOp .Or [a] pos) tA:=by
 intro wh pins s σ H Q I h
 refine isTrue_or (thn (ha pins s σ H Q I h) fun c s1 e=>?_)
 cases c with
 | false=>exact isTrue_or_nil e
 | true=>exact e
theorem pw_and(ha:PT X a tA)(hb:PW X (.BoolOp .And (b :: rest) pos) tB'):PW X (.BoolOp .And (a :: b :: rest) pos) (tAnd tA tB'):=by
 intro wh pins s σ H Q I h
 refine isTrue_and (thn (ha pins s σ H _ I h) fun c s1 ⟨H1,I1,q1⟩=>?_)
 cases c with
 | true=>exact hb wh pins s1 σ H1 Q I1 q1
 | false=>exact⟨H1,I1,q1⟩
theorem pw_or(ha:PT X a tA)(hb:PW X (.BoolOp .Or (b :: rest) pos) tB'):PW X (.BoolOp .Or (a :: b :: rest) pos) (tOr tA tB'):=by
 intro wh pins s σ H Q I h
 refine isTrue_or (thn (ha pins s σ H _ I h) fun c s1 ⟨H1,I1,q1⟩=>?_)
 cases c with
 | true=>exact⟨H1,I1,q1⟩
 | false=>exact hb wh pins s1 σ H1 Q I1 q1
theorem zm3(ha:PT X a tA):PT X (.UnaryOp .Not a pos) (tNot tA):=by
 intro pins s σ H Q I h
 exact isTrue_not (ha pins s σ H (fun c H1=>Q (!c) H1) I h)
theorem zv4{op}{t:TE}(h:PE X a t):PE X (.BoolOp op [a] pos) t:=fun pins s σ H Q I hw=>BoolOp_one (h pins s σ H Q I hw)
def tIf(t:TT)(ta tb:TE):TE:=fun σ H Q=>t σ H fun c H1=>if c=true then ta σ H1 Q else tb σ H1 Q
theorem zbl1{c:Expr}(hc:PT X c tA)(ha:PE X a ta)(hb:PE X b tb):PE X (.IfExp c a b pos) (tIf tA ta tb):=by
 intro pins s σ H Q I h
 refine wpAny_IfExp (thn (hc pins s σ H _ I h) fun d s1 ⟨H1,I1,q1⟩=>?_)
 cases d with
 | true=>exact ha pins s1 σ H1 Q I1 q1
 | false=>exact hb pins s1 σ H1 Q I1 q1
end
def SqL(K:zce1)(H:Hp)(a:Addr)(xs:List V):Prop:=
 Rd H a (.lst xs) ∨
  ∃ (o:Obj) (its:Array Value) (n:Nat),K.lookup a=some o/\o.cls=.type "list"/\o.dict=none/\o.data=.seq its n/\its.size<=sizeLine/\Vals xs its.toList
def SqT(K:zce1)(H:Hp)(a:Addr)(xs:List V):Prop:=
 Rd H a (.tup xs) ∨
  ∃ (o:Obj) (its:Array Value) (n:Nat),K.lookup a=some o/\o.cls=.type "tuple"/\o.data=.seq its n/\its.size<=sizeLine/\Vals xs its.toList
def absV:Value->Option V
 | .none=>some .non
 | .bool b=>some (.bl b)
 | .int i _=>some (.int i)
 | .str x _=>some (.str x)
 | .bytes b _=>some (.byt b)
 | .float b _=>some (.flt b)
 | .ref a=>some (.ref a)
 | .type n=>some (.ty n)
 | _=>none
theorem RelV.abs{x:V}(r:RelV x u):absV u=some x:=by
 cases x with
 | non=>cases r;rfl
 | bl _=>cases r;rfl
 | int _=>obtain⟨t,rfl⟩:=r;rfl
 | str _=>obtain⟨t,rfl⟩:=r;rfl
 | byt _=>obtain⟨t,rfl⟩:=r;rfl
 | flt _=>obtain⟨t,rfl⟩:=r;rfl
 | ref _=>cases r;rfl
 | ty _=>cases r;rfl
theorem RelV.inj{x y:V}{u:Value}(r:RelV x u)(q:RelV y u):x=y:=Option.some.inj (r.abs.symm.trans q.abs)
theorem Vals.inj:∀ {xs ys:List V}{us:List Value},Vals xs us->Vals ys us->xs=ys
 | _,_,_,.nil,.nil=>rfl
 | _,_,_,.cons r t,.cons r' t'=>by rw[r.inj r',Vals.inj t t']
section
variable {X:Cx}{pins:List (Addr×Obj)}{σ:St}{H:Hp}{s:Shared}{a:Addr}{xs ys:List V}
theorem SqL.of{K:zce1}(h:H a=some (.lst xs)):SqL K H a xs:=.inl (.inl h)
theorem SqT.of{K:zce1}(h:H a=some (.tup xs)):SqT K H a xs:=.inl (.inl h)
theorem Inv.list(I:Inv X pins σ H s)(h:SqL X.K H a xs):∃ its:List Value,Vals xs its/\PlainL s.heap a its.toArray/\xs.length<=sizeLine:=by
 rcases h with h|⟨o,its,n,hk,hc,hd,hs,hz,r⟩
 ·obtain⟨z,its,n,r,e⟩:=h.ok I.hok
  exact⟨its,r,⟨_,n,e,rfl,rfl,rfl⟩,z⟩
 ·refine⟨its.toList,r,⟨o,n,I.kIn a o hk,hc,hd,by simpa using hs⟩,?_⟩
  have e:=r.length
  simp only[zcf7] at e
  omega
theorem Inv.tuple(I:Inv X pins σ H s)(h:SqT X.K H a xs):∃ its:List Value,Vals xs its/\IsTup s.heap a its.toArray/\xs.length<=sizeLine:=by
 rcases h with h|⟨o,its,n,hk,hc,hs,hz,r⟩
 ·obtain⟨z,its,r,p⟩:=h.ok I.hok
  exact⟨its,r,p,z⟩
 ·refine⟨its.toList,r,⟨o,I.kIn a o hk,hc,n,by simpa using hs⟩,?_⟩
  have e:=r.length
  simp only[zcf7] at e
  omega
theorem Inv.list_inj(I:Inv X pins σ H s)(h:SqL X.K H a xs)(h':SqL X.K H a ys):xs=ys:=by
 obtain⟨its,r,⟨o,n,e,_,_,d⟩,_⟩:=I.list h
 obtain⟨its',r',⟨o',n',e',_,_,d'⟩,_⟩:=I.list h'
 rw[e] at e';cases e'
 rw[d] at d'
 injection d' with d1 _
 have:its=its':=by simpa using congrArg Array.toList d1
 subst this
 exact r.inj r'
theorem Inv.tuple_inj(I:Inv X pins σ H s)(h:SqT X.K H a xs)(h':SqT X.K H a ys):xs=ys:=by
 obtain⟨its,r,⟨o,e,_,n,d⟩,_⟩:=I.tuple h
 obtain⟨its',r',⟨o',e',_,n',d'⟩,_⟩:=I.tuple h'
 rw[e] at e';cases e'
 rw[d] at d'
 injection d' with d1 _
 have:its=its':=by simpa using congrArg Array.toList d1
 subst this
 exact r.inj r'
end
abbrev Cx.wish(X:Cx)(E:Value->Shared->Prop):Cx:={ X with xe:=E }
abbrev Cx.nox(X:Cx):Cx:=X.wish fun _ _=>False
theorem Cx.Ok.wish{X:Cx}(ok:X.Ok)(E:Value->Shared->Prop):(X.wish E).Ok:=
 ⟨ok.mod,ok.kind,ok.glob,ok.blt,ok.above,ok.inj,ok.has,ok.cab,ok.hd,ok.frames,ok.stk,ok.exf,ok.bs,ok.bsz,ok.noex,ok.exfs,ok.funs,ok.frf⟩
theorem Cx.Ok.unwish{X:Cx}(ok:(X.wish E).Ok):X.Ok:=
 ⟨ok.mod,ok.kind,ok.glob,ok.blt,ok.above,ok.inj,ok.has,ok.cab,ok.hd,ok.frames,ok.stk,ok.exf,ok.bs,ok.bsz,ok.noex,ok.exfs,ok.funs,ok.frf⟩
section
variable {X:Cx}{pins:List (Addr×Obj)}{σ:St}{H:Hp}{s:Shared}{E:Value->Shared->Prop}
theorem Inv.wish(I:Inv X pins σ H s)(E:Value->Shared->Prop):Inv (X.wish E) pins σ H s:=⟨I.ok.wish E,I.os,I.bare,I.base,I.loc,I.cell,I.free,I.freeC,I.pin,I.hok,I.len⟩
theorem Inv.unwish(I:Inv (X.wish E) pins σ H s):Inv X pins σ H s:=⟨I.ok.unwish,I.os,I.bare,I.base,I.loc,I.cell,I.free,I.freeC,I.pin,I.hok,I.len⟩
theorem SP.unwish{D:Ends}{f:Flow}{s':Shared}(h:SP (X.wish E) pins D f s'):SP X pins D f s':=by
 cases f with
 | next=>obtain⟨σ',H',I,q⟩:=h;exact⟨σ',H',I.unwish,q⟩
 | brk=>obtain⟨σ',H',I,q⟩:=h;exact⟨σ',H',I.unwish,q⟩
 | cont=>obtain⟨σ',H',I,q⟩:=h;exact⟨σ',H',I.unwish,q⟩
 | ret u=>obtain⟨v,σ',H',I,r,q⟩:=h;exact⟨v,σ',H',I.unwish,r,q⟩
theorem PSs.nox{st:List Stmt}{t:TS}(h:PSs X.nox st t):PSs X st t:=fun pins s σ H D I hw=>
 wpAny_mono (h pins s σ H D (I.wish _) hw) (fun _ _ q=>q.unwish) fun _ _ z=>False.elim z
end
section
variable {X:Cx}{st:Stmt}{rest:List Stmt}{t u:TS}{e:Expr}{te:TE}{pos:Pos}
def tNext:TS:=fun D σ H=>D.nx σ H
def tSeq(t u:TS):TS:=fun D σ H=>t { D with nx:=u D } σ H
theorem zb8:PSs X [] tNext:=fun _ _ σ H _ I h=>wpAny_execs_nil ⟨σ,H,I,h⟩
theorem za3(h1:PS X st t)(h2:PSs X rest u):PSs X (st :: rest) (tSeq t u):=by
 intro pins s σ H D I h
 refine wpAny_execs_cons (thn (h1 pins s σ H { D with nx:=u D } I h) fun f s1 q=>?_)
 cases f with
 | next=>
  obtain⟨σ',H',I',q⟩:=q
  exact h2 pins s1 σ' H' D I' q
 | ret v=>exact q
 | brk=>exact q
 | cont=>exact q
theorem za4(h1:PS X st t):PSs X [st] t:=by
 intro pins s σ H D I h
 refine wpAny_execs_cons (thn (h1 pins s σ H D I h) fun f s1 q=>?_)
 cases f with
 | next=>exact wpAny_execs_nil q
 | ret v=>exact q
 | brk=>exact q
 | cont=>exact q
theorem Inv.quiet{s:Shared}(I:Inv X pins σ H s):interactive X.env=false:=by simp[interactive,I.ok.kind]
def tDrop(te:TE):TS:=fun D σ H=>te σ H fun _ H1=>D.nx σ H1
theorem zn1(he:PE X e te)(hs:swapsWith e none pos.line X.env=pure false:=by rfl):PS X (.Expr e pos) (tDrop te):=by
 intro pins s σ H D I h
 exact wpAny_Expr_any (thn (he pins s σ H _ I h) fun v s1 ⟨x,H1,I1,r1,q1⟩=>⟨σ,H1,I1,q1⟩) I.quiet hs
def tRet(te:TE):TS:=fun D σ H=>te σ H D.rt
theorem za9(he:PE X e te):PS X (.Return (some e) pos) (tRet te):=by
 intro pins s σ H D I h
 exact wpAny_Return_some (thn (he pins s σ H _ I h) fun v s1 ⟨x,H1,I1,r1,q1⟩=>⟨x,σ,H1,I1,r1,q1⟩)
def tIfS(c:TT)(t u:TS):TS:=fun D σ H=>c σ H fun b H1=>if b=true then t D σ H1 else u D σ H1
theorem ps_if{c:Expr}{a b:List Stmt}{tc:TT}(hc:PT X c tc)(ha:PSs X a t)(hb:PSs X b u):PS X (.If c a b pos) (tIfS tc t u):=by
 intro pins s σ H D I h
 refine wpAny_If (thn (hc pins s σ H _ I h) fun d s1 ⟨H1,I1,q1⟩=>?_)
 cases d with
 | true=>exact ha pins s1 σ H1 D I1 q1
 | false=>exact hb pins s1 σ H1 D I1 q1
def tNever:TS:=fun _ _ _=>False
theorem zaj9:PS X st tNever:=fun _ _ _ _ _ _ h=>h.elim
end
abbrev TG:=V->St->Hp->(St->Hp->Prop)->Prop
abbrev TGs:=List V->St->Hp->(St->Hp->Prop)->Prop
def PG(X:Cx)(target:Expr)(t:TG):Prop:=
 ∀ (pins:List (Addr×Obj)) (s:Shared) (σ:St) (H:Hp) (v:V) (u:Value) (Q:St->Hp->Prop),Inv X pins σ H s->RelV v u->t v σ H Q ->
  wpAny (model X.prog X.w) X.A (assign target X.env u) (fun _ s'=>∃ σ' H',Inv X pins σ' H' s'/\Q σ' H') X.xe s
def PGs(X:Cx)(ts:List Expr)(t:TGs):Prop:=
 ∀ (pins:List (Addr×Obj)) (s:Shared) (σ:St) (H:Hp) (vs:List V) (us:List Value) (Q:St->Hp->Prop),Inv X pins σ H s->Vals vs us->t vs σ H Q ->
  wpAny (model X.prog X.w) X.A (assignInOrder ((assignEach ts X.env).map (·.2)) us) (fun _ s'=>∃ σ' H',Inv X pins σ' H' s'/\Q σ' H') X.xe s
abbrev TSet:=V->V->V->Hp->(Hp->Prop)->Prop
def PSet(X:Cx)(t:TSet):Prop:=
 ∀ (pins:List (Addr×Obj)) (s:Shared) (σ:St) (H:Hp) (o i v:V) (ov iv u:Value) (Q:Hp->Prop),Inv X pins σ H s->RelV o ov->RelV i iv->RelV v u->t o i v H Q ->
  wpAny (model X.prog X.w) X.A (setItem ov iv u) (fun _ s'=>∃ H',Inv X pins σ H' s'/\Q H') X.xe s
section
variable {X:Cx}{pos:Pos}
def zba8(i:Nat):TG:=fun v σ H Q=>Q (σ.set i (some v)) H
theorem zb0{x:Str}(hN:X.N.Nodup)(hi:X.N[i]?=some x)(hx:Loc X.env.scope x)(hf:X.fn x=true∨X.env.scope.names.lookup x=some .local:=by first|exact .inl rfl|exact .inr rfl|assumption):PG X (.Name x pos) (zba8 i):=by
 intro pins s σ H v u Q I r h
 exact wpAny_assign_Name (zaa0 I hN hi hx r (fun s' I'=>⟨_,H,I',h⟩) hf)
def gNil:TGs:=fun vs σ H Q=>vs=[]/\Q σ H
def gCons(t:TG)(u:TGs):TGs:=fun vs σ H Q=>∃ v r,vs=v :: r/\t v σ H fun σ' H'=>u r σ' H' Q
theorem zbr0:PGs X [] gNil:=by
 intro pins s σ H vs us Q I r h
 obtain⟨e,h⟩:=h
 subst e
 cases r
 exact assignInOrder_nil ⟨σ,H,I,h⟩
theorem zbn1{es:List Expr}{t:TG}{u:TGs}(h1:PG X e t)(h2:PGs X es u)(hs:(assignEach (e :: es) X.env).map (·.2)=assign e X.env :: (assignEach es X.env).map (·.2):=by rfl):PGs X (e :: es) (gCons t u):=by
 intro pins s σ H vs us Q I r h
 obtain⟨v,vr,e1,h⟩:=h
 subst e1
 cases r with
 | cons r rr=>
  rw[hs]
  refine assignInOrder_cons (thn (h1 pins s σ H _ _ _ I r h) fun _ s1 ⟨σ1,H1,I1,q1⟩=>?_)
  exact h2 pins s1 σ1 H1 _ _ Q I1 rr q1
def gTup(K:zce1)(n:Nat)(t:TGs):TG:=fun v σ H Q=>∃ a xs,v=.ref a/\SqT K H a xs/\xs.length=n/\t xs σ H Q
theorem pg_tup{es:List Expr}{k:Nat}{t:TGs}{n:Nat}(hc:X.calm=true)(h:PGs X es t)(hn:(assignEach es X.env).length=n:=by rfl)(hst:(assignEach es X.env).findIdx? (·.1)=none:=by rfl):PG X (.Tuple es k pos) (gTup X.K n t):=by
 intro pins s σ H v u Q I r hw
 obtain⟨a,xs,e1,hq,hl,hw⟩:=hw
 subst e1
 cases r
 obtain⟨its,rv,ht,hz⟩:=I.tuple hq
 refine assign_Tuple_tuple (I.ok.hd hc) ht (by simp[hn,← hl,rv.length]) hst fun h' hx=>?_
 have I1:Inv X pins σ H { s with heap:=h' }:=I.kept (t':=s.toks) fun b o e=>hx b o (zch9 (zcf6 e)) e
 exact h pins _ σ H xs _ Q I1 (by simpa using rv) hw
def gSub(to ti:TE)(t:TSet):TG:=fun v σ H Q=>to σ H fun o H1=>ti σ H1 fun i H2=>t o i v H2 fun H3=>Q σ H3
theorem zbi0{o i:Expr}{to ti:TE}{t:TSet}(ho:PE X o to)(hi:PE X i ti)(hs:PSet X t)(ha:∀ v,assign (.Subscript o i pos) X.env v=(do
   let ov ← holding [v] (eval o X.env)
   let iv ← holding [v,ov] (eval i X.env)
   standAt pos
   holding [v,ov,iv] (setItem ov iv v)
   release [v,ov,iv] []):=by intro _;rfl):PG X (.Subscript o i pos) (gSub to ti t):=by
 intro pins s σ H v u Q I r h
 rw[ha]
 refine zcn3 (zcn8 (thn (ho pins s σ H _ I h) fun ov s1 ⟨x,H1,I1,r1,q1⟩=>?_))
 refine zcn3 (zcn8 (thn (hi pins s1 σ H1 _ I1 q1) fun iv s2 ⟨y,H2,I2,r2,q2⟩=>?_))
 refine zcn3 (wpAny_standAt (zcn3 (zcn8 (thn (hs pins s2 σ H2 x y v ov iv u _ I2 r1 r2 r q2) fun _ s3 ⟨H3,I3,q3⟩=>?_))))
 exact wpAny_release ⟨σ,H3,I3,q3⟩
def tAsg(te:TE)(g:TG):TS:=fun D σ H=>te σ H fun x H1=>g x σ H1 D.nx
theorem zy9{te:TE}{g:TG}(he:PE X e te)(hg:PG X tg g)(hs:swapsWithSole [tg] e pos.line X.env=pure false:=by rfl)(hw:swappedStores [tg] e X.env=pure none:=by rfl)(h1:(assignEach [tg] X.env).map (·.2)=[assign tg X.env]:=by rfl):PS X (.Assign [tg] e pos) (tAsg te g):=by
 intro pins s σ H D I h
 refine wpAny_Assign_stores (thn (he pins s σ H _ I h) fun v s1 ⟨x,H1,I1,r1,q1⟩=>?_) hs hw
 rw[h1]
 exact thn (hg pins s1 σ H1 x v _ I1 r1 q1) fun _ s2 q=>q
theorem zbi3{x:Str}{te:TE}{pos':Pos}(hN:X.N.Nodup)(hi:X.N[i]?=some x)(hx:Loc X.env.scope x)(he:PE X e te)(hs:swapsWith e (some (.Name x pos')) pos.line X.env=pure false:=by rfl)(hf:X.fn x=true∨X.env.scope.names.lookup x=some .local:=by first|exact .inl rfl|exact .inr rfl|assumption) :
  PS X (.Assign [.Name x pos'] e pos) (tAsg te (zba8 i)):=by
 intro pins s σ H D I h
 refine wpAny_Assign_Name (thn (he pins s σ H _ I h) fun v s1 ⟨y,H1,I1,r1,q1⟩=>?_) hs
 exact zaa0 I1 hN hi hx r1 (fun s2 I2=>⟨_,H1,I2,q1⟩) hf
end
structure It where
 go:Nat->Hp->Prop
 yld:Nat->Hp->V->Hp->Prop
 stop:Nat->Hp->Prop
def FpOk(X:Cx)(pins:List (Addr×Obj))(H:Hp)(b:Addr):Prop:=
 H b=none/\b≠X.env.locals/\b ∉ X.fs/\(b∈X.ex∨X.s₀.heap.objs.size<=b)/\(∀ x c,X.env.cells.lookup x=some c->c≠b)/\∀ p∈X.pn++pins,p.1≠b
theorem Inv.fpOk{X:Cx}{H':Hp}{s:Shared}{b:Addr}(I:Inv X pins σ H s)(hb:s.heap.objs.size<=b)(hn:H' b=none):FpOk X pins H' b:=by
 refine⟨hn,zcn1 (zcg6 I.lt hb),I.nofs hb,.inr (zci0 I.sz hb),fun x c e z=>?_,fun p hp z=>?_⟩
 ·obtain⟨v,q⟩:=I.cell x c e
  exact absurd (zcg6 q.lt (by rw[z];exact hb)) (zcm7 _)
 ·exact absurd (zcg6 (zcf6 (I.pin p hp).1) (by rw[z];exact hb)) (zcm7 _)
structure Turn(P:Program)(w:World)(K:zce1)(tg:Expr)(J:It)(fp:List Addr)(it:Addr)(tn:Nat->Heap->Prop):Prop where
 mem:it∈fp
 obj:∀ i h,tn i h->∀ b∈fp,∃ o,h.get? b=some o/\∀ v,o.data≠.cell v
 keep:∀ i h h',tn i h->(∀ b∈fp,∀ o,h.get? b=some o->h'.get? b=some o)->tn i h'
 item:∀ (X:Cx),X.prog=P->X.w=w->X.K=K->X.calm=true->∀ (i:Nat) (pins:List (Addr×Obj)) (s:Shared) (σ:St) (H:Hp) (E:Value->Shared->Prop),Inv X pins σ H s->(∀ b∈fp,FpOk X pins H b)->tn i s.heap->J.go i H ->
  wpAny (model P w) X.A (pyNext (.ref it)) (fun r s1=>∃ u,r=some u /\
   wpAny (model P w) X.A (letOwnedTupleGo tg (.ref it) u) (fun _ s2=>∃ x H',Inv X pins σ H' s2/\RelV x u/\J.yld i H x H'/\tn (i+1) s2.heap/\∀ b∈fp,H' b=none) E s1) E s
 done:∀ (X:Cx),X.prog=P->X.w=w->X.K=K->X.calm=true->∀ (i:Nat) (pins:List (Addr×Obj)) (s:Shared) (σ:St) (H:Hp) (E:Value->Shared->Prop),Inv X pins σ H s->(∀ b∈fp,FpOk X pins H b)->tn i s.heap->J.stop i H ->
  wpAny (model P w) X.A (pyNext (.ref it)) (fun r s1=>r=none/\Inv X pins σ H s1) E s
 self:∀ (A:Around) (i:Nat) (s:Shared) (Q:Value->Shared->Prop) (E:Value->Shared->Prop),tn i s.heap->Q (.ref it) s->wpAny (model P w) A (pyIter (.ref it)) Q E s
abbrev TI:=St->Hp->(It->Hp->Prop)->Prop
def PIE(X:Cx)(pins:List (Addr×Obj))(σ:St)(tg:Expr)(R:It->Hp->Prop)(itv:Value)(s2:Shared):Prop:=
 ∃ (it:Addr) (fp:List Addr) (tn:Nat->Heap->Prop) (J:It) (H':Hp),itv=.ref it/\Inv X pins σ H' s2/\Turn X.prog X.w X.K tg J fp it tn/\tn 0 s2.heap/\(∀ b∈fp,FpOk X pins H' b)/\R J H'
def PI(X:Cx)(tg iter:Expr)(wi:TI):Prop:=
 ∀ (pins:List (Addr×Obj)) (s:Shared) (σ:St) (H:Hp) (R:It->Hp->Prop),Inv X pins σ H s->wi σ H R ->
  wpAny (model X.prog X.w) X.A (eval iter X.env) (fun v s1=>wpAny (model X.prog X.w) X.A (pyIter v) (PIE X pins σ tg R) X.xe s1) X.xe s
theorem go_of{M:Model}{A:Around}{s:Shared}{it:Addr}{o:Obj}{n:String}{vs:Array Value}{Q:Unit->Shared->Prop}(ho:s.heap.get? it=some o)(hc:o.cls=.type n)(hd:o.data=.fields vs)(hn:["enumerate","zip","dict_itemiterator","dict_reverseitemiterator","odict_iterator","itertools.zip_longest","itertools.pairwise"].contains n=false)(hQ:Q () s):wpAny M A (letOwnedTupleGo tg (.ref it) u) Q E s:=by
 unfold letOwnedTupleGo
 cases tg<;>first
  | exact zcn4 hQ
  | (cases u<;>first
    | exact zcn4 hQ
    | (refine zcn3 (wpAny_load ho ?_);rw[hc,hd];show wpAny M A (if (["enumerate","zip","dict_itemiterator","dict_reverseitemiterator","odict_iterator","itertools.zip_longest","itertools.pairwise"].contains n&&vs[0]?==some (rawInt _))=true then _ else _) Q E s;rw[if_neg (by intro h;rw[hn,Bool.false_and] at h;cases h)];exact zcn4 hQ))
def Itl(K:zce1)(a:Addr):It:=
 ⟨fun i H=>∃ xs x,SqL K H a xs/\xs[i]?=some x,fun i H x H'=>H'=H/\∀ xs,SqL K H a xs->xs[i]?=some x,fun i H=>∃ xs,SqL K H a xs/\xs.length<=i⟩
def Itt(K:zce1)(a:Addr):It:=
 ⟨fun i H=>∃ xs x,SqT K H a xs/\xs[i]?=some x,fun i H x H'=>H'=H/\∀ xs,SqT K H a xs->xs[i]?=some x,fun i H=>∃ xs,SqT K H a xs/\xs.length<=i⟩
def Itr(lo:Int)(n:Nat):It:=⟨fun i _=>i<n,fun i H x H'=>H'=H/\x=.int (lo+i),fun i _=>n<=i⟩
theorem zbk0{P:Program}{w:World}{K:zce1}(a it:Addr):Turn P w K tg (Itl K a) [it] it (fun i h=>h.IsListIter it a i) where
 mem:=by simp
 obj:=fun i h st b hb=>by
  have e:b=it:=by simpa using hb
  subst e
  obtain⟨o,e,c,d⟩:=st
  exact⟨o,e,fun v z=>by rw[d] at z;cases z⟩
 keep:=fun i h h' st k=>st.at fun o e=>k it (by simp) o e
 item:=by
  intro X hP hw hK hc i pins s σ H E I hf st hg
  subst hP hw hK
  obtain⟨xs,x,hq,hx⟩:=hg
  obtain⟨its,rv,p,hz⟩:=I.list hq
  obtain⟨u,hu,ru⟩:=rv.get hx
  obtain⟨f0,f1,f2,f3,f4,f5⟩:=hf it (by simp)
  refine wpAny_pyNext_list_item st p.isList (x:=u) (by simpa using hu) fun h' st' sb=>?_
  have I1:Inv X pins σ H { s with heap:=h' }:=I.turned (t':=s.toks) (fun b o hb e=>(sb.2 b hb).trans e) f0 f1 f3 f4 f5
  obtain⟨o,e,c,d⟩:=id st'
  exact⟨u,rfl,go_of (s:={ s with heap:=h' }) e c d (by decide) ⟨x,H,I1,ru,⟨rfl,fun ys hy=>by rw[I.list_inj hy hq];exact hx⟩,st',fun b hb=>(hf b hb).1⟩⟩
 done:=by
  intro X hP hw hK hc i pins s σ H E I hf st hg
  subst hP hw hK
  obtain⟨xs,hq,hx⟩:=hg
  obtain⟨its,rv,p,hz⟩:=I.list hq
  obtain⟨f0,f1,f2,f3,f4,f5⟩:=hf it (by simp)
  have hl:=rv.length
  exact wpAny_pyNext_list_end (I.ok.hd hc) st p.isList (by simp;omega) fun h' eb=>⟨rfl,I.turned (t':=s.toks) (fun b o hb e=>eb b o hb e) f0 f1 f3 f4 f5⟩
 self:=fun _ _ _ _ _ st h=>wpAny_pyIter_listiter st h
theorem zbc2{P:Program}{w:World}{K:zce1}(a it:Addr):Turn P w K tg (Itt K a) [it] it (fun i h=>h.IsTupleIter it a i) where
 mem:=by simp
 obj:=fun i h st b hb=>by
  have e:b=it:=by simpa using hb
  subst e
  obtain⟨o,e,c,d⟩:=st
  exact⟨o,e,fun v z=>by rw[d] at z;cases z⟩
 keep:=fun i h h' st k=>st.at fun o e=>k it (by simp) o e
 item:=by
  intro X hP hw hK hc i pins s σ H E I hf st hg
  subst hP hw hK
  obtain⟨xs,x,hq,hx⟩:=hg
  obtain⟨its,rv,p,hz⟩:=I.tuple hq
  obtain⟨u,hu,ru⟩:=rv.get hx
  obtain⟨f0,f1,f2,f3,f4,f5⟩:=hf it (by simp)
  refine wpAny_pyNext_tuple_item st (show s.heap.IsTuple a its.toArray from p) (x:=u) (by simpa using hu) fun h' st' sb=>?_
  have I1:Inv X pins σ H { s with heap:=h' }:=I.turned (t':=s.toks) (fun b o hb e=>(sb.2 b hb).trans e) f0 f1 f3 f4 f5
  obtain⟨o,e,c,d⟩:=id st'
  exact⟨u,rfl,go_of (s:={ s with heap:=h' }) e c d (by decide) ⟨x,H,I1,ru,⟨rfl,fun ys hy=>by rw[I.tuple_inj hy hq];exact hx⟩,st',fun b hb=>(hf b hb).1⟩⟩
 done:=by
  intro X hP hw hK hc i pins s σ H E I hf st hg
  subst hP hw hK
  obtain⟨xs,hq,hx⟩:=hg
  obtain⟨its,rv,p,hz⟩:=I.tuple hq
  obtain⟨f0,f1,f2,f3,f4,f5⟩:=hf it (by simp)
  have hl:=rv.length
  exact wpAny_pyNext_tuple_end (I.ok.hd hc) st (show s.heap.IsTuple a its.toArray from p) (by simp;omega) fun h' eb=>⟨rfl,I.turned (t':=s.toks) (fun b o hb e=>eb b o hb e) f0 f1 f3 f4 f5⟩
 self:=fun _ _ _ _ _ st h=>wpAny_pyIter_tupleiter st h
theorem zbb3{P:Program}{w:World}{K:zce1}(it:Addr)(lo:Int)(n:Nat):Turn P w K tg (Itr lo n) [it] it (fun i h=>IsRangeIter h it (lo+(i:Nat)*1) ((n:Int) - (i:Nat)) 1) where
 mem:=by simp
 obj:=fun i h st b hb=>by
  have e:b=it:=by simpa using hb
  subst e
  exact⟨_,st,fun v z=>by
   have z':Data.fields _=Data.cell v:=z
   cases z'⟩
 keep:=fun i h h' st k=>k it (by simp) _ st
 item:=by
  intro X hP hw hK hc i pins s σ H E I hf st hg
  subst hP hw hK
  obtain⟨f0,f1,f2,f3,f4,f5⟩:=hf it (by simp)
  have W:=Walks.range (prog:=X.prog) (w:=X.w) (I.ok.hd hc) it lo 1 n
  refine W.item i s _ _ hg st fun v h' tk hv st' kk=>?_
  obtain⟨t,rfl⟩:=hv
  have I1:Inv X pins σ H { s with heap:=h',toks:=tk }:=I.turned (fun b o hb e=>kk b o (by simpa using hb) e) f0 f1 f3 f4 f5
  refine⟨_,rfl,go_of (s:={ s with heap:=h',toks:=tk }) (n:="range_iterator") st' rfl rfl (by decide) ⟨.int (lo+i),H,I1,⟨t,?_⟩,⟨rfl,rfl⟩,st',fun b hb=>(hf b hb).1⟩⟩
  rw[Int.mul_one]
 done:=by
  intro X hP hw hK hc i pins s σ H E I hf st hg
  subst hP hw hK
  obtain⟨f0,f1,f2,f3,f4,f5⟩:=hf it (by simp)
  exact wpAny_pyNext_range_end (I.ok.hd hc) st (by have:n<=i:=hg;omega) fun h' eb=>⟨rfl,I.turned (t':=s.toks) (fun b o hb e=>eb b o hb e) f0 f1 f3 f4 f5⟩
 self:=fun _ _ _ _ _ st h=>wpAny_pyIter_rangeiter st h
section
variable {X:Cx}{tg:Expr}
theorem zaw1{s:Shared}{R:It->Hp->Prop}{lo hi:Int}{t u v:Tok}{tk:Nat}(I:Inv X pins σ H s)(h1:-(2 ^ 62)<=lo)(h2:lo<2 ^ 62)(h3:-(2 ^ 62)<=hi)(h4:hi<2 ^ 62)(q:R (Itr lo (hi - lo).toNat) H):wpAny (model X.prog X.w) X.A (pyIter (.ref s.heap.objs.size)) (PIE X pins σ tg R) E { s with heap:=s.heap.push { cls:=.type "range",data:=.fields #[.int lo t,.int hi u,.int 1 v] },toks:=tk }:=by
 refine wpAny_pyIter_range (IsRange.new ..) (small_one h1 h2 h3 h4) ?_
 have I1:Inv X pins σ H { s with heap:=s.heap.push { cls:=.type "range",data:=.fields #[.int lo t,.int hi u,.int 1 v] },toks:=tk }:=I.kept fun b o e=>zcf3 _ e
 refine⟨(s.heap.push { cls:=.type "range",data:=.fields #[.int lo t,.int hi u,.int 1 v] }).objs.size,[(s.heap.push { cls:=.type "range",data:=.fields #[.int lo t,.int hi u,.int 1 v] }).objs.size],_,_,H,rfl,
  I1.kept (t':=tk) fun b o e=>zcf3 _ e,zbb3 _ lo (hi - lo).toNat,?_,fun b hb=>?_,q⟩
 ·have e1:lo+((0:Nat):Int)*1=lo:=by simp
  have e2:(((hi - lo).toNat:Nat):Int) - ((0:Nat):Int)=Builtin.Range.rangeSize lo hi 1:=by rw[rangeSize_one];split<;>omega
  show IsRangeIter _ _ (lo+((0:Nat):Int)*1) ((((hi - lo).toNat:Nat):Int) - ((0:Nat):Int)) 1
  rw[e1,e2]
  exact zch7 _ rfl
 ·have e:b=(s.heap.push { cls:=.type "range",data:=.fields #[.int lo t,.int hi u,.int 1 v] }).objs.size:=by simpa using hb
  subst e
  exact I1.fpOk (zcg0 _) (I1.hok.fresh (zcg0 _))
def tFor(wi:TI)(g:TG)(tb:TS):TS:=fun D σ H=>wi σ H fun J H1=>∃ W:Nat->Nat->St->Hp->Prop,(∃ m,W 0 m σ H1)/\∀ i m σ H,W i m σ H ->
 (J.stop i H/\D.nx σ H)∨(J.go i H/\∃ N:St->Hp->Prop,(∀ σ' H',N σ' H'->∃ m',m'<m/\W (i+1) m' σ' H')/\∀ x H',J.yld i H x H'->g x σ H' fun σ2 H2=>tb { D with nx:=N,ct:=N,bk:=D.nx } σ2 H2)
def zap1(fp:List Addr)(h:Heap):List (Addr×Obj):=fp.filterMap fun b=>(h.get? b).map fun o=>(b,o)
theorem zr9{fp:List Addr}{b:Addr}{o:Obj}(hb:b∈fp)(e:h.get? b=some o):(b,o)∈zap1 fp h:=List.mem_filterMap.mpr ⟨b,hb,by rw[e];rfl⟩
theorem zbj1{fp:List Addr}{p:Addr×Obj}(hp:p∈zap1 fp h):p.1∈fp/\h.get? p.1=some p.2:=by
 obtain⟨b,hb,e⟩:=List.mem_filterMap.mp hp
 cases q:h.get? b with
 | none=>rw[q] at e;cases e
 | some o=>
  rw[q] at e
  have e':(b,o)=p:=Option.some.inj e
  subst e'
  exact⟨hb,q⟩
theorem Inv.pinned{s:Shared}{fp:List Addr}(I:Inv X pins σ H s)(hf:∀ b∈fp,FpOk X pins H b)(ho:∀ b∈fp,∃ o,s.heap.get? b=some o/\∀ v,o.data≠.cell v):Inv X (pins++zap1 fp s.heap) σ H s:=
 I.pins_of fun p hp=>(zch8.mp hp).elim (fun z=>I.pin p (zch6 _ z)) fun z=>by
  obtain⟨hb,e⟩:=zbj1 z
  obtain⟨f0,f1,f2,_⟩:=hf p.1 hb
  obtain⟨o,e',d⟩:=ho p.1 hb
  rw[e] at e';cases e'
  exact⟨e,f0,f1,f2,d⟩
theorem Inv.unpinned{pl:List (Addr×Obj)}{s:Shared}(I:Inv X (pins++pl) σ H s):Inv X pins σ H s:=I.pins_of fun p hp=>I.pin p (zch6 _ (List.mem_append_left _ hp))
theorem ps_for{iter:Expr}{body:List Stmt}{wi:TI}{g:TG}{tb:TS}(hp:PassesOwn (model X.prog X.w) X.A X.env X.xe)(hc:X.calm=true)(hi:PI X tg iter wi)(hg:PG X tg g)(hb:PSs X body tb)(hs:∀ x,foldedSetIterable iter X.env x=pure x:=by intro _;rfl):PS X (.For tg iter body [] pos) (tFor wi g tb):=by
 intro pins s σ H D I h
 refine wpAny_For (thn (hi pins s σ H _ I h) fun v s1 h1=>thn h1 fun itv s2 h2=>?_) hs
 obtain⟨it,fp,tn,J,H2,e,I2,T,st2,f2,W,⟨m0,w0⟩,turn⟩:=h2
 subst e
 have stat:∀ {H':Hp},(∀ b∈fp,H' b=none)->∀ b∈fp,FpOk X pins H' b:=fun hn b hb=>⟨hn b hb,(f2 b hb).2⟩
 refine codeAny_forLoop_any (fun n s'=>∃ i σ' H',Inv X pins σ' H' s'/\tn i s'.heap/\(∀ b∈fp,H' b=none)/\W i n σ' H') ?_ m0 ⟨0,σ,H2,I2,st2,fun b hb=>(f2 b hb).1,w0⟩
 rintro n s3 ⟨i,σ3,H3,I3,st3,fr3,w3⟩
 rcases turn i n σ3 H3 w3 with ⟨stop,qn⟩|⟨go,N,hN,step⟩
 ·refine wpAny_passesOwn hp (thn (T.done X rfl rfl rfl hc i pins s3 σ3 H3 X.xe I3 (stat fr3) st3 stop) fun r s4 ⟨hr,I4⟩=>?_)
  subst hr
  exact wpAny_execs_nil ⟨σ3,H3,I4,qn⟩
 ·refine wpAny_passesOwn hp (thn (T.item X rfl rfl rfl hc i pins s3 σ3 H3 X.xe I3 (stat fr3) st3 go) fun r s4 ⟨u,hr,h4⟩=>?_)
  subst hr
  refine wpAny_passesOwn hp (thn h4 fun _ s5 ⟨x,H5,I5,r5,y5,st5,fr5⟩=>?_)
  have I5':=I5.pinned (stat fr5) (T.obj _ _ st5)
  refine wpAny_passesOwn hp (thn (hg _ s5 σ3 H5 x u _ I5' r5 (step x H5 y5)) fun _ s6 ⟨σ6,H6,I6,q6⟩=>?_)
  refine wpAny_passesOwn hp (thn (hb _ s6 σ6 H6 _ I6 q6) fun f s7 q7=>?_)
  have again:∀ {σ7:St}{H7:Hp},Inv X (pins++zap1 fp s5.heap) σ7 H7 s7->N σ7 H7->∃ m,m<n/\∃ i σ' H',Inv X pins σ' H' s7/\tn i s7.heap/\(∀ b∈fp,H' b=none)/\W i m σ' H':=fun {σ7 H7} I7 n7=>by
   obtain⟨m',hm,w7⟩:=hN σ7 H7 n7
   refine⟨m',hm,i+1,σ7,H7,I7.unpinned,T.keep _ _ _ st5 fun b hb o e=>(I7.pin (b,o) (zch6 _ (zch6 _ (zr9 hb e)))).1,fun b hb=>?_,w7⟩
   obtain⟨o,e,d⟩:=T.obj _ _ st5 b hb
   exact (I7.pin (b,o) (zch6 _ (zch6 _ (zr9 hb e)))).2.1
  cases f with
  | next=>obtain⟨σ7,H7,I7,n7⟩:=q7;exact again I7 n7
  | cont=>obtain⟨σ7,H7,I7,n7⟩:=q7;exact again I7 n7
  | brk=>obtain⟨σ7,H7,I7,q7⟩:=q7;exact⟨σ7,H7,I7.unpinned,q7⟩
  | ret v=>obtain⟨x7,σ7,H7,I7,r7,q7⟩:=q7;exact⟨x7,σ7,H7,I7.unpinned,r7,q7⟩
end
theorem zbk3{K:zce1}{a:Addr}{xs:List V}{g:TG}{tb:TS}{D:Ends}(Pv:Nat->St->Hp->Prop)(h0:Pv 0 σ H)(hl:∀ i σ H,i<=xs.length->Pv i σ H->SqL K H a xs)(hs:∀ i x σ H,xs[i]?=some x->Pv i σ H->g x σ H fun σ2 H2=>tb { D with nx:=Pv (i+1),ct:=Pv (i+1),bk:=D.nx } σ2 H2)(hd:∀ σ H,Pv xs.length σ H->D.nx σ H) :
  ∃ W:Nat->Nat->St->Hp->Prop,(∃ m,W 0 m σ H)/\∀ i m σ H,W i m σ H ->
   ((Itl K a).stop i H/\D.nx σ H)∨((Itl K a).go i H/\∃ N:St->Hp->Prop,(∀ σ' H',N σ' H'->∃ m',m'<m/\W (i+1) m' σ' H')/\∀ x H',(Itl K a).yld i H x H'->g x σ H' fun σ2 H2=>tb { D with nx:=N,ct:=N,bk:=D.nx } σ2 H2):=by
 refine⟨fun i m σ H=>m=xs.length - i/\i<=xs.length/\Pv i σ H,⟨xs.length,by simp,zcl0 _,h0⟩,?_⟩
 rintro i m σ H ⟨rfl,hi,p⟩
 have q:=hl i σ H hi p
 by_cases hlt:i<xs.length
 ·refine .inr ⟨⟨xs,xs[i],q,by simp[hlt]⟩,Pv (i+1),fun σ' H' p'=>⟨xs.length - (i+1),by omega,rfl,hlt,p'⟩,fun x H' y=>?_⟩
  obtain⟨e,y⟩:=y
  subst e
  exact hs i x σ _ (y xs q) p
 ·have e:i=xs.length:=by omega
  subst e
  exact .inl ⟨⟨xs,q,zcg0 _⟩,hd σ H p⟩
theorem zbu2{K:zce1}{a:Addr}{xs:List V}{g:TG}{tb:TS}{D:Ends}(Pv:Nat->St->Hp->Prop)(h0:Pv 0 σ H)(hl:∀ i σ H,i<=xs.length->Pv i σ H->SqT K H a xs)(hs:∀ i x σ H,xs[i]?=some x->Pv i σ H->g x σ H fun σ2 H2=>tb { D with nx:=Pv (i+1),ct:=Pv (i+1),bk:=D.nx } σ2 H2)(hd:∀ σ H,Pv xs.length σ H->D.nx σ H) :
  ∃ W:Nat->Nat->St->Hp->Prop,(∃ m,W 0 m σ H)/\∀ i m σ H,W i m σ H ->
   ((Itt K a).stop i H/\D.nx σ H)∨((Itt K a).go i H/\∃ N:St->Hp->Prop,(∀ σ' H',N σ' H'->∃ m',m'<m/\W (i+1) m' σ' H')/\∀ x H',(Itt K a).yld i H x H'->g x σ H' fun σ2 H2=>tb { D with nx:=N,ct:=N,bk:=D.nx } σ2 H2):=by
 refine⟨fun i m σ H=>m=xs.length - i/\i<=xs.length/\Pv i σ H,⟨xs.length,by simp,zcl0 _,h0⟩,?_⟩
 rintro i m σ H ⟨rfl,hi,p⟩
 have q:=hl i σ H hi p
 by_cases hlt:i<xs.length
 ·refine .inr ⟨⟨xs,xs[i],q,by simp[hlt]⟩,Pv (i+1),fun σ' H' p'=>⟨xs.length - (i+1),by omega,rfl,hlt,p'⟩,fun x H' y=>?_⟩
  obtain⟨e,y⟩:=y
  subst e
  exact hs i x σ _ (y xs q) p
 ·have e:i=xs.length:=by omega
  subst e
  exact .inl ⟨⟨xs,q,zcg0 _⟩,hd σ H p⟩
theorem zbj8{lo:Int}{n:Nat}{g:TG}{tb:TS}{D:Ends}(Pv:Nat->St->Hp->Prop)(h0:Pv 0 σ H)(hs:∀ i σ H,i<n->Pv i σ H->g (.int (lo+i)) σ H fun σ2 H2=>tb { D with nx:=Pv (i+1),ct:=Pv (i+1),bk:=D.nx } σ2 H2)(hd:∀ σ H,Pv n σ H->D.nx σ H) :
  ∃ W:Nat->Nat->St->Hp->Prop,(∃ m,W 0 m σ H)/\∀ i m σ H,W i m σ H ->
   ((Itr lo n).stop i H/\D.nx σ H)∨((Itr lo n).go i H/\∃ N:St->Hp->Prop,(∀ σ' H',N σ' H'->∃ m',m'<m/\W (i+1) m' σ' H')/\∀ x H',(Itr lo n).yld i H x H'->g x σ H' fun σ2 H2=>tb { D with nx:=N,ct:=N,bk:=D.nx } σ2 H2):=by
 refine⟨fun i m σ H=>m=n - i/\i<=n/\Pv i σ H,⟨n,by simp,zcl0 _,h0⟩,?_⟩
 rintro i m σ H ⟨rfl,hi,p⟩
 by_cases hlt:i<n
 ·refine .inr ⟨hlt,Pv (i+1),fun σ' H' p'=>⟨n - (i+1),by omega,rfl,hlt,p'⟩,fun x H' y=>?_⟩
  obtain⟨e,y⟩:=y
  subst e y
  exact hs i σ _ hlt p
 ·have e:i=n:=by omega
  subst e
  exact .inl ⟨zcg0 _,hd σ H p⟩
abbrev R2:=V->V->Hp->VK->Prop
def OpR(X:Cx)(f:Value->Value->Sem Value)(r:R2):Prop:=
 ∀ (pins:List (Addr×Obj)) (s:Shared) (σ:St) (H:Hp) (x y:V) (v u:Value) (Q:VK),Inv X pins σ H s->RelV x v->RelV y u->r x y H Q ->
  wpAny (model X.prog X.w) X.A (f v u) (EP X pins σ Q) X.xe s
def UnR(X:Cx)(f:Value->Sem Value)(r:V->Hp->VK->Prop):Prop:=
 ∀ (pins:List (Addr×Obj)) (s:Shared) (σ:St) (H:Hp) (x:V) (v:Value) (Q:VK),Inv X pins σ H s->RelV x v->r x H Q ->
  wpAny (model X.prog X.w) X.A (f v) (EP X pins σ Q) X.xe s
def zk0(X:Cx)(f:Value)(r:List V->Hp->VK->Prop):Prop:=
 ∀ (pins:List (Addr×Obj)) (s:Shared) (σ:St) (H:Hp) (xs:List V) (us:List Value) (Q:VK),Inv X pins σ H s->Vals xs us->r xs H Q ->
  wpAny (model X.prog X.w) X.A (call f us) (EP X pins σ Q) X.xe s
def TruR(X:Cx)(r:V->Hp->(Bool->Hp->Prop)->Prop):Prop:=
 ∀ (pins:List (Addr×Obj)) (s:Shared) (σ:St) (H:Hp) (x:V) (v:Value) (Q:Bool->Hp->Prop),Inv X pins σ H s->RelV x v->r x H Q ->
  wpAny (model X.prog X.w) X.A (truthy v) (TP X pins σ Q) X.xe s
def tOp(r:R2)(ta tb:TE):TE:=fun σ H Q=>ta σ H fun x H1=>tb σ H1 fun y H2=>r x y H2 Q
def tUn(r:V->Hp->VK->Prop)(ta:TE):TE:=fun σ H Q=>ta σ H fun x H1=>r x H1 Q
def rI(C:Int->Int->Prop)(g:Int->Int->V):R2:=fun x y H Q=>∃ i j,x=.int i/\y=.int j/\C i j/\Q (g i j) H
def rI0(g:Int->Int->V):R2:=fun x y H Q=>∃ i j,x=.int i/\y=.int j/\Q (g i j) H
def rU(g:Int->V):V->Hp->VK->Prop:=fun x H Q=>∃ i,x=.int i/\Q (g i) H
section
variable {X:Cx}{a b c:Expr}{ta tb tc:TE}{pos:Pos}
theorem binT(ha:PE X a ta)(hb:PE X b tb){s:Shared}{R:V->V->Hp->Prop}(I:Inv X pins σ H s)(h:ta σ H fun x H1=>tb σ H1 fun y H2=>R x y H2){Q:Value->Shared->Prop}{f:Value->Value->Sem Value}(hf:∀ v u s2 x y H2,Inv X pins σ H2 s2->RelV x v->RelV y u->R x y H2->wpAny (model X.prog X.w) X.A (f v u) Q X.xe s2) :
  wpAny (model X.prog X.w) X.A (eval a X.env) (fun v s₁=>wpAny (model X.prog X.w) X.A (eval b X.env) (fun u s₂=>wpAny (model X.prog X.w) X.A (f v u) Q X.xe s₂) X.xe s₁) X.xe s:=by
 refine thn (ha pins s σ H _ I h) fun v s1 ⟨x,H1,I1,r1,q1⟩=>?_
 refine thn (hb pins s1 σ H1 _ I1 q1) fun u s2 ⟨y,H2,I2,r2,q2⟩=>?_
 exact hf v u s2 x y H2 I2 r1 r2 q2
theorem za8{op:Operator}{r:R2}(ho:OpR X (binaryOp op) r)(ha:PE X a ta)(hb:PE X b tb):PE X (.BinOp a op b pos) (tOp r ta tb):=by
 intro pins s σ H Q I h
 exact wpAny_BinOp (binT ha hb I h fun v u s2 x y H2 I2 rx ry q=>ho pins s2 σ H2 x y v u Q I2 rx ry q)
theorem zx1{op:UnaryOp}{r:V->Hp->VK->Prop}(ho:UnR X (unaryOp op) r)(ha:PE X a ta):PE X (.UnaryOp op a pos) (tUn r ta):=by
 intro pins s σ H Q I h
 exact UnaryOp_ (thn (ha pins s σ H _ I h) fun v s1 ⟨x,H1,I1,r1,q1⟩=>ho pins s1 σ H1 x v Q I1 r1 q1)
theorem opI{f:Value->Value->Sem Value}{C:Int->Int->Prop}{g:Int->Int->Int}(rule:∀ (i j:Int) (t u:Tok) (s:Shared) (Q:Value->Shared->Prop) (E:Value->Shared->Prop),C i j->Q (.int (g i j) s.toks) { s with toks:=s.toks+1 }->wpAny (model X.prog X.w) X.A (f (.int i t) (.int j u)) Q E s) :
  OpR X f (rI C fun i j=>.int (g i j)):=by
 intro pins s σ H x y v u Q I rx ry h
 obtain⟨i,j,rfl,rfl,hc,q⟩:=h
 obtain⟨t,rfl⟩:=rx
 obtain⟨t',rfl⟩:=ry
 exact rule i j t t' s _ _ hc ⟨.int (g i j),H,I.tok _,⟨_,rfl⟩,q⟩
theorem opI0{f:Value->Value->Sem Value}{g:Int->Int->Int}(rule:∀ (i j:Int) (t u:Tok) (s:Shared) (Q:Value->Shared->Prop) (E:Value->Shared->Prop),Q (.int (g i j) s.toks) { s with toks:=s.toks+1 }->wpAny (model X.prog X.w) X.A (f (.int i t) (.int j u)) Q E s) :
  OpR X f (rI0 fun i j=>.int (g i j)):=by
 intro pins s σ H x y v u Q I rx ry h
 obtain⟨i,j,rfl,rfl,q⟩:=h
 obtain⟨t,rfl⟩:=rx
 obtain⟨t',rfl⟩:=ry
 exact rule i j t t' s _ _ ⟨.int (g i j),H,I.tok _,⟨_,rfl⟩,q⟩
theorem opB0{f:Value->Value->Sem Value}{g:Int->Int->Bool}(rule:∀ (i j:Int) (t u:Tok) (s:Shared) (Q:Value->Shared->Prop) (E:Value->Shared->Prop),Q (.bool (g i j)) s->wpAny (model X.prog X.w) X.A (f (.int i t) (.int j u)) Q E s) :
  OpR X f (rI0 fun i j=>.bl (g i j)):=by
 intro pins s σ H x y v u Q I rx ry h
 obtain⟨i,j,rfl,rfl,q⟩:=h
 obtain⟨t,rfl⟩:=rx
 obtain⟨t',rfl⟩:=ry
 exact rule i j t t' s _ _ ⟨.bl (g i j),H,I,rfl,q⟩
def CPow(i j:Int):Prop:=0<=j/\j<=1000000/\i.natAbs<2 ^ 64
def CMul(i j:Int):Prop:=(-(2 ^ 64)<i/\i<2 ^ 64)∨(-(2 ^ 64)<j/\j<2 ^ 64)
theorem CMul.ok{i j:Int}(h:CMul i j):IntMulOk i j:=by
 rcases h with ⟨h1,h2⟩|⟨h1,h2⟩
 ·exact .of_left (intBits_le_64 h1 h2)
 ·exact .of_right (intBits_le_64 h1 h2)
theorem op_add:OpR X (binaryOp .Add) (rI0 fun i j=>.int (i+j)):=opI0 fun _ _ _ _ _ _ _ q=>add_int q
theorem op_sub:OpR X (binaryOp .Sub) (rI0 fun i j=>.int (i - j)):=opI0 fun _ _ _ _ _ _ _ q=>sub_int q
theorem zbt3:OpR X (binaryOp .Mod) (rI (fun _ j=>j≠0) fun i j=>.int (i.fmod j)):=opI fun _ _ _ _ _ _ _ hc q=>mod_int' hc q
theorem op_pow:OpR X (binaryOp .Pow) (rI CPow fun i j=>.int (i ^ j.toNat)):=opI fun _ _ _ _ _ _ _ hc q=>pow_int_small hc.1 hc.2.1 hc.2.2 q
theorem unI{f:Value->Sem Value}{g:Int->Int}(rule:∀ (i:Int) (t:Tok) (s:Shared) (Q:Value->Shared->Prop) (E:Value->Shared->Prop),Q (.int (g i) s.toks) { s with toks:=s.toks+1 }->wpAny (model X.prog X.w) X.A (f (.int i t)) Q E s) :
  UnR X f (rU fun i=>.int (g i)):=by
 intro pins s σ H x v Q I rx h
 obtain⟨i,rfl,q⟩:=h
 obtain⟨t,rfl⟩:=rx
 exact rule i t s _ _ ⟨.int (g i),H,I.tok _,⟨_,rfl⟩,q⟩
theorem un_neg:UnR X (unaryOp .USub) (rU fun i=>.int (-i)):=unI fun _ _ _ _ _ q=>neg_int q
end
def scal:V->V->Bool
 | .non,.non=>true | .non,.int _=>true | .int _,.non=>true | .non,.bl _=>true | .bl _,.non=>true | .non,.str _=>true | .str _,.non=>true
 | .int _,.int _=>true | .bl _,.bl _=>true | .str _,.str _=>true | .byt _,.byt _=>true
 | .int _,.str _=>true | .str _,.int _=>true | .bl _,.str _=>true | .str _,.bl _=>true
 | _,_=>false
def rEq:R2:=fun x y H Q=>scal x y=true/\Q (.bl (decide (x=y))) H
def rNe:R2:=fun x y H Q=>scal x y=true/\Q (.bl (!decide (x=y))) H
theorem zbh6{i j:Int}:decide (V.int i=V.int j)=(i==j):=by
 rw[zcl6]
 simp
theorem zbo7{i j:Bool}:decide (V.bl i=V.bl j)=(i==j):=by
 rw[zcl6]
 simp
theorem zbi6{i j:Str}:decide (V.str i=V.str j)=(i==j):=by
 rw[zcl6]
 simp
theorem zbe0{i j:Array UInt8}:decide (V.byt i=V.byt j)=(i.toList==j.toList):=by
 rw[zcl6]
 cases i
 cases j
 simp
section
variable {X:Cx}{a b c:Expr}{ta tb tc:TE}{pos:Pos}
theorem ze2{s:Shared}{Q:VK}{k k':Bool}(I:Inv X pins σ H s)(q:Q (.bl k) H)(e:k=k'):EP X pins σ Q (.bool k') s:=by
 subst e
 exact⟨.bl k,H,I,rfl,q⟩
theorem zat9:OpR X (compareOp .Eq) rEq:=by
 intro pins s σ H x y v u Q I rx ry h
 obtain⟨hs,q⟩:=h
 cases x with
 | non=>
  cases rx
  cases y with
  | non=>cases ry;exact PySem.EqNone.eq_none_none (ze2 I q (by simp))
  | bl j=>cases ry;exact PySem.EqNone.eq_none_bool (ze2 I q (by simp))
  | int j=>obtain⟨t',rfl⟩:=ry;exact PySem.EqNone.eq_none_int (ze2 I q (by simp))
  | str j=>obtain⟨t',rfl⟩:=ry;exact PySem.EqNone.eq_none_str (ze2 I q (by simp))
  | _=>exact absurd (show false=true from hs) zcf0
 | bl i=>
  cases rx
  cases y with
  | non=>cases ry;exact PySem.EqNone.eq_bool_none (ze2 I q (by simp))
  | bl j=>cases ry;exact eq_bool (ze2 I q zbo7)
  | str j=>obtain⟨t',rfl⟩:=ry;exact PySem.EqMixed.eq_bool_str (ze2 I q (by simp))
  | _=>exact absurd (show false=true from hs) zcf0
 | int i=>
  obtain⟨t,rfl⟩:=rx
  cases y with
  | non=>cases ry;exact PySem.EqNone.eq_int_none (ze2 I q (by simp))
  | int j=>obtain⟨t',rfl⟩:=ry;exact eq_int (ze2 I q zbh6)
  | str j=>obtain⟨t',rfl⟩:=ry;exact PySem.EqMixed.eq_int_str (ze2 I q (by simp))
  | _=>exact absurd (show false=true from hs) zcf0
 | str i=>
  obtain⟨t,rfl⟩:=rx
  cases y with
  | non=>cases ry;exact PySem.EqNone.eq_str_none (ze2 I q (by simp))
  | bl j=>cases ry;exact PySem.EqMixed.eq_str_bool (ze2 I q (by simp))
  | int j=>obtain⟨t',rfl⟩:=ry;exact PySem.EqMixed.eq_str_int (ze2 I q (by simp))
  | str j=>obtain⟨t',rfl⟩:=ry;exact eq_str (ze2 I q zbi6)
  | _=>exact absurd (show false=true from hs) zcf0
 | byt i=>
  obtain⟨t,rfl⟩:=rx
  cases y with
  | byt j=>obtain⟨t',rfl⟩:=ry;exact PySem.W.eq_bytes (ze2 I q zbe0)
  | _=>exact absurd (show false=true from hs) zcf0
 | _=>cases y<;>exact absurd (show false=true from hs) zcf0
theorem zau2:OpR X (compareOp .NotEq) rNe:=by
 intro pins s σ H x y v u Q I rx ry h
 obtain⟨hs,q⟩:=h
 cases x with
 | non=>
  cases rx
  cases y with
  | non=>cases ry;exact PySem.EqNone.ne_none_none (ze2 I q (by simp))
  | bl j=>cases ry;exact PySem.EqNone.ne_none_bool (ze2 I q (by simp))
  | int j=>obtain⟨t',rfl⟩:=ry;exact PySem.EqNone.ne_none_int (ze2 I q (by simp))
  | str j=>obtain⟨t',rfl⟩:=ry;exact PySem.EqNone.ne_none_str (ze2 I q (by simp))
  | _=>exact absurd (show false=true from hs) zcf0
 | bl i=>
  cases rx
  cases y with
  | non=>cases ry;exact PySem.EqNone.ne_bool_none (ze2 I q (by simp))
  | bl j=>cases ry;exact ne_bool (ze2 I q (congrArg not zbo7))
  | str j=>obtain⟨t',rfl⟩:=ry;exact PySem.EqMixed.ne_bool_str (ze2 I q (by simp))
  | _=>exact absurd (show false=true from hs) zcf0
 | int i=>
  obtain⟨t,rfl⟩:=rx
  cases y with
  | non=>cases ry;exact PySem.EqNone.ne_int_none (ze2 I q (by simp))
  | int j=>obtain⟨t',rfl⟩:=ry;exact ne_int (ze2 I q (congrArg not zbh6))
  | str j=>obtain⟨t',rfl⟩:=ry;exact PySem.EqMixed.ne_int_str (ze2 I q (by simp))
  | _=>exact absurd (show false=true from hs) zcf0
 | str i=>
  obtain⟨t,rfl⟩:=rx
  cases y with
  | non=>cases ry;exact PySem.EqNone.ne_str_none (ze2 I q (by simp))
  | bl j=>cases ry;exact PySem.EqMixed.ne_str_bool (ze2 I q (by simp))
  | int j=>obtain⟨t',rfl⟩:=ry;exact PySem.EqMixed.ne_str_int (ze2 I q (by simp))
  | str j=>obtain⟨t',rfl⟩:=ry;exact ne_str (ze2 I q (congrArg not zbi6))
  | _=>exact absurd (show false=true from hs) zcf0
 | byt i=>
  obtain⟨t,rfl⟩:=rx
  cases y with
  | byt j=>obtain⟨t',rfl⟩:=ry;exact PySem.W.ne_bytes (ze2 I q (congrArg not zbe0))
  | _=>exact absurd (show false=true from hs) zcf0
 | _=>cases y<;>exact absurd (show false=true from hs) zcf0
theorem op_lt:OpR X (compareOp .Lt) (rI0 fun i j=>.bl (decide (i<j))):=opB0 fun _ _ _ _ _ _ _ q=>lt_int q
theorem op_le:OpR X (compareOp .LtE) (rI0 fun i j=>.bl (decide (i<=j))):=opB0 fun _ _ _ _ _ _ _ q=>le_int q
theorem op_gt:OpR X (compareOp .Gt) (rI0 fun i j=>.bl (decide (j<i))):=opB0 fun _ _ _ _ _ _ _ q=>gt_int q
theorem op_ge:OpR X (compareOp .GtE) (rI0 fun i j=>.bl (decide (j<=i))):=opB0 fun _ _ _ _ _ _ _ q=>ge_int q
theorem zbq3:OpR X (compareOp .Is) (fun x y H Q=>y=.non/\Q (.bl (decide (x=.non))) H):=by
 intro pins s σ H x y v u Q I rx ry h
 obtain⟨rfl,q⟩:=h
 cases ry
 refine is_none_gen (ze2 I q ?_)
 cases x<;>first
  | (cases rx;rfl)
  | (obtain⟨t,rfl⟩:=rx;rfl)
theorem OpR.or{f:Value->Value->Sem Value}{r r':R2}(h:OpR X f r)(h':OpR X f r'):OpR X f (fun x y H Q=>r x y H Q∨r' x y H Q):=by
 intro pins s σ H x y v u Q I rx ry q
 rcases q with q|q
 ·exact h pins s σ H x y v u Q I rx ry q
 ·exact h' pins s σ H x y v u Q I rx ry q
theorem zbo8(b:Expr){op:CmpOp}(h:op≠.In:=by decide)(h2:op≠.NotIn:=by decide):behindInMarks op b=false:=by
 have e1:(op==CmpOp.In)=false:=by cases op<;>first|rfl|exact absurd rfl h
 have e2:(op==CmpOp.NotIn)=false:=by cases op<;>first|rfl|exact absurd rfl h2
 cases b<;>simp[behindInMarks,e1,e2]
theorem zbs8{op:CmpOp}{r:R2}(ho:OpR X (compareOp op) r)(ha:PE X a ta)(hb:PE X b tb)(hm:behindInMarks op b=false):PE X (.Compare a [op] [b] pos) (tOp r ta tb):=by
 intro pins s σ H Q I h
 exact wpAny_Compare1 (binT ha hb I h fun v u s2 x y H2 I2 rx ry q=>ho pins s2 σ H2 x y v u Q I2 rx ry q) hm
def TruV(K:zce1)(x:V)(H:Hp)(k:Bool):Prop:=
 match x with
 | .non=>k=false
 | .bl b=>k=b
 | .int i=>k=(i != 0)
 | .str y=>y.length<=sizeLine/\k=((y.length:Int) != 0)
 | .byt y=>y.size<=sizeLine/\k=((y.size:Int) != 0)
 | .ref p=>(∃ xs,SqL K H p xs/\k=!xs.isEmpty)∨(∃ xs,SqT K H p xs/\k=!xs.isEmpty)∨∃ kvs,H p=some (.dK kvs)/\k=!kvs.isEmpty
 | _=>False
theorem zba5{κ:Type}{kvs:List (κ×V)}{vs:List (κ×Value)}(r:KV kvs vs):(!vs.isEmpty)=!kvs.isEmpty:=by
 cases r<;>rfl
theorem zag5{xs:List V}{its:List Value}(r:Vals xs its):(!its.toArray.isEmpty)=!xs.isEmpty:=by
 cases r<;>simp
theorem zac5:(sizeLine:Nat)<2 ^ 63:=by rw[zcn5];decide
theorem zbe9:TruR X (fun x H Q=>∃ k,TruV X.K x H k/\Q k H):=by
 intro pins s σ H x v Q I rx h
 obtain⟨k,e,q⟩:=h
 have hl:=zac5
 have hs:sizeLine=16777216:=zcn5
 cases x with
 | non=>
  cases rx
  have e':k=false:=e
  subst e'
  exact truthy_none ⟨H,I,q⟩
 | bl b=>
  cases rx
  have e':k=b:=e
  subst e'
  exact wpAny_truthy_bool ⟨H,I,q⟩
 | int i=>
  obtain⟨t,rfl⟩:=rx
  have e':k=(i != 0):=e
  subst e'
  exact PySem.P.truthy_int ⟨H,I,q⟩
 | str y=>
  obtain⟨t,rfl⟩:=rx
  obtain⟨hy,e'⟩:y.length<=sizeLine/\k=((y.length:Int) != 0):=e
  subst e'
  exact PySem.P.truthy_str (by omega) ⟨H,I.tok _,q⟩
 | byt y=>
  obtain⟨t,rfl⟩:=rx
  obtain⟨hy,e'⟩:y.size<=sizeLine/\k=((y.size:Int) != 0):=e
  subst e'
  exact PySem.W.truthy_bytes (by omega) ⟨H,I.tok _,q⟩
 | ref p=>
  cases rx
  have e':(∃ xs,SqL X.K H p xs/\k=!xs.isEmpty)∨(∃ xs,SqT X.K H p xs/\k=!xs.isEmpty)∨∃ kvs,H p=some (.dK kvs)/\k=!kvs.isEmpty:=e
  rcases e' with ⟨xs,hx,e'⟩|⟨xs,hx,e'⟩|⟨kvs,hx,e'⟩
  ·subst e'
   obtain⟨its,r,pl,hz⟩:=I.list hx
   have hlen:=r.length
   exact wpAny_truthy_list pl.isList (by simp only[zce4];omega) ⟨H,I.tok _,by rw[zag5 r];exact q⟩
  ·subst e'
   obtain⟨its,r,pl,hz⟩:=I.tuple hx
   have hlen:=r.length
   exact truthy_tuple pl (by simp only[zce4];omega) ⟨H,I.tok _,by rw[zag5 r];exact q⟩
  ·subst e'
   obtain⟨hz,hS,vs,r,m⟩:kvs.length<=sizeLine/\(p==sysModules)=false/\∃ vs,KV kvs vs/\s.heap.DictOf (zm8 X.prog X.w) p vs:=I.hok p _ hx
   have hlen:kvs.length=vs.length:=Paired.length r
   exact wpAny_truthy_dict hS m (by omega) ⟨H,I.tok _,by rw[zba5 r];exact q⟩
 | _=>exact (show False from e).elim
theorem zaz7:OpR X (binaryOp .Add) (fun x y H Q=>∃ i j,x=.str i/\y=.str j/\i.length+j.length<=sizeLine/\Q (.str (i++j)) H):=by
 intro pins s σ H x y v u Q I rx ry h
 obtain⟨i,j,rfl,rfl,hz,q⟩:=h
 obtain⟨t,rfl⟩:=rx
 obtain⟨t',rfl⟩:=ry
 exact add_str (fun t' tk=>⟨.str (i++j),H,I.tok _,⟨_,rfl⟩,q⟩) hz
theorem zw6{x:V}(r:Vals [x] us):∃ u,us=[u]/\RelV x u:=by
 cases r with
 | cons r1 r2=>cases r2;exact⟨_,rfl,r1⟩
theorem vals2{x y:V}(r:Vals [x,y] us):∃ u w',us=[u,w']/\RelV x u/\RelV y w':=by
 cases r with
 | cons r1 r2=>
  cases r2 with
  | cons r3 r4=>cases r4;exact⟨_,_,rfl,r1,r3⟩
theorem zal6:zk0 X (.type "int") (fun xs H Q=>(∃ i,xs=[.int i]/\Q (.int i) H)∨∃ k,xs=[.bl k]/\Q (.int (if k then 1 else 0)) H):=by
 intro pins s σ H xs us Q I r h
 rcases h with ⟨i,rfl,q⟩|⟨k,rfl,q⟩
 ·obtain⟨u,rfl,t,rfl⟩:=zw6 r
  exact call_int_int ⟨.int i,H,I,⟨_,rfl⟩,q⟩
 ·obtain⟨u,rfl,r1⟩:=zw6 r
  cases r1
  exact call_int_bool ⟨.int (if k then 1 else 0),H,I.tok _,⟨_,rfl⟩,q⟩
end
structure ObjM(h:Heap)(x dx C:Addr)(mA:Str->Option Value):Prop where
 obj:h.get? x=some (PySem.W.instObj C dx)
 ns:h.Ns1 dx mA
 ne:dx≠x
theorem zal5{dx:Addr}{mA:Str->Option Value}(n:h.Ns1 dx mA):∃ od,h.get? dx=some od/\∀ name,PySem.W.lookIn name od=some (mA name):=by
 obtain⟨o,es,ep,ho,hd,hk,_,hm⟩:=n
 refine⟨o,ho,fun name=>?_⟩
 have e:=hm name
 unfold nsFind findBy at e
 rw[← Array.find?_toList] at e
 unfold PySem.W.lookIn
 rw[hd]
 dsimp only
 split
 ·rename_i y q
  rw[q] at e
  exact congrArg some e
 ·rename_i q
  rw[q] at e
  have a:es.toList.any (·.refKey)=false:=by
   rw[List.any_eq_false]
   intro y hy
   obtain⟨z,t,hkey⟩:=hk y (zcm6.mp hy)
   simp[DictEntry.refKey,hkey]
  have a':¬ es.toList.any (·.refKey)=true:=by rw[a];exact zcf0
  rw[if_neg a']
  exact congrArg some e
theorem ObjM.look{x dx:Addr}{mA:Str->Option Value}(I:ObjM h x dx C mA):∃ od,PySem.W.InstAt h x (PySem.W.instObj C dx) C (some od)/\∀ name,PySem.W.lookIn name od=some (mA name):=
 let ⟨od,ho,hl⟩:=zal5 I.ns
 ⟨od,⟨I.obj,rfl,rfl,ho⟩,hl⟩
section
variable {prog:Program}{w:World}{A:Around}{E:Value->Shared->Prop}{s:Shared}{K:zce1}{x dx C f:Addr}{mA:Str->Option Value}{name:Str}{v:Value}
end
theorem RelO.some_of{v:V}{o:Option Value}(r:RelO (some v) o):∃ u,o=some u/\RelV v u:=by
 cases o with
 | none=>exact (show False from r).elim
 | some u=>exact⟨u,rfl,r⟩
theorem zbg4{v:V}(r:RelV v u):PySem.W.handedIn u=true:=by
 cases v with
 | non=>cases (show u=Value.none from r);rfl
 | bl b=>cases (show u=Value.bool b from r);rfl
 | int i=>obtain⟨t,e⟩:=(show ∃ t,u=Value.int i t from r);cases e;rfl
 | str x=>obtain⟨t,e⟩:=(show ∃ t,u=Value.str x t from r);cases e;rfl
 | byt b=>obtain⟨t,e⟩:=(show ∃ t,u=Value.bytes b t from r);cases e;rfl
 | flt b=>obtain⟨t,e⟩:=(show ∃ t,u=Value.float b t from r);cases e;rfl
 | ref a=>cases (show u=Value.ref a from r);rfl
 | ty n=>cases (show u=Value.type n from r);rfl
section
variable {P:Program}{w:World}{H H':Hp}{h h':Heap}{a C dx:Addr}{fs fs':List (Str×V)}
theorem zbe5(hok:HOk P w H h)(e:H a=some (.ins C dx fs)):∃ mA,ObjM h a dx C mA/\(∀ f,RelO (fs.lookup f) (mA f))/\PySem.Within mA (fs.map (·.1))/\fs.length<=1000/\H dx=some (.own a):=by
 obtain⟨d,z,ne,ob,mA,n,r,q⟩:=(show zf2 P w H h a (.ins C dx fs) from hok a _ e)
 exact⟨mA,⟨ob,n,ne⟩,r,q,z,d⟩
end
structure Cls(K:zce1)(C:Addr):Prop where
 pg:PySem.W.plainGet K C Str.empty=true
 hd:zcm5 K C=true
 po:PySem.W.plainOver K C=true
 sa:zch4 K (.ref C) "__setattr__"=some (some (.builtin "object.__setattr__"))
theorem Cls.get{K:zce1}(c:Cls K C)(f:Str):PySem.W.plainGet K C f=true:=c.pg
section
variable {X:Cx}{pins:List (Addr×Obj)}{σ:St}{H:Hp}{s:Shared}{a C dx:Addr}{fs:List (Str×V)}{f:Str}{v:V}{A:Around}{E:Value->Shared->Prop}
theorem zbt7{prog:Program}{w:World}{env:Env}{f:Str}{s:Shared}{Q:Value->Shared->Prop}(hb:attributeBase e f env (eval e env)=eval e env)(h:wpAny (model prog w) A (eval e env) (fun o s₁=>wpAny (model prog w) A (getAttr o f true) Q E s₁) E s):wpAny (model prog w) A (eval (.Attribute e f pos) env) Q E s:=
 Attribute_any_ h (by rw[arm_eval_Attribute,hb])
end
section
variable {X:Cx}{pins:List (Addr×Obj)}{σ:St}{H:Hp}{s:Shared}{A:Around}{E:Value->Shared->Prop}{Q:Value->Shared->Prop}{c:Value}{b:Bool}
inductive TyOf(K:zce1)(H:Hp):V->Value->Prop where
 | non:TyOf K H .non (.type "NoneType")
 | bl (x:Bool):TyOf K H (.bl x) (.type "bool")
 | int (i:Int):TyOf K H (.int i) (.type "int")
 | str (x:Str):TyOf K H (.str x) (.type "str")
 | flt (x:UInt64):TyOf K H (.flt x) (.type "float")
 | lst {a:Addr}{xs:List V}(e:H a=some (.lst xs)):TyOf K H (.ref a) (.type "list")
 | frz {a:Addr}{o:Obj}{xs:List V}(e:H a=some (.frz o (.lst xs))):TyOf K H (.ref a) (.type "list")
 | tup {a:Addr}{xs:List V}(e:H a=some (.tup xs)):TyOf K H (.ref a) (.type "tuple")
 | dK {a:Addr}{kvs:List (Key×V)}(e:H a=some (.dK kvs)):TyOf K H (.ref a) (.type "dict")
 | dT {a:Addr}{kvs:List (List Key×V)}(e:H a=some (.dT kvs)):TyOf K H (.ref a) (.type "dict")
 | ins {a C dx:Addr}{fs:List (Str×V)}(e:H a=some (.ins C dx fs)) (cl:Cls K C) (ha:zch4 K (.ref C) "__class__"=some (some (.builtin "object.__class__")))
   (hn:PySem.W.specialIn K (.builtin "object.__class__") "__get__"=some (some (.builtin "getset_descriptor.__get__"))) (htk:PySem.W.takesIn K (.builtin "object.__class__")=some true)
   (hm:PySem.W.mroIn K C (.type "object")=some true):TyOf K H (.ref a) (.ref C)
theorem zbf8{x:V}{t:Value}(I:Inv X pins σ H s)(rx:RelV x u)(ty:TyOf X.K H x t)(e:zce8 X.K t c=some b)(h:∀ tk,Q (.bool b) { s with toks:=tk }) :
  wpAny (model X.prog X.w) A (call (.builtin "isinstance") [u,c]) Q E s:=by
 cases ty with
 | non=>cases (show u=Value.none from rx);exact zci9 PySem.W.kitx_none I.kIn True.intro e (fun z=>nomatch z) h
 | bl y=>cases (show u=Value.bool y from rx);exact zci9 PySem.W.kitx_bool I.kIn True.intro e (fun z=>nomatch z) h
 | int i=>obtain⟨t,q⟩:=(show ∃ t,u=Value.int i t from rx);cases q;exact zci9 PySem.W.kitx_int I.kIn True.intro e (fun z=>nomatch z) h
 | str y=>obtain⟨t,q⟩:=(show ∃ t,u=Value.str y t from rx);cases q;exact zci9 PySem.W.kitx_str I.kIn True.intro e (fun z=>nomatch z) h
 | flt y=>obtain⟨t,q⟩:=(show ∃ t,u=Value.float y t from rx);cases q;exact zci9 PySem.W.kitx_float I.kIn True.intro e (fun z=>nomatch z) h
 | @lst a xs ea=>
  cases (show u=Value.ref a from rx)
  obtain⟨_,_,n,_,h1⟩:=(show zf2 X.prog X.w H s.heap a (.lst xs) from I.hok a _ ea)
  exact zci9 PySem.W.kitx_list I.kIn ⟨_,h1,rfl⟩ e (fun z=>nomatch z) h
 | @frz a ob xs ea=>
  cases (show u=Value.ref a from rx)
  obtain⟨_,_,_,n,_,h1⟩:=(show zf2 X.prog X.w H s.heap a (.frz ob (.lst xs)) from I.hok a _ ea)
  exact zci9 PySem.W.kitx_list I.kIn ⟨_,h1,rfl⟩ e (fun z=>nomatch z) h
 | @tup a xs ea=>
  cases (show u=Value.ref a from rx)
  obtain⟨_,_,_,p⟩:=(show zf2 X.prog X.w H s.heap a (.tup xs) from I.hok a _ ea)
  obtain⟨o,h1,h2,_⟩:=p
  exact zci9 PySem.W.kitx_tuple I.kIn ⟨o,h1,h2⟩ e (fun z=>nomatch z) h
 | @dK a kvs ea=>
  cases (show u=Value.ref a from rx)
  obtain⟨_,_,vs,_,p⟩:=(show zf2 X.prog X.w H s.heap a (.dK kvs) from I.hok a _ ea)
  obtain⟨o,es,ep,h1,h2,_⟩:=p
  exact zci9 PySem.W.kitx_dict I.kIn ⟨o,h1,h2.1⟩ e (fun z=>nomatch z) h
 | @dT a kvs ea=>
  cases (show u=Value.ref a from rx)
  obtain⟨_,_,xs,_,o,es,ep,h1,h2,_⟩:=(show zf2 X.prog X.w H s.heap a (.dT kvs) from I.hok a _ ea)
  exact zci9 PySem.W.kitx_dict I.kIn ⟨o,h1,h2.1⟩ e (fun z=>nomatch z) h
 | @ins a C dx fs ea cl ha hn htk hm=>
  cases (show u=Value.ref a from rx)
  obtain⟨mA,O,_⟩:=zbe5 I.hok ea
  obtain⟨od,J,_⟩:=O.look
  exact zci9 (PySem.W.kitx_own (cl.get _) cl.hd ha hn htk hm) I.kIn J e (fun z=>nomatch z) h
end
structure Room(k:Nat)(A:Around):Prop where
 hd:A.handled=none
 dp:A.depth+3*k+5<recursionLimit
 un:A.units+16*k+200<cLine
 gd:A.guards=some []
theorem Room.mono{j k:Nat}{A:Around}(r:Room k A)(h:j<=k):Room j A:=⟨r.hd,by have:=r.dp;omega,by have:=r.un;omega,r.gd⟩
theorem Room.deeper{k:Nat}{A:Around}(r:Room (k+1) A)(env:Env):Room k (A.deeper env):=
 ⟨r.hd,by have:=r.dp;show A.depth+1+3*k+5<_;omega,by have:=r.un;show A.units+3+16*k+200<_;omega,r.gd⟩
theorem zba3{A:Around}{kw:List (Str×Value)}:(A.under (.builtin "type.__call__" ⟨.ref C :: us,kw⟩)).depth=A.depth+1:=by
 first|rfl|simp[Around.under,Code.weight,Code.isCreation,Code.isGuard,Code.isCaller,Code.frames,Code.isFrame,guardIds]
theorem zbb9{A:Around}{kw:List (Str×Value)}:(A.under (.builtin "type.__call__" ⟨.ref C :: us,kw⟩)).units=A.units+1:=by
 first|rfl|simp[Around.under,Code.cUnits,Code.frames,Code.isFrame]
theorem zas1{A:Around}{kw:List (Str×Value)}:(A.under (.builtin "type.__call__" ⟨.ref C :: us,kw⟩)).guards=A.guards:=by
 first|rfl|(cases A;simp[Around.under,pushGuards,Code.guards,Code.isGuard,guardIds])
theorem Room.make{k:Nat}{A:Around}(r:Room (k+1) A)(C:Addr)(us:List Value)(kw:List (Str×Value)):Room k (A.under (.builtin "type.__call__" ⟨.ref C :: us,kw⟩)):=
 ⟨r.hd,by have:=r.dp;rw[zba3];omega,by have:=r.un;rw[zbb9];omega,zas1.trans r.gd⟩
theorem Room.depth{k:Nat}{A:Around}(r:Room k A):A.depth<recursionLimit:=by have:=r.dp;omega
theorem Room.units{k:Nat}{A:Around}(r:Room k A):A.units+64<cLine:=by have:=r.un;omega
def tNil:TA:=fun _ H Q=>Q [] H
def tCons(ta:TE)(tr:TA):TA:=fun σ H Q=>ta σ H fun x H1=>tr σ H1 fun xs H2=>Q (x :: xs) H2
section
variable {X:Cx}{e:Expr}{es:List Expr}{te:TE}{t:TA}{pos:Pos}
theorem za1:PA X [] tNil:=fun _ _ _ _ H Q I h=>Calls.spliced_nil ⟨[],H,I,.nil,h⟩
theorem za0(ha:PE X e te)(hr:PA X es t)(hs:starEach (e :: es) X.env=(false,eval e X.env) :: starEach es X.env:=by rfl):PA X (e :: es) (tCons te t):=by
 intro pos pins s σ H Q I h
 rw[hs]
 show wpAny _ _ (spliced ((false,eval e X.env) :: backTo pos (starEach es X.env))) _ _ s
 refine Calls.spliced_cons (thn (ha pins s σ H _ I h) fun u s1 ⟨x,H1,I1,r1,q1⟩=>?_)
 exact thn (hr pos pins s1 σ H1 _ I1 q1) fun us s2 ⟨xs,H2,I2,r2,q2⟩=>⟨x :: xs,H2,I2,.cons r1 r2,q2⟩
end
abbrev Sp:=List V->Hp->VK->XK->Prop
abbrev CXT:=List Env->Hp->Shared->XK->Value->Shared->Prop
structure Env0(P:Program)(w:World)(K:zce1)(mg:Str->Option Value)(base:Heap)(A:Around)(outer:List Env)(s:Shared)(H:Hp):Prop where
 frames:A.frames=some outer
 mod:Mod K mg base
 bs:∀ b o,base.get? b=some o->s.heap.get? b=some o/\H b=none
 bsz:base.objs.size<=s.heap.objs.size
 funs:s.heap.FunFrames base outer
 frf:∀ b∈frs outer,H b=none
 hok:HOk P w H s.heap
 bare:AllBare s.gens
def CE(outer:List Env)(P:Program)(w:World)(H:Hp)(s:Shared)(Q:VK)(u:Value)(s':Shared):Prop:=
 ∃ v H',s'.os=s.os/\AllBare s'.gens/\Un (frs outer) [] H H' s.heap s'.heap/\HOk P w H' s'.heap/\RelV v u/\Q v H'
def CR(CX:CXT)(outer:List Env)(P:Program)(w:World)(H:Hp)(s:Shared)(Q:VK)(E:XK)(r:Result)(s':Shared):Prop:=
 match r with
 | .ok (.ret u)=>CE outer P w H s Q u s'
 | .ok _=>False
 | .error e=>CX outer H s E e s'
structure FnOk(P:Program)(w:World)(K:zce1)(mg:Str->Option Value)(base:Heap)(CX:CXT)(k:Nat)(f:Addr)(fd:FuncData)(ps:List Str)(sp:Sp):Prop where
 len:∀ vs H Q E,sp vs H Q E->vs.length=ps.length
 run:∀ (A:Around) (outer:List Env) (s:Shared) (H:Hp) (args:Args) (us:List Value) (vs:List V) (Q:VK) (E:XK),Room k A->Env0 P w K mg base A outer s H->BindsTo s fd args (ps.zip us)->Vals vs us->sp vs H Q E ->
  codeAny (model P w) A (.call (.ref f) args) (CR CX outer P w H s Q E) s
theorem FnOk.mono{P:Program}{w:World}{K:zce1}{mg:Str->Option Value}{base:Heap}{CX:CXT}{j k:Nat}{f:Addr}{fd:FuncData}{ps:List Str}{sp:Sp}(F:FnOk P w K mg base CX j f fd ps sp)(h:j<=k) :
  FnOk P w K mg base CX k f fd ps sp:=⟨F.len,fun A outer s H args us vs Q E hr=>F.run A outer s H args us vs Q E (hr.mono h)⟩
theorem Env0.make{P:Program}{w:World}{K:zce1}{mg:Str->Option Value}{base:Heap}{A:Around}{outer:List Env}{s:Shared}(e:Env0 P w K mg base A outer s H)(C:Addr)(us:List Value)(kw:List (Str×Value)) :
  Env0 P w K mg base (A.under (.builtin "type.__call__" ⟨.ref C :: us,kw⟩)) outer s H:=⟨by first|exact e.frames|(simpa [Around.under,Code.envs,Code.isFrame,pushEnvs] using e.frames),e.mod,e.bs,e.bsz,e.funs,e.frf,e.hok,e.bare⟩
section
variable {X:Cx}{pins:List (Addr×Obj)}{σ:St}{H:Hp}{s s':Shared}
theorem Inv.env0(I:Inv X pins σ H s):Env0 X.prog X.w X.K X.mg X.base X.A X.stack s H:=
 ⟨I.ok.frames,I.ok.mod,I.bs,zci0 I.ok.bsz I.sz,I.stack,I.stkFree,I.hok,I.bare⟩
theorem Inv.after{Q:VK}(I:Inv X pins σ H s)(h:CE X.stack X.prog X.w H s Q u s'):EP X pins σ Q u s':=by
 obtain⟨v,H',os,bare,un,hok,r,q⟩:=h
 obtain⟨hh,g,d,t,os'⟩:=s'
 obtain rfl:os'=s.os:=os
 exact⟨v,H',I.call (h':=hh) (g':=g) (d':=d) (t':=t) (ch:=[]) un hok bare (fun b z=>absurd z (by simp)),r,q⟩
end
def tCall(sp:Sp)(dvs:List V)(E:XK)(t:TA):TE:=fun σ H Q=>t σ H fun vs H1=>sp (vs++dvs) H1 Q E
def zz5(K:zce1)(fd:FuncData)(ps:List Str)(ds:List Value):Prop:=
 ∀ (s:Shared) (us:List Value),K.In s.heap->(us++ds).length=ps.length->BindsTo s fd ⟨us,[]⟩ (ps.zip (us++ds))
theorem zz5.all{K:zce1}{fd:FuncData}{ps:List Str}(h:∀ us:List Value,us.length=ps.length->bindArgs fd ⟨us,[]⟩=pure (ps.zip us)):zz5 K fd ps []:=fun s us _ hl=>by
 rw[List.append_nil] at hl ⊢
 exact .of_eq (h us hl)
def zaa3(CX:CXT)(X:Cx)(E:XK):Prop:=∀ (pins:List (Addr×Obj)) (σ:St) (H:Hp) (s:Shared) (e:Value) (s':Shared),Inv X pins σ H s->CX X.stack H s E e s'->X.xe e s'
section
variable {X:Cx}{CX:CXT}{k:Nat}{f C:Addr}{fd:FuncData}{ps:List Str}{sp:Sp}{dvs:List V}{ds:List Value}{E:XK}{x m:Str}{p pos apos:Pos}{e o:Expr}{es:List Expr}{ta:TE}{t:TA}
theorem zbq0{s:Shared}{Q:VK}{vs:List V}(F:FnOk X.prog X.w X.K X.mg X.base CX k f fd ps sp)(hr:Room k X.A)(hb:zz5 X.K fd ps ds)(hd:Vals dvs ds)(hx:zaa3 CX X E)(I:Inv X pins σ H s)(r:Vals vs us)(h:sp (vs++dvs) H Q E):wpAny (model X.prog X.w) X.A (call (.ref f) us) (EP X pins σ Q) X.xe s:=by
 have r2:Vals (vs++dvs) (us++ds):=r.append hd
 have hl:(us++ds).length=ps.length:=by rw[← r2.length];exact F.len _ _ _ _ h
 refine wpAny_call (codeAny_mono (F.run X.A X.stack s H ⟨us,[]⟩ (us++ds) (vs++dvs) Q E hr I.env0 (hb s us I.kIn hl) r2 h) fun r s' hq=>?_)
 cases r with
 | error e=>exact hx pins σ H s e s' I hq
 | ok fl=>
  cases fl with
  | ret u=>exact I.after hq
  | next=>exact False.elim hq
  | brk=>exact False.elim hq
  | cont=>exact False.elim hq
theorem zbv9(F:FnOk X.prog X.w X.K X.mg X.base CX k f fd ps sp)(hr:Room k X.A)(hg:Gl X x)(hm:X.mg x=some (.ref f))(hk:zck5 X.K (.ref f)=true)(hb:zz5 X.K fd ps ds)(hd:Vals dvs ds)(hx:zaa3 CX X E)(ha:PA X (e :: es) t)(hdb:(x==("__debug__":Str))=false:=by decide)(he:starEach (e :: es) X.env=(false,eval e X.env) :: starEach es X.env:=by rfl)(hpl:(backTo pos (starEach es X.env)).any (·.1)=false:=by rfl) :
  PE X (.Call (.Name x p) (e :: es) [] pos) (tCall sp dvs E t):=by
 intro pins s σ H Q I h
 refine wpAny_Call_Name_kw (zq6 I hg hm ?_ hdb)
 refine PySem.W.callWith_K (h₀:=X.base) I.ok.mod.kin hk (thn (ha pos pins s σ H _ I h) fun us s1 ⟨vs,H1,I1,r,q⟩=>⟨I1.kIn,?_⟩) he hpl
 exact zbq0 F hr hb hd hx I1 r q
end
structure zb3(N P:List Str)(sc:Scope):Prop where
 kind:sc.kind=.function
 co:sc.isCoroutine=false
 gen:sc.isGenerator=false
 nd:N.Nodup
 pre:N.take P.length=P
 par:∀ x∈P,sc.names.lookup x=some .local∨sc.names.lookup x=some .cell
 nofree:∀ y∈sc.names,y.2≠.free
theorem zap7{kindOf:Str->Option NameKind}{x:Str}:∀ {binds:List (Str×Value)}{m:Str->Option Value},(∀ v,(x,v) ∉ binds)->bindL kindOf binds m x=m x
 | [],_,_=>rfl
 | (n,v) :: r,m,h=>by
  unfold bindL
  rw[zap7 fun w hw=>h w (zcf5 _ hw)]
  split
  ·have:x≠n:=by rintro rfl;exact h v zcg1
   simp[this]
  ·rfl
theorem zan9{kindOf:Str->Option NameKind}{x:Str}:∀ {binds:List (Str×Value)}{m:Str->Option Value},(∀ v,(x,v) ∉ binds)->bindC kindOf binds m x=m x
 | [],_,_=>rfl
 | (n,v) :: r,m,h=>by
  unfold bindC
  rw[zan9 fun w hw=>h w (zcf5 _ hw)]
  split
  ·rfl
  ·have:x≠n:=by rintro rfl;exact h v zcg1
   simp[this]
theorem zao4{kindOf:Str->Option NameKind}{x:Str}{v:Value}:∀ {P:List Str}{vs:List Value}{i:Nat}{m:Str->Option Value},P.Nodup->P[i]?=some x->vs[i]?=some v->kindOf x=some .local ->
  bindL kindOf (P.zip vs) m x=some v
 | [],_,_,_,_,h,_,_=>by simp at h
 | _ :: _,[],_,_,_,_,h,_=>by simp at h
 | p :: P,w :: vs,0,m,nd,h1,h2,hk=>by
  simp at h1 h2;subst h1;subst h2
  show bindL kindOf ((p,w) :: P.zip vs) m p=_
  unfold bindL
  rw[zap7 fun v hv=>(zcj6.mp nd).1 (List.of_mem_zip hv).1,if_pos hk]
  simp
 | p :: P,w :: vs,i+1,m,nd,h1,h2,hk=>by
  show bindL kindOf ((p,w) :: P.zip vs) m x=_
  unfold bindL
  exact zao4 (i:=i) (zcj6.mp nd).2 (by simpa using h1) (by simpa using h2) hk
theorem zao5{kindOf:Str->Option NameKind}{x:Str}{v:Value}:∀ {P:List Str}{vs:List Value}{i:Nat}{m:Str->Option Value},P.Nodup->P[i]?=some x->vs[i]?=some v->kindOf x≠some .local ->
  bindC kindOf (P.zip vs) m x=some v
 | [],_,_,_,_,h,_,_=>by simp at h
 | _ :: _,[],_,_,_,_,h,_=>by simp at h
 | p :: P,w :: vs,0,m,nd,h1,h2,hk=>by
  simp at h1 h2;subst h1;subst h2
  show bindC kindOf ((p,w) :: P.zip vs) m p=_
  unfold bindC
  rw[zan9 fun v hv=>(zcj6.mp nd).1 (List.of_mem_zip hv).1,if_neg hk]
  simp
 | p :: P,w :: vs,i+1,m,nd,h1,h2,hk=>by
  show bindC kindOf ((p,w) :: P.zip vs) m x=_
  unfold bindC
  exact zao5 (i:=i) (zcj6.mp nd).2 (by simpa using h1) (by simpa using h2) hk
def zaj4(N:List Str)(vs:List V):St:=vs.map some++List.replicate (N.length - vs.length) none
def cxOf(CX:CXT)(P:Program)(w:World)(K:zce1)(mg:Str->Option Value)(base:Heap)(N:List Str)(qual:Str)(scope:Scope)(f:Addr)(cd:Value)(A:Around)(outer:List Env)(s:Shared)(H:Hp)(E:XK):Cx where
 prog:=P
 w:=w
 K:=K
 mg:=mg
 base:=base
 A:=A.deeper (envOfC qual scope s.heap.objs.size f cd)
 N:=N
 s₀:=s
 H₀:=H
 env:=envOfC qual scope s.heap.objs.size f cd
 outer:=outer
 stack:=envOfC qual scope s.heap.objs.size f cd :: outer
 ex:=[]
 calm:=true
 fn:=fun _=>true
 pn:=[]
 xe:=fun e s'=>wpAny (model P w) (A.deeper (envOfC qual scope s.heap.objs.size f cd)) (leaving (envOfC qual scope s.heap.objs.size f cd) e) (fun _ s''=>CX outer H s E e s'') (fun e' s''=>CX outer H s E e' s'') s'
theorem zav1{sc:Scope}{n:Nat}{x:Str}(h:sc.names.lookup x=some .cell):∃ c,(cellsFrom n sc.names []).lookup x=some c:=by
 have q:=PySem.W.cellsFrom_some sc.names n [] (.inl h)
 exact zck6.mp q
theorem zbc6{CX:CXT}{P:Program}{w:World}{K:zce1}{mg:Str->Option Value}{base:Heap}{N ps:List Str}{qual:Str}{scope:Scope}{f:Addr}{cd:Value}{A:Around}{outer:List Env}{s s1:Shared}{E:XK}{vs:List V}(S:zb3 N ps scope)(hd:A.handled=none)(e0:Env0 P w K mg base A outer s H)(hl:vs.length=ps.length)(r:Vals vs us)(x:InCallC s s.heap.objs.size (bindL (envOfC qual scope s.heap.objs.size f cd).kindOf (ps.zip us) fun _=>none) (cellsFrom (s.heap.objs.size+1) scope.names []) (bindC (envOfC qual scope s.heap.objs.size f cd).kindOf (ps.zip us) fun _=>none) s1) :
  Inv (cxOf CX P w K mg base N qual scope f cd A outer s H E) [] (zaj4 N vs) H s1:=by
 have hpl:ps.length<=N.length:=by have:=congrArg List.length S.pre;rw[zck7] at this;omega
 obtain⟨h1,tk,rfl,hk⟩:=x.done
 have noA:∀ b:Addr,b ∉ (cxOf CX P w K mg base N qual scope f cd A outer s H E).ex:=fun b z=>absurd (show b∈([]:List Addr) from z) (by simp)
 refine⟨⟨e0.mod,S.kind,rfl,rfl,zcg0 _,fun y z c h1 h2=>?_,fun y hy=>?_,fun y c _ h=>?_,fun _=>hd,Around.frames_deeper e0.frames,.inr ⟨rfl,rfl⟩,fun b z=>absurd z (noA b),e0.bs,e0.bsz,fun b _ _=>noA b,fun b z=>absurd z (noA b),e0.funs,e0.frf⟩,
  rfl,e0.bare,Un.kept hk,⟨_,x.toInCall.ns,fun i y v h1 h2 h3=>?_⟩,fun y c h=>⟨_,x.cell y c h⟩,e0.hok.fresh (zcg0 _),fun y c h=>?_,fun p hp=>absurd (show p∈([]:List (Addr×Obj)) from hp) (by simp),e0.hok.kept hk,?_⟩
 ·exact name_of_addr x.apart (PySem.mem_of_lookup h1) (PySem.mem_of_lookup h2)
 ·have hy:scope.names.lookup y=some .cell∨scope.names.lookup y=some .free:=hy
  rcases hy with hy|hy
  ·exact zav1 hy
  ·exact absurd rfl (S.nofree _ (PySem.mem_of_lookup hy))
 ·exact Nat.le_of_lt (x.above y c (PySem.mem_of_lookup h))
 ·have hi:i<vs.length:=by
   unfold zaj4 at h2
   by_cases hi:i<vs.length
   ·exact hi
   ·rw[zch2 (by simpa using hi)] at h2
    rw[List.getElem?_replicate] at h2
    split at h2<;>cases h2
  have ha:vs[i]?=some v:=by
   unfold zaj4 at h2
   rw[zcg9 (by simpa using hi),zce3] at h2
   cases e:vs[i]? with
   | none=>rw[e] at h2;cases h2
   | some a=>rw[e] at h2;cases h2;rfl
  obtain⟨u,hu,rv⟩:=r.get ha
  have hp:ps[i]?=some y:=by
   rw[← S.pre,List.getElem?_take_of_lt (by omega)];exact h1
  have ndP:ps.Nodup:=by rw[← S.pre];exact S.nd.sublist (List.take_sublist _ _)
  refine⟨u,rv,?_⟩
  rcases S.par y (zce5 hp) with k|k
  ·exact .inl ⟨k,zao4 ndP hp hu k⟩
  ·obtain⟨c,e⟩:=zav1 (n:=s.heap.objs.size+1) k
   refine .inr ⟨.inl k,c,e,?_⟩
   have q:=x.cell y c e
   rw[zao5 ndP hp hu (by show scope.names.lookup y≠_;rw[k];decide)] at q
   exact q
 ·exact e0.hok.fresh (Nat.le_of_lt (x.above y c (PySem.mem_of_lookup h)))
 ·unfold zaj4
  show _=N.length
  rw[zce6,zcd9,zcj8]
  omega
theorem fn_of{CX:CXT}{P:Program}{w:World}{K:zce1}{mg:Str->Option Value}{base:Heap}{k:Nat}{f:Addr}{name qual:Str}{params:Arguments}{body:List Stmt}{scope:Scope}{dV kV doc pm cdv ct oc:Value}{an od:Option Addr}{osl:Array (Option Value)}{N ps:List Str}{sp:Sp}(lk:K.lookup f=some ⟨oc,od,.func (zck8 name qual params body scope dV kV doc pm an cdv ct),osl⟩)(hcd:zcm8 K cdv qual=true)(S:zb3 N ps scope)(len:∀ vs H Q E,sp vs H Q E->vs.length=ps.length)(hbody:∀ (A:Around) (outer:List Env) (s:Shared) (H:Hp) (vs:List V) (Q:VK) (E:XK),Room k (A.deeper (envOfC qual scope s.heap.objs.size f cdv))->sp vs H Q E ->
   ∃ t,PSs (cxOf CX P w K mg base N qual scope f cdv A outer s H E) body t/\t { nx:=fun _ H'=>Q .non H',rt:=Q } (zaj4 N vs) H) :
  FnOk P w K mg base CX (k+1) f (zck8 name qual params body scope dV kV doc pm an cdv ct) ps sp:=by
 refine⟨len,fun A outer s H args us vs Q E hr e0 hb r hsp=>?_⟩
 have hl:=len _ _ _ _ hsp
 have KX:K.In s.heap:=e0.mod.kin.keeps fun b o e=>(e0.bs b o e).1
 have lim:s.heap.NoLimit:=e0.mod.nolimit.keeps fun b o e=>(e0.bs b o e).1
 have hkind:∀ y∈ps.zip us,scope.names.lookup y.1=some .local∨(scope.names.lookup y.1=some .cell/\((cellsFrom (s.heap.objs.size+1) scope.names []).lookup y.1).isSome=true):=fun ⟨n,v⟩ hy=>by
  rcases S.par n (List.of_mem_zip hy).1 with q|q
  ·exact .inl q
  ·exact .inr ⟨q,PySem.W.cellsFrom_some _ _ _ (.inl q)⟩
 refine codeAny_call_function hr.depth (KX _ _ lk) rfl S.co S.gen rfl (PySem.W.codeRec_of KX hcd) (hb _ _ _ _ ?_)
 refine wpAny_newFunctionEnv_cells S.kind hkind fun env he s1 x=>?_
 subst he
 refine⟨lim.keeps x.toInCall.keep,codeAny_func ?_⟩
 obtain⟨t,ht,hq⟩:=hbody A outer s H vs Q E (hr.deeper _) hsp
 have I:Inv (cxOf CX P w K mg base N qual scope f cdv A outer s H E) [] (zaj4 N vs) H s1:=zbc6 S hr.hd e0 hl r x
 refine wpAny_mono (ht [] s1 (zaj4 N vs) H _ I hq) (fun fl s' hs=>?_) fun e s' hs=>hs
 have fin:∀ {σ':St}{H':Hp}{v:V}{u:Value},Inv (cxOf CX P w K mg base N qual scope f cdv A outer s H E) [] σ' H' s'->RelV v u->Q v H'->CE outer P w H s Q u s':=
  fun {σ' H' v u} J rv q=>⟨v,H',J.os,J.bare,J.base,J.hok,rv,q⟩
 cases fl with
 | ret u=>
  obtain⟨v,σ',H',J,rv,q⟩:=hs
  exact fin J rv q
 | next=>
  obtain⟨σ',H',J,q⟩:=hs
  exact fin (v:=V.non) (u:=Value.none) J rfl q
 | brk=>
  obtain⟨_,_,_,q⟩:=hs
  exact False.elim q
 | cont=>
  obtain⟨_,_,_,q⟩:=hs
  exact False.elim q
section
variable {X:Cx}{x:Str}{p pos:Pos}{e:Expr}{es:List Expr}{t:TA}{id T:String}{r:List V->Hp->VK->Prop}
def tCB(r:List V->Hp->VK->Prop)(t:TA):TE:=fun σ H Q=>t σ H fun vs H1=>r vs H1 Q
theorem zbk6(hc:zk0 X (.builtin id) r)(hg:Gl X x)(hm:X.mg x=none)(hv:bootBuiltins x=some (.builtin id))(ha:PA X (e :: es) t)(hn:x≠"__name__":=by decide)(hdb:(x==("__debug__":Str))=false:=by decide)(he:starEach (e :: es) X.env=(false,eval e X.env) :: starEach es X.env:=by rfl)(hpl:(backTo pos (starEach es X.env)).any (·.1)=false:=by rfl):PE X (.Call (.Name x p) (e :: es) [] pos) (tCB r t):=by
 intro pins s σ H Q I h
 refine wpAny_Call_Name_kw (zal7 I hg hm hv ?_ hn hdb)
 exact PyProof.Rows.callWith_builtin1 (thn (ha pos pins s σ H _ I h) fun us s1 ⟨vs,H1,I1,r1,q1⟩=>hc pins s1 σ H1 vs us Q I1 r1 q1) he hpl
theorem zbf5(hc:zk0 X (.type T) r)(hg:Gl X x)(hm:X.mg x=none)(hv:bootBuiltins x=some (.type T))(ha:PA X (e :: es) t)(hn:x≠"__name__":=by decide)(hdb:(x==("__debug__":Str))=false:=by decide)(he:starEach (e :: es) X.env=(false,eval e X.env) :: starEach es X.env:=by rfl)(hpl:(backTo pos (starEach es X.env)).any (·.1)=false:=by rfl):PE X (.Call (.Name x p) (e :: es) [] pos) (tCB r t):=by
 intro pins s σ H Q I h
 refine wpAny_Call_Name_kw (zal7 I hg hm hv ?_ hn hdb)
 exact PyProof.Rows.callWith_type1 (thn (ha pos pins s σ H _ I h) fun us s1 ⟨vs,H1,I1,r1,q1⟩=>hc pins s1 σ H1 vs us Q I1 r1 q1) he hpl
end
end L2
namespace HT
open PySem PyProof.Rows
section
open PySem.SeqAt
open PySem.AutoSeq1 (wpAny_loadPart')
open PySem.MeetsSeq PySem.MeetsSeq2 PySem.MeetsSeq3
end
section
variable {prog:Program}{w:World}{A:Around}{E:Value->Shared->Prop}{s:Shared}
def sIx(n d:Nat):Option Int->Nat
 | none=>d
 | some v=>if v<0 then (v+(n:Int)).toNat else min v.toNat n
theorem sIx_nat(n d k:Nat):sIx n d (some (k:Int))=min k n:=by
 show (if (k:Int)<0 then ((k:Int)+(n:Int)).toNat else min (k:Int).toNat n)=min k n
 rw[if_neg (by omega),Int.toNat_natCast]
theorem sIx_le(n d:Nat)(hd:d<=n)(o:Option Int):sIx n d o<=n:=by
 cases o with
 | none=>exact hd
 | some v=>
  show (if v<0 then (v+(n:Int)).toNat else min v.toNat n)<=n
  by_cases hv:v<0
  ·rw[if_pos hv];omega
  ·rw[if_neg hv];exact Nat.min_le_right _ _
theorem zbg1(v:Int)(n d:Nat):(if v<0 then max (v+(n:Int)) 0 else min v (n:Int))=((sIx n d (some v):Nat):Int):=by
 show (if v<0 then max (v+(n:Int)) 0 else min v (n:Int))=(((if v<0 then (v+(n:Int)).toNat else min v.toNat n):Nat):Int)
 by_cases hv:v<0
 ·simp only[if_pos hv];omega
 ·simp only[if_neg hv];omega
theorem zay7(lo hi:Option Int)(n:Nat):Builtin.Slice.sliceAdjust lo hi 1 (n:Int)=(((sIx n 0 lo:Nat):Int),((sIx n n hi:Nat):Int)):=by
 have h1:¬ ((1:Int)<0):=by omega
 unfold Builtin.Slice.sliceAdjust
 simp only[h1,if_false]
 refine Prod.ext ?_ ?_
 ·cases lo with
  | none=>rfl
  | some v=>exact zbg1 v n 0
 ·cases hi with
  | none=>rfl
  | some v=>exact zbg1 v n n
theorem zbc3(i j:Nat):Builtin.Slice.slicePlaces (i:Int) (j:Int) 1=j - i:=by
 unfold Builtin.Slice.slicePlaces
 have h1:(1:Int)>0:=by omega
 simp only[h1,if_true,Int.ediv_one]
 split<;>omega
theorem zag9{v:Value}{o:Option Int}{Q:Option Int->Shared->Prop}(p:IsPart v o)(h:Q o s):wpAny (model prog w) A (Builtin.Slice.slicePartIndex v) Q E s:=by
 cases p with
 | none=>exact slicePart_none h
 | int i t=>exact slicePart_int h
theorem zz2{sl:Addr}{vl vu:Value}{lo hi:Option Int}{n:Nat}{Q:Int×Int×Nat->Shared->Prop}(hs:s.heap.IsSliceOf sl vl vu .none)(pl:IsPart vl lo)(pu:IsPart vu hi)(h:Q (((sIx n 0 lo:Nat):Int),1,sIx n n hi - sIx n 0 lo) s):wpAny (model prog w) A (Builtin.Slice.sliceApplied (.ref sl) (pure (n:Int))) Q E s:=by
 obtain⟨os,hos,hcs,hds⟩:=id hs
 unfold Builtin.Slice.sliceApplied Builtin.Slice.sliceFields
 refine zcn3 (zcn3 (wpAny_field hos hds (x:=vl) rfl (zcn3 (wpAny_field hos hds (x:=vu) rfl (zcn3 (wpAny_field hos hds (x:=.none) rfl (zcn4 ?_)))))))
 refine zcn3 (slicePart_none ?_)
 show wpAny _ _ (if ((1:Int)==0)=true then _ else _) _ _ s
 rw[if_neg (by decide)]
 refine zcn3 (zag9 pl (zcn3 (zag9 pu (zcn3 (zcn4 ?_)))))
 show wpAny _ _ (match Builtin.Slice.sliceAdjust lo hi 1 (n:Int) with|(lo,hi)=>pure (lo,(1:Int),Builtin.Slice.slicePlaces lo hi 1)) _ _ s
 rw[zay7 lo hi n]
 show wpAny _ _ (pure (((sIx n 0 lo:Nat):Int),(1:Int),Builtin.Slice.slicePlaces ((sIx n 0 lo:Nat):Int) ((sIx n n hi:Nat):Int) 1)) _ _ s
 rw[zbc3]
 exact zcn4 h
theorem zbl5(xs:Array Value)(i k:Nat):((List.range k).filterMap fun (m:Nat)=>xs[((i:Int)+(m:Int)*1).toNat]?).toArray=((xs.toList.drop i).take k).toArray:=by
 have e:(fun (m:Nat)=>xs[((i:Int)+(m:Int)*1).toNat]?)=fun m=>xs[i+m]?:=by
  funext m
  have:((i:Int)+(m:Int)*1).toNat=i+m:=by omega
  rw[this]
 rw[e]
 have:=pick_run xs i k
 rw[List.filterMap_map] at this
 have e2:((fun x=>xs[x]?)∘fun x=>i+x)=fun m=>xs[i+m]?:=rfl
 rw[e2] at this
 rw[this]
theorem getItem_tuple_cut{t sl:Addr}{items:Array Value}{vl vu:Value}{lo hi:Option Int}{Q:Value->Shared->Prop}(ht:IsTup s.heap t items)(hs:s.heap.IsSliceOf sl vl vu .none)(pl:IsPart vl lo)(pu:IsPart vu hi)(hw:¬ (sIx items.size 0 lo=0/\sIx items.size items.size hi=items.size))(h:Q (.ref s.heap.objs.size) { s with heap:=s.heap.push { cls:=.type "tuple",data:=.seq ((items.toList.drop (sIx items.size 0 lo)).take (sIx items.size items.size hi - sIx items.size 0 lo)).toArray } })(hsz:items.size<=sizeLine):wpAny (model prog w) A (getItem (.ref t) (.ref sl)) Q E s:=by
 have htake:sizeOk (.seq ((items.toList.drop (sIx items.size 0 lo)).take (sIx items.size items.size hi - sIx items.size 0 lo)).toArray):=by
  show ((items.toList.drop (sIx items.size 0 lo)).take (sIx items.size items.size hi - sIx items.size 0 lo)).toArray.size<=sizeLine
  rw[zce4,zck7,zcl1,zcf7]
  omega
 have hj:sIx items.size items.size hi<=items.size:=sIx_le _ _ (zcg0 _) hi
 obtain⟨os,hos,hcs,hds⟩:=id hs
 have hTs:s.TypeIs (.ref sl) "slice":=⟨os,hos,hcs⟩
 unfold getItem
 try with_reducible refine zcn8 ?_
 first|refine zcn3 (zcn4 ?_)|skip
 refine zcn3 (wpAny_sequenceKey ht.typeIs (by decide) ?_)
 refine zcn3 (wpAny_callSpecial?_slot (name:=Str.ofString "__getitem__") ht.typeIs PyProof.Rows.slot_tuple_getitem
  (wpAny_call_entry PyProof.Rows.slot_tuple_getitem ht.typeIs entry_tuple_getitem ?_ (args_tuple_getitem _ _)))
 show wpAny _ _ (Builtin.Tuple.tupleItemsOf (.ref t) >>= _) _ _ s
 refine zcn3 (tupleItemsOf_ ht ?_)
 refine zcn3 (wpAny_typeOf hTs ?_)
 rw[if_pos (by decide)]
 refine zcn3 (zz2 hs pl pu ?_)
 have hno:¬ ((((sIx items.size 0 lo:Nat):Int)==0&&(1:Int)==1&&(sIx items.size items.size hi - sIx items.size 0 lo)==items.size)=true):=by
  intro q
  rw[zci7,zci7] at q
  have q1:((sIx items.size 0 lo:Nat):Int)=0:=eq_of_beq q.1.1
  have q2:sIx items.size items.size hi - sIx items.size 0 lo=items.size:=eq_of_beq q.2
  exact hw ⟨by omega,by omega⟩
 show wpAny _ _ (if (((sIx items.size 0 lo:Nat):Int)==0&&(1:Int)==1&&(sIx items.size items.size hi - sIx items.size 0 lo)==items.size)=true then _ else _) _ _ s
 rw[if_neg hno,zbl5]
 first
  | exact zcn3 (m:=Builtin.Tuple.tupleExact _) (wpAny_newObj_type (zcn4 ⟨_,rfl,zcn4 h⟩) htake)
  | exact zcn3 (m:=Builtin.Tuple.tupleExact _) (wpAny_newObj_type (zcn3 (zcn4 (zcn4 ⟨_,rfl,zcn4 h⟩))) htake)
  | exact zcn3 (zcn3 (m:=Builtin.Tuple.tupleExact _) (wpAny_newObj_type (zcn4 (zcn4 ⟨_,rfl,zcn4 h⟩)) htake))
  | exact zcn3 (zcn3 (m:=Builtin.Tuple.tupleExact _) (wpAny_newObj_type (zcn4 ⟨_,rfl,zcn4 h⟩) htake))
end
end HT
namespace L2
open PySem PySem.Spec PyProof.Rows
abbrev TO:=St->Hp->(Option Int->Hp->Prop)->Prop
def PO(X:Cx)(e:Option Expr)(t:TO):Prop:=
 ∀ (pins:List (Addr×Obj)) (s:Shared) (σ:St) (H:Hp) (Q:Option Int->Hp->Prop),Inv X pins σ H s->t σ H Q ->
  wpAny (model X.prog X.w) X.A (evalPart e X.env) (fun u s'=>∃ o H',Inv X pins σ H' s'/\IsPart u o/\Q o H') X.xe s
variable {xs:List V}
def zbs7:TO:=fun _ H Q=>Q none H
section
variable {X:Cx}{e:Expr}{te:TE}{lo hi:Option Expr}{tl th:TO}{pos p2:Pos}
theorem zh8:PO X none zbs7:=by
 intro pins s σ H Q I h
 rw[evalPart_none]
 exact zcn4 ⟨none,H,I,.none,h⟩
def SlR(X:Cx)(r:V->Option Int->Option Int->Hp->VK->Prop):Prop:=
 ∀ (pins:List (Addr×Obj)) (s:Shared) (σ:St) (H:Hp) (x:V) (v vl vu:Value) (lo hi:Option Int) (sl:Addr) (Q:VK),Inv X pins σ H s->RelV x v->s.heap.IsSliceOf sl vl vu .none->IsPart vl lo->IsPart vu hi->r x lo hi H Q ->
  ∃ T id,typeLookup (.type T) "__getitem__"=pure (some (.builtin id))/\s.TypeIs v T/\wpAny (model X.prog X.w) X.A (getItem v (.ref sl)) (EP X pins σ Q) X.xe s
theorem SlR.or{r r':V->Option Int->Option Int->Hp->VK->Prop}(h:SlR X r)(h':SlR X r'):SlR X (fun x lo hi H Q=>r x lo hi H Q∨r' x lo hi H Q):=by
 intro pins s σ H x v vl vu lo hi sl Q I rx hs pl pu q
 rcases q with q|q
 ·exact h pins s σ H x v vl vu lo hi sl Q I rx hs pl pu q
 ·exact h' pins s σ H x v vl vu lo hi sl Q I rx hs pl pu q
def tSl(r:V->Option Int->Option Int->Hp->VK->Prop)(te:TE)(tl th:TO):TE:=fun σ H Q=>te σ H fun x H1=>tl σ H1 fun l H2=>th σ H2 fun u H3=>r x l u H3 Q
theorem ze6{r:V->Option Int->Option Int->Hp->VK->Prop}(hr:SlR X r)(he:PE X e te)(hl:PO X lo tl)(hu:PO X hi th):PE X (.Subscript e (.Slice lo hi none p2) pos) (tSl r te tl th):=by
 intro pins s σ H Q I h
 refine Subscript_ (thn (he pins s σ H _ I h) fun v s1 ⟨x,H1,I1,r1,q1⟩=>?_)
 refine wpAny_Slice (thn (hl pins s1 σ H1 _ I1 q1) fun vl s2 ⟨l,H2,I2,pl,q2⟩=>thn (hu pins s2 σ H2 _ I2 q2) fun vu s3 ⟨u,H3,I3,pu,q3⟩=>?_)
 rw[evalPart_none]
 refine zcn4 ?_
 have I4:Inv X pins σ H3 { s3 with heap:=s3.heap.push { cls:=.type "slice",data:=.fields #[vl,vu,.none] } }:=I3.kept (t':=s3.toks) fun b ob q=>zcf3 _ q
 obtain⟨T,id,hT,ht,hg⟩:=hr pins { s3 with heap:=s3.heap.push { cls:=.type "slice",data:=.fields #[vl,vu,.none] } } σ H3 x v vl vu l u s3.heap.objs.size Q I4 r1 (Heap.IsSliceOf.new ..) pl pu q3
 show wpAny (model X.prog X.w) X.A (subscriptTail e (.Slice lo hi none p2) v (.ref s3.heap.objs.size)) (EP X pins σ Q) X.xe { s3 with heap:=s3.heap.push { cls:=.type "slice",data:=.fields #[vl,vu,.none] } }
 exact tail_any (ops:=[.ref s3.heap.objs.size,v]) ht hT hg (by with_unfolding_all rfl)
def cutV(xs:List V)(lo hi:Option Int):List V:=(xs.drop (HT.sIx xs.length 0 lo)).take (HT.sIx xs.length xs.length hi - HT.sIx xs.length 0 lo)
theorem zad0(xs:List V)(lo hi:Option Int):(cutV xs lo hi).length<=xs.length:=by
 unfold cutV
 rw[zck7,zcl1]
 omega
def rSlT(K:zce1):V->Option Int->Option Int->Hp->VK->Prop:=fun x lo hi H Q=>∃ a xs,x=.ref a/\SqT K H a xs /\
 ¬ (HT.sIx xs.length 0 lo=0/\HT.sIx xs.length xs.length hi=xs.length)/\∀ p,H p=none->Q (.ref p) (upd H p (.tup (cutV xs lo hi)))
theorem sl_tup:SlR X (rSlT X.K):=by
 intro pins s σ H x v vl vu lo hi sl Q I rx hs pl pu h
 obtain⟨a,xs,rfl,hx,hw,q⟩:=h
 cases rx
 obtain⟨its,r,ht,hz⟩:=I.tuple hx
 have hlen:its.toArray.size=xs.length:=by rw[zce4];exact r.length.symm
 refine⟨"tuple",_,PyProof.Rows.slot_tuple_getitem.lookup,ht.typeIs,?_⟩
 refine HT.getItem_tuple_cut ht hs pl pu (by rw[hlen];exact hw) ?_ (by rw[hlen];exact hz)
 rw[hlen]
 refine⟨.ref s.heap.objs.size,_,I.laid (t':=s.toks) (o:=.tup (cutV xs lo hi)) (fun b ob q=>zcf3 _ q) (zcg0 _) ?_,rfl,q _ (I.hok.fresh (zcg0 _))⟩
 exact⟨zci0 (zad0 xs lo hi) hz,_,(r.drop (HT.sIx xs.length 0 lo)).take (HT.sIx xs.length xs.length hi - HT.sIx xs.length 0 lo),IsTup.new _ _⟩
end
def ixN(n:Nat)(i:Int):Option Nat:=if 0<=i then (if i<n then some i.toNat else none) else if -(n:Int)<=i then some (i+n).toNat else none
def atI{α:Type}(xs:List α)(i:Int):Option α:=(ixN xs.length i).bind fun j=>xs[j]?
theorem zbe7{n:Nat}{i:Int}{j:Nat}(h:ixN n i=some j):seqIndex? i n=some j/\j<n/\-(n:Int)<=i/\i<n:=by
 unfold ixN at h
 by_cases h0:0<=i
 ·rw[if_pos h0] at h
  by_cases h1:i<n
  ·rw[if_pos h1] at h
   have e:i.toNat=j:=Option.some.inj h
   exact⟨by rw[seqIndex_of h0 h1,e],by omega,by omega,h1⟩
  ·rw[if_neg h1] at h;cases h
 ·rw[if_neg h0] at h
  by_cases h1:-(n:Int)<=i
  ·rw[if_pos h1] at h
   have e:(i+n).toNat=j:=Option.some.inj h
   exact⟨by rw[seqIndex_neg (by omega) h1,e],by omega,h1,by omega⟩
  ·rw[if_neg h1] at h;cases h
theorem zaq9{α:Type}{xs:List α}{i:Int}{v:α}(h:atI xs i=some v):∃ j,seqIndex? i xs.length=some j/\xs[j]?=some v/\j<xs.length/\-(xs.length:Int)<=i/\i<xs.length:=by
 unfold atI at h
 cases e:ixN xs.length i with
 | none=>rw[e] at h;cases h
 | some j=>
  rw[e] at h
  obtain⟨h1,h2,h3,h4⟩:=zbe7 e
  exact⟨j,h1,h,h2,h3,h4⟩
theorem zn0{α:Type}{xs:List α}{j:Nat}{v:α}(h:xs[j]?=some v):atI xs (j:Int)=some v:=by
 have hj:j<xs.length:=(zce2.mp h).1
 have e:ixN xs.length (j:Int)=some j:=by
  unfold ixN
  rw[if_pos (by omega),if_pos (by omega)];simp
 unfold atI;rw[e];exact h
def zar6(b:Expr):Prop:=∀ o i,subscripted b false o i=operate [o,i] (getItem o i)
def IxR(X:Cx)(r:R2):Prop:=
 ∀ (value slice:Expr) (pins:List (Addr×Obj)) (s:Shared) (σ:St) (H:Hp) (x y:V) (v u:Value) (Q:VK),Inv X pins σ H s->RelV x v->RelV y u->r x y H Q ->
  subscripted slice false v u=operate [v,u] (getItem v u)->wpAny (model X.prog X.w) X.A (subscriptTail value slice v u) (EP X pins σ Q) X.xe s
def MtR(X:Cx)(id:String)(r:V->List V->Hp->VK->Prop):Prop:=
 ∀ (pins:List (Addr×Obj)) (s:Shared) (σ:St) (H:Hp) (x:V) (xs:List V) (v:Value) (us:List Value) (Q:VK),Inv X pins σ H s->RelV x v->Vals xs us->r x xs H Q ->
  wpAny (model X.prog X.w) X.A (call (.builtin id) (v :: us)) (EP X pins σ Q) X.xe s
section
variable {X:Cx}{a b:Expr}{ta tb:TE}{pos:Pos}
theorem IxR.or{r r':R2}(h:IxR X r)(h':IxR X r'):IxR X (fun x y H Q=>r x y H Q∨r' x y H Q):=by
 intro value slice pins s σ H x y v u Q I rx ry q hs
 rcases q with q|q
 ·exact h value slice pins s σ H x y v u Q I rx ry q hs
 ·exact h' value slice pins s σ H x y v u Q I rx ry q hs
theorem MtR.or{id:String}{r r':V->List V->Hp->VK->Prop}(h:MtR X id r)(h':MtR X id r'):MtR X id (fun x xs H Q=>r x xs H Q∨r' x xs H Q):=by
 intro pins s σ H x xs v us Q I rx rs q
 rcases q with q|q
 ·exact h pins s σ H x xs v us Q I rx rs q
 ·exact h' pins s σ H x xs v us Q I rx rs q
theorem pe_ix{r:R2}(hr:IxR X r)(ha:PE X a ta)(hb:PE X b tb)(hs:zar6 b):PE X (.Subscript a b pos) (tOp r ta tb):=by
 intro pins s σ H Q I h
 exact Subscript_ (binT ha hb I h fun v u s2 x y H2 I2 rx ry q=>hr a b pins s2 σ H2 x y v u Q I2 rx ry q (hs _ _))
def rIxL(K:zce1):R2:=fun x y H Q=>∃ p xs i v,x=.ref p/\y=.int i/\SqL K H p xs/\atI xs i=some v/\Q v H
def rIxT(K:zce1):R2:=fun x y H Q=>∃ p xs i v,x=.ref p/\y=.int i/\SqT K H p xs/\atI xs i=some v/\Q v H
def rIxS:R2:=fun x y H Q=>∃ z i c,x=.str z/\y=.int i/\z.length<=sizeLine/\atI z.cps.toList i=some c/\Q (.str ⟨#[c]⟩) H
theorem zbs6:IxR X (rIxL X.K):=by
 intro value slice pins s σ H x y v u Q I rx ry h hs
 obtain⟨p,xs,i,z,rfl,rfl,hq,he,q⟩:=h
 cases rx
 obtain⟨t,rfl⟩:=ry
 obtain⟨its,r,pl,hz⟩:=I.list hq
 obtain⟨j,h1,h2,h3,h4,h5⟩:=zaq9 he
 obtain⟨w,ew,rw'⟩:=r.get h2
 have hl:=r.length
 have hn:=zac5
 have fin:EP X pins σ Q w s:=⟨z,H,I,rw',q⟩
 by_cases h0:0<=i
 ·have hj:i.toNat=j:=by
   rw[seqIndex_of h0 h5] at h1
   exact Option.some.inj h1
  exact item_listR pl.isList h0 (by omega) (by rw[hj];simpa using ew) fin hs
 ·have hj:(i+(its.toArray.size:Int)).toNat=j:=by
   rw[seqIndex_neg (by omega) h4] at h1
   rw[zce4,← hl]
   exact Option.some.inj h1
  exact subscriptTail_builtinR (x:=w) pl.isList.typeIs slot_list_getitem.lookup
   (wpAny_getItem_list_neg (Q:=fun r s'=>r=w/\EP X pins σ Q r s') pl.isList (by omega) (by rw[zce4]<;>omega) (by omega) (by rw[hj];simpa using ew) ⟨rfl,fin⟩) hs
theorem ix_tup:IxR X (rIxT X.K):=by
 intro value slice pins s σ H x y v u Q I rx ry h hs
 obtain⟨p,xs,i,z,rfl,rfl,hq,he,q⟩:=h
 cases rx
 obtain⟨t,rfl⟩:=ry
 obtain⟨its,r,pl,hz⟩:=I.tuple hq
 obtain⟨j,h1,h2,h3,h4,h5⟩:=zaq9 he
 obtain⟨w,ew,rw'⟩:=r.get h2
 have hl:=r.length
 have hn:=zac5
 have fin:EP X pins σ Q w s:=⟨z,H,I,rw',q⟩
 exact subscriptTail_builtinR (x:=w) pl.typeIs slot_tuple_getitem.lookup
  (getItem_tuple (j:=j) (Q:=fun r s'=>r=w/\EP X pins σ Q r s') pl (by omega) (by omega) (by rw[zce4,← hl];exact h1) (by simpa using ew) ⟨rfl,fin⟩) hs
theorem ix_str:IxR X rIxS:=by
 intro value slice pins s σ H x y v u Q I rx ry h hs
 obtain⟨z,i,c,rfl,rfl,hz,he,q⟩:=h
 obtain⟨t,rfl⟩:=rx
 obtain⟨t',rfl⟩:=ry
 obtain⟨j,h1,h2,h3,h4,h5⟩:=zaq9 he
 have hl:z.cps.toList.length=z.length:=by simp[Str.length]
 rw[hl] at h1 h4 h5
 have hn:=zac5
 exact tail_any (typeIs_str s z t) slot_str_getitem.lookup (getItem_str (c:=c) (by
  have e1:decide (i < -(2 ^ 63:Int))=false:=decide_eq_false (by omega)
  have e2:decide (i≥2 ^ 63)=false:=decide_eq_false (by omega)
  rw[e1,e2,Bool.or_false]) (by rw[h1];simpa using h2) ⟨.str ⟨#[c]⟩,H,I.tok _,⟨_,rfl⟩,q⟩) hs
theorem zbc0(its:List Value)(n j:Nat)(u:Value):Obj.mapSeq (·.setIfInBounds j u) { cls:=.type "list",data:=.seq its.toArray n }={ cls:=.type "list",data:=.seq (its.set j u).toArray n }:=by
 simp[Obj.mapSeq]
theorem Inv.lst{pins:List (Addr×Obj)}{σ:St}{H:Hp}{s:Shared}{p:Addr}(I:Inv X pins σ H s)(h:H p=some (.lst xs)) :
  ∃ (its:List Value) (n:Nat),Vals xs its/\s.heap.get? p=some { cls:=.type "list",data:=.seq its.toArray n }/\xs.length<=sizeLine:=by
 obtain⟨z,its,n,r,e⟩:=I.hok p _ h
 exact⟨its,n,r,e,z⟩
theorem Inv.lstUpd{pins:List (Addr×Obj)}{σ:St}{H:Hp}{s:Shared}{p:Addr}{ys:List V}{its its':List Value}{n n':Nat}{f:Obj->Obj}(I:Inv X pins σ H s)(h:H p=some (.lst xs))(ho:s.heap.get? p=some { cls:=.type "list",data:=.seq its.toArray n })(hf:f { cls:=.type "list",data:=.seq its.toArray n }={ cls:=.type "list",data:=.seq its'.toArray n' })(r:Vals ys its')(hz:ys.length<=sizeLine)(t:Nat) :
  Inv X pins σ (upd H p (.lst ys)) { s with heap:=s.heap.update p f,toks:=t }:=by
 have e:(s.heap.update p f).get? p=some { cls:=.type "list",data:=.seq its'.toArray n' }:=by
  rw[zcj9 f ho (by rw[hf]<;>rfl),hf]
 refine I.write (x:=p) (e:=p) (by rw[h];trivial) (.inl rfl) (fun b u hb q=>(zcg3 _ _ (Ne.symm hb)).trans q) ⟨_,e⟩ ?_
 exact⟨hz,its',n',r,e⟩
def rSetL:V->V->V->Hp->(Hp->Prop)->Prop:=fun o i v H Q=>∃ p xs k j,o=.ref p/\i=.int k/\H p=some (.lst xs)/\ixN xs.length k=some j/\Q (upd H p (.lst (xs.set j v)))
theorem zbk9:PSet X rSetL:=by
 intro pins s σ H o i v ov iv u Q I ro ri rv h
 obtain⟨p,xs,k,j,rfl,rfl,hp,hj,q⟩:=h
 cases ro
 obtain⟨t,rfl⟩:=ri
 obtain⟨its,n,r,ho,hz⟩:=I.lst hp
 obtain⟨h1,h2,h3,h4⟩:=zbe7 hj
 have hl:=r.length
 have hn:=zac5
 have I':Inv X pins σ (upd H p (.lst (xs.set j v))) { s with heap:=s.heap.update p (Obj.mapSeq (·.setIfInBounds j u)) }:=
  I.lstUpd hp ho (zbc0 its n j u) (r.set rv j) (by rw[zcm4];exact hz) s.toks
 by_cases h0:0<=k
 ·have hk:k.toNat=j:=by
   rw[seqIndex_of h0 h4] at h1
   exact Option.some.inj h1
  exact PySem.W.ki_setAt ho h0 (by omega) (by rw[zce4,← hl];exact h4) (by rw[hk];exact⟨_,I',q⟩)
 ·have hk:(k+(its.toArray.size:Int)).toNat=j:=by
   rw[seqIndex_neg (by omega) h3] at h1
   rw[zce4,← hl]
   exact Option.some.inj h1
  exact PySem.W.ki_setBack ho (by omega) (by rw[zce4,← hl];exact h3) (by omega) (by rw[hk];exact⟨_,I',q⟩)
theorem zam9(lo hi:Option Int)(n:Nat):(sliceBounds lo hi none n).1=((HT.sIx n 0 lo:Nat):Int)/\(sliceBounds lo hi none n).2.1=((HT.sIx n n hi:Nat):Int)/\(sliceBounds lo hi none n).2.2=1:=by
 refine⟨?_,?_,rfl⟩
 ·cases lo with
  | none=>simp[sliceBounds,HT.sIx]
  | some i=>
   simp only[sliceBounds,HT.sIx,Option.getD_none,show (1:Int)>0 by decide,if_true]
   by_cases h:i<0
   ·simp only[h,if_true]<;>omega
   ·simp only[h,if_false]<;>omega
 ·cases hi with
  | none=>simp[sliceBounds,HT.sIx]
  | some i=>
   simp only[sliceBounds,HT.sIx,Option.getD_none,show (1:Int)>0 by decide,if_true]
   by_cases h:i<0
   ·simp only[h,if_true]<;>omega
   ·simp only[h,if_false]<;>omega
theorem zaj3(its:List Value)(lo hi:Option Int):slicePick its.toArray lo hi none=((its.drop (HT.sIx its.length 0 lo)).take (HT.sIx its.length its.length hi - HT.sIx its.length 0 lo)).toArray:=by
 obtain⟨h1,h2,h3⟩:=zam9 lo hi its.toArray.size
 unfold slicePick
 rw[h1,h2,h3]
 simp only[sliceRange_one,pick_run,zce4]<;>rfl
def rSlL(K:zce1):V->Option Int->Option Int->Hp->VK->Prop:=fun x lo hi H Q=>∃ a xs,x=.ref a/\SqL K H a xs/\∀ p,H p=none->Q (.ref p) (upd H p (.lst (cutV xs lo hi)))
theorem zbd3:SlR X (rSlL X.K):=by
 intro pins s σ H x v vl vu lo hi sl Q I rx hs pl pu h
 obtain⟨a,xs,rfl,hx,q⟩:=h
 cases rx
 obtain⟨its,r,ht,hz⟩:=I.list hx
 have hlen:=r.length
 refine⟨"list",_,slot_list_getitem.lookup,ht.isList.typeIs,?_⟩
 refine wpAny_getItem_list_slice ht.isList hs pl pu .none (by simp) ?_ (by rw[zce4]<;>omega)
 rw[zaj3,← hlen]
 refine⟨.ref s.heap.objs.size,_,I.laid (t':=s.toks) (o:=.lst (cutV xs lo hi)) (fun b ob q=>zcf3 _ q) (zcg0 _) ?_,rfl,q _ (I.hok.fresh (zcg0 _))⟩
 exact⟨zci0 (zad0 xs lo hi) hz,_,0,(r.drop (HT.sIx xs.length 0 lo)).take (HT.sIx xs.length xs.length hi - HT.sIx xs.length 0 lo),zch7 _ rfl⟩
def zh1:V->Bool
 | .non=>true
 | .bl _=>true
 | .int _=>true
 | .str _=>true
 | _=>false
def eqV:V->V->Bool
 | .non,.non=>true
 | .bl a,.bl b=>a==b
 | .bl a,.int b=>(if a then 1 else 0)==b
 | .int a,.bl b=>a==(if b then 1 else 0)
 | .int a,.int b=>a==b
 | .str a,.str b=>a==b
 | _,_=>false
theorem zbe4{A:Around}{s:Shared}{y x:V}{u v:Value}(ry:RelV y u)(rx:RelV x v)(fy:zh1 y=true)(fx:zh1 x=true):SeqAt.EqAt A s u v (eqV y x):=by
 cases y with
 | non=>
  cases ry
  cases x with
  | non=>cases rx;exact SeqAt.EqAt.same _
  | bl b=>cases rx;exact SeqAt.EqAt.none_bool b
  | int b=>obtain⟨t,rfl⟩:=rx;exact SeqAt.EqAt.none_int b t
  | str b=>obtain⟨t,rfl⟩:=rx;exact SeqAt.EqAt.none_str b t
  | _=>exact absurd (show false=true from fx) zcf0
 | bl a=>
  cases ry
  cases x with
  | non=>cases rx;exact SeqAt.EqAt.bool_none a
  | bl b=>cases rx;exact SeqAt.EqAt.bool_bool a b
  | int b=>obtain⟨t,rfl⟩:=rx;exact SeqAt.EqAt.bool_int a b t
  | str b=>obtain⟨t,rfl⟩:=rx;exact SeqAt.EqAt.bool_str a b t
  | _=>exact absurd (show false=true from fx) zcf0
 | int a=>
  obtain⟨t',rfl⟩:=ry
  cases x with
  | non=>cases rx;exact SeqAt.EqAt.int_none a t'
  | bl b=>cases rx;exact SeqAt.EqAt.int_bool a t' b
  | int b=>obtain⟨t,rfl⟩:=rx;exact SeqAt.EqAt.int_int a t' b t
  | str b=>obtain⟨t,rfl⟩:=rx;exact SeqAt.EqAt.int_str a t' b t
  | _=>exact absurd (show false=true from fx) zcf0
 | str a=>
  obtain⟨t',rfl⟩:=ry
  cases x with
  | non=>cases rx;exact SeqAt.EqAt.str_none a t'
  | bl b=>cases rx;exact SeqAt.EqAt.str_bool a t' b
  | int b=>obtain⟨t,rfl⟩:=rx;exact SeqAt.EqAt.str_int a t' b t
  | str b=>obtain⟨t,rfl⟩:=rx;exact SeqAt.EqAt.str_str a t' b t
  | _=>exact absurd (show false=true from fx) zcf0
 | _=>exact absurd (show false=true from fy) zcf0
def eqU(x:V)(u:Value):Bool:=match u with
 | .none=>eqV .non x
 | .bool b=>eqV (.bl b) x
 | .int i _=>eqV (.int i) x
 | .str z _=>eqV (.str z) x
 | _=>false
theorem zaw8{x y:V}{u:Value}(r:RelV y u)(f:zh1 y=true):eqU x u=eqV y x:=by
 cases y with
 | non=>cases r;rfl
 | bl b=>cases r;rfl
 | int i=>obtain⟨t,rfl⟩:=r;rfl
 | str z=>obtain⟨t,rfl⟩:=r;rfl
 | _=>exact absurd (show false=true from f) zcf0
theorem zas2{x:V}:∀ {xs:List V}{us:List Value},Vals xs us->xs.all zh1=true->us.any (eqU x)=xs.any fun y=>eqV y x
 | _,_,.nil,_=>rfl
 | y :: xs,u :: us,.cons r t,f=>by
  rw[List.all_cons,zci7] at f
  rw[List.any_cons,List.any_cons,zaw8 r f.1,zas2 t f.2]
theorem zv6{A:Around}{s:Shared}{x:V}{v:Value}(rx:RelV x v)(fx:zh1 x=true):∀ {xs:List V}{us:List Value},Vals xs us->xs.all zh1=true->∀ u∈us,SeqAt.EqAt A s u v (eqU x u)
 | _,_,.nil,_=>fun u hu=>by cases hu
 | y :: xs,u :: us,.cons r t,f=>fun u' hu=>by
  rw[List.all_cons,zci7] at f
  rcases zcf2.mp hu with rfl|hu
  ·rw[zaw8 r f.1];exact zbe4 r rx f.1 fx
  ·exact zv6 rx fx t f.2 u' hu
def inV(x:V)(xs:List V):Bool:=xs.any fun y=>eqV y x
def rIn(K:zce1)(neg:Bool):R2:=fun x y H Q=>∃ p xs,y=.ref p/\(SqL K H p xs∨SqT K H p xs)/\zh1 x=true/\xs.all zh1=true/\Q (.bl (if neg then !inV x xs else inV x xs)) H
theorem zbc9:OpR X (compareOp .In) (rIn X.K false):=by
 intro pins s σ H x y v u Q I rx ry h
 obtain⟨p,xs,rfl,hq,fx,fs,q⟩:=h
 cases ry
 rcases hq with hq|hq
 ·obtain⟨its,r,pl,hz⟩:=I.list hq
  refine SeqAt.in_listAt (eqU x) pl.isList (fun w hw=>zv6 rx fx r fs w (by simpa using hw)) ⟨.bl _,H,I,rfl,?_⟩
  rw[show its.toArray.any (eqU x)=its.any (eqU x) by simp,zas2 r fs]
  exact q
 ·obtain⟨its,r,pl,hz⟩:=I.tuple hq
  refine SeqAt.in_tupleAt (eqU x) pl (fun w hw=>zv6 rx fx r fs w (by simpa using hw)) ⟨.bl _,H,I,rfl,?_⟩
  rw[show its.toArray.any (eqU x)=its.any (eqU x) by simp,zas2 r fs]
  exact q
theorem zao2:zk0 X (.builtin "len") (fun xs H Q=>∃ p ys,xs=[.ref p]/\(SqL X.K H p ys∨SqT X.K H p ys)/\Q (.int ys.length) H):=by
 intro pins s σ H xs us Q I r h
 obtain⟨p,ys,rfl,hq,q⟩:=h
 obtain⟨u,rfl,rx⟩:=zw6 r
 cases rx
 have hn:=zac5
 rcases hq with hq|hq
 ·obtain⟨its,r',pl,hz⟩:=I.list hq
  have hlen:=r'.length
  exact Calls.call_len_list pl.isList (by simp only[zce4]<;>omega) ⟨.int ys.length,H,I.tok _,⟨s.toks+1,by rw[zce4,hlen]⟩,q⟩
 ·obtain⟨its,r',pl,hz⟩:=I.tuple hq
  have hlen:=r'.length
  exact len_tuple pl (by simp only[zce4]<;>omega) ⟨.int ys.length,H,I.tok _,⟨s.toks+1,by rw[zce4,hlen]⟩,q⟩
theorem zak9:zk0 X (.builtin "len") (fun xs H Q=>∃ z,xs=[.str z]/\z.length<=sizeLine/\Q (.int z.length) H):=by
 intro pins s σ H xs us Q I r h
 obtain⟨z,rfl,hz,q⟩:=h
 obtain⟨u,rfl,t,rfl⟩:=zw6 r
 have hn:=zac5
 exact len_str (by omega) ⟨.int z.length,H,I.tok _,⟨_,rfl⟩,q⟩
theorem zk0.or{f:Value}{r r':List V->Hp->VK->Prop}(h:zk0 X f r)(h':zk0 X f r'):zk0 X f (fun xs H Q=>r xs H Q∨r' xs H Q):=by
 intro pins s σ H xs us Q I rs q
 rcases q with q|q
 ·exact h pins s σ H xs us Q I rs q
 ·exact h' pins s σ H xs us Q I rs q
theorem zam0:zk0 X (.type "list") (fun xs H Q=>∃ p ys,xs=[.ref p]/\(SqL X.K H p ys∨SqT X.K H p ys)/\∀ l,H l=none->Q (.ref l) (upd H l (.lst ys))):=by
 intro pins s σ H xs us Q I r h
 obtain⟨p,ys,rfl,hq,q⟩:=h
 obtain⟨u,rfl,rx⟩:=zw6 r
 cases rx
 have fin:∀ (its:List Value),Vals ys its->ys.length<=sizeLine->∀ (h':Heap) (c':Nat),(∀ b o',s.heap.get? b=some o'->h'.get? b=some o') ->
   h'.get? s.heap.objs.size=some { cls:=.type "list",dict:=none,data:=.seq its.toArray c',slots:=#[] }->EP X pins σ Q (.ref s.heap.objs.size) { s with heap:=h' }:=fun its r' hz h' c' kp e=>
  ⟨.ref s.heap.objs.size,_,I.laid (t':=s.toks) kp (zcg0 _) (show zf2 X.prog X.w _ h' _ (.lst ys) from ⟨hz,its,c',r',e⟩),rfl,q _ (I.hok.fresh (zcg0 _))⟩
 rcases hq with hq|hq
 ·obtain⟨its,r',pl,hz⟩:=I.list hq
  have hlen:=r'.length
  obtain⟨o,ho,hc,n,hd⟩:=pl.isList
  exact call_list_seq p (.inl rfl) ho hc hd (fun h' c' kp e=>fin its r' hz h' c' kp e) (by simp only[zce4]<;>omega)
 ·obtain⟨its,r',pl,hz⟩:=I.tuple hq
  have hlen:=r'.length
  obtain⟨o,ho,hc,n,hd⟩:=pl
  exact call_list_seq p (.inr rfl) ho hc hd (fun h' c' kp e=>fin its r' hz h' c' kp e) (by simp only[zce4]<;>omega)
theorem zaj6:zk0 X (.type "tuple") (fun xs H Q=>∃ p ys,xs=[.ref p]/\((SqL X.K H p ys/\∀ l,H l=none->Q (.ref l) (upd H l (.tup ys)))∨(SqT X.K H p ys/\Q (.ref p) H))):=by
 intro pins s σ H xs us Q I r h
 obtain⟨p,ys,rfl,h⟩:=h
 obtain⟨u,rfl,rx⟩:=zw6 r
 cases rx
 rcases h with ⟨hq,q⟩|⟨hq,q⟩
 ·obtain⟨its,r',pl,hz⟩:=I.list hq
  have hlen:=r'.length
  refine call_tuple_list pl.isList (fun h' kp=>?_) (by simp only[zce4]<;>omega)
  have I1:Inv X pins σ H { s with heap:=h' }:=I.kept (t':=s.toks) kp
  have I2:Inv X pins σ (upd H h'.objs.size (.tup ys)) { s with heap:=h'.push { cls:=.type "tuple",data:=.seq its.toArray } }:=
   I1.laid (t':=s.toks) (fun b o e=>zcf3 _ e) (zcg0 _) (show zf2 X.prog X.w _ _ _ (.tup ys) from ⟨hz,its,r',IsTup.new _ _⟩)
  exact⟨.ref h'.objs.size,_,I2,rfl,q _ (I1.hok.fresh (zcg0 _))⟩
 ·obtain⟨its,r',pl,hz⟩:=I.tuple hq
  exact call_tuple_same pl ⟨.ref p,H,I,rfl,q⟩
def tyV(K:zce1)(T:String)(x:V)(H:Hp):Prop:=match x with
 | .str _=>T="str"
 | .int _=>T="int"
 | .ref p=>(T="list"/\∃ xs,SqL K H p xs)∨(T="tuple"/\∃ o,K.lookup p=some o/\o.cls=.type "tuple"/\o.dict=none) ∨
   (T="dict"/\((∃ kvs,H p=some (.dK kvs))∨∃ kvs,H p=some (.dT kvs)))∨(T="set"/\∃ S n,H p=some (.set S n))
 | _=>False
theorem zbc8{pins:List (Addr×Obj)}{σ:St}{H:Hp}{s:Shared}{T:String}{x:V}{v:Value}(I:Inv X pins σ H s)(r:RelV x v)(ty:tyV X.K T x H) :
  s.TypeIs v T/\∀ a,v=.ref a->∃ ob,s.heap.get? a=some ob/\ob.dict=none:=by
 cases x with
 | str z=>
  obtain⟨t,rfl⟩:=r
  cases (show T="str" from ty)
  exact⟨typeIs_str s z t,fun _ e=>nomatch e⟩
 | int i=>
  obtain⟨t,rfl⟩:=r
  cases (show T="int" from ty)
  exact⟨typeIs_int s i t,fun _ e=>nomatch e⟩
 | ref p=>
  cases r
  rcases ty with ⟨rfl,xs,hq⟩|⟨rfl,o,hk,hc,hd⟩|⟨rfl,hk⟩|⟨rfl,S,n,hk⟩
  ·obtain⟨its,_,pl,_⟩:=I.list hq
   refine⟨pl.isList.typeIs,fun a e=>?_⟩
   cases e
   obtain⟨o,n,e,c,hd,_⟩:=pl
   exact⟨o,e,hd⟩
  ·refine⟨⟨o,I.kIn p o hk,hc⟩,fun a e=>?_⟩
   cases e
   exact⟨o,I.kIn _ o hk,hd⟩
  ·have z:∃ o,s.heap.get? p=some o/\o.ExactDict:=by
    rcases hk with ⟨kvs,hk⟩|⟨kvs,hk⟩
    ·obtain⟨_,_,_,_,o,_,_,e,ex,_⟩:=I.hok p _ hk
     exact⟨o,e,ex⟩
    ·obtain⟨_,_,_,_,o,_,_,e,ex,_⟩:=I.hok p _ hk
     exact⟨o,e,ex⟩
   obtain⟨o,e,ex⟩:=z
   refine⟨⟨o,e,ex.1⟩,fun a e2=>?_⟩
   cases e2
   exact⟨o,e,ex.2.1⟩
  ·obtain⟨o,_,_,_,e,ex,_⟩:=I.hok p _ hk
   refine⟨⟨o,e,ex.1⟩,fun a e2=>?_⟩
   cases e2
   exact⟨o,e,ex.2.1⟩
 | _=>exact False.elim ty
variable {o e:Expr}{es:List Expr}{to:TE}{t:TA}{name:Str}{apos cpos:Pos}{T id:String}{r:V->List V->Hp->VK->Prop}
end
def MtM(X:Cx)(id:String)(r:V->List V->Hp->VK->Prop):Prop:=
 ∀ (pins:List (Addr×Obj)) (s:Shared) (σ:St) (H:Hp) (x:V) (xs:List V) (v:Value) (us:List Value) (Q:VK),Inv X pins σ H s->RelV x v->Vals xs us->r x xs H Q ->
  wpAny (model X.prog X.w) X.A (call (.builtin id) (v :: us)) (EP X pins σ Q) X.xe s
theorem Vals.one:∀ {x:V}{us:List Value},Vals [x] us->∃ u,us=[u]/\RelV x u
 | _,_,.cons r .nil=>⟨_,rfl,r⟩
theorem Vals.two:∀ {x y:V}{us:List Value},Vals [x,y] us->∃ u v,us=[u,v]/\RelV x u/\RelV y v
 | _,_,_,.cons r (.cons q .nil)=>⟨_,_,rfl,r,q⟩
theorem Vals.zero:∀ {us:List Value},Vals [] us->us=[]
 | _,.nil=>rfl
theorem Vals.dropLast{xs:List V}{us:List Value}(h:Vals xs us):Vals xs.dropLast us.dropLast:=by
 induction h with
 | nil=>exact .nil
 | cons r t ih=>
  cases t with
  | nil=>exact .nil
  | cons q t'=>exact .cons r ih
theorem Vals.eraseIdx:∀ {xs:List V}{us:List Value}(i:Nat),Vals xs us->Vals (xs.eraseIdx i) (us.eraseIdx i)
 | _,_,_,.nil=>.nil
 | _,_,0,.cons _ t=>t
 | _,_,i+1,.cons r t=>.cons r (Vals.eraseIdx i t)
theorem Vals.reverse{xs:List V}{us:List Value}(h:Vals xs us):Vals xs.reverse us.reverse:=by
 induction h with
 | nil=>exact .nil
 | cons r t ih=>rw[List.reverse_cons,List.reverse_cons];exact Vals.append ih (.cons r .nil)
theorem Vals.rep{xs:List V}{us:List Value}(h:Vals xs us):∀ k:Nat,Vals (List.replicate k xs).flatten (List.replicate k us).flatten
 | 0=>.nil
 | k+1=>by
  rw[zcj1,zcj1,zci2,zci2]
  exact Vals.append h (Vals.rep h k)
theorem zaz5{α:Type}(l:List α):l.eraseIdx (l.length - 1)=l.dropLast:=by
 induction l with
 | nil=>rfl
 | cons a r ih=>
  cases r with
  | nil=>rfl
  | cons b r=>
   have e:(a :: b :: r).length - 1=((b :: r).length - 1)+1:=by
    have h1:(a :: b :: r).length=r.length+2:=rfl
    have h2:(b :: r).length=r.length+1:=rfl
    omega
   rw[e,List.eraseIdx_cons_succ,ih]
   all_goals rfl
theorem zam8(its:List Value):∀ (k:Nat) (acc:List Value),
  List.foldl (fun x1 x2=>x1++x2) acc.toArray (List.replicate k its.toArray)=(acc++(List.replicate k its).flatten).toArray
 | 0,acc=>by simp
 | k+1,acc=>by
  have e:acc.toArray++its.toArray=(acc++its).toArray:=by simp
  have e2:(acc++its)++(List.replicate k its).flatten=acc++(List.replicate (k+1) its).flatten:=by
   rw[zcj1,zci2,List.append_assoc]
  rw[← e2,← zam8 its k (acc++its),← e,zcj1,List.foldl_cons]
section
variable {X:Cx}{pins:List (Addr×Obj)}{σ:St}{H:Hp}{s:Shared}{l b:Addr}{xs ys zs:List V}
theorem Inv.lset{its its':List Value}{n:Nat}{f:Array Value->Array Value}{t':Nat}(I:Inv X pins σ H s)(hH:H l=some (.lst xs))(e:s.heap.get? l=some { cls:=.type "list",data:=.seq its.toArray n })(hf:f its.toArray=its'.toArray)(hv:Vals ys its')(hz:ys.length<=sizeLine) :
  Inv X pins σ (upd H l (.lst ys)) { s with heap:=s.heap.update l (Obj.mapSeq f),toks:=t' }:=by
 have q:=PySem.IsL.update e f
 rw[hf] at q
 refine I.write (x:=l) (e:=l) (by rw[hH];exact trivial) (.inl rfl) (fun b' u hb hu=>(zcg3 s.heap (Obj.mapSeq f) (Ne.symm hb)).trans hu) ⟨_,q⟩ ?_
 exact⟨hz,its',_,hv,q⟩
theorem Inv.lnew{its:List Value}{t':Nat}(I:Inv X pins σ H s)(hv:Vals ys its)(hz:ys.length<=sizeLine) :
  Inv X pins σ (upd H s.heap.objs.size (.lst ys)) { s with heap:=s.heap.push { cls:=.type "list",data:=.seq its.toArray },toks:=t' }:=
 I.laid (fun _ _ q=>zcf3 _ q) (zcg0 _) ⟨hz,its,0,hv,zch7 _ rfl⟩
theorem Inv.fresh(I:Inv X pins σ H s):H s.heap.objs.size=none:=I.hok.fresh (zcg0 _)
theorem Inv.lstM(I:Inv X pins σ H s)(hH:H l=some (.lst xs)):xs.length<=sizeLine/\∃ (its:List Value) (n:Nat),Vals xs its/\xs.length=its.length/\s.heap.get? l=some { cls:=.type "list",data:=.seq its.toArray n }:=by
 obtain⟨z,its,n,r,e⟩:=I.hok l _ hH
 exact⟨z,its,n,r,r.length,e⟩
theorem zay5{n:Nat}(h:n<=sizeLine):Builtin.List.listTooLong n=false:=by
 unfold Builtin.List.listTooLong
 exact decide_eq_false (by omega)
end
section
variable {X:Cx}
def zbt6:V->List V->Hp->VK->Prop:=fun x vs H Q=>∃ l xs y,x=.ref l/\vs=[y]/\H l=some (.lst xs)/\xs.length<sizeLine/\Q .non (upd H l (.lst (xs++[y])))
theorem zao6:MtM X "list.append" zbt6:=by
 intro pins s σ H x vs v us Q I rx rv h
 obtain⟨l,xs,y,rfl,rfl,hH,hz,q⟩:=h
 cases rx
 obtain⟨u,rfl,ru⟩:=rv.one
 obtain⟨z,its,n,r,hl,e⟩:=I.lstM hH
 refine call_meets F.slot_list_append ⟨_,e,rfl⟩ F.entry_list_append (F.args_list_append_2 _ _) (PySem.list_append l its.toArray n u (by rw[zce4];omega)) ⟨e,?_⟩
 refine⟨.non,_,I.lset (its':=its++[u]) hH e (by simp) (r.append (.cons ru .nil)) ?_,rfl,q⟩
 rw[zce6,zcf4]
 omega
def zbr8:V->List V->Hp->VK->Prop:=fun x vs H Q=>∃ l b xs zs,x=.ref l/\vs=[.ref b]/\H l=some (.lst xs)/\H b=some (.lst zs)/\xs.length+zs.length<=sizeLine/\Q .non (upd H l (.lst (xs++zs)))
theorem zbd1:MtM X "list.extend" zbr8:=by
 intro pins s σ H x vs v us Q I rx rv h
 obtain⟨l,b,xs,zs,rfl,rfl,hH,hB,hz,q⟩:=h
 cases rx
 obtain⟨u,rfl,ru⟩:=rv.one
 cases ru
 obtain⟨z,its,n,r,hl,e⟩:=I.lstM hH
 obtain⟨z2,its2,n2,r2,hl2,e2⟩:=I.lstM hB
 have hsz:its.toArray.size+its2.toArray.size<=sizeLine:=by rw[zce4,zce4];omega
 have hlong:¬ (!its.toArray.isEmpty&&Builtin.List.listTooLong (its.toArray.size+its2.toArray.size))=true:=by
  rw[zay5 hsz,Bool.and_false]
  exact zcf0
 refine call_meets F.slot_list_extend ⟨_,e,rfl⟩ F.entry_list_extend (F.args_list_extend_2 _ _)
  (AutoSeq1.list_extend_list_list_0 l its.toArray n b its2.toArray n2 hlong (by rw[zce4];omega) (by omega)) ⟨e,e2,?_⟩
 refine⟨.non,_,I.lset (its':=its++its2) hH e (by simp) (r.append r2) ?_,rfl,q⟩
 rw[zce6]
 omega
def rPop:V->List V->Hp->VK->Prop:=fun x vs H Q=>∃ l xs y,x=.ref l/\vs=[]/\H l=some (.lst xs)/\xs[xs.length - 1]?=some y/\Q y (upd H l (.lst xs.dropLast))
theorem mt_pop:MtM X "list.pop" rPop:=by
 intro pins s σ H x vs v us Q I rx rv h
 obtain⟨l,xs,y,rfl,rfl,hH,hy,q⟩:=h
 cases rx
 have hus:=rv.zero
 subst hus
 obtain⟨z,its,n,r,hl,e⟩:=I.lstM hH
 obtain⟨u,hu,ru⟩:=r.get hy
 have hy':its.toArray[its.toArray.size - 1]?=some u:=by
  show its.toArray[its.length - 1]?=some u
  rw[← zcg7,← hl]
  exact hu
 refine call_meets F.slot_list_pop ⟨_,e,rfl⟩ F.entry_list_pop (F.args_list_pop_1 _) (MeetsSeq.list_pop_last l its.toArray n u hy' (by rw[zce4];omega)) ⟨e,?_⟩
 refine⟨y,_,I.lset (its':=its.dropLast) hH e ?_ r.dropLast ?_,ru,q⟩
 ·show its.toArray.eraseIdxIfInBounds (its.toArray.size - 1)=its.dropLast.toArray
  rw[zce4,List.eraseIdxIfInBounds_toArray,zaz5]
 ·rw[List.length_dropLast]
  omega
def zbl0:V->List V->Hp->VK->Prop:=fun x vs H Q=>∃ l xs,x=.ref l/\vs=[]/\H l=some (.lst xs)/\Q .non (upd H l (.lst xs.reverse))
theorem zba9:MtM X "list.reverse" zbl0:=by
 intro pins s σ H x vs v us Q I rx rv h
 obtain⟨l,xs,rfl,rfl,hH,q⟩:=h
 cases rx
 have hus:=rv.zero
 subst hus
 obtain⟨z,its,n,r,hl,e⟩:=I.lstM hH
 refine call_meets F.slot_list_reverse ⟨_,e,rfl⟩ F.entry_list_reverse (F.args_list_reverse_1 _) (AutoSeq1.list_reverse_list_0 l its.toArray n (by rw[zce4];omega)) ⟨e,?_⟩
 refine⟨.non,_,I.lset (its':=its.reverse) hH e (by simp) r.reverse ?_,rfl,q⟩
 rw[zci6]
 omega
def rCat:R2:=fun x y H Q=>∃ l b xs zs,x=.ref l/\y=.ref b/\H l=some (.lst xs)/\H b=some (.lst zs)/\xs.length+zs.length<=sizeLine/\∀ p,H p=none->Q (.ref p) (upd H p (.lst (xs++zs)))
theorem op_cat:OpR X (binaryOp .Add) rCat:=by
 intro pins s σ H x y v u Q I rx ry h
 obtain⟨l,b,xs,zs,rfl,rfl,hH,hB,hz,q⟩:=h
 cases rx
 cases ry
 obtain⟨z,its,n,r,hl,e⟩:=I.lstM hH
 obtain⟨z2,its2,n2,r2,hl2,e2⟩:=I.lstM hB
 refine PySem.P.add_list e e2 ?_ (by rw[zce4,zce4];omega)
 have ea:its.toArray++its2.toArray=(its++its2).toArray:=by simp
 rw[ea]
 exact⟨.ref _,_,I.lnew (t':=s.toks) (r.append r2) (by rw[zce6];omega),rfl,q _ I.fresh⟩
def rRep:R2:=fun x y H Q=>∃ l k xs,x=.ref l/\y=.int k/\H l=some (.lst xs)/\-(2 ^ 63)<=k/\k<2 ^ 63/\xs.length*k.toNat<=sizeLine /\
 ∀ p,H p=none->Q (.ref p) (upd H p (.lst (List.replicate k.toNat xs).flatten))
theorem zbt2{α:Type}(xs:List α)(k:Nat):(List.replicate k xs).flatten.length=k*xs.length:=by
 induction k with
 | zero=>simp
 | succ k ih=>rw[zcj1,zci2,zce6,ih,zcn2,Nat.add_comm]
theorem op_rep:OpR X (binaryOp .Mult) rRep:=by
 intro pins s σ H x y v u Q I rx ry h
 obtain⟨l,k,xs,rfl,rfl,hH,h1,h2,hz,q⟩:=h
 cases rx
 obtain⟨t,rfl⟩:=ry
 obtain⟨z,its,n,r,hl,e⟩:=I.lstM hH
 have hlen:its.toArray.size*k.toNat<=sizeLine:=by rw[zce4,← hl];exact hz
 have hcap:¬ its.toArray.size*k.toNat>(2 ^ 63 - 1) / 8:=by
  have:(sizeLine:Nat)<=(2 ^ 63 - 1) / 8:=by decide
  omega
 have hfit:¬ (!Builtin.List.listFitsIndex k)=true:=by
  rw[fitsIndex_both h1 h2]
  exact zcf0
 have hlong:¬ Builtin.List.listTooLong (its.toArray.size*k.toNat)=true:=by
  rw[zay5 hlen]
  exact zcf0
 have hnew:List.foldl (fun x1 x2=>x1++x2) #[] (List.replicate (if its.toArray.isEmpty=true then 0 else k.toNat) its.toArray)=(List.replicate k.toNat its).flatten.toArray:=by
  have f0:∀ m:Nat,List.foldl (fun x1 x2=>x1++x2) #[] (List.replicate m its.toArray)=(List.replicate m its).flatten.toArray:=fun m=>by
   have:=zam8 its m []
   rw[List.nil_append] at this
   exact this
  rw[f0]
  cases its with
  | nil=>simp
  | cons a r'=>rw[if_neg (by simp)]
 refine wpAny_binaryOp_repeat_ref (T:="list") (U:="int") (by decide) ⟨_,e,rfl⟩ (fun s'=>typeIs_int s' k t) noFill_list_mul F.fills_int_mul F.slot_int_rmul repeat_list F.slot_int_index.lookup
  (call_meets F.slot_int_rmul (typeIs_int s k t) F.entry_int_rmul (F.args_int_rmul_2 _ _) (int___rmul___int_list k t l its.toArray n)
   ⟨e,rfl,⟨_,e,rfl⟩,call_meets F.slot_list_mul ⟨_,e,rfl⟩ F.entry_list_mul (F.args_list_mul_2 _ _) (AutoListH.list___mul___list_int_3 l its.toArray n k t hfit hcap hlong) ⟨e,?_⟩⟩)
 rw[hnew]
 exact⟨.ref _,_,I.lnew (t':=s.toks) (r.rep k.toNat) (by rw[zbt2,Nat.mul_comm];exact hz),rfl,q _ I.fresh⟩
end
end L2
namespace Att
open PySem PySem.W PySem.Calls PyProof.Rows
theorem zab0{P:Params}{h:Heap}:∀ (ns:List Int) (vs:List Value),WellAll P h vs (ns.map WData.int)->IntsAre vs ns:=by
 intro ns
 induction ns with
 | nil=>
  intro vs w
  rw[List.map_nil] at w
  cases w
  exact .nil
 | cons n ns ih=>
  intro vs w
  rw[zcj4] at w
  cases w with
  | cons a b=>
   cases a
   exact .cons _ _ (ih _ b)
theorem zbf3{l:OpenLaw}{n:Nat}(hn:l.most=some n){P:Params}{h:Heap}{args:List WData}{vals:List Value}(hpre:l.row.toRowW.claim.pre args=true)(hwl:WellAll P h vals args) :
  ∃ a vs ns,vals=[Value.ref a]/\args=[WData.list (ns.map WData.int)]/\h.get? a=some { cls:=.type "list",data:=.seq vs.toArray }/\IntsAre vs ns/\ns.length<=n:=by
 have hsh:WShape.hasAll [] args [.list .int]=true:=(pre_splitW hpre).1
 have hc:l.pre.holds [] { args:=args }=true:=(pre_splitW hpre).2
 obtain⟨d,r,rfl,h1,h2⟩:=hasAllW_cons hsh
 obtain rfl:=hasAllW_nil h2
 obtain⟨xs,rfl,h3⟩:=hasW_list h1
 obtain⟨ns,rfl⟩:=items_int h3
 have hlen:ns.length<=n:=by
  unfold OpenLaw.pre at hc
  have h4:(WTm.not (.lt (.lit (.int (n:Int))) (.len (.arg 0)))).holds [] { args:=[.list (ns.map .int)] }=true:=by
   have h4:=(holds_andW hc).1
   rw[hn] at h4
   exact h4
  have h5:=condW_of h4 (w_not (w_lt w_lit (w_len_list (w_arg rfl))))
  rw[zcd9] at h5
  refine Nat.le_of_not_lt fun q=>?_
  have q':(n:Int)<((ns.length:Nat):Int):=by omega
  first
   | (rw[decide_eq_true q'] at h5;exact absurd h5 (by decide))
   | (simp at h5;omega)
 cases hwl with
 | cons w1 w2=>
  cases w2
  cases w1 with
  | list ho hall=>exact⟨_,_,ns,rfl,rfl,ho,zab0 ns _ hall,hlen⟩
theorem zbd5(l:OpenLaw)(args:List WData):l.row.toRowW.claim.post args (.bool true) args=true:=
 postW_of (r:=l.row.toRowW) (X:=(true==true))
  (show WShape.has [] (.bool true) .bool=true by first|rfl|decide|simp[WShape.has,WShape.arms,WShape.armsAll])
  (show (WTm.eq .res (.lit (.bool true))).value [] { args:=args,res:=some (.bool true),after:=args }=some (.bool (true==true)) from w_eq_bool (w_res rfl) w_lit) rfl
theorem attach_call{l:OpenLaw}{n:Nat}{q:Program}{loose:List Str}{XP:(Str->Option Value)->Heap->Prop}{YP:World->Heap->Prop}{d:DefRec}(hn:l.most=some n)(hdf:d.params.defaults=[])(call:∀ (w:World) (s₀ s₁:Shared) (mg mb:Str->Option Value) (fa:Addr) (o:Obj) (pm cd doc:Value) (a:Addr) (vs:List Value) (ns:List Int),
   Ground q loose [] XP w s₀ mg mb s₁.heap->YP w s₁.heap ->
   s₁.heap.get? fa=some o->o.data=.func (docDef d.name d.params d.body d.scope pm cd doc)->s₁.heap.CodeRec cd d.name->mg d.name=some (.ref fa) ->
   s₁.heap.get? a=some { cls:=.type "list",data:=.seq vs.toArray }->IntsAre vs ns->ns.length<=n->s₁.gens=#[] ->
   codeAny (model l.prog w) callerA (.call (.ref fa) ⟨[.ref a],[]⟩) (fun r s'=>r=.ok (.ret (.bool true))/\OldK s₁.heap s'.heap/\s'.os=s₁.os/\AllBare s'.gens) s₁) :
  WalkO q loose XP YP l.row.toRowW d [] (fun f vs=>PySem.call f vs):=by
 intro w s₀ s₁ mg mb G Y fa o pm cd doc dV kV ho hd hcd hD hmg hg args vals as hpre hlay hrd hwl hlo
 obtain rfl:dV=.none:=Dflts.none hD hdf
 obtain rfl:kV=.none:=Dflts.noKw hD
 obtain⟨a,vs,ns,rfl,rfl,hobj,hints,hlen⟩:=zbf3 hn hpre hwl
 refine enter_call (codeAny_mono (call w s₀ s₁ mg mb fa o pm cd doc a vs ns G Y ho (fd_plain hd) hcd hmg hobj hints hlen hg) fun r s' hq=>?_)
 obtain⟨rfl,h2,h3,h4⟩:=hq
 exact⟨.inl ⟨.bool true,.bool true,[],rfl,fun _=>rfl,.bool true,zbd5 l _,fun _=>⟨List.Pairwise.nil,fun _ hm=>(nomatch hm)⟩⟩,h2,h3,h4⟩
section
variable {prog:Program}{w:World}{A:Around}{E:Value->Shared->Prop}{s:Shared}{K:Frag}
def ledger(h:Heap)(L d:Addr):List (Addr×Obj):=(List.range h.objs.size).filterMap fun a=>if a=L∨a=d then none else (h.get? a).map fun o=>(a,o)
end
end Att
namespace L2
open PySem PySem.Spec PyProof.Rows
variable {sp:Sp}{qual:Str}{st:Stmt}{C D c f:Addr}{H H' H1 H2:Hp}{xs:List V}{apos cpos pos:Pos}{e iter tg:Expr}{es:List Expr}{i:Nat}{te to:TE}{scope:Scope}{Q:VK}{ps:List Addr}
theorem zao8:∀ {vs:List Value}{ns:List Int},IntsAre vs ns->Vals (ns.map V.int) vs
 | _,_,.nil=>.nil
 | _,_,.cons n t h=>.cons ⟨t,rfl⟩ (zao8 h)
def Only(H:Hp):Prop:=∀ b,H b=none∨∃ o xs,H b=some (.frz o (.lst xs))
theorem zbl2{P:Program}{w:World}{K:zce1}{mg mb:Str->Option Value}{CX:CXT}{k:Nat}{fa a:Addr}{fd:FuncData}{x:Str}{s₁:Shared}{vs:List Value}{ns:List Int}(KX:K.In s₁.heap)(hns:s₁.heap.Ns zcn9 mg)(hb:s₁.heap.Ns builtinsNs mb)(hbb:∀ x:Str,x≠"__name__"->mb x=bootBuiltins x)(hlim:s₁.heap.NoLimit)(hg:s₁.gens=#[])(ha:s₁.heap.get? a=some { cls:=.type "list",data:=.seq vs.toArray })(hi:IntsAre vs ns)(hl:ns.length<=sizeLine)(hr:Room k callerA)(F:∀ base:Heap,K.In base->base.Ns zcn9 mg->FnOk P w K mg base CX k fa fd [x] sp)(hbind:∀ (s:Shared) (u:Value),BindsTo s fd ⟨[u],[]⟩ [(x,u)])(hsp:∀ H:Hp,Only H->SqL K H a (ns.map V.int)->sp [.ref a] H (fun v _=>v=.bl true) fun _ _ _=>False)(hCX:∀ H e s',CX [] H s₁ (fun _ _ _=>False) e s'->False) :
  codeAny (model P w) callerA (.call (.ref fa) ⟨[.ref a],[]⟩) (fun r s'=>r=.ok (.ret (.bool true))/\OldK s₁.heap s'.heap/\s'.os=s₁.os/\AllBare s'.gens) s₁:=by
 have rv:=zao8 hi
 have lenV:=hi.length
 have core:∀ H:Hp,Only H->SqL K H a (ns.map V.int)->HOk P w H s₁.heap->(∀ b,H b≠none->b=a)->(H a≠none->K.lookup a=none) ->
   codeAny (model P w) callerA (.call (.ref fa) ⟨[.ref a],[]⟩) (fun r s'=>r=.ok (.ret (.bool true))/\OldK s₁.heap s'.heap/\s'.os=s₁.os/\AllBare s'.gens) s₁:=by
  intro H hO hS hok hA hK
  have base_of:∀ {b:Addr}{o:Obj},s₁.heap.get? b=some o->H b=none->(hidT s₁.heap H).get? b=some o:=fun e n=>zbm0 e n
  have noA:∀ {b:Addr}{o:Obj}{es:Array DictEntry}{ep:Nat},s₁.heap.get? b=some o->o.data=.dict es ep->H b=none:=fun {b o es ep} e d=>by
   cases q:H b with
   | none=>rfl
   | some u=>
    have e':b=a:=hA b (by rw[q];simp)
    subst e'
    rw[ha] at e;cases e
    have d':Data.seq vs.toArray _=Data.dict es ep:=d
    cases d'
  have nsK:∀ {b:Addr}{m:Str->Option Value},s₁.heap.Ns b m->(hidT s₁.heap H).Ns b m:=fun {b m} ⟨o,es,ep,e,d,r⟩=>⟨o,es,ep,base_of e (noA e d),d,r⟩
  have hKb:K.In (hidT s₁.heap H):=fun b o e=>base_of (KX b o e) (by
   cases q:H b with
   | none=>rfl
   | some u=>
    have e':b=a:=hA b (by rw[q];simp)
    subst e'
    rw[hK (by rw[q];simp)] at e;cases e)
  have hM:Mod K mg (hidT s₁.heap H):=⟨hKb,nsK hns,⟨mb,nsK hb,hbb⟩,let ⟨mc,h1,h2⟩:=hlim;⟨mc,nsK h1,h2⟩⟩
  have e0:Env0 P w K mg (hidT s₁.heap H) callerA [] s₁ H:=⟨rfl,hM,fun b o e=>zbt0 e,Nat.le_of_eq (zbf4 _ _),trivial,fun b hb=>absurd (show b∈([]:List Addr) from hb) (by simp),hok,.of_eq hg⟩
  refine codeAny_mono ((F _ hKb (nsK hns)).run callerA [] s₁ H ⟨[.ref a],[]⟩ [.ref a] [.ref a] _ _ hr e0 (hbind s₁ (.ref a)) (.cons rfl .nil) (hsp H hO hS)) fun r s' h=>?_
  cases r with
  | error e=>exact (hCX H e s' h).elim
  | ok fl=>
   cases fl with
   | next=>exact False.elim h
   | brk=>exact False.elim h
   | cont=>exact False.elim h
   | ret u=>
    obtain⟨v,H',os,bare,un,hok',r',q⟩:=h
    have q':v=.bl true:=q
    subst q'
    obtain rfl:u=Value.bool true:=r'
    refine⟨rfl,OldK.of_keep fun b o e=>?_,os,bare⟩
    cases q:H b with
    | none=>exact un.keep b o e q (by intro z;exact absurd (show b∈([]:List Addr) from z) (by simp)) (by simp)
    | some u=>
     rcases hO b with z|⟨ob,xs,z⟩
     ·rw[q] at z;cases z
     ·have z2:=un.frzs b ob _ z
      obtain⟨e1,_⟩:=hok b _ z
      obtain⟨e2,_⟩:=hok' b _ z2
      rw[e] at e1;cases e1
      exact e2
 cases hk:K.lookup a with
 | some o=>
  have e:=KX a o hk
  rw[ha] at e
  cases e
  refine core (fun _=>none) (fun _=>.inl rfl) (.inr ⟨_,vs.toArray,_,hk,rfl,rfl,rfl,by rw[zce4,lenV];exact hl,by simpa using rv⟩) (fun b u z=>by have z':(none:Option HO)=some u:=z;cases z') (fun b z=>absurd rfl z) fun z=>absurd rfl z
 | none=>
  refine core (fun b=>if b=a then some (.frz { cls:=.type "list",data:=.seq vs.toArray } (.lst (ns.map V.int))) else none) (fun b=>?_) (.inl (.inr ⟨{ cls:=.type "list",data:=.seq vs.toArray },if_pos rfl⟩)) (fun b u z=>?_) (fun b z=>?_) fun _=>hk
  ·by_cases hb:b=a
   ·exact .inr ⟨_,_,if_pos hb⟩
   ·exact .inl (if_neg hb)
  ·by_cases hb:b=a
   ·have z':=(if_pos hb).symm.trans z
    cases z'
    subst hb
    exact⟨ha,by rw[zcd9];exact hl,vs,_,rv,ha⟩
   ·have z':=(if_neg hb).symm.trans z
    cases z'
  ·by_cases hb:b=a
   ·exact hb
   ·exact absurd (if_neg hb) z
theorem walk_of{l:PySem.W.OpenLaw}{n k:Nat}{q:Program}{loose:List Str}{XP:(Str->Option Value)->Heap->Prop}{YP:World->Heap->Prop}{d:DefRec}{K:Params->zce1}{CX:World->CXT}{sp:World->Sp}{x:Str}(hn:l.most=some n)(hn2:n<=sizeLine)(hdf:d.params.defaults=[])(hr:Room k callerA)(hY:∀ (w:World) (h:Heap),YP w h->(K w.params).In h)(F:∀ (w:World) (mg:Str->Option Value) (fa:Addr) (h:Heap),(K w.params).In h->h.Ns zcn9 mg->mg d.name=some (.ref fa) ->
   ∃ fd:FuncData,(∀ (s:Shared) (u:Value),BindsTo s fd ⟨[u],[]⟩ [(x,u)]) /\
    ∀ base:Heap,(K w.params).In base->base.Ns zcn9 mg->FnOk l.prog w (K w.params) mg base (CX w) k fa fd [x] (sp w))(hsp:∀ (w:World) (H:Hp) (a:Addr) (ns:List Int),ns.length<=n->Only H->SqL (K w.params) H a (ns.map V.int)->sp w [.ref a] H (fun v _=>v=.bl true) fun _ _ _=>False)(hCX:∀ (w:World) (H:Hp) (s:Shared) (e:Value) (s':Shared),CX w [] H s (fun _ _ _=>False) e s'->False) :
  PySem.W.WalkO q loose XP YP l.row.toRowW d [] (fun f vs=>PySem.call f vs):=by
 refine Att.attach_call hn hdf fun w s₀ s₁ mg mb fa o pm cd doc a vs ns G Y ho hd hcd hmg hobj hints hlen hg=>?_
 have KX:=hY w _ Y
 obtain⟨fd,hb,hF⟩:=F w mg fa _ KX G.T.g hmg
 exact zbl2 KX G.T.g G.T.b G.T.builtins G.T.nolimit hg hobj hints (zci0 hlen hn2) hr hF hb (fun H hO hS=>hsp w H a ns hlen hO hS) fun H e s'=>hCX w H s₁ e s'
def zbs5(s:Stmt)(j:Nat):Stmt:=match s with
 | .ClassDef _ _ _ body _ _ _ _ _ _ _=>body.getD j (.Pass ⟨0,0,0,0⟩)
 | _=>.Pass ⟨0,0,0,0⟩
def zo2(s:Stmt):Arguments:=match s with
 | .FunctionDef _ a _ _ _ _ _ _ _ _=>a
 | _=>{ posonlyargs:=[],args:=[],vararg:=none,kwonlyargs:=[],kw_defaults:=[],kwarg:=none,defaults:=[] }
def zl8(s:Stmt):List Stmt:=match s with
 | .FunctionDef _ _ b _ _ _ _ _ _ _=>b
 | _=>[]
def za5(s:Stmt):Scope:=match s with
 | .FunctionDef _ _ _ _ _ _ sc _ _ _=>sc
 | _=>{ kind:=.function,names:=[],isGenerator:=false,isCoroutine:=false }
abbrev CX0:CXT:=fun _ _ _ _ _ _=>False
abbrev E0:XK:=fun _ _ _=>False
theorem zc1{X:Cx}:zaa3 CX0 X E0:=fun _ _ _ _ _ _ _ h=>h.elim
structure Fun(K:zce1)(x qual:Str)(st:Stmt)(f:Addr)(fd:FuncData):Prop where
 ex:∃ (oc:Value) (od:Option Addr) (kV doc pm:Value) (an:Option Addr) (cdv ct:Value) (osl:Array (Option Value)),
  fd=zck8 x qual (zo2 st) (zl8 st) (za5 st) .none kV doc pm an cdv ct/\K.lookup f=some ⟨oc,od,.func fd,osl⟩/\zcm8 K cdv qual=true
 kp:zck5 K (.ref f)=true
section
variable {P:Program}{w:World}{K:zce1}{mg:Str->Option Value}{base:Heap}
theorem Fun.ok{x:Str}{fd:FuncData}{N ps:List Str}{k:Nat}(F:Fun K x qual st f fd)(S:zb3 N ps (za5 st))(len:∀ vs H Q E,sp vs H Q E->vs.length=ps.length)(hbody:∀ (cdv:Value) (A:Around) (outer:List Env) (s:Shared) (H:Hp) (vs:List V) (Q:VK) (E:XK),Room k (A.deeper (envOfC qual (za5 st) s.heap.objs.size f cdv))->sp vs H Q E ->
   ∃ t,PSs (cxOf CX0 P w K mg base N qual (za5 st) f cdv A outer s H E).nox (zl8 st) t/\t { nx:=fun _ H'=>Q .non H',rt:=Q } (zaj4 N vs) H):FnOk P w K mg base CX0 (k+1) f fd ps sp:=by
 obtain⟨oc,od,kV,doc,pm,an,cdv,ct,osl,rfl,lk,hcd⟩:=F.ex
 refine fn_of lk hcd S len fun A outer s H vs Q E hr hsp=>?_
 obtain⟨t,h,q⟩:=hbody cdv A outer s H vs Q E hr hsp
 exact⟨t,h.nox,q⟩
theorem Fun.binds{x:Str}{fd:FuncData}{ps:List Str}(F:Fun K x qual st f fd)(h:∀ (kV doc pm:Value) (an:Option Addr) (cdv ct:Value) (us:List Value),us.length=ps.length->bindArgs (zck8 x qual (zo2 st) (zl8 st) (za5 st) .none kV doc pm an cdv ct) ⟨us,[]⟩=pure (ps.zip us)):zz5 K fd ps []:=by
 obtain⟨oc,od,kV,doc,pm,an,cdv,ct,osl,rfl,lk,hcd⟩:=F.ex
 exact .all (h kV doc pm an cdv ct)
theorem zax7{x:Str}{oc:Value}{od an:Option Addr}{osl:Array (Option Value)}{kV doc pm cdv ct:Value}(l:K.lookup f=some ⟨oc,od,.func (zck8 x qual (zo2 st) (zl8 st) (za5 st) .none kV doc pm an cdv ct),osl⟩)(c:zcm8 K cdv qual=true)(k:zck5 K (.ref f)=true):Fun K x qual st f (zck8 x qual (zo2 st) (zl8 st) (za5 st) .none kV doc pm an cdv ct):=⟨⟨oc,od,kV,doc,pm,an,cdv,ct,osl,rfl,l,c⟩,k⟩
end
theorem iteF{A B:Prop}(h:B):if false=true then A else B:=by
 rw[if_neg zcf0]
 exact h
theorem iteT{A B:Prop}(h:A):if true=true then A else B:=by
 rw[if_pos rfl]
 exact h
def Same(H H':Hp):Prop:=∀ b o,H b=some o->H' b=some o
theorem Same.refl(H:Hp):Same H H:=fun _ _ h=>h
theorem Same.trans(a:Same H H1)(b:Same H1 H2):Same H H2:=fun c o h=>b c o (a c o h)
theorem Same.free(e:Same H H'){l:Addr}(h:H' l=Option.none):H l=Option.none:=by
 cases q:H l with
 | none=>rfl
 | some o=>
  rw[e l o q] at h
  cases h
theorem Same.seq{K:zce1}{a:Addr}(e:Same H H')(h:SqL K H a xs):SqL K H' a xs:=by
 rcases h with (h|⟨o,h⟩)|h
 ·exact .inl (.inl (e _ _ h))
 ·exact .inl (.inr ⟨o,e _ _ h⟩)
 ·exact .inr h
set_option maxHeartbeats 1000000
@[irreducible] def br(c:Bool)(A B:Prop):Prop:=if c=true then A else B
section
variable {A B p:Prop}{c:Bool}
theorem zv5:br c A B=(if c=true then A else B):=by unfold br;rfl
theorem br_T(h:A):br true A B:=by unfold br;exact iteT h
theorem br_F(h:B):br false A B:=by unfold br;exact iteF h
theorem br_any(h1:c=true->A)(h2:c=false->B):br c A B:=by
 cases c with
 | true=>exact br_T (h1 rfl)
 | false=>exact br_F (h2 rfl)
theorem ze8 [Decidable p](h1:p->A)(h2:¬ p->B):br (decide p) A B:=br_any (fun h=>h1 (of_decide_eq_true h)) fun h=>h2 (of_decide_eq_false h)
theorem zq2 [Decidable p](hp:p)(h:A):br (decide p) A B:=ze8 (fun _=>h) fun n=>absurd hp n
theorem zp9 [Decidable p](hp:¬ p)(h:B):br (decide p) A B:=ze8 (fun n=>absurd n hp) fun _=>h
theorem zd4(h:br c B A):br (!c) A B:=by
 cases c with
 | true=>unfold br at h ⊢;simpa using h
 | false=>unfold br at h ⊢;simpa using h
end
def Chg(a:Addr)(H H':Hp):Prop:=∀ b o,b≠a->H b=some o->H' b=some o
theorem Chg.upd{H:Hp}{a:Addr}{o:HO}:Chg a H (upd H a o):=fun b u hb e=>by rw[zc6 hb];exact e
theorem Same.upd{H:Hp}{a:Addr}{o:HO}(h:H a=none):Same H (L2.upd H a o):=fun b u e=>by rw[zc6 (za6 e h)];exact e
theorem Same.chg{H0:Hp}{a:Addr}(s:Same H0 H)(n:H0 a=none)(c:Chg a H H'):Same H0 H':=fun b o e=>c b o (za6 e n) (s b o e)
theorem Chg.refl(a:Addr)(H:Hp):Chg a H H:=fun _ _ _ e=>e
theorem Chg.trans{a:Addr}(x:Chg a H H1)(y:Chg a H1 H2):Chg a H H2:=fun b o h e=>y b o h (x b o h e)
theorem Chg.same{a:Addr}(x:Chg a H H1)(y:Same H1 H2):Chg a H H2:=fun b o h e=>y b o (x b o h e)
theorem Same.toChg{a:Addr}(x:Same H H1):Chg a H H1:=fun b o _ e=>x b o e
theorem Same.at{b:Addr}{o:HO}(s:Same H H')(e:H b=some o):H' b=some o:=s b o e
theorem Chg.at{a b:Addr}{o:HO}(s:Chg a H H')(e:H b=some o)(n:b≠a):H' b=some o:=s b o n e
def qV(i:Nat):TE:=fun σ H Q=>match σ[i]? with
 | some (some v)=>Q v H
 | _=>False
section
variable {X:Cx}
theorem pq(i:Nat){x:Str}(hN:X.N[i]?=some x:=by rfl)(hv:Vis X.env.scope x:=by first|exact Or.inl rfl|exact Or.inr (Or.inl rfl)|exact Or.inr (Or.inr rfl))(hd:(x==("__debug__":Str))=false:=by decide)(hcd:(x==("__classdict__":Str))=false:=by decide):PE X (.Name x pos) (qV i):=fun pins s σ H Q I h=>by
 refine pe_var hN hv hd hcd pins s σ H Q I ?_
 unfold qV at h
 split at h
 ·rename_i v e
  exact⟨v,e,h⟩
 ·exact h.elim
@[irreducible] def zbb6(i j:Int)(H:Hp)(Q:VK):Prop:=IntMulOk i j/\Q (.int (i*j)) H
@[irreducible] def rDivI(i j:Int)(H:Hp)(Q:VK):Prop:=(j≠0/\j.natAbs.log2<9000)/\Q (.int (i.fdiv j)) H
@[irreducible] def zbh9(i j:Int)(H:Hp)(Q:VK):Prop:=j≠0/\Q (.int (i.fmod j)) H
@[irreducible] def rPowI(i j:Int)(H:Hp)(Q:VK):Prop:=CPow i j/\Q (.int (i ^ j.toNat)) H
@[irreducible] def rCatL(a b:Addr)(H:Hp)(Q:VK):Prop:=∃ xs zs,H a=some (.lst xs)/\H b=some (.lst zs)/\xs.length+zs.length<=sizeLine /\
 ∀ p H',H p=none->Same H H'->H' p=some (.lst (xs++zs))->Q (.ref p) H'
@[irreducible] def rRepL(a:Addr)(k:Int)(H:Hp)(Q:VK):Prop:=∃ xs,H a=some (.lst xs)/\-(2 ^ 63)<=k/\k<2 ^ 63/\xs.length*k.toNat<=sizeLine /\
 ∀ p H',H p=none->Same H H'->H' p=some (.lst (List.replicate k.toNat xs).flatten)->Q (.ref p) H'
def rAddM:R2:=fun x y H Q=>match x,y with
 | .int i,.int j=>Q (.int (i+j)) H
 | .ref a,.ref b=>rCatL a b H Q
 | .str a,.str b=>a.length+b.length<=sizeLine/\Q (.str (a++b)) H
 | _,_=>False
def rSubM:R2:=fun x y H Q=>match x,y with
 | .int i,.int j=>Q (.int (i - j)) H
 | _,_=>False
def rMulM:R2:=fun x y H Q=>match x,y with
 | .int i,.int j=>zbb6 i j H Q
 | .ref a,.int k=>rRepL a k H Q
 | _,_=>False
def rDivM:R2:=fun x y H Q=>match x,y with
 | .int i,.int j=>rDivI i j H Q
 | _,_=>False
def rModM:R2:=fun x y H Q=>match x,y with
 | .int i,.int j=>zbh9 i j H Q
 | _,_=>False
def rPowM:R2:=fun x y H Q=>match x,y with
 | .int i,.int j=>rPowI i j H Q
 | _,_=>False
theorem oAdd:OpR X (binaryOp .Add) rAddM:=by
 intro pins s σ H x y v u Q I rx ry h
 unfold rAddM at h
 split at h
 ·exact op_add pins s σ H _ _ v u Q I rx ry ⟨_,_,rfl,rfl,h⟩
 ·unfold rCatL at h
  obtain⟨xs,zs,h1,h2,h3,h4⟩:=h
  exact op_cat pins s σ H _ _ v u Q I rx ry ⟨_,_,xs,zs,rfl,rfl,h1,h2,h3,fun p hp=>h4 p _ hp (Same.upd hp) zc3⟩
 ·exact zaz7 pins s σ H _ _ v u Q I rx ry ⟨_,_,rfl,rfl,h.1,h.2⟩
 ·exact h.elim
theorem oSub:OpR X (binaryOp .Sub) rSubM:=by
 intro pins s σ H x y v u Q I rx ry h
 unfold rSubM at h
 split at h
 ·exact op_sub pins s σ H _ _ v u Q I rx ry ⟨_,_,rfl,rfl,h⟩
 ·exact h.elim
theorem oMul:OpR X (binaryOp .Mult) rMulM:=by
 intro pins s σ H x y v u Q I rx ry h
 unfold rMulM at h
 split at h
 ·unfold zbb6 at h
  obtain⟨t,rfl⟩:=rx
  obtain⟨t',rfl⟩:=ry
  exact mul_int ⟨.int _,H,I.tok _,⟨_,rfl⟩,h.2⟩ h.1
 ·unfold rRepL at h
  obtain⟨xs,h1,h2,h3,h4,h5⟩:=h
  exact op_rep pins s σ H _ _ v u Q I rx ry ⟨_,_,xs,rfl,rfl,h1,h2,h3,h4,fun p hp=>h5 p _ hp (Same.upd hp) zc3⟩
 ·exact h.elim
theorem oDiv:OpR X (binaryOp .FloorDiv) rDivM:=by
 intro pins s σ H x y v u Q I rx ry h
 unfold rDivM at h
 split at h
 ·unfold rDivI at h
  obtain⟨⟨h1,h2⟩,h3⟩:=h
  obtain⟨t,rfl⟩:=rx
  obtain⟨t',rfl⟩:=ry
  exact floordiv_int h1 ⟨.int _,H,I.tok _,⟨_,rfl⟩,h3⟩ (.inl (PyProof.noPylong_of_log2 h2))
 ·exact h.elim
theorem oMod:OpR X (binaryOp .Mod) rModM:=by
 intro pins s σ H x y v u Q I rx ry h
 unfold rModM at h
 split at h
 ·unfold zbh9 at h
  exact zbt3 pins s σ H _ _ v u Q I rx ry ⟨_,_,rfl,rfl,h.1,h.2⟩
 ·exact h.elim
theorem oPow:OpR X (binaryOp .Pow) rPowM:=by
 intro pins s σ H x y v u Q I rx ry h
 unfold rPowM at h
 split at h
 ·unfold rPowI at h
  exact op_pow pins s σ H _ _ v u Q I rx ry ⟨_,_,rfl,rfl,h.1,h.2⟩
 ·exact h.elim
def rNegM:V->Hp->VK->Prop:=fun x H Q=>match x with
 | .int i=>Q (.int (-i)) H
 | _=>False
theorem uNeg:UnR X (unaryOp .USub) rNegM:=by
 intro pins s σ H x v Q I rx h
 unfold rNegM at h
 split at h
 ·exact un_neg pins s σ H _ v Q I rx ⟨_,rfl,h⟩
 ·exact h.elim
section
variable {i j:Int}{H:Hp}{Q:VK}
theorem zbq2(h:IntMulOk i j)(q:Q (.int (i*j)) H):zbb6 i j H Q:=by unfold zbb6;exact⟨h,q⟩
theorem log2_lt{n k:Nat}(h:n<2 ^ k)(hk:0<k):n.log2<k:=by
 by_cases h0:n=0
 ·subst h0;simpa using hk
 ·exact (Nat.log2_lt h0).mpr h
theorem zbs4{j:Int}(h1:-(10 ^ 240)<j)(h2:j<10 ^ 240):j.natAbs<2 ^ 2000:=by
 have e:(10:Int) ^ 240=((10 ^ 240:Nat):Int):=by norm_cast
 have e2:(10:Nat) ^ 240<2 ^ 2000:=by decide +kernel
 rw[e] at h1 h2
 generalize hN:(10:Nat) ^ 240=N at h1 h2 e2
 generalize hM:(2:Nat) ^ 2000=M at e2
 omega
theorem div_rd(h1:0<j)(h2:j<10 ^ 240)(q:Q (.int (i / j)) H):rDivI i j H Q:=by
 unfold rDivI
 refine⟨⟨by omega,?_⟩,?_⟩
 ·have h:=log2_lt (zbs4 (j:=j) (by have:(0:Int)<10 ^ 240:=(by decide +kernel);generalize (10:Int) ^ 240=N at this;omega) h2) (by decide)
  omega
 ·rw[Int.fdiv_eq_ediv_of_nonneg _ (by omega)];exact q
theorem mod_rd(h1:0<j)(q:Q (.int (i % j)) H):zbh9 i j H Q:=by
 unfold zbh9
 refine⟨by omega,?_⟩
 rw[Int.fmod_eq_emod_of_nonneg _ (by omega)];exact q
theorem pow_rd(h:CPow i j)(q:Q (.int (i ^ j.toNat)) H):rPowI i j H Q:=by unfold rPowI;exact⟨h,q⟩
theorem zg9{a b:Addr}{zs:List V}(h1:H a=some (.lst xs))(h2:H b=some (.lst zs))(h3:xs.length+zs.length<=sizeLine)(q:∀ p H',H p=none->Same H H'->H' p=some (.lst (xs++zs))->Q (.ref p) H'):rCatL a b H Q:=by unfold rCatL;exact⟨xs,zs,h1,h2,h3,q⟩
theorem zbf2{a:Addr}{k:Int}(h1:H a=some (.lst xs))(h2:-(2 ^ 63)<=k)(h3:k<2 ^ 63)(h4:xs.length*k.toNat<=sizeLine)(q:∀ p H',H p=none->Same H H'->H' p=some (.lst (List.replicate k.toNat xs).flatten)->Q (.ref p) H'):rRepL a k H Q:=by unfold rRepL;exact⟨xs,h1,h2,h3,h4,q⟩
end
def rLtM:R2:=fun x y H Q=>match x,y with
 | .int i,.int j=>Q (.bl (decide (i<j))) H
 | _,_=>False
def rLeM:R2:=fun x y H Q=>match x,y with
 | .int i,.int j=>Q (.bl (decide (i<=j))) H
 | _,_=>False
def rGtM:R2:=fun x y H Q=>match x,y with
 | .int i,.int j=>Q (.bl (decide (j<i))) H
 | _,_=>False
def rGeM:R2:=fun x y H Q=>match x,y with
 | .int i,.int j=>Q (.bl (decide (j<=i))) H
 | _,_=>False
theorem oLt:OpR X (compareOp .Lt) rLtM:=by
 intro pins s σ H x y v u Q I rx ry h
 unfold rLtM at h
 split at h
 ·exact op_lt pins s σ H _ _ v u Q I rx ry ⟨_,_,rfl,rfl,h⟩
 ·exact h.elim
theorem oLe:OpR X (compareOp .LtE) rLeM:=by
 intro pins s σ H x y v u Q I rx ry h
 unfold rLeM at h
 split at h
 ·exact op_le pins s σ H _ _ v u Q I rx ry ⟨_,_,rfl,rfl,h⟩
 ·exact h.elim
theorem oGt:OpR X (compareOp .Gt) rGtM:=by
 intro pins s σ H x y v u Q I rx ry h
 unfold rGtM at h
 split at h
 ·exact op_gt pins s σ H _ _ v u Q I rx ry ⟨_,_,rfl,rfl,h⟩
 ·exact h.elim
theorem oGe:OpR X (compareOp .GtE) rGeM:=by
 intro pins s σ H x y v u Q I rx ry h
 unfold rGeM at h
 split at h
 ·exact op_ge pins s σ H _ _ v u Q I rx ry ⟨_,_,rfl,rfl,h⟩
 ·exact h.elim
inductive EqR(K:zce1)(H:Hp):Nat->V->V->Bool->Prop where
 | flat {n:Nat}{x y:V}(fx:zh1 x=true) (fy:zh1 y=true):EqR K H n x y (eqV x y)
 | tup {n:Nat}{a b:Addr}{xs ys:List V}(e:Nat->Bool) (ha:SqT K H a xs) (hb:SqT K H b ys) (h:∀ (j:Nat) (x y:V),xs[j]?=some x->ys[j]?=some y->EqR K H n x y (e j)) :
   EqR K H (n+1) (.ref a) (.ref b) ((List.range (min xs.length ys.length)).all e&&xs.length==ys.length)
 | lst {n:Nat}{a b:Addr}{xs ys:List V}(e:Nat->Bool) (ha:SqL K H a xs) (hb:SqL K H b ys) (hl:xs.length=ys.length) (h:∀ (j:Nat) (x y:V),xs[j]?=some x->ys[j]?=some y->EqR K H n x y (e j)) :
   EqR K H (n+1) (.ref a) (.ref b) ((List.range xs.length).all e)
 | lstN {n:Nat}{a b:Addr}{xs ys:List V}(ha:SqL K H a xs) (hb:SqL K H b ys) (hl:xs.length≠ys.length):EqR K H (n+1) (.ref a) (.ref b) false
theorem zz9{x:V}(f:zh1 x=true):eqV x x=true:=by
 cases x<;>first|rfl|(simp[eqV];done)|exact absurd (show false=true from f) zcf0
section
variable {pins:List (Addr×Obj)}{σ:St}{H:Hp}{s:Shared}
theorem EqR.self(I:Inv X pins σ H s){n:Nat}{x y:V}{b:Bool}(h:EqR X.K H n x y b):x=y->b=true:=by
 induction h with
 | flat fx fy=>rintro rfl;exact zz9 fx
 | tup e ha hb h ih=>
  intro q
  cases q
  have q:=I.tuple_inj ha hb
  subst q
  rw[Nat.min_self,zci7]
  refine⟨zcj7.mpr fun j hj=>?_,by simp⟩
  have hj:=zcm1.mp hj
  exact ih j _ _ (zce0 hj) (zce0 hj) rfl
 | lst e ha hb hl h ih=>
  intro q
  cases q
  have q:=I.list_inj ha hb
  subst q
  refine zcj7.mpr fun j hj=>?_
  have hj:=zcm1.mp hj
  exact ih j _ _ (zce0 hj) (zce0 hj) rfl
 | lstN ha hb hl=>
  intro q
  cases q
  exact absurd (congrArg List.length (I.list_inj ha hb)) hl
theorem zo5(A:Around):A.in1.units=A.units+1:=rfl
mutual
theorem EqR.at(I:Inv X pins σ H s):∀ {n:Nat}{x y:V}{b:Bool},EqR X.K H n x y b->∀ {u v:Value}{A:Around},RelV x u->RelV y v->A.units+n<cLine->SeqAt.EqAt A s u v b
 | _,_,_,_,.flat fx fy,u,v,A,rx,ry,_=>zbe4 rx ry fx fy
 | _,.ref a,.ref b,_,h,u,v,A,rx,ry,hu=>by
  cases rx
  cases ry
  by_cases e:a=b
  ·subst e
   rw[h.self I rfl]
   exact SeqAt.EqAt.same _
  ·exact SeqAt.EqAt.of_refs e (EqR.rc I h hu)
theorem EqR.rc(I:Inv X pins σ H s):∀ {n:Nat}{a b:Addr}{c:Bool},EqR X.K H n (.ref a) (.ref b) c->∀ {A:Around},A.units+n<cLine->SeqAt.RcAt A s (.ref a) (.ref b) c
 | _,_,_,_,.flat fx _,_,_=>absurd (show false=true from fx) zcf0
 | _,a,b,_,.tup (xs:=xs) (ys:=ys) e ha hb h,A,hu=>by
  obtain⟨its,r1,t1,z1⟩:=I.tuple ha
  obtain⟨its2,r2,t2,z2⟩:=I.tuple hb
  have l1:its.toArray.size=xs.length:=by rw[zce4];exact r1.length.symm
  have l2:its2.toArray.size=ys.length:=by rw[zce4];exact r2.length.symm
  have q:=SeqAt.RcAt.tuples (A:=A) (e:=e) t1 t2 (by omega) fun j h1 h2=>by
   rw[l1] at h1
   rw[l2] at h2
   obtain⟨u1,e1,q1⟩:=r1.get (zce0 h1)
   obtain⟨u2,e2,q2⟩:=r2.get (zce0 h2)
   have i1:its.toArray[j]=u1:=by
    have:=(zce2.mp e1).2
    simpa using this
   have i2:its2.toArray[j]=u2:=by
    have:=(zce2.mp e2).2
    simpa using this
   rw[i1,i2]
   exact EqR.at I (h j _ _ (zce0 h1) (zce0 h2)) q1 q2 (by rw[zo5];omega)
  rw[l1,l2] at q
  exact q
 | _,a,b,_,.lst (xs:=xs) (ys:=ys) e ha hb hl h,A,hu=>by
  obtain⟨its,r1,t1,z1⟩:=I.list ha
  obtain⟨its2,r2,t2,z2⟩:=I.list hb
  have l1:its.toArray.size=xs.length:=by rw[zce4];exact r1.length.symm
  have l2:its2.toArray.size=ys.length:=by rw[zce4];exact r2.length.symm
  have q:=SeqAt.RcAt.lists (A:=A) (e:=e) t1.isList t2.isList (by rw[l1,l2];exact hl) (by omega) fun j h1 h2=>by
   rw[l1] at h1
   rw[l2] at h2
   obtain⟨u1,e1,q1⟩:=r1.get (zce0 h1)
   obtain⟨u2,e2,q2⟩:=r2.get (zce0 h2)
   have i1:its.toArray[j]=u1:=by
    have:=(zce2.mp e1).2
    simpa using this
   have i2:its2.toArray[j]=u2:=by
    have:=(zce2.mp e2).2
    simpa using this
   rw[i1,i2]
   exact EqR.at I (h j _ _ (zce0 h1) (zce0 h2)) q1 q2 (by rw[zo5];omega)
  rw[l1] at q
  exact q
 | _,a,b,_,.lstN (xs:=xs) (ys:=ys) ha hb hl,A,hu=>by
  obtain⟨its,r1,t1,z1⟩:=I.list ha
  obtain⟨its2,r2,t2,z2⟩:=I.list hb
  have l1:its.toArray.size=xs.length:=by rw[zce4];exact r1.length.symm
  have l2:its2.toArray.size=ys.length:=by rw[zce4];exact r2.length.symm
  exact SeqAt.RcAt.lists_lengths t1.isList t2.isList (by rw[l1,l2];simpa using hl) (by omega)
end
theorem EqR.rcNe(I:Inv X pins σ H s):∀ {n:Nat}{a b:Addr}{c:Bool},EqR X.K H n (.ref a) (.ref b) c->∀ {A:Around},A.units+n<cLine->SeqAt.RcNeAt A s (.ref a) (.ref b) (!c)
 | _,_,_,_,.flat fx _,_,_=>absurd (show false=true from fx) zcf0
 | _,a,b,_,.tup (xs:=xs) (ys:=ys) e ha hb h,A,hu=>by
  obtain⟨its,r1,t1,z1⟩:=I.tuple ha
  obtain⟨its2,r2,t2,z2⟩:=I.tuple hb
  have l1:its.toArray.size=xs.length:=by rw[zce4];exact r1.length.symm
  have l2:its2.toArray.size=ys.length:=by rw[zce4];exact r2.length.symm
  have q:=SeqAt.RcNeAt.tuples (A:=A) (e:=e) t1 t2 (by omega) fun j h1 h2=>by
   rw[l1] at h1
   rw[l2] at h2
   obtain⟨u1,e1,q1⟩:=r1.get (zce0 h1)
   obtain⟨u2,e2,q2⟩:=r2.get (zce0 h2)
   have i1:its.toArray[j]=u1:=by
    have:=(zce2.mp e1).2
    simpa using this
   have i2:its2.toArray[j]=u2:=by
    have:=(zce2.mp e2).2
    simpa using this
   rw[i1,i2]
   exact EqR.at I (h j _ _ (zce0 h1) (zce0 h2)) q1 q2 (by rw[zo5];omega)
  rw[l1,l2] at q
  exact q
 | _,a,b,_,.lst (xs:=xs) (ys:=ys) e ha hb hl h,A,hu=>by
  obtain⟨its,r1,t1,z1⟩:=I.list ha
  obtain⟨its2,r2,t2,z2⟩:=I.list hb
  have l1:its.toArray.size=xs.length:=by rw[zce4];exact r1.length.symm
  have l2:its2.toArray.size=ys.length:=by rw[zce4];exact r2.length.symm
  have q:=SeqAt.RcNeAt.lists (A:=A) (e:=e) t1.isList t2.isList (by rw[l1,l2];exact hl) (by omega) fun j h1 h2=>by
   rw[l1] at h1
   rw[l2] at h2
   obtain⟨u1,e1,q1⟩:=r1.get (zce0 h1)
   obtain⟨u2,e2,q2⟩:=r2.get (zce0 h2)
   have i1:its.toArray[j]=u1:=by
    have:=(zce2.mp e1).2
    simpa using this
   have i2:its2.toArray[j]=u2:=by
    have:=(zce2.mp e2).2
    simpa using this
   rw[i1,i2]
   exact EqR.at I (h j _ _ (zce0 h1) (zce0 h2)) q1 q2 (by rw[zo5];omega)
  rw[l1] at q
  exact q
 | _,a,b,_,.lstN (xs:=xs) (ys:=ys) ha hb hl,A,hu=>by
  obtain⟨its,r1,t1,z1⟩:=I.list ha
  obtain⟨its2,r2,t2,z2⟩:=I.list hb
  have l1:its.toArray.size=xs.length:=by rw[zce4];exact r1.length.symm
  have l2:its2.toArray.size=ys.length:=by rw[zce4];exact r2.length.symm
  exact SeqAt.RcNeAt.lists_lengths t1.isList t2.isList (by rw[l1,l2];simpa using hl) (by omega)
end
@[irreducible] def rEqO(K:zce1)(a b:Addr)(H:Hp)(Q:VK):Prop:=∃ n c,n<=40/\EqR K H n (.ref a) (.ref b) c/\Q (.bl c) H
def rEqM(K:zce1):R2:=fun x y H Q=>match x,y with
 | .int i,.int j=>Q (.bl (decide (i=j))) H
 | .bl i,.bl j=>Q (.bl (decide (i=j))) H
 | .str i,.str j=>Q (.bl (decide (i=j))) H
 | .ref a,.ref b=>rEqO K a b H Q
 | x,y=>scal x y=true/\Q (.bl (decide (x=y))) H
def rNeM(K:zce1):R2:=fun x y H Q=>rEqM K x y H fun v H'=>match v with
 | .bl b=>Q (.bl (!b)) H'
 | _=>False
theorem zl9{α β:Type}[DecidableEq α][DecidableEq β]{f:α->β}(hf:∀ a b,f a=f b->a=b)(a b:α):decide (f a=f b)=decide (a=b):=by
 by_cases h:a=b
 ·subst h;simp
 ·rw[decide_eq_false h,decide_eq_false fun e=>h (hf _ _ e)]
theorem oEq(hu:X.A.units+40<cLine):OpR X (compareOp .Eq) (rEqM X.K):=by
 intro pins s σ H x y v u Q I rx ry h
 unfold rEqM at h
 split at h
 ·rename_i i j
  exact zat9 pins s σ H _ _ v u Q I rx ry ⟨rfl,by rw[zl9 (f:=V.int) fun a b e=>V.int.inj e];exact h⟩
 ·exact zat9 pins s σ H _ _ v u Q I rx ry ⟨rfl,by rw[zl9 (f:=V.bl) fun a b e=>V.bl.inj e];exact h⟩
 ·exact zat9 pins s σ H _ _ v u Q I rx ry ⟨rfl,by rw[zl9 (f:=V.str) fun a b e=>V.str.inj e];exact h⟩
 ·unfold rEqO at h
  obtain⟨n,c,hn,h1,h2⟩:=h
  cases rx
  cases ry
  exact EqR.rc I h1 (A:=X.A) (by omega) _ _ _ _ ⟨.bl c,H,I,rfl,h2⟩
 ·exact zat9 pins s σ H _ _ v u Q I rx ry h
theorem oNe(hu:X.A.units+40<cLine):OpR X (compareOp .NotEq) (rNeM X.K):=by
 intro pins s σ H x y v u Q I rx ry h
 unfold rNeM rEqM at h
 split at h
 ·rename_i i j
  exact zau2 pins s σ H _ _ v u Q I rx ry ⟨rfl,by rw[zl9 (f:=V.int) fun a b e=>V.int.inj e];exact h⟩
 ·exact zau2 pins s σ H _ _ v u Q I rx ry ⟨rfl,by rw[zl9 (f:=V.bl) fun a b e=>V.bl.inj e];exact h⟩
 ·exact zau2 pins s σ H _ _ v u Q I rx ry ⟨rfl,by rw[zl9 (f:=V.str) fun a b e=>V.str.inj e];exact h⟩
 ·unfold rEqO at h
  obtain⟨n,c,hn,h1,h2⟩:=h
  cases rx
  cases ry
  exact EqR.rcNe I h1 (A:=X.A) (by omega) _ _ _ _ ⟨.bl (!c),H,I,rfl,h2⟩
 ·exact zau2 pins s σ H _ _ v u Q I rx ry ⟨h.1,h.2⟩
section
variable {K:zce1}{H:Hp}{Q:VK}{a b:Addr}{c:Bool}{n:Nat}
theorem zav2(h:EqR K H n (.ref a) (.ref b) c)(q:Q (.bl c) H)(hn:n<=40:=by decide):rEqO K a b H Q:=by unfold rEqO;exact⟨n,c,hn,h,q⟩
end
def qB(t:TE):TT:=fun σ H Q=>t σ H fun x H1=>match x with
 | .bl c=>Q c H1
 | .int i=>Q (!decide (i=0)) H1
 | _=>False
theorem ptV{t:TE}(h:PE X e t)(he:∀ whole,isTrue e X.env whole=(do let v ← whole;standAt e.pos;holding [v] (truthy v)):=by intro _;rfl):PT X e (qB t):=fun pins s σ H Q I hw=>by
 refine isTrue_plain (thn (h pins s σ H _ I hw) fun v s1 ⟨x,H1,I1,r1,q1⟩=>?_) (he _)
 dsimp only at q1
 split at q1
 ·exact zbe9 pins s1 σ H1 _ v Q I1 r1 ⟨_,rfl,q1⟩
 ·rename_i i
  refine zbe9 pins s1 σ H1 _ v Q I1 r1 ⟨_,rfl,?_⟩
  have e:(i != 0)=!decide (i=0):=by by_cases h:i=0<;>simp[h]
  rw[e];exact q1
 ·exact q1.elim
theorem ptC{a b:Expr}{ta tb:TE}{op:CmpOp}{r:R2}(ho:OpR X (compareOp op) r)(ha:PE X a ta)(hb:PE X b tb)(hm:behindInMarks op b=false:=by first|exact zbo8 _|with_unfolding_all rfl):PT X (.Compare a [op] [b] pos) (qB (tOp r ta tb)):=by
 intro pins s σ H Q I h
 refine wpAny_isTrue_Compare1 (thn (ha pins s σ H _ I h) fun v s1 ⟨x,H1,I1,r1,q1⟩=>thn (hb pins s1 σ H1 _ I1 q1) fun u s2 ⟨y,H2,I2,r2,q2⟩=>
  thn (ho pins s2 σ H2 x y v u _ I2 r1 r2 q2) fun c s3 ⟨z,H3,I3,r3,q3⟩=>?_) hm
 dsimp only at q3
 split at q3
 ·cases r3
  exact wpAny_truthy_bool ⟨H3,I3,q3⟩
 ·rename_i i
  refine zbe9 pins s3 σ H3 _ c Q I3 r3 ⟨_,rfl,?_⟩
  have e:(i != 0)=!decide (i=0):=by by_cases h:i=0<;>simp[h]
  rw[e];exact q3
 ·exact q3.elim
theorem peC{a b:Expr}{ta tb:TE}{op:CmpOp}{r:R2}(ho:OpR X (compareOp op) r)(ha:PE X a ta)(hb:PE X b tb)(hm:behindInMarks op b=false:=by first|exact zbo8 _|with_unfolding_all rfl):PE X (.Compare a [op] [b] pos) (tOp r ta tb):=
 zbs8 ho ha hb hm
variable {a b:Expr}{rest:List Expr}{tA tB':TT}{ta tb:TE}{pos:Pos}
def qAnd(t u:TT):TT:=fun σ H Q=>t σ H fun c H1=>br c (u σ H1 Q) (Q false H1)
def qOr(t u:TT):TT:=fun σ H Q=>t σ H fun c H1=>br c (Q true H1) (u σ H1 Q)
theorem zbb4(ha:PT X a tA)(hb:PW X (.BoolOp .And (b :: rest) pos) tB'):PW X (.BoolOp .And (a :: b :: rest) pos) (qAnd tA tB'):=fun wh pins s σ H Q I h=>
 pw_and ha hb wh pins s σ H Q I (by unfold qAnd at h;simp only[zv5] at h;exact h)
theorem pwOr(ha:PT X a tA)(hb:PW X (.BoolOp .Or (b :: rest) pos) tB'):PW X (.BoolOp .Or (a :: b :: rest) pos) (qOr tA tB'):=fun wh pins s σ H Q I h=>
 pw_or ha hb wh pins s σ H Q I (by unfold qOr at h;simp only[zv5] at h;exact h)
def qAndV(ta tb:TE):TE:=fun σ H Q=>ta σ H fun x H1=>match x with
 | .bl c=>br c (tb σ H1 Q) (Q (.bl false) H1)
 | _=>False
def qOrV(ta tb:TE):TE:=fun σ H Q=>ta σ H fun x H1=>match x with
 | .bl c=>br c (Q (.bl true) H1) (tb σ H1 Q)
 | _=>False
def qNotV(ta:TE):TE:=fun σ H Q=>ta σ H fun x H1=>match x with
 | .bl c=>Q (.bl (!c)) H1
 | _=>False
theorem zak5(ha:PE X a ta)(hb:PE X (.BoolOp .And (b :: rest) pos) tb):PE X (.BoolOp .And (a :: b :: rest) pos) (qAndV ta tb):=by
 intro pins s σ H Q I h
 refine BoolOp_and (thn (ha pins s σ H _ I h) fun v s1 ⟨x,H1,I1,r1,q1⟩=>?_)
 dsimp only at q1
 split at q1
 ·rename_i c
  cases r1
  refine wpAny_truthy_bool ?_
  rw[zv5] at q1
  cases c with
  | true=>exact hb pins s1 σ H1 Q I1 (by simpa using q1)
  | false=>exact⟨.bl false,H1,I1,rfl,by simpa using q1⟩
 ·exact q1.elim
theorem peOr(ha:PE X a ta)(hb:PE X (.BoolOp .Or (b :: rest) pos) tb):PE X (.BoolOp .Or (a :: b :: rest) pos) (qOrV ta tb):=by
 intro pins s σ H Q I h
 refine BoolOp_or (thn (ha pins s σ H _ I h) fun v s1 ⟨x,H1,I1,r1,q1⟩=>?_)
 dsimp only at q1
 split at q1
 ·rename_i c
  cases r1
  refine wpAny_truthy_bool ?_
  rw[zv5] at q1
  cases c with
  | false=>exact hb pins s1 σ H1 Q I1 (by simpa using q1)
  | true=>exact⟨.bl true,H1,I1,rfl,by simpa using q1⟩
 ·exact q1.elim
theorem peNot(ha:PE X a ta):PE X (.UnaryOp .Not a pos) (qNotV ta):=by
 intro pins s σ H Q I h
 refine UnaryOp_ (thn (ha pins s σ H _ I h) fun v s1 ⟨x,H1,I1,r1,q1⟩=>?_)
 dsimp only at q1
 split at q1
 ·rename_i c
  cases r1
  exact not_of (wpAny_truthy_bool ⟨.bl (!c),H1,I1,rfl,q1⟩)
 ·exact q1.elim
def qIf(t:TT)(ta tb:TE):TE:=fun σ H Q=>t σ H fun c H1=>br c (ta σ H1 Q) (tb σ H1 Q)
theorem peIf{c:Expr}(hc:PT X c tA)(ha:PE X a ta)(hb:PE X b tb):PE X (.IfExp c a b pos) (qIf tA ta tb):=fun pins s σ H Q I h=>
 zbl1 hc ha hb pins s σ H Q I (by unfold qIf at h;simp only[zv5] at h;exact h)
def qChain(r r':R2)(ta tb tc:TE):TE:=fun σ H Q=>ta σ H fun x H1=>tb σ H1 fun y H2=>r x y H2 fun z H3=>match z with
 | .bl k=>br k (tc σ H3 fun w' H4=>r' y w' H4 Q) (Q (.bl false) H3)
 | _=>False
theorem zbu5{c:Expr}{tc:TE}{op op':CmpOp}{r r':R2}(ho:OpR X (compareOp op) r)(ho':OpR X (compareOp op') r')(ha:PE X a ta)(hb:PE X b tb)(hc:PE X c tc)(hm:lastMarks [op,op'] [b,c]=false:=by with_unfolding_all rfl):PE X (.Compare a [op,op'] [b,c] pos) (qChain r r' ta tb tc):=by
 intro pins s σ H Q I h
 refine Compare_chain (thn (ha pins s σ H _ I h) fun v s1 ⟨x,H1,I1,r1,q1⟩=>chain_link (thn (hb pins s1 σ H1 _ I1 q1) fun u s2 ⟨y,H2,I2,r2,q2⟩=>
  thn (ho pins s2 σ H2 x y v u _ I2 r1 r2 q2) fun d s3 ⟨z,H3,I3,r3,q3⟩=>?_)) hm
 dsimp only at q3
 split at q3
 ·rename_i k
  cases r3
  refine wpAny_truthy_bool ?_
  rw[zv5] at q3
  cases k with
  | false=>exact ite_ff ⟨.bl false,H3,I3,rfl,by simpa using q3⟩
  | true=>exact ite_tt (chain_last (thn (hc pins s3 σ H3 _ I3 (by simpa using q3)) fun w' s4 ⟨z',H4,I4,r4,q4⟩=>ho' pins s4 σ H4 y z' u w' Q I4 r2 r4 q4))
 ·exact q3.elim
variable {st:Stmt}{t u:TS}{e:Expr}{te:TE}
def qIfS(c:TT)(t u:TS):TS:=fun D σ H=>c σ H fun b H1=>br b (t D σ H1) (u D σ H1)
theorem psIf{c:Expr}{a b:List Stmt}{tc:TT}(hc:PT X c tc)(ha:PSs X a t)(hb:PSs X b u):PS X (.If c a b pos) (qIfS tc t u):=fun pins s σ H D I h=>
 ps_if hc ha hb pins s σ H D I (by unfold qIfS at h;simp only[zv5] at h;exact h)
@[irreducible] def zae2(J:It)(g:TG)(tb:TS)(D:Ends)(σ:St)(H1:Hp):Prop:=∃ W:Nat->Nat->St->Hp->Prop,(∃ m,W 0 m σ H1)/\∀ i m σ H,W i m σ H ->
 (J.stop i H/\D.nx σ H)∨(J.go i H/\∃ N:St->Hp->Prop,(∀ σ' H',N σ' H'->∃ m',m'<m/\W (i+1) m' σ' H')/\∀ x H',J.yld i H x H'->g x σ H' fun σ2 H2=>tb { D with nx:=N,ct:=N,bk:=D.nx } σ2 H2)
def qFor(wi:TI)(g:TG)(tb:TS):TS:=fun D σ H=>wi σ H fun J H1=>zae2 J g tb D σ H1
theorem zt2{body:List Stmt}{wi:TI}{g:TG}{tb:TS}(hp:PassesOwn (model X.prog X.w) X.A X.env X.xe)(hc:X.calm=true)(hi:PI X tg iter wi)(hg:PG X tg g)(hb:PSs X body tb)(hs:∀ x,foldedSetIterable iter X.env x=pure x:=by intro _;rfl):PS X (.For tg iter body [] pos) (qFor wi g tb):=fun pins s σ H D I h=>
 ps_for hp hc hi hg hb hs pins s σ H D I (by unfold qFor at h;unfold zae2 at h;exact h)
@[irreducible] def zbc1(K:zce1)(a:Addr)(H:Hp)(R:It->Hp->Prop):Prop:=((∃ xs,SqL K H a xs)/\R (Itl K a) H)∨((∃ xs,SqT K H a xs)/\R (Itt K a) H)
def qiSeq(K:zce1)(tl:TE):TI:=fun σ H R=>tl σ H fun x H1=>match x with
 | .ref a=>zbc1 K a H1 R
 | _=>False
theorem piSeq{l:Expr}{tl:TE}(hl:PE X l tl):PI X tg l (qiSeq X.K tl):=by
 intro pins s σ H R I h
 refine thn (hl pins s σ H _ I h) fun v s1 ⟨x,H1,I1,r1,q1⟩=>?_
 dsimp only at q1
 split at q1
 ·rename_i a
  unfold zbc1 at q1
  cases r1
  have fp:∀ b∈[s1.heap.objs.size],FpOk X pins H1 b:=fun b hb=>by
   have e:b=s1.heap.objs.size:=by simpa using hb
   subst e
   exact I1.fpOk (zcg0 _) (I1.hok.fresh (zcg0 _))
  rcases q1 with ⟨⟨xs,hq⟩,q⟩|⟨⟨xs,hq⟩,q⟩
  ·obtain⟨its,rv,p,hz⟩:=I1.list hq
   refine wpAny_pyIter_list p.isList ?_
   exact⟨s1.heap.objs.size,[s1.heap.objs.size],_,_,H1,rfl,I1.kept (t':=s1.toks) fun b o e=>zcf3 _ e,zbk0 a _,⟨_,zch7 _ rfl,rfl,rfl⟩,fp,q⟩
  ·obtain⟨its,rv,p,hz⟩:=I1.tuple hq
   refine wpAny_pyIter_tuple (show s1.heap.IsTuple a its.toArray from p) ?_
   exact⟨s1.heap.objs.size,[s1.heap.objs.size],_,_,H1,rfl,I1.kept (t':=s1.toks) fun b o e=>zcf3 _ e,zbc2 a _,⟨_,zch7 _ rfl,rfl,rfl⟩,fp,q⟩
 ·exact q1.elim
@[irreducible] def zah4(i j:Int)(H:Hp)(R:It->Hp->Prop):Prop:=(-(2 ^ 62)<=i/\i<2 ^ 62/\-(2 ^ 62)<=j/\j<2 ^ 62)/\R (Itr i (j - i).toNat) H
def qiRng(ta:TA):TI:=fun σ H R=>ta σ H fun vs H1=>match vs with
 | [.int j]=>zah4 0 j H1 R
 | [.int i,.int j]=>zah4 i j H1 R
 | _=>False
theorem zah6{a:Expr}{ta:TA}{p:Pos}(hm:X.mg "range"=none)(ha:PA X [a] ta)(hg:Gl X "range":=by rfl)(hs:starEach [a] X.env=[(false,eval a X.env)]:=by rfl):PI X tg (.Call (.Name "range" p) [a] [] pos) (qiRng ta):=by
 intro pins s σ H R I h
 refine Call_ (zal7 I hg hm boot_range (PyProof.Rows.callWith_type1 (thn (ha pos pins s σ H _ I h) fun us s1 ⟨vs,H1,I1,r1,q1⟩=>?_) hs rfl))
 dsimp only at q1
 split at q1
 ·unfold zah4 at q1
  obtain⟨⟨a1,a2,a3,a4⟩,q⟩:=q1
  cases r1 with
  | cons r rr=>
   cases rr
   obtain⟨t,rfl⟩:=r
   exact call_range_1 (zaw1 I1 a1 a2 a3 a4 q)
 ·unfold zah4 at q1
  cases r1 with
  | cons r rr=>
   cases rr with
   | cons r' rr=>
    cases rr
    obtain⟨t,rfl⟩:=r
    obtain⟨t',rfl⟩:=r'
    obtain⟨⟨a1,a2,a3,a4⟩,q⟩:=q1
    exact call_range_2 (zaw1 I1 a1 a2 a3 a4 q)
 ·exact q1.elim
section
variable {K:zce1}{g:TG}{tb:TS}{D:Ends}{σ:St}{H:Hp}{R:It->Hp->Prop}
theorem zc7{a:Addr}(h:H a=some (.lst xs))(q:R (Itl K a) H):zbc1 K a H R:=by unfold zbc1;exact .inl ⟨⟨xs,SqL.of h⟩,q⟩
theorem zax6{a:Addr}(h:H a=some (.tup xs))(q:R (Itt K a) H):zbc1 K a H R:=by unfold zbc1;exact .inr ⟨⟨xs,SqT.of h⟩,q⟩
theorem zs1{i j:Int}(h1:-(2 ^ 62)<=i)(h2:i<2 ^ 62)(h3:-(2 ^ 62)<=j)(h4:j<2 ^ 62)(q:R (Itr i (j - i).toNat) H):zah4 i j H R:=by unfold zah4;exact⟨⟨h1,h2,h3,h4⟩,q⟩
theorem zj9{a:Addr}(Pv:Nat->St->Hp->Prop)(h0:Pv 0 σ H)(hl:∀ i σ H,i<=xs.length->Pv i σ H->SqL K H a xs)(hs:∀ i x σ H,xs[i]?=some x->Pv i σ H->g x σ H fun σ2 H2=>tb { D with nx:=Pv (i+1),ct:=Pv (i+1),bk:=D.nx } σ2 H2)(hd:∀ σ H,Pv xs.length σ H->D.nx σ H):zae2 (Itl K a) g tb D σ H:=by
 unfold zae2;exact zbk3 Pv h0 hl hs hd
theorem zbn4{a:Addr}(Pv:Nat->St->Hp->Prop)(h0:Pv 0 σ H)(hl:∀ i σ H,i<=xs.length->Pv i σ H->SqT K H a xs)(hs:∀ i x σ H,xs[i]?=some x->Pv i σ H->g x σ H fun σ2 H2=>tb { D with nx:=Pv (i+1),ct:=Pv (i+1),bk:=D.nx } σ2 H2)(hd:∀ σ H,Pv xs.length σ H->D.nx σ H):zae2 (Itt K a) g tb D σ H:=by
 unfold zae2;exact zbu2 Pv h0 hl hs hd
theorem zx4{lo:Int}{n:Nat}(Pv:Nat->St->Hp->Prop)(h0:Pv 0 σ H)(hs:∀ i σ H,i<n->Pv i σ H->g (.int (lo+i)) σ H fun σ2 H2=>tb { D with nx:=Pv (i+1),ct:=Pv (i+1),bk:=D.nx } σ2 H2)(hd:∀ σ H,Pv n σ H->D.nx σ H):zae2 (Itr lo n) g tb D σ H:=by
 unfold zae2;exact zbj8 Pv h0 hs hd
end
@[irreducible] def rNewT(xs:List V)(H:Hp)(Q:VK):Prop:=xs.length<=sizeLine/\∀ p H',H p=none->Same H H'->H' p=some (.tup xs)->Q (.ref p) H'
@[irreducible] def rNewL(xs:List V)(H:Hp)(Q:VK):Prop:=xs.length<=sizeLine/\∀ p H',H p=none->Same H H'->H' p=some (.lst xs)->Q (.ref p) H'
def qTup(t:TA):TE:=fun σ H Q=>t σ H fun xs H1=>rNewT xs H1 Q
def qLst(t:TA):TE:=fun σ H Q=>t σ H fun xs H1=>rNewL xs H1 Q
theorem zg1{x1}{t:TA}(h:PA X es t):PE X (.Tuple es x1 pos) (qTup t):=by
 intro pins s σ H Q I hq
 refine wpAny_Tuple_spliced (thn (h pos pins s σ H _ I hq) fun us s1 ⟨xs,H1,I1,r,z⟩=>?_)
 unfold rNewT at z
 obtain⟨z,q⟩:=z
 refine⟨by rw[← r.length];exact z,?_⟩
 have hf:H1 s1.heap.objs.size=none:=I1.hok.fresh (zcg0 _)
 refine⟨.ref s1.heap.objs.size,upd H1 s1.heap.objs.size (.tup xs),I1.laid (t':=s1.toks) (fun b u e=>zcf3 _ e) (zcg0 _) ?_,rfl,q _ _ hf (Same.upd hf) zc3⟩
 exact⟨z,us,r,⟨_,zch7 _ rfl,rfl,_,rfl⟩⟩
theorem ze5{t:TA}(h:PA X es t):PE X (.List es pos) (qLst t):=by
 intro pins s σ H Q I hq
 refine wpAny_List_spliced (thn (h pos pins s σ H _ I hq) fun us s1 ⟨xs,H1,I1,r,z⟩=>?_)
 unfold rNewL at z
 obtain⟨z,q⟩:=z
 refine⟨by rw[← r.length];exact z,?_⟩
 have hf:H1 s1.heap.objs.size=none:=I1.hok.fresh (zcg0 _)
 refine⟨.ref s1.heap.objs.size,upd H1 s1.heap.objs.size (.lst xs),I1.laid (t':=s1.toks) (fun b u e=>zcf3 _ e) (zcg0 _) ?_,rfl,q _ _ hf (Same.upd hf) zc3⟩
 exact⟨z,us,0,r,zch7 _ rfl⟩
@[irreducible] def rIxA(K:zce1)(p:Addr)(i:Int)(H:Hp)(Q:VK):Prop:=∃ xs v,(SqL K H p xs∨SqT K H p xs)/\atI xs i=some v/\Q v H
def rIxM(K:zce1):R2:=fun x y H Q=>match x,y with
 | .ref p,.int i=>rIxA K p i H Q
 | .str z,.int i=>∃ c,z.length<=sizeLine/\atI z.cps.toList i=some c/\Q (.str ⟨#[c]⟩) H
 | _,_=>False
theorem ixM:IxR X (rIxM X.K):=by
 intro value slice pins s σ H x y v u Q I rx ry h hs
 unfold rIxM at h
 split at h
 ·unfold rIxA at h
  obtain⟨xs,z,h1,h2,q⟩:=h
  rcases h1 with h1|h1
  ·exact zbs6 value slice pins s σ H _ _ v u Q I rx ry ⟨_,xs,_,z,rfl,rfl,h1,h2,q⟩ hs
  ·exact ix_tup value slice pins s σ H _ _ v u Q I rx ry ⟨_,xs,_,z,rfl,rfl,h1,h2,q⟩ hs
 ·obtain⟨c,h1,h2,q⟩:=h
  exact ix_str value slice pins s σ H _ _ v u Q I rx ry ⟨_,_,c,rfl,rfl,h1,h2,q⟩ hs
 ·exact h.elim
theorem peIx(ha:PE X a ta)(hb:PE X b tb)(hs:zar6 b:=by exact fun _ _=>rfl):PE X (.Subscript a b pos) (tOp (rIxM X.K) ta tb):=pe_ix ixM ha hb hs
@[irreducible] def rSetA(p:Addr)(k:Int)(v:V)(H:Hp)(Q:Hp->Prop):Prop:=∃ xs j,H p=some (.lst xs)/\ixN xs.length k=some j/\∀ H',Chg p H H'->H' p=some (.lst (xs.set j v))->Q H'
def rSetM:TSet:=fun o i v H Q=>match o,i with
 | .ref p,.int k=>rSetA p k v H Q
 | _,_=>False
theorem setM:PSet X rSetM:=by
 intro pins s σ H o i v ov iv u Q I ro ri rv h
 unfold rSetM at h
 split at h
 ·unfold rSetA at h
  obtain⟨xs,j,h1,h2,q⟩:=h
  exact zbk9 pins s σ H _ _ v ov iv u Q I ro ri rv ⟨_,xs,_,j,rfl,rfl,h1,h2,q _ Chg.upd zc3⟩
 ·exact h.elim
@[irreducible] def rSlA(K:zce1)(a:Addr)(lo hi:Option Int)(H:Hp)(Q:VK):Prop:=∃ xs,SqL K H a xs/\∀ p H',H p=none->Same H H'->H' p=some (.lst (cutV xs lo hi))->Q (.ref p) H'
def rSlM(K:zce1):V->Option Int->Option Int->Hp->VK->Prop:=fun x lo hi H Q=>match x with
 | .ref a=>rSlA K a lo hi H Q
 | _=>False
theorem slM:SlR X (rSlM X.K):=by
 intro pins s σ H x v vl vu lo hi sl Q I rx hs pl pu h
 unfold rSlM at h
 split at h
 ·unfold rSlA at h
  obtain⟨xs,h1,q⟩:=h
  exact zbd3 pins s σ H _ v vl vu lo hi sl Q I rx hs pl pu ⟨_,xs,rfl,h1,fun p hp=>q p _ hp (Same.upd hp) zc3⟩
 ·exact h.elim
def qPart(t:TE):TO:=fun σ H Q=>t σ H fun x H1=>match x with
 | .int i=>Q (some i) H1
 | _=>False
theorem zk2(h:PE X e te):PO X (some e) (qPart te):=by
 intro pins s σ H Q I hw
 rw[evalPart_some]
 refine thn (h pins s σ H _ I hw) fun u s1 ⟨x,H1,I1,r1,q1⟩=>?_
 dsimp only at q1
 split at q1
 ·rename_i i
  obtain⟨t,rfl⟩:=r1
  exact⟨some i,H1,I1,.int i t,q1⟩
 ·exact q1.elim
section
variable {K:zce1}{H:Hp}{Q:VK}{p:Addr}{xs:List V}{v:V}{i:Int}
theorem zb5(q:∀ p H',H p=none->Same H H'->H' p=some (.tup xs)->Q (.ref p) H')(h:xs.length<=sizeLine:=by first|assumption|(simp only[zcf1,zci4,Nat.zero_add,Nat.reduceAdd];decide)):rNewT xs H Q:=by unfold rNewT;exact⟨h,q⟩
theorem zb6(q:∀ p H',H p=none->Same H H'->H' p=some (.lst xs)->Q (.ref p) H')(h:xs.length<=sizeLine:=by first|assumption|(simp only[zcf1,zci4,Nat.zero_add,Nat.reduceAdd];decide)):rNewL xs H Q:=by unfold rNewL;exact⟨h,q⟩
theorem zb2(h:H p=some (.tup xs))(e:atI xs i=some v)(q:Q v H):rIxA K p i H Q:=by unfold rIxA;exact⟨xs,v,.inr (SqT.of h),e,q⟩
theorem zp5(h:H p=some (.lst xs))(e:atI xs i=some v)(q:Q v H):rIxA K p i H Q:=by unfold rIxA;exact⟨xs,v,.inl (SqL.of h),e,q⟩
theorem zbf6{R:Hp->Prop}{j:Nat}(h:H p=some (.lst xs))(e:ixN xs.length i=some j)(q:∀ H',Chg p H H'->H' p=some (.lst (xs.set j v))->R H'):rSetA p i v H R:=by unfold rSetA;exact⟨xs,j,h,e,q⟩
theorem zaf1{lo hi:Option Int}(h:SqL K H p xs)(q:∀ p H',H p=none->Same H H'->H' p=some (.lst (cutV xs lo hi))->Q (.ref p) H'):rSlA K p lo hi H Q:=by unfold rSlA;exact⟨xs,h,q⟩
end
def qgNil:TGs:=fun vs σ H Q=>match vs with
 | []=>Q σ H
 | _=>False
def zbp9(t:TG)(u:TGs):TGs:=fun vs σ H Q=>match vs with
 | v :: r=>t v σ H fun σ' H'=>u r σ' H' Q
 | _=>False
theorem zac3:PGs X [] qgNil:=fun pins s σ H vs us Q I r h=>by
 unfold qgNil at h
 split at h
 ·exact zbr0 pins s σ H _ us Q I r ⟨rfl,h⟩
 ·exact h.elim
theorem zg8{t:TG}{u:TGs}(h1:PG X e t)(h2:PGs X es u)(hs:(assignEach (e :: es) X.env).map (·.2)=assign e X.env :: (assignEach es X.env).map (·.2):=by rfl):PGs X (e :: es) (zbp9 t u):=fun pins s σ H vs us Q I r h=>by
 unfold zbp9 at h
 split at h
 ·exact zbn1 h1 h2 hs pins s σ H _ us Q I r ⟨_,_,rfl,h⟩
 ·exact h.elim
end
section
variable {X:Cx}
def rAbsM:List V->Hp->VK->Prop:=fun xs H Q=>match xs with
 | [.int i]=>Q (.int (i.natAbs:Int)) H
 | _=>False
def rIntM:List V->Hp->VK->Prop:=fun xs H Q=>match xs with
 | [.int i]=>Q (.int i) H
 | [.bl k]=>Q (.int (if k=true then 1 else 0)) H
 | _=>False
theorem cInt:zk0 X (.type "int") rIntM:=fun pins s σ H xs us Q I r h=>by
 unfold rIntM at h
 split at h
 ·exact zal6 pins s σ H _ us Q I r (.inl ⟨_,rfl,h⟩)
 ·exact zal6 pins s σ H _ us Q I r (.inr ⟨_,rfl,h⟩)
 ·exact h.elim
@[irreducible] def zaz2(K:zce1)(p:Addr)(H:Hp)(Q:VK):Prop:=∃ ys,(SqL K H p ys∨SqT K H p ys)/\Q (.int ys.length) H
def rLenM(K:zce1):List V->Hp->VK->Prop:=fun xs H Q=>match xs with
 | [.ref p]=>zaz2 K p H Q
 | [.str z]=>z.length<=sizeLine/\Q (.int z.length) H
 | _=>False
theorem cLen:zk0 X (.builtin "len") (rLenM X.K):=fun pins s σ H xs us Q I r h=>by
 unfold rLenM at h
 split at h
 ·unfold zaz2 at h
  obtain⟨ys,h1,h2⟩:=h
  exact zao2 pins s σ H _ us Q I r ⟨_,ys,rfl,h1,h2⟩
 ·exact zak9 pins s σ H _ us Q I r ⟨_,rfl,h.1,h.2⟩
 ·exact h.elim
@[irreducible] def zab5(K:zce1)(x c:V)(H:Hp)(Q:VK):Prop:=∃ t b,TyOf K H x t/\(∀ cv,RelV c cv->zce8 K t cv=some b)/\Q (.bl b) H
def rIsiM(K:zce1):List V->Hp->VK->Prop:=fun xs H Q=>match xs with
 | [x,c]=>zab5 K x c H Q
 | _=>False
theorem cIsi:zk0 X (.builtin "isinstance") (rIsiM X.K):=fun pins s σ H xs us Q I r h=>by
 unfold rIsiM at h
 split at h
 ·unfold zab5 at h
  obtain⟨t,b,h1,h2,h3⟩:=h
  obtain⟨u,w,rfl,r1,r2⟩:=vals2 r
  exact zbf8 I r1 h1 (h2 _ r2) fun tk=>⟨.bl b,H,I.tok _,rfl,h3⟩
 ·exact h.elim
section
variable {K:zce1}{H:Hp}{Q:VK}{p:Addr}{xs:List V}
theorem zm9(h:H p=some (.lst xs))(q:Q (.int xs.length) H):zaz2 K p H Q:=by unfold zaz2;exact⟨xs,.inl (SqL.of h),q⟩
theorem zo6(h:H p=some (.tup xs))(q:Q (.int xs.length) H):zaz2 K p H Q:=by unfold zaz2;exact⟨xs,.inr (SqT.of h),q⟩
theorem zau0{i:Int}{n:String}{b:Bool}(q:Q (.bl b) H)(e:zce8 K (.type "int") (.type n)=some b:=by rfl):zab5 K (.int i) (.ty n) H Q:=by
 unfold zab5;exact⟨_,b,.int i,fun cv r=>by cases r;exact e,q⟩
theorem zbv2{i:Bool}{n:String}{b:Bool}(q:Q (.bl b) H)(e:zce8 K (.type "bool") (.type n)=some b:=by rfl):zab5 K (.bl i) (.ty n) H Q:=by
 unfold zab5;exact⟨_,b,.bl i,fun cv r=>by cases r;exact e,q⟩
theorem zx8{n:String}{b:Bool}(h:H p=some (.tup xs))(q:Q (.bl b) H)(e:zce8 K (.type "tuple") (.type n)=some b:=by rfl):zab5 K (.ref p) (.ty n) H Q:=by
 unfold zab5;exact⟨_,b,.tup h,fun cv r=>by cases r;exact e,q⟩
theorem zad2{n:String}{b:Bool}(h:H p=some (.lst xs))(q:Q (.bl b) H)(e:zce8 K (.type "list") (.type n)=some b:=by rfl):zab5 K (.ref p) (.ty n) H Q:=by
 unfold zab5;exact⟨_,b,.lst h,fun cv r=>by cases r;exact e,q⟩
end
theorem zn3:bootBuiltins "len"=some (.builtin "len"):=by decide +kernel
theorem zau8:bootBuiltins "all"=some (.builtin "all"):=by decide +kernel
theorem za7:bootBuiltins "isinstance"=some (.builtin "isinstance"):=by decide +kernel
theorem zan7:bootBuiltins "int"=some (.type "int"):=by decide +kernel
theorem zbi8:bootBuiltins "bool"=some (.type "bool"):=by decide +kernel
theorem zv3:bootBuiltins "str"=some (.type "str"):=by decide +kernel
theorem zk6:bootBuiltins "list"=some (.type "list"):=by decide +kernel
theorem zr6:bootBuiltins "tuple"=some (.type "tuple"):=by decide +kernel
theorem pTy{x:Str}{n:String}(hm:X.mg x=none)(hv:bootBuiltins x=some (.type n))(hg:Gl X x:=by rfl)(hn:x≠"__name__":=by decide)(hd:(x==("__debug__":Str))=false:=by decide):PE X (.Name x pos) (tC (.ty n)):=
 zbv4 hg hm hv rfl hn hd
theorem pB{x:Str}{p:Pos}{t:TA}{id:String}{r:List V->Hp->VK->Prop}(hc:zk0 X (.builtin id) r)(hm:X.mg x=none)(hv:bootBuiltins x=some (.builtin id))(ha:PA X (e :: es) t)(hg:Gl X x:=by rfl)(hn:x≠"__name__":=by decide)(hdb:(x==("__debug__":Str))=false:=by decide)(he:starEach (e :: es) X.env=(false,eval e X.env) :: starEach es X.env:=by rfl)(hpl:(backTo pos (starEach es X.env)).any (·.1)=false:=by rfl):PE X (.Call (.Name x p) (e :: es) [] pos) (tCB r t):=zbk6 hc hg hm hv ha hn hdb he hpl
theorem pT{x:Str}{p:Pos}{t:TA}{id:String}{r:List V->Hp->VK->Prop}(hc:zk0 X (.type id) r)(hm:X.mg x=none)(hv:bootBuiltins x=some (.type id))(ha:PA X (e :: es) t)(hg:Gl X x:=by rfl)(hn:x≠"__name__":=by decide)(hdb:(x==("__debug__":Str))=false:=by decide)(he:starEach (e :: es) X.env=(false,eval e X.env) :: starEach es X.env:=by rfl)(hpl:(backTo pos (starEach es X.env)).any (·.1)=false:=by rfl):PE X (.Call (.Name x p) (e :: es) [] pos) (tCB r t):=zbf5 hc hg hm hv ha hn hdb he hpl
structure Def(P:Program)(w:World)(K:zce1)(mg:Str->Option Value)(base:Heap)(CX:CXT)(k:Nat)(x:Str)(ps:List Str)(sp:Sp):Prop where
 ex:∃ (f:Addr) (fd:FuncData),FnOk P w K mg base CX k f fd ps sp/\mg x=some (.ref f)/\zck5 K (.ref f)=true/\zz5 K fd ps []
def qCall(sp:Sp)(E:XK)(t:TA):TE:=fun σ H Q=>t σ H fun vs H1=>sp vs H1 Q E
theorem pD{CX:CXT}{k j:Nat}{x:Str}{ps:List Str}{E:XK}{p:Pos}{t:TA}(F:Def X.prog X.w X.K X.mg X.base CX k x ps sp)(hr:Room j X.A)(hx:zaa3 CX X E)(ha:PA X (e :: es) t)(hk:k<=j:=by decide)(hg:Gl X x:=by rfl)(hdb:(x==("__debug__":Str))=false:=by decide)(he:starEach (e :: es) X.env=(false,eval e X.env) :: starEach es X.env:=by rfl)(hpl:(backTo pos (starEach es X.env)).any (·.1)=false:=by rfl) :
  PE X (.Call (.Name x p) (e :: es) [] pos) (qCall sp E t):=by
 obtain⟨f,fd,F1,F2,F3,F4⟩:=F.ex
 intro pins s σ H Q I h
 refine zbv9 F1 (hr.mono hk) hg F2 F3 F4 .nil hx ha hdb he hpl pins s σ H Q I ?_
 unfold tCall
 simp only[List.append_nil]
 exact h
theorem psS{x:Str}{pos':Pos}(hN:X.N.Nodup)(he:PE X e te)(hi:X.N[i]?=some x:=by rfl)(hx:Loc X.env.scope x:=by first|exact Or.inl rfl|exact Or.inr rfl)(hs:swapsWith e (some (.Name x pos')) pos.line X.env=pure false:=by rfl)(hf:X.fn x=true∨X.env.scope.names.lookup x=some .local:=by first|exact .inl rfl|exact .inr rfl|assumption) :
  PS X (.Assign [.Name x pos'] e pos) (tAsg te (zba8 i)):=zbi3 hN hi hx he hs hf
section
variable {K:zce1}{H:Hp}{Q:VK}{p:Addr}{xs:List V}{i j:Int}
theorem zab4(h1:-18446744073709551616<i)(h2:i<18446744073709551616)(q:Q (.int (i*j)) H):zbb6 i j H Q:=zbq2 (.of_left (intBits_le_64 (by simpa using h1) (by simpa using h2))) q
theorem zbq4(h1:-18446744073709551616<j)(h2:j<18446744073709551616)(q:Q (.int (i*j)) H):zbb6 i j H Q:=zbq2 (.of_right (intBits_le_64 (by simpa using h1) (by simpa using h2))) q
theorem zbu3(h:0<j)(q:∀ r:Int,0<=r->r<j->Q (.int r) H):zbh9 i j H Q:=mod_rd h (q _ (Int.emod_nonneg _ (by omega)) (Int.emod_lt_of_pos _ h))
theorem zl2(h:H p=some (.lst xs))(h0:0<=i)(h1:i<xs.length)(q:∀ v,v∈xs->Q v H):rIxA K p i H Q:=by
 have hl:i.toNat<xs.length:=by omega
 refine zp5 h (v:=xs[i.toNat]) ?_ (q _ (List.getElem_mem hl))
 have e:((i.toNat:Nat):Int)=i:=by omega
 have z:=zn0 (zce0 hl)
 rw[e] at z
 exact z
theorem hu40{A:Around}{k:Nat}(hr:Room k A):A.units+40<cLine:=by have:=hr.units;omega
end
@[irreducible] def qCut(t:TS):TS:=fun D σ H=>∃ R:St->Hp->Prop,t { D with nx:=R } σ H/\∀ σ' H',R σ' H'->D.nx σ' H'
theorem zbc5{t:TS}(h:PS X st t):PS X st (qCut t):=fun pins s σ H D I hq=>by
 unfold qCut at hq
 obtain⟨R,h1,h2⟩:=hq
 refine thn (h pins s σ H _ I h1) fun f s' q=>?_
 cases f with
 | next=>obtain⟨σ',H',I',z⟩:=q;exact⟨σ',H',I',h2 _ _ z⟩
 | brk=>exact q
 | cont=>exact q
 | ret u=>exact q
theorem zav0{t:TS}{D:Ends}{σ:St}(R:St->Hp->Prop)(h1:t { D with nx:=R } σ H)(h2:∀ σ' H',R σ' H'->D.nx σ' H'):qCut t D σ H:=by unfold qCut;exact⟨R,h1,h2⟩
theorem cut_id{t:TS}{D:Ends}{σ:St}(h1:t D σ H):qCut t D σ H:=by unfold qCut;exact⟨D.nx,h1,fun _ _ h=>h⟩
end
set_option maxHeartbeats 2000000
theorem zw1{env:Env}:∀ (names:List (Str×NameKind)) (acc:List (Str×Addr)),(∀ x∈names,x.2=.free->∃ c,env.cells.lookup x.1=some c) ->
  ∃ acc',(forIn (m:=Sem) names acc (fun (x:Str×NameKind) (r:List (Str×Addr))=>if (x.2==.free)=true then (do let c ← cellOf env x.1;pure (ForInStep.yield ((x.1,c) :: r))) else pure (ForInStep.yield r)))=pure acc' /\
   (∀ x c,acc'.lookup x=some c->acc.lookup x=some c∨env.cells.lookup x=some c)/\(∀ x c,acc.lookup x=some c->∃ c',acc'.lookup x=some c')/\∀ x∈names,x.2=.free->∃ c,acc'.lookup x.1=some c
 | [],acc,_=>⟨acc,rfl,fun _ _ h=>.inl h,fun _ c h=>⟨c,h⟩,fun _ h=>by cases h⟩
 | (n,k) :: r,acc,h=>by
  by_cases hk:k=.free
  ·subst hk
   obtain⟨c,hc⟩:=h (n,.free) zcg1 rfl
   obtain⟨acc',e,h1,h2,h3⟩:=zw1 r ((n,c) :: acc) fun x hx=>h x (zcf5 _ hx)
   have hco:cellOf env n=pure c:=by unfold cellOf;rw[hc]
   refine⟨acc',?_,fun x d hd=>?_,fun x d hd=>?_,fun x hx hf=>?_⟩
   ·rw[List.forIn_cons]
    simp only[hco]
    exact e
   ·rcases h1 x d hd with q|q
    ·rw[zci3] at q
     split at q
     ·rename_i hx
      have hx:x=n:=by simpa using hx
      subst hx
      cases q
      exact .inr hc
     ·exact .inl q
    ·exact .inr q
   ·by_cases hx:x=n
    ·subst hx
     exact h2 x c (by simp[zci3])
    ·refine h2 x d ?_
     rw[zci3]
     have:(x==n)=false:=by simpa using hx
     rw[this];exact hd
   ·rcases zcf2.mp hx with rfl|hx
    ·exact h2 n c (by simp[zci3])
    ·exact h3 x hx hf
  ·obtain⟨acc',e,h1,h2,h3⟩:=zw1 r acc fun x hx=>h x (zcf5 _ hx)
   refine⟨acc',?_,h1,h2,fun x hx hf=>?_⟩
   ·rw[List.forIn_cons]
    have:(k==NameKind.free)=false:=by simpa using hk
    simp only[this]
    exact e
   ·rcases zcf2.mp hx with rfl|hx
    ·exact absurd hf hk
    ·exact h3 x hx hf
theorem zah1{env:Env}(h:∀ x∈scope.names,x.2=.free->∃ c,env.cells.lookup x.1=some c) :
  ∃ cl,closureFor scope env=pure cl/\(∀ x c,cl.lookup x=some c->env.cells.lookup x=some c)/\∀ x∈scope.names,x.2=.free->∃ c,cl.lookup x.1=some c:=by
 obtain⟨cl,e,h1,_,h3⟩:=zw1 (env:=env) scope.names [] h
 refine⟨cl,?_,fun x c hc=>(h1 x c hc).elim (fun q=>by cases q) id,h3⟩
 unfold closureFor
 show (forIn (m:=Sem) scope.names ([]:List (Str×Addr)) _ >>= fun r=>pure r)=_
 rw[e]
 rfl
theorem zy7{env:Env}:∀ {names:List (Str×NameKind)}{x:Str},names.lookup x=some .free ->
  (names.map fun (n,k)=>if (k==NameKind.free&&env.scope.kind==.function&&env.kindOf n==some .cell) then (n,NameKind.cell) else (n,k)).lookup x=some .cell ∨
  (names.map fun (n,k)=>if (k==NameKind.free&&env.scope.kind==.function&&env.kindOf n==some .cell) then (n,NameKind.cell) else (n,k)).lookup x=some .free
 | [],_,h=>by simp at h
 | (n,k) :: r,x,h=>by
  have ih:=@zy7 env r x
  show List.lookup x ((if (k==NameKind.free&&env.scope.kind==.function&&env.kindOf n==some .cell)=true then (n,NameKind.cell) else (n,k)) :: _)=_∨List.lookup x ((if (k==NameKind.free&&env.scope.kind==.function&&env.kindOf n==some .cell)=true then (n,NameKind.cell) else (n,k)) :: _)=_
  cases hx:x==n with
  | true=>
   simp only[zci3,hx] at h
   cases h
   by_cases hc:(NameKind.free==NameKind.free&&env.scope.kind==.function&&env.kindOf n==some .cell)=true
   ·left;rw[if_pos hc];simp only[zci3,hx]
   ·right;rw[if_neg hc];simp only[zci3,hx]
  | false=>
   simp only[zci3,hx] at h
   by_cases hc:(k==NameKind.free&&env.scope.kind==.function&&env.kindOf n==some .cell)=true
   ·rw[if_pos hc];simp only[zci3,hx];exact ih h
   ·rw[if_neg hc];simp only[zci3,hx];exact ih h
theorem zq4{env:Env}:∀ {names:List (Str×NameKind)}{x:Str}{k':NameKind},(∀ y∈names,y.2≠.cell)->(k'=.cell∨k'=.free) ->
  (names.map fun (n,k)=>if (k==NameKind.free&&env.scope.kind==.function&&env.kindOf n==some .cell) then (n,NameKind.cell) else (n,k)).lookup x=some k'->∃ y∈names,y.1=x/\y.2=.free
 | [],_,_,_,_,h=>by simp at h
 | (n,k) :: r,x,k',hn,hk,h=>by
  have ih:=@zq4 env r x k' (fun y hy=>hn y (zcf5 _ hy)) hk
  replace h:List.lookup x ((if (k==NameKind.free&&env.scope.kind==.function&&env.kindOf n==some .cell)=true then (n,NameKind.cell) else (n,k)) :: List.map (fun (n,k)=>if (k==NameKind.free&&env.scope.kind==.function&&env.kindOf n==some .cell) then (n,NameKind.cell) else (n,k)) r)=some k':=h
  cases hx:x==n with
  | true=>
   have hx':x=n:=by simpa using hx
   by_cases hf:k=.free
   ·exact⟨(n,k),zcg1,hx'.symm,hf⟩
   ·have hc:¬ (k==NameKind.free&&env.scope.kind==.function&&env.kindOf n==some .cell)=true:=by
     have:(k==NameKind.free)=false:=by simpa using hf
     rw[this];simp
    rw[if_neg hc] at h
    simp only[zci3,hx] at h
    have:k=k':=Option.some.inj h
    subst this
    rcases hk with hk|hk
    ·exact absurd hk (hn (n,k) zcg1)
    ·exact absurd hk hf
  | false=>
   have h':List.lookup x (List.map (fun (n,k)=>if (k==NameKind.free&&env.scope.kind==.function&&env.kindOf n==some .cell) then (n,NameKind.cell) else (n,k)) r)=some k':=by
    by_cases hc:(k==NameKind.free&&env.scope.kind==.function&&env.kindOf n==some .cell)=true
    ·rw[if_pos hc] at h;simp only[zci3,hx] at h;exact h
    ·rw[if_neg hc] at h;simp only[zci3,hx] at h;exact h
   obtain⟨y,hy,h1,h2⟩:=ih h'
   exact⟨y,zcf5 _ hy,h1,h2⟩
def blk(X:Cx)(N:List Str)(scope:Scope)(cl:List (Str×Addr))(C:Addr)(s3:Shared)(H3:Hp)(fp:List Addr):Cx:=
 { X with N:=N,s₀:=s3,H₀:=H3,env:=compEnvC scope cl C X.env,outer:=X.stack,ex:=fp,fn:=fun _=>false,pn:=[],xe:=fun _ _=>False }
def PTs(X:Cx)(ifs:List Expr)(t:TT):Prop:=
 ∀ (pins:List (Addr×Obj)) (s:Shared) (σ:St) (H:Hp) (Q:Bool->Hp->Prop),Inv X pins σ H s->t σ H Q ->
  wpAny (model X.prog X.w) X.A (forIn ifs true fun c r=>if r=true then do let ok ← isTrue c X.env (eval c X.env);pure (ForInStep.yield ok) else pure (ForInStep.yield r)) (TP X pins σ Q) X.xe s
theorem zf7{X:Cx}:PTs X [] (fun _ H Q=>Q true H):=fun _ _ _ H _ I h=>wpAny_tests_nil ⟨H,I,h⟩
theorem zbu6{X:Cx}{c:Expr}{t:TT}(h:PT X c t):PTs X [c] t:=fun pins s σ H Q I hq=>wpAny_tests_one (h pins s σ H Q I hq)
@[irreducible] def cPut(W:Nat->Nat->List V->St->Hp->Prop)(acc:Addr)(ys:List V)(i m:Nat)(σ2:St)(v:V)(H5:Hp):Prop:=
 H5 acc=some (.lst ys)/\∀ H6,Chg acc H5 H6->H6 acc=some (.lst (ys++[v]))->∃ m',m'<m/\W (i+1) m' (ys++[v]) σ2 H6
@[irreducible] def zam5(W:Nat->Nat->List V->St->Hp->Prop)(ys:List V)(i m:Nat)(σ2:St)(H4:Hp):Prop:=∃ m',m'<m/\W (i+1) m' ys σ2 H4
@[irreducible] def zab8(J:It)(g:TG)(tt:TT)(te:TE)(σ0:St)(H1:Hp)(Q:VK):Prop:=
 ∀ acc H2,H1 acc=none->Same H1 H2->H2 acc=some (.lst [])->∃ W:Nat->Nat->List V->St->Hp->Prop,(∃ m,W 0 m [] σ0 H2)/\∀ i m ys σ H,W i m ys σ H->H acc=some (.lst ys)/\ys.length<sizeLine /\
  ((J.stop i H/\Q (.ref acc) H)∨(J.go i H/\∀ x H',J.yld i H x H'->g x σ H' fun σ2 H3=>tt σ2 H3 fun b H4=>
   br b (te σ2 H4 fun v H5=>cPut W acc ys i m σ2 v H5) (zam5 W ys i m σ2 H4)))
section
variable {X:Cx}{pins:List (Addr×Obj)}{σ:St}{H:Hp}{s2:Shared}
theorem zbt5{N:List Str}{cl:List (Str×Addr)}{s3 s4:Shared}{H3:Hp}{fp:List Addr}{σc:St}(I:Inv X pins σ H3 s3)(hcl1:∀ x c,cl.lookup x=some c->X.env.cells.lookup x=some c)(hcl2:∀ x∈scope.names,x.2=.free->∃ c,cl.lookup x.1=some c)(hkind:scope.kind=.function)(hcell:∀ y∈scope.names,y.2≠.cell)(hcap:∀ (i:Nat) (x:Str) (v:V),N[i]?=some x->σc[i]?=some (some v)->∃ j:Nat,X.N[j]?=some x/\σ[j]?=some (some v)/\scope.names.lookup x=some .free/\(X.env.kindOf x=some .cell∨X.env.kindOf x=some .free))(hlen:σc.length=N.length)(hC:s3.heap.objs.size=C)(hfp:∀ b∈fp,FpOk X pins H3 b)(hfpl:∀ b∈fp,b<C)(hex:∀ b o,X.base.get? b=some o->b ∉ fp)(hns:∃ m,s4.heap.Ns C m)(hk:∀ b o,s3.heap.get? b=some o->s4.heap.get? b=some o)(h4:s4.os=s3.os)(h5:s4.gens=s3.gens) :
  Inv (blk X N scope cl C s3 H3 fp) [] σc H3 s4:=by
 subst hC
 have look:∀ x,(blk X N scope cl s3.heap.objs.size s3 H3 fp).env.kindOf x=(relabel scope X.env).names.lookup x:=fun x=>rfl
 have cne:∀ x c,cl.lookup x=some c->c<s3.heap.objs.size:=fun x c h=>by
  obtain⟨v,o,ho,_⟩:=I.cell x c (hcl1 x c h)
  exact zcf6 ho
 refine⟨⟨I.ok.mod,?_,I.ok.glob,I.ok.blt,zcg0 _,fun x y c h1 h2=>I.ok.inj x y c (hcl1 _ _ h1) (hcl1 _ _ h2),fun x hx=>?_,fun x c h=>?_,I.ok.hd,I.ok.frames,.inl rfl,fun b hb=>⟨zch9 (hfpl b hb),fun x c h=>?_⟩,fun b o e=>I.bs b o e,zci0 I.ok.bsz I.sz,fun b o e=>hex b o e,fun b hb=>?_,I.stack,I.stkFree⟩,
  h4,by rw[h5];exact I.bare,Un.kept hk,?_,fun x c h=>?_,I.hok.fresh (zcg0 _),fun x c h=>I.freeC x c (hcl1 _ _ h),fun p hp=>(by cases hp),I.hok.kept hk,hlen⟩
 ·exact hkind
 ·have hx':(relabel scope X.env).names.lookup x=some .cell∨(relabel scope X.env).names.lookup x=some .free:=hx
  have hz:∃ y∈scope.names,y.1=x/\y.2=.free:=by
   rcases hx' with q|q
   ·exact zq4 hcell (.inl rfl) q
   ·exact zq4 hcell (.inr rfl) q
  obtain⟨y,hy,rfl,hf⟩:=hz
  exact hcl2 y hy hf
 ·exact absurd (show false=true from h) zcf0
 ·exact (hfp b hb).2.2.2.2.1 x c (hcl1 x c h)
 ·have:=(hfp b hb).1
  intro hz
  obtain⟨f0,f1,f2,_⟩:=hfp b hb
  have hz:b∈frs X.stack:=hz
  rcases zcf2.mp (I.stkSub b hz) with q|q
  ·exact f1 q
  ·exact f2 q
 ·obtain⟨m,hm⟩:=hns
  refine⟨m,hm,fun i x v h1 h2 h3=>?_⟩
  obtain⟨j,e1,e2,e3,e4⟩:=hcap i x v h1 h2
  obtain⟨mX,_,hl⟩:=I.loc
  obtain⟨u,r,q⟩:=hl j x v e1 e2 (by rcases e4 with e4|e4;exact .inr (.inl e4);exact .inr (.inr e4))
  refine⟨u,r,.inr ⟨zy7 e3,?_⟩⟩
  obtain⟨c,hc⟩:=hcl2 (x,.free) (PySem.mem_of_lookup e3) rfl
  refine⟨c,hc,?_⟩
  have hc':=hcl1 x c hc
  rcases q with ⟨k,_⟩|⟨_,c2,e5,o,ho,hd⟩
  ·rcases e4 with e4|e4<;>rw[e4] at k<;>cases k
  ·rw[hc'] at e5
   cases e5
   exact⟨o,hk _ _ ho,hd⟩
 ·obtain⟨v,o,ho,hd⟩:=I.cell x c (hcl1 x c h)
  exact⟨v,o,hk _ _ ho,hd⟩
theorem zbg0{prog:Program}{w:World}{A:Around}{R:Result->Shared->Prop}{s:Shared}{elt target:Expr}{ifs:List Expr}{it acc:Value}{env:Env}(I:Nat->Shared->Prop)(turn:∀ n s,I n s->wpAny (model prog w) A (pyNext it) (fun r s₁=>match r with
   | none=>R (.ok .next) s₁
   | some v=>wpAny (model prog w) A (letOwnedTupleGo target it v) (fun _ s₁'=>wpAny (model prog w) A (assign target env v) (fun _ s₂=>
     wpAny (model prog w) A (forIn ifs true fun c r=>if r=true then do let ok ← isTrue c env (eval c env);pure (ForInStep.yield ok) else pure (ForInStep.yield r)) (fun ok s₃=>
      if ok=true then wpAny (model prog w) A (eval elt env) (fun x s₄=>
       wpAny (model prog w) A (call (.builtin "list.append") [acc,x]) (fun _ s₅=>∃ m,m<n/\I m s₅) (fun _ _=>False) s₄) (fun _ _=>False) s₃
      else ∃ m,m<n/\I m s₃) (fun _ _=>False) s₂) (fun _ _=>False) s₁') (fun _ _=>False) s₁) (fun _ _=>False) s)(n:Nat)(h:I n s):codeAny (model prog w) A (.compLoop (.ListComp elt [⟨target,iter,ifs,0⟩] scope pos) 0 it acc env) R s:=by
 refine codeAny_loop rfl I (fun n s hI=>?_) n h
 show wpAny _ A ((compTurn (.ListComp elt [⟨target,iter,ifs,0⟩] scope pos) 0 it acc env).onRaise (fun x=>do noteFrame x env;theTreesLotGoes x)) _ _ s
 refine wpAny_noted ?_
 rw[compTurn_list]
 refine zcn3 (wpAny_standAt (zcn3 (wpAny_mono (turn n s hI) (fun r s₁ h₁=>?_) fun _ _ h'=>h'.elim)))
 cases r with
 | none=>exact zcn4 h₁
 | some v=>
  refine zcn3 (wpAny_mono h₁ (fun _ s₁' h₁'=>?_) fun _ _ h'=>h'.elim)
  refine zcn3 (wpAny_mono h₁' (fun _ s₂ h₂=>zcn3 (wpAny_mono h₂ (fun ok s₃ h₃=>?_) fun _ _ h'=>h'.elim)) fun _ _ h'=>h'.elim)
  cases ok with
  | false=>exact zcn4 ⟨rfl,h₃⟩
  | true=>
   exact zcn3 (zcn3 (wpAny_mono h₃ (fun x s₄ h₄=>zcn3 (wpAny_mono h₄ (fun _ s₅ h₅=>zcn4 (zcn4 ⟨rfl,h₅⟩)) fun _ _ h'=>h'.elim)) fun _ _ h'=>h'.elim))
theorem zam4{E:Value->Shared->Prop}{elt:Expr}{ifs:List Expr}{cl:List (Str×Addr)}{N:List Str}{σc:St}{J:It}{fp:List Addr}{it:Addr}{tn:Nat->Heap->Prop}{g:TG}{tt:TT}{RR:Value->Addr->Result->Shared->Prop}(hcl1:∀ x c,cl.lookup x=some c->X.env.cells.lookup x=some c)(hcl2:∀ x∈scope.names,x.2=.free->∃ c,cl.lookup x.1=some c)(hkind:scope.kind=.function)(hcell:∀ y∈scope.names,y.2≠.cell)(hcap:∀ (i:Nat) (x:Str) (v:V),N[i]?=some x->σc[i]?=some (some v)->∃ j:Nat,X.N[j]?=some x/\σ[j]?=some (some v)/\scope.names.lookup x=some .free/\(X.env.kindOf x=some .cell∨X.env.kindOf x=some .free))(hlen:σc.length=N.length)(hc:X.calm=true)(I:Inv X pins σ H s2)(T:Turn X.prog X.w X.K tg J fp it tn)(st:tn 0 s2.heap)(fpok:∀ b∈fp,FpOk X pins H b)(hg:∀ C s3 H3 fp,PG (blk X N scope cl C s3 H3 fp) tg g)(ht:∀ C s3 H3 fp,PTs (blk X N scope cl C s3 H3 fp) ifs tt)(he:∀ C s3 H3 fp,PE (blk X N scope cl C s3 H3 fp) elt te)(h:zab8 J g tt te σc H Q)(hRR:∀ (acc C:Addr) (H':Hp) (s':Shared),Inv X pins σ H' s'->FpOk X pins H' C->(∃ m,s'.heap.Ns C m)->Q (.ref acc) H'->RR (.ref acc) C (.ok .next) s') :
  wpAny (model X.prog X.w) X.A (newList []) (fun acc s₃=>wpAny (model X.prog X.w) X.A (newFunctionEnv scope X.env.globals cl [] X.env.qual none .none (some X.env)) (fun cenv s₄=>
   codeAny (model X.prog X.w) X.A (.compStart (.ListComp elt [⟨tg,iter,ifs,0⟩] scope pos) 0 (.ref it) acc { cenv with scope:=relabel scope X.env }) (RR acc cenv.locals) s₄) E s₃) E s2:=by
 refine wpAny_newObj_type (wpAny_newFunctionEnv hcell (by intro y hy;simp at hy) (fun h₁ hns₁ hsb₁=>?_) hkind)
 dsimp only at hns₁ hsb₁ ⊢
 have hf:H s2.heap.objs.size=none:=I.fresh
 have I3:Inv X pins σ (upd H s2.heap.objs.size (.lst [])) { s2 with heap:=s2.heap.push { cls:=.type "list",data:=.seq ([]:List Value).toArray } }:=I.lnew (t':=s2.toks) (its:=[]) .nil (zcl0 _)
 generalize hs3:({ s2 with heap:=s2.heap.push { cls:=.type "list",data:=.seq ([]:List Value).toArray } }:Shared)=s3 at I3
 have hH:s2.heap.push { cls:=.type "list",dict:=none,data:=.seq ([]:List Value).toArray }=s3.heap:=by rw[← hs3]
 rw[hH] at hns₁ hsb₁ ⊢
 have hsz:s3.heap.objs.size=s2.heap.objs.size+1:=by rw[← hH,Heap.size_push]
 have old23:∀ b o,s2.heap.get? b=some o->s3.heap.get? b=some o:=fun b o e=>by rw[← hH];exact zcf3 _ e
 have fplt:∀ b∈fp,b<s2.heap.objs.size:=fun b hb=>by
  obtain⟨o,e,_⟩:=T.obj 0 _ st b hb
  exact zcf6 e
 have fp3:∀ b∈fp,FpOk X pins (upd H s2.heap.objs.size (.lst [])) b:=fun b hb=>by
  obtain⟨f0,f1⟩:=fpok b hb
  refine⟨?_,f1⟩
  rw[zc6 (zch9 (fplt b hb))]
  exact f0
 have old34:∀ b o,s3.heap.get? b=some o->h₁.get? b=some o:=fun b o e=>hsb₁.extBut b o (zch9 (zcf6 e)) (zcf3 _ e)
 have nob:∀ b o,X.base.get? b=some o->b ∉ fp:=fun b o e hb=>by
  obtain⟨_,_,_,f3,_,_⟩:=fpok b hb
  rcases f3 with f3|f3
  ·exact I.ok.noex b o e f3
  ·exact absurd (zcg6 (zcf6 e) I.ok.bsz) (Nat.not_lt.mpr f3)
 have hs4e:({ s2 with heap:=h₁,toks:=s2.toks+([]:List (Str×Value)).length }:Shared).os=s3.os:=by rw[← hs3]
 have hs4g:({ s2 with heap:=h₁,toks:=s2.toks+([]:List (Str×Value)).length }:Shared).gens=s3.gens:=by rw[← hs3]
 have I4:Inv (blk X N scope cl s3.heap.objs.size s3 (upd H s2.heap.objs.size (.lst [])) fp) [] σc (upd H s2.heap.objs.size (.lst [])) { s2 with heap:=h₁,toks:=s2.toks+([]:List (Str×Value)).length }:=
  zbt5 (s4:={ s2 with heap:=h₁,toks:=s2.toks+([]:List (Str×Value)).length }) I3 hcl1 hcl2 hkind hcell hcap hlen rfl fp3 (fun b hb=>zcg6 (fplt b hb) (by rw[hsz];exact Nat.le_succ _)) nob ⟨_,hns₁⟩ old34 hs4e hs4g
 have st4:tn 0 h₁:=T.keep _ _ _ st fun b hb o e=>old34 b o (old23 b o e)
 unfold zab8 at h
 obtain⟨W,⟨m0,w0⟩,turn⟩:=h s2.heap.objs.size _ hf (Same.upd hf) zc3
 have loop:codeAny (model X.prog X.w) X.A (.compLoop (.ListComp elt [⟨tg,iter,ifs,0⟩] scope pos) 0 (.ref it) (.ref s2.heap.objs.size) (blk X N scope cl s3.heap.objs.size s3 (upd H s2.heap.objs.size (.lst [])) fp).env)
   (RR (.ref s2.heap.objs.size) s3.heap.objs.size) { s2 with heap:=h₁,toks:=s2.toks+([]:List (Str×Value)).length }:=by
  refine zbg0 (fun n s'=>∃ i ys σ' H',Inv (blk X N scope cl s3.heap.objs.size s3 (upd H s2.heap.objs.size (.lst [])) fp) [] σ' H' s'/\tn i s'.heap/\(∀ b∈fp,H' b=none)/\W i n ys σ' H') ?_ m0 ⟨0,[],σc,_,I4,st4,fun b hb=>(fp3 b hb).1,w0⟩
  rintro n s5 ⟨i,ys,σ5,H5,I5,st5,fr5,w5⟩
  obtain⟨hacc,hl5,hcase⟩:=turn i n ys σ5 H5 w5
  have stat:∀ {H':Hp},(∀ b∈fp,H' b=none)->∀ b∈fp,FpOk (blk X N scope cl s3.heap.objs.size s3 (upd H s2.heap.objs.size (.lst [])) fp) [] H' b:=fun hn b hb=>by
   obtain⟨_,f1,f2,f3,f4,_⟩:=fpok b hb
   refine⟨hn b hb,zch9 (zcg6 (fplt b hb) (by rw[hsz];exact Nat.le_succ _)),fun hz=>?_,.inl hb,fun x c hx=>f4 x c (hcl1 x c hx),fun p hp=>by cases hp⟩
   rcases zcf2.mp (I.stkSub b hz) with q|q
   ·exact f1 q
   ·exact f2 q
  rcases hcase with ⟨stop,hq⟩|⟨go,step⟩
  ·refine thn (T.done (blk X N scope cl s3.heap.objs.size s3 (upd H s2.heap.objs.size (.lst [])) fp) rfl rfl rfl hc i [] s5 σ5 H5 (fun _ _=>False) I5 (stat fr5) st5 stop) fun r s6 ⟨hr,I6⟩=>?_
   subst hr
   have u1:Un (frs X.stack) fp H (upd H s2.heap.objs.size (.lst [])) s2.heap s3.heap:=Un.laid old23 (zcg0 _) hf
   have u2:Un (frs X.stack) fp (upd H s2.heap.objs.size (.lst [])) H5 s3.heap s6.heap:=I6.base
   have hC:H5 s3.heap.objs.size=none:=I6.free
   obtain⟨m6,hm6,_⟩:=I6.loc
   have hos:s6.os=s2.os:=by rw[I6.os];show s3.os=s2.os;rw[← hs3]
   have hok6:=I6.hok
   have bare6:=I6.bare
   obtain⟨hh,gg,dd,tt',os'⟩:=s6
   obtain rfl:os'=s2.os:=hos
   exact hRR _ _ H5 _ (I.call (h':=hh) (g':=gg) (d':=dd) (t':=tt') (ch:=fp) (u1.trans u2) hok6 bare6 fun b hb=>⟨(fpok b hb).2.2.2.1,(fpok b hb).2.1,(fpok b hb).2.2.2.2.1,(fpok b hb).2.2.2.2.2⟩)
    (I.fpOk (by rw[hsz];exact Nat.le_succ _) hC) ⟨m6,hm6⟩ hq
  ·refine thn (T.item (blk X N scope cl s3.heap.objs.size s3 (upd H s2.heap.objs.size (.lst [])) fp) rfl rfl rfl hc i [] s5 σ5 H5 (fun _ _=>False) I5 (stat fr5) st5 go) fun r s6 ⟨u,hr,h6⟩=>?_
   subst hr
   refine thn h6 fun _ s7 ⟨x,H7,I7,r7,y7,st7,fr7⟩=>?_
   have I7':=I7.pinned (stat fr7) (T.obj _ _ st7)
   refine thn (hg _ _ _ _ _ s7 σ5 H7 x u _ I7' r7 (step x H7 y7)) fun _ s8 ⟨σ8,H8,I8,q8⟩=>?_
   refine thn (ht _ _ _ _ _ s8 σ8 H8 _ I8 q8) fun ok s9 ⟨H9,I9,q9⟩=>?_
   have again:∀ {s10:Shared}{σ10:St}{H10:Hp}{zs:List V},Inv (blk X N scope cl s3.heap.objs.size s3 (upd H s2.heap.objs.size (.lst [])) fp) ([]++zap1 fp s7.heap) σ10 H10 s10->(∃ m',m'<n/\W (i+1) m' zs σ10 H10) ->
     ∃ m,m<n/\∃ i ys σ' H',Inv (blk X N scope cl s3.heap.objs.size s3 (upd H s2.heap.objs.size (.lst [])) fp) [] σ' H' s10/\tn i s10.heap/\(∀ b∈fp,H' b=none)/\W i m ys σ' H':=fun {s10 σ10 H10 zs} I10 ⟨m',hm,w10⟩=>by
    refine⟨m',hm,i+1,zs,σ10,H10,I10.unpinned,T.keep _ _ _ st7 fun b hb o e=>(I10.pin (b,o) (zch6 _ (zch6 _ (zr9 hb e)))).1,fun b hb=>?_,w10⟩
    obtain⟨o,e,d⟩:=T.obj _ _ st7 b hb
    exact (I10.pin (b,o) (zch6 _ (zch6 _ (zr9 hb e)))).2.1
   dsimp only at q9
   rw[zv5] at q9
   cases ok with
   | false=>
    have q9:∃ m',m'<n/\W (i+1) m' ys σ8 H9:=by rw[if_neg zcf0] at q9;unfold zam5 at q9;exact q9
    exact again I9 q9
   | true=>
    have q9:=(if_pos rfl▸q9:te σ8 H9 _)
    refine thn (he _ _ _ _ _ s9 σ8 H9 _ I9 q9) fun v s10 ⟨y,H10,I10,r10,q10⟩=>?_
    unfold cPut at q10
    obtain⟨e10,q10⟩:=q10
    refine thn (zao6 _ s10 σ8 H10 (.ref s2.heap.objs.size) [y] (.ref s2.heap.objs.size) [v] (fun _ H11=>∃ m',m'<n/\W (i+1) m' (ys++[y]) σ8 H11) I10 rfl (.cons r10 .nil) ⟨_,ys,y,rfl,rfl,e10,hl5,q10 _ Chg.upd zc3⟩) fun _ s11 ⟨z,H11,I11,_,q11⟩=>?_
    exact again I11 q11
 exact codeAny_compStart_list loop (T.self _ 0 _ _ _ st4 loop)
def capS(ks:List (Option Nat))(σ:St):St:=ks.map fun k=>match k with
 | none=>none
 | some j=>(σ[j]?).join
inductive zad7(X:Cx)(scope:Scope):List Str->List (Option Nat)->Prop where
 | nil:zad7 X scope [] []
 | skip {x:Str}{N:List Str}{ks:List (Option Nat)}(t:zad7 X scope N ks):zad7 X scope (x :: N) (none :: ks)
 | take {x:Str}{N:List Str}{ks:List (Option Nat)}{j:Nat}(h1:X.N[j]?=some x) (h2:scope.names.lookup x=some .free) (h3:X.env.kindOf x=some .cell∨X.env.kindOf x=some .free) (t:zad7 X scope N ks):zad7 X scope (x :: N) (some j :: ks)
theorem zad7.cap{N:List Str}{ks:List (Option Nat)}(h:zad7 X scope N ks)(σ:St):∀ (i:Nat) (x:Str) (v:V),N[i]?=some x->(capS ks σ)[i]?=some (some v)->∃ j:Nat,X.N[j]?=some x/\σ[j]?=some (some v)/\scope.names.lookup x=some .free/\(X.env.kindOf x=some .cell∨X.env.kindOf x=some .free):=by
 induction h with
 | nil=>intro i x v h;simp at h
 | skip t ih=>
  intro i x v h1 h2
  cases i with
  | zero=>simp[capS] at h2
  | succ i=>exact ih i x v (by simpa using h1) (by simpa [capS] using h2)
 | take a b c t ih=>
  intro i x v h1 h2
  cases i with
  | zero=>
   simp only[List.getElem?_cons_zero,Option.some.injEq] at h1
   subst h1
   refine⟨_,a,?_,b,c⟩
   simpa [capS,Option.join_eq_some_iff] using h2
  | succ i=>exact ih i x v (by simpa using h1) (by simpa [capS] using h2)
theorem zad7.len{N:List Str}{ks:List (Option Nat)}(h:zad7 X scope N ks)(σ:St):(capS ks σ).length=N.length:=by
 have:ks.length=N.length:=by
  induction h with
  | nil=>rfl
  | skip t ih=>simp[ih]
  | take a b c t ih=>simp[ih]
 simp[capS,this]
def qComp(ks:List (Option Nat))(wi:TI)(g:TG)(tt:TT)(te:TE):TE:=fun σ H Q=>wi σ H fun J H1=>zab8 J g tt te (capS ks σ) H1 Q
def freeB(scope:Scope)(f:Str->Option NameKind):Bool:=scope.names.all fun x=>x.2 != .free || (f x.1==some .cell || f x.1==some .free)
def zau7(scope:Scope):Bool:=scope.names.all (fun x=>x.2 != .cell)&&scope.names.all fun x=>x.2 != .local || scope.names.lookup x.1==some .local
theorem zay1{f:Str->Option NameKind}(h:freeB scope f=true):∀ x∈scope.names,x.2=.free->f x.1=some .cell∨f x.1=some .free:=fun x hx hf=>by
 have:=zcj7.mp h x hx
 simpa [hf] using this
theorem zal8(h:zau7 scope=true):(∀ y∈scope.names,y.2≠.cell)/\∀ x∈scope.names,x.2=.local->scope.names.lookup x.1=some .local:=by
 unfold zau7 at h
 rw[zci7] at h
 refine⟨fun y hy=>?_,fun x hx hl=>?_⟩
 ·have:=zcj7.mp h.1 y hy
  simpa using this
 ·have:=zcj7.mp h.2 x hx
  simpa [hl] using this
theorem zk1{elt:Expr}{ifs:List Expr}{N:List Str}{ks:List (Option Nat)}{wi:TI}{g:TG}{tt:TT}(hi:PI X tg iter wi)(hg:∀ cl C s3 H3 fp,PG (blk X N scope cl C s3 H3 fp) tg g)(ht:∀ cl C s3 H3 fp,PTs (blk X N scope cl C s3 H3 fp) ifs tt)(he:∀ cl C s3 H3 fp,PE (blk X N scope cl C s3 H3 fp) elt te)(hcap:zad7 X scope N ks)(hc:X.calm=true:=by rfl)(hkind:scope.kind=.function:=by rfl)(hb:freeB scope X.env.kindOf=true:=by rfl)(hn:zau7 scope=true:=by rfl)(hs:∀ x,foldedSetIterable iter X.env x=pure x:=by intro _;rfl) :
  PE X (.ListComp elt [⟨tg,iter,ifs,0⟩] scope pos) (qComp ks wi g tt te):=by
 intro pins s σ H Q I h
 obtain⟨hcell,hnames⟩:=zal8 hn
 obtain⟨cl,hcl,hcl1,hcl2⟩:=zah1 (scope:=scope) (env:=X.env) fun x hx hf=>I.ok.has x.1 (zay1 hb x hx hf)
 rw[eval_ListComp]
 refine wpAny_comprehension_free (use:=none) rfl hs hcl hkind hnames ?_
 show wpAny _ _ (eval iter X.env) _ _ s
 refine thn (hi pins s σ H _ I h) fun v s1 h1=>thn h1 fun itv s2 h2=>?_
 obtain⟨it,fp,tn,J,H2,e,I2,T,st2,f2,q2⟩:=h2
 subst e
 refine zam4 (RR:=fun acc C=>compPost (model X.prog X.w) X.A X.xe none (EP X pins σ Q) acc C) hcl1 hcl2 hkind hcell (hcap.cap σ) (hcap.len σ) hc I2 T st2 f2 (hg cl) (ht cl) (he cl) q2 ?_
 rintro acc C H' s' I' hC ⟨m,hm⟩ hq
 refine⟨m,hm,fun h' hsb=>⟨.ref acc,H',?_,rfl,hq⟩⟩
 exact I'.turned (t':=s'.toks) (fun b o hb e=>hsb.extBut b o hb e) hC.1 hC.2.1 hC.2.2.2.1 hC.2.2.2.2.1 hC.2.2.2.2.2
theorem psC{y:Str}{py spos:Pos}{elt:Expr}{ifs:List Expr}{N:List Str}{ks:List (Option Nat)}{wi:TI}{g:TG}{tt:TT}(hN:X.N.Nodup)(hi:PI X tg iter wi)(hg:∀ cl C s3 H3 fp,PG (blk X N scope cl C s3 H3 fp) tg g)(ht:∀ cl C s3 H3 fp,PTs (blk X N scope cl C s3 H3 fp) ifs tt)(he:∀ cl C s3 H3 fp,PE (blk X N scope cl C s3 H3 fp) elt te)(hcap:zad7 X scope N ks)(hy:X.N[i]?=some y:=by rfl)(hl:X.env.scope.names.lookup y=some .local:=by rfl)(hsw:swapsWith (.ListComp elt [⟨tg,iter,ifs,0⟩] scope pos) (some (.Name y py)) spos.line X.env=pure true:=by rfl)(hc:X.calm=true:=by rfl)(hkind:scope.kind=.function:=by rfl)(hb:freeB scope X.env.kindOf=true:=by rfl)(hn:zau7 scope=true:=by rfl)(hs:∀ x,foldedSetIterable iter X.env x=pure x:=by intro _;rfl) :
  PS X (.Assign [.Name y py] (.ListComp elt [⟨tg,iter,ifs,0⟩] scope pos) spos) (tAsg (qComp ks wi g tt te) (zba8 i)):=by
 intro pins s σ H D I h
 obtain⟨hcell,hnames⟩:=zal8 hn
 obtain⟨cl,hcl,hcl1,hcl2⟩:=zah1 (scope:=scope) (env:=X.env) fun x hx hf=>I.ok.has x.1 (zay1 hb x hx hf)
 rw[exec_Assign_Name_used _ _ _ _ hsw]
 refine zcn3 (wpAny_standAt (zcn3 ?_))
 show wpAny _ X.A (do let _ ← comprehension (.ListComp elt [⟨tg,iter,ifs,0⟩] scope pos) scope X.env _ (newList []) false (eval iter X.env) (some (assign (.Name y py) X.env))) _ _ s
 refine zcn3 (wpAny_mono (wpAny_comprehension_free (use:=some (assign (.Name y py) X.env)) (Q:=fun _ s'=>SP X pins D .next s') rfl hs hcl hkind hnames ?_) (fun _ s' hq=>zcn4 (zcn4 hq)) fun _ _ e=>e)
 refine thn (hi pins s σ H _ I h) fun v s1 h1=>thn h1 fun itv s2 h2=>?_
 obtain⟨it,fp,tn,J,H2,e,I2,T,st2,f2,q2⟩:=h2
 subst e
 refine zam4 (RR:=fun acc C=>compPost (model X.prog X.w) X.A X.xe (some (assign (.Name y py) X.env)) (fun _ s'=>SP X pins D .next s') acc C) hcl1 hcl2 hkind hcell (hcap.cap σ) (hcap.len σ) hc I2 T st2 f2 (hg cl) (ht cl) (he cl) q2 ?_
 rintro acc C H' s' I' hC ⟨m,hm⟩ hq
 show wpAny _ _ (assign (.Name y py) X.env (.ref acc)) _ _ _
 refine wpAny_assign_Name (zaq0 I' hN hy (.inl hl) (v:=.ref acc) rfl (fun s'' I'' hsb=>?_) (.inr hl))
 obtain⟨a,hsb,ha⟩:=hsb
 have hCa:C≠a:=by
  rcases ha with ha|ha
  ·rw[ha];exact hC.2.1
  ·exact (hC.2.2.2.2.1 y a ha).symm
 refine⟨m,hm.sameBut hsb hCa,fun h' hsb'=>⟨σ.set i (some (.ref acc)),H',?_,hq⟩⟩
 exact I''.turned (t':=s''.toks) (fun b o hb e=>hsb'.extBut b o hb e) hC.1 hC.2.1 hC.2.2.2.1 hC.2.2.2.2.1 hC.2.2.2.2.2
end
section
variable {X:Cx}
@[irreducible] def rSumA(K:zce1)(p:Addr)(H:Hp)(Q:VK):Prop:=∃ ns:List Int,SqL K H p (ns.map V.int)/\Q (.int ns.sum) H
def rSumM(K:zce1):List V->Hp->VK->Prop:=fun xs H Q=>match xs with
 | [.ref p]=>rSumA K p H Q
 | _=>False
theorem zaa6:∀ {bs:List Bool}{us:List Value},Vals (bs.map V.bl) us->LSm.BoolsAre us bs
 | [],us,r=>by rw[List.map_nil] at r;cases r;exact .nil
 | b :: bs,us,r=>by
  rw[zcj4] at r
  cases r with
  | cons r1 r2=>
   cases r1
   exact .cons b (zaa6 r2)
@[irreducible] def rAllA(K:zce1)(p:Addr)(H:Hp)(Q:VK):Prop:=∃ bs:List Bool,SqL K H p (bs.map V.bl)/\Q (.bl (bs.all id)) H
def rAllM(K:zce1):List V->Hp->VK->Prop:=fun xs H Q=>match xs with
 | [.ref p]=>rAllA K p H Q
 | _=>False
theorem cAll(hc:X.calm=true):zk0 X (.builtin "all") (rAllM X.K):=fun pins s σ H xs us Q I r h=>by
 unfold rAllM at h
 split at h
 ·rename_i p
  unfold rAllA at h
  obtain⟨bs,h1,h2⟩:=h
  obtain⟨u,rfl,rx⟩:=zw6 r
  cases rx
  obtain⟨its,r',pl,hz⟩:=I.list h1
  have hb:=zaa6 r'
  have hlt:p<s.heap.objs.size:=by obtain⟨_,e,_⟩:=pl.isList;exact zcf6 e
  refine call_all_walk (wpAny_pyIter_list pl.isList ?_)
  refine⟨s.heap.objs.size,[s.heap.objs.size,_],[s.heap.objs.size],its.toArray.size,_,_,fun i=>(bs[i]?).getD true,rfl,Walks.list (A:=X.A.in1) (I.ok.hd hc) _ _ (zch9 hlt) its.toArray,
   ⟨⟨_,zch7 _ rfl,rfl,rfl⟩,pl.isList.push _⟩,fun i v s' Q' E' hP hQ=>?_,fun h' tk hk=>?_⟩
  ·obtain⟨b,e,rfl⟩:=hb.get i v (by simpa using hP)
   simp only[e,Option.getD_some] at hQ
   exact wpAny_truthy_bool hQ
  ·have e:((List.range its.toArray.size).all fun i=>(bs[i]?).getD true)=bs.all id:=by
    rw[zce4,hb.length];exact LSm.range_all bs
   rw[e]
   exact⟨.bl _,H,I.kept (LSm.kept_iter hk),rfl,h2⟩
 ·exact h.elim
theorem zaw2{K:zce1}{p:Addr}{bs:List Bool}(h:H p=some (.lst (bs.map V.bl)))(q:Q (.bl (bs.all id)) H):rAllA K p H Q:=by unfold rAllA;exact⟨bs,SqL.of h,q⟩
@[irreducible] def zab7(K:zce1)(p:Addr)(H:Hp)(Q:VK):Prop:=∃ ys,(SqL K H p ys∨SqT K H p ys)/\∀ l H',H l=none->Same H H'->H' l=some (.lst ys)->Q (.ref l) H'
def zbj7(K:zce1):List V->Hp->VK->Prop:=fun xs H Q=>match xs with
 | [.ref p]=>zab7 K p H Q
 | _=>False
theorem cList:zk0 X (.type "list") (zbj7 X.K):=fun pins s σ H xs us Q I r h=>by
 unfold zbj7 at h
 split at h
 ·unfold zab7 at h
  obtain⟨ys,h1,h2⟩:=h
  exact zam0 pins s σ H _ us Q I r ⟨_,ys,rfl,h1,fun l hl=>h2 l _ hl (Same.upd hl) zc3⟩
 ·exact h.elim
theorem zr8{K:zce1}{p:Addr}{ys:List V}(h:SqL K H p ys)(q:∀ l H',H l=none->Same H H'->H' l=some (.lst ys)->Q (.ref l) H'):zab7 K p H Q:=by unfold zab7;exact⟨ys,.inl h,q⟩
@[irreducible] def zah9(K:zce1)(p:Addr)(H:Hp)(R:Prop):Prop:=(∃ xs,SqL K H p xs)/\R
def qBM(K:zce1)(r:Addr->List V->Hp->VK->Prop)(to:TE)(t:TA):TE:=fun σ H Q=>to σ H fun x H1=>match x with
 | .ref p=>zah9 K p H1 (t σ H1 fun xs H2=>r p xs H2 Q)
 | _=>False
theorem zt0{K:zce1}{p:Addr}{R:Prop}(h:H p=some (.lst xs))(q:R):zah9 K p H R:=by unfold zah9;exact⟨⟨xs,SqL.of h⟩,q⟩
def MtA(X:Cx)(id:String)(r:Addr->List V->Hp->VK->Prop):Prop:=
 ∀ (pins:List (Addr×Obj)) (s:Shared) (σ:St) (H:Hp) (p:Addr) (xs:List V) (us:List Value) (Q:VK),Inv X pins σ H s->Vals xs us->r p xs H Q ->
  wpAny (model X.prog X.w) X.A (call (.builtin id) (.ref p :: us)) (EP X pins σ Q) X.xe s
theorem peBM{o:Expr}{t:TA}{name:Str}{id:String}{r:Addr->List V->Hp->VK->Prop}(slot:Slot "list" name id)(hty:typeOf (.builtin id)=pure (.type "method_descriptor"))(hm:MtA X id r)(ho:PE X o to)(ha:PA X (e :: es) t)(hbase:attributeBase o name X.env (eval o X.env)=eval o X.env:=by rfl)(hfew:((backTo cpos (starEach (e :: es) X.env)).all (fun x=>!x.1)&&(backToKw cpos (keywordEach [] X.env)).all (fun x=>x.1.isSome)
   && decide ((e :: es).length+([]:List Keyword).length+(if ([]:List Keyword).isEmpty then 0 else 1)<30))=true:=by rfl)(hline:(apos.endLine==cpos.line)=true:=by rfl)(hs:starEach (e :: es) X.env=(false,eval e X.env) :: starEach es X.env:=by rfl)(hplain:(backTo cpos (starEach es X.env)).any (·.1)=false:=by rfl) :
  PE X (.Call (.Attribute o name apos) (e :: es) [] cpos) (qBM X.K r to t):=by
 intro pins s σ H Q I h
 refine wpAny_Call_method_late hbase hfew hline rfl (thn (ho pins s σ H _ I h) fun v s1 ⟨x,H1,I1,r1,q1⟩=>?_)
 dsimp only at q1
 split at q1
 ·rename_i p
  unfold zah9 at q1
  obtain⟨hq,q1⟩:=q1
  obtain⟨h1,h2⟩:=zbc8 (T:="list") I1 r1 (.inl ⟨rfl,hq⟩)
  refine⟨"list",id,PySem.F.plainAttrs_list,slot,hty,h1,h2,?_⟩
  have hA:=ha cpos pins s1 σ H1 _ I1 q1
  rw[hs] at hA ⊢
  refine Calls.callWith_builtin (by show (false || (backTo cpos (starEach es X.env)).any (·.1))=false;rw[hplain]<;>rfl) (Calls.evalArgs_plain ?_)
  cases r1
  exact thn hA fun us s2 ⟨vs,H2,I2,r2,q2⟩=>hm pins s2 σ H2 p vs us Q I2 r2 q2
 ·exact q1.elim
@[irreducible] def rAppA(p:Addr)(v:V)(H:Hp)(Q:VK):Prop:=∃ xs,H p=some (.lst xs)/\xs.length<sizeLine/\∀ H',Chg p H H'->H' p=some (.lst (xs++[v]))->Q .non H'
def rAppM:Addr->List V->Hp->VK->Prop:=fun p vs H Q=>match vs with
 | [v]=>rAppA p v H Q
 | _=>False
theorem zbu0:MtA X "list.append" rAppM:=fun pins s σ H p xs us Q I r h=>by
 unfold rAppM at h
 split at h
 ·unfold rAppA at h
  obtain⟨ys,h1,h2,h3⟩:=h
  exact zao6 pins s σ H (.ref p) _ (.ref p) us Q I rfl r ⟨p,ys,_,rfl,rfl,h1,h2,h3 _ Chg.upd zc3⟩
 ·exact h.elim
theorem zam1{p:Addr}{v:V}(h:H p=some (.lst xs))(hz:xs.length<sizeLine)(q:∀ H',Chg p H H'->H' p=some (.lst (xs++[v]))->Q .non H'):rAppA p v H Q:=by unfold rAppA;exact⟨xs,h,hz,q⟩
theorem zo3{o:Expr}{t:TA}(ho:PE X o to)(ha:PA X [e] t)(hbase:attributeBase o "append" X.env (eval o X.env)=eval o X.env:=by rfl)(hfew:((backTo cpos (starEach [e] X.env)).all (fun x=>!x.1)&&(backToKw cpos (keywordEach [] X.env)).all (fun x=>x.1.isSome)
   && decide ([e].length+([]:List Keyword).length+(if ([]:List Keyword).isEmpty then 0 else 1)<30))=true:=by rfl)(hline:(apos.endLine==cpos.line)=true:=by rfl)(hs:starEach [e] X.env=(false,eval e X.env) :: starEach [] X.env:=by rfl)(hplain:(backTo cpos (starEach [] X.env)).any (·.1)=false:=by rfl):PE X (.Call (.Attribute o "append" apos) [e] [] cpos) (qBM X.K rAppM to t):=
 peBM PySem.F.slot_list_append PySem.F.type_list_append zbu0 ho ha hbase hfew hline hs hplain
def rIsM:R2:=fun x y H Q=>match y with
 | .non=>Q (.bl (decide (x=.non))) H
 | _=>False
theorem oIs:OpR X (compareOp .Is) rIsM:=by
 intro pins s σ H x y v u Q I rx ry h
 unfold rIsM at h
 split at h
 ·exact zbq3 pins s σ H _ _ v u Q I rx ry ⟨rfl,h⟩
 ·exact h.elim
section
variable {prog:Program}{w:World}{A:Around}{E:Value->Shared->Prop}{s:Shared}
theorem zam2{it t:Addr}{items:Array Value}(hne:t≠it):∀ (n i:Nat) (s:Shared) (Q:List Value->Shared->Prop),s.heap.IsListIter it t i->s.heap.IsList t items->i+n<=items.size ->
  (∀ h',h'.IsListIter it t (i+n)->Heap.SameBut it s.heap h'->Q ((items.toList.drop i).take n) { s with heap:=h' })->wpAny (model prog w) A (draw (.ref it) n) Q E s
 | 0,i,s,Q,hit,_,_,hQ=>by
  show wpAny _ _ (pure []) Q E s
  exact zcn4 (by simpa using hQ s.heap hit (Heap.SameBut.refl ..))
 | n+1,i,s,Q,hit,ht,hle,hQ=>by
  have hlt:i<items.size:=by omega
  show wpAny _ _ (pyNext (.ref it) >>= _) Q E s
  refine zcn3 (wpAny_pyNext_list_item hit ht (x:=items[i]) (by simp[hlt]) fun h₁ hit₁ hs₁=>?_)
  refine zcn3 (zcn8 (zam2 hne n (i+1) _ _ hit₁ (ht.extBut hs₁.extBut hne) (by omega) fun h₂ hit₂ hs₂=>zcn4 ?_))
  have hd:items.toList.drop i=items[i] :: items.toList.drop (i+1):=by simp[List.drop_eq_getElem_cons,hlt]
  have:=hQ h₂ (by rw[show i+(n+1)=i+1+n by omega];exact hit₂) (hs₁.trans hs₂)
  rw[hd,List.take_succ_cons] at this
  exact this
theorem zy0{env:Env}{elts:List Expr}{x1}{t:Addr}{items:Array Value}{Q:Unit->Shared->Prop}(hh:A.handled=none)(ht:s.heap.IsList t items)(hn:(assignEach elts env).length=items.size)(hstar:(assignEach elts env).findIdx? (·.1)=none)(h:∀ h',Heap.ExtBut s.heap.objs.size s.heap h'->wpAny (model prog w) A (assignInOrder ((assignEach elts env).map (·.2)) items.toList) Q E { s with heap:=h' }) :
  wpAny (model prog w) A (assign (.Tuple elts x1 pos) env (.ref t)) Q E s:=by
 rw[assign_Tuple]
 refine zcn3 (wpAny_standAt ?_)
 unfold unpack
 rw[hn,hstar]
 refine zcn3 (zcn8 ?_)
 have hlt:t≠s.heap.objs.size:=by obtain⟨o,ho,_⟩:=ht;exact zch9 (zcf6 ho)
 unfold unpackItems
 refine zcn3 ?_
 unfold notIterableAtAll
 refine zcn3 (wpAny_specialOf ht.typeIs F.slot_list_iter.lookup ?_)
 refine zcn4 ?_
 simp only[Bool.false_eq_true,if_false]
 refine zcn3 (zcn8 (wpAny_pyIter_list ht ?_))
 refine zcn3 (zcn8 (zam2 hlt items.size 0 _ _ ⟨_,zch7 _ rfl,rfl,rfl⟩ (ht.push _) (by omega) fun h₁ hit₁ hs₁=>?_))
 have hall:List.take items.size (List.drop 0 items.toList)=items.toList:=by
  rw[List.drop_zero];exact zci8 (by simp)
 rw[hall]
 rw[if_neg (by simp)]
 have ht₁:h₁.IsList t items:=(ht.push _).extBut hs₁.extBut hlt
 refine zcn3 (zcn8 (wpAny_pyNext_list_end hh hit₁ ht₁ (by simp) fun h₂ he₂=>?_))
 simp only[Option.isSome_none,Bool.false_eq_true,if_false]
 exact zcn4 (h h₂ fun b o hb e=>he₂ b o hb (hs₁.extBut b o hb (zcf3 _ e)))
end
@[irreducible] def rUnpA(K:zce1)(a:Addr)(n:Nat)(t:TGs)(σ:St)(H:Hp)(Q:St->Hp->Prop):Prop:=∃ xs,(SqT K H a xs∨SqL K H a xs)/\xs.length=n/\t xs σ H Q
def qgAny(K:zce1)(n:Nat)(t:TGs):TG:=fun v σ H Q=>match v with
 | .ref a=>rUnpA K a n t σ H Q
 | _=>False
theorem pgAny{k:Nat}{t:TGs}{n:Nat}(hc:X.calm=true)(h:PGs X es t)(hn:(assignEach es X.env).length=n:=by rfl)(hst:(assignEach es X.env).findIdx? (·.1)=none:=by rfl):PG X (.Tuple es k pos) (qgAny X.K n t):=fun pins s σ H v u Q I r hq=>by
 unfold qgAny at hq
 split at hq
 ·unfold rUnpA at hq
  obtain⟨xs,a1,a2,a3⟩:=hq
  rcases a1 with a1|a1
  ·exact pg_tup hc h hn hst pins s σ H _ u Q I r ⟨_,xs,rfl,a1,a2,a3⟩
  ·cases r
   obtain⟨its,rv,pl,hz⟩:=I.list a1
   refine zy0 (I.ok.hd hc) pl.isList (by simp[hn,← a2,rv.length]) hst fun h' hx=>?_
   have I1:Inv X pins σ H { s with heap:=h' }:=I.kept (t':=s.toks) fun b o e=>hx b o (zch9 (zcf6 e)) e
   exact h pins _ σ H xs _ Q I1 (by simpa using rv) a3
 ·exact hq.elim
theorem zq3{K:zce1}{a:Addr}{n:Nat}{t:TGs}{σ:St}{Q:St->Hp->Prop}(h:H a=some (.tup xs))(q:t xs σ H Q)(e:xs.length=n:=by rfl):rUnpA K a n t σ H Q:=by
 unfold rUnpA;exact⟨xs,.inl (SqT.of h),e,q⟩
end
def Chg2(a c:Addr)(H H':Hp):Prop:=∀ b o,b≠a->b≠c->H b=some o->H' b=some o
theorem Chg2.refl(a c:Addr)(H:Hp):Chg2 a c H H:=fun _ _ _ _ e=>e
theorem Chg2.trans{a:Addr}(x:Chg2 a c H H1)(y:Chg2 a c H1 H2):Chg2 a c H H2:=fun b o h1 h2 e=>y b o h1 h2 (x b o h1 h2 e)
theorem Chg.toL{a:Addr}(x:Chg a H H1):Chg2 a c H H1:=fun b o h1 _ e=>x b o h1 e
theorem Chg.toR{a:Addr}(x:Chg c H H1):Chg2 a c H H1:=fun b o _ h2 e=>x b o h2 e
theorem Same.to2{a:Addr}(x:Same H H1):Chg2 a c H H1:=fun b o _ _ e=>x b o e
theorem Chg2.at{a b:Addr}{o:HO}(x:Chg2 a c H H')(e:H b=some o)(h1:b≠a)(h2:b≠c):H' b=some o:=x b o h1 h2 e
def cV(n:Nat)(acc:Addr)(Pv:Nat->List V->St->Hp->Prop):Nat->Nat->List V->St->Hp->Prop:=fun i m ys σ H=>m=n - i/\i<=n/\ys.length<=i/\H acc=some (.lst ys)/\Pv i ys σ H
section
variable {K:zce1}{g:TG}{tt:TT}{te:TE}{σ0:St}{H1:Hp}{Q:VK}
theorem zau9{n m:Nat}{acc:Addr}{Pv:Nat->List V->St->Hp->Prop}{ys:List V}{σ2:St}{v:V}{H5:Hp}(hi:i<n)(hm:m=n - i)(hl:ys.length<=i)(ha:H5 acc=some (.lst ys))(q:∀ H6,Chg acc H5 H6->H6 acc=some (.lst (ys++[v]))->Pv (i+1) (ys++[v]) σ2 H6):cPut (cV n acc Pv) acc ys i m σ2 v H5:=by
 unfold cPut
 exact⟨ha,fun H6 hc h6=>⟨n - (i+1),by omega,rfl,by omega,by rw[zce6,zcf4];omega,h6,q H6 hc h6⟩⟩
theorem zab3{lo:Int}{n:Nat}(hn:n<sizeLine)(h:∀ acc H2,H1 acc=none->Same H1 H2->H2 acc=some (.lst [])->∃ Pv:Nat->List V->St->Hp->Prop,Pv 0 [] σ0 H2 /\
  (∀ i m ys σ H,i<n->m=n - i->ys.length<=i->H acc=some (.lst ys)->Pv i ys σ H->g (.int (lo+i)) σ H fun σ2 H3=>tt σ2 H3 fun b H4=>br b (te σ2 H4 fun v H5=>cPut (cV n acc Pv) acc ys i m σ2 v H5) (zam5 (cV n acc Pv) ys i m σ2 H4)) /\
  ∀ ys σ H,H acc=some (.lst ys)->Pv n ys σ H->Q (.ref acc) H):zab8 (Itr lo n) g tt te σ0 H1 Q:=by
 unfold zab8
 intro acc H2 hf hs ha
 obtain⟨Pv,h0,turn,fin⟩:=h acc H2 hf hs ha
 refine⟨cV n acc Pv,⟨n,by simp,zcl0 _,zcg0 _,ha,h0⟩,?_⟩
 rintro i m ys σ H ⟨hm,hi,hl,ha',hp⟩
 refine⟨ha',by omega,?_⟩
 by_cases hlt:i<n
 ·refine .inr ⟨hlt,fun x H' y=>?_⟩
  obtain⟨e,y⟩:=y
  subst e y
  exact turn i m ys σ _ hlt hm hl ha' hp
 ·have e:i=n:=by omega
  subst e
  exact .inl ⟨zcg0 _,fin ys σ H ha' hp⟩
end
section
variable {X:Cx}{K:zce1}
theorem slK(hK:X.K=K):SlR X (rSlM K):=by subst hK;exact slM
theorem zb7{a b:Expr}{ta tb:TE}(hK:X.K=K)(ha:PE X a ta)(hb:PE X b tb)(hs:zar6 b:=by exact fun _ _=>rfl):PE X (.Subscript a b pos) (tOp (rIxM K) ta tb):=by subst hK;exact peIx ha hb hs
theorem zv7(hK:X.K=K):zk0 X (.builtin "len") (rLenM K):=by subst hK;exact cLen
theorem zae5(hK:X.K=K):zk0 X (.builtin "isinstance") (rIsiM K):=by subst hK;exact cIsi
theorem cAllK(hK:X.K=K)(hc:X.calm=true):zk0 X (.builtin "all") (rAllM K):=by subst hK;exact cAll hc
theorem zab9(hK:X.K=K):zk0 X (.type "list") (zbj7 K):=by subst hK;exact cList
theorem oEqK(hK:X.K=K)(hu:X.A.units+40<cLine):OpR X (compareOp .Eq) (rEqM K):=by subst hK;exact oEq hu
theorem oNeK(hK:X.K=K)(hu:X.A.units+40<cLine):OpR X (compareOp .NotEq) (rNeM K):=by subst hK;exact oNe hu
theorem zf5{l:Expr}{tl:TE}(hK:X.K=K)(hl:PE X l tl):PI X tg l (qiSeq K tl):=by subst hK;exact piSeq hl
theorem zad5{k:Nat}{t:TGs}{n:Nat}(hK:X.K=K)(hc:X.calm=true)(h:PGs X es t)(hn:(assignEach es X.env).length=n:=by rfl)(hst:(assignEach es X.env).findIdx? (·.1)=none:=by rfl):PG X (.Tuple es k pos) (qgAny K n t):=by subst hK;exact pgAny hc h hn hst
end
def Ite(K:zce1)(a:Addr):It:=
 ⟨fun i H=>∃ xs x,SqL K H a xs/\xs[i]?=some x,fun i H v H'=>∃ p y,v=.ref p/\H p=none/\Same H H'/\H' p=some (.tup [.int i,y])/\∀ xs,SqL K H a xs->xs[i]?=some y,fun i H=>∃ xs,SqL K H a xs/\xs.length<=i⟩
theorem zbj0{P:Program}{w:World}{K:zce1}{elts:List Expr}{k:Nat}(a it e:Addr)(hne:e≠it):Turn P w K (.Tuple elts k pos) (Ite K a) [it,e] e (fun i h=>(∃ old,IsEnum h e it i old)/\h.IsListIter it a i) where
 mem:=by simp
 obj:=fun i h st b hb=>by
  obtain⟨⟨old,he⟩,o,e1,c,d⟩:=st
  rcases zcf2.mp hb with rfl|hb
  ·exact⟨o,e1,fun v z=>by rw[d] at z;cases z⟩
  ·have:b=e:=by simpa using hb
   subst this
   exact⟨_,he,fun v z=>by cases z⟩
 keep:=fun i h h' st kp=>by
  obtain⟨⟨old,he⟩,hi⟩:=st
  exact⟨⟨old,kp e (by simp) _ he⟩,hi.at fun o x=>kp it (by simp) o x⟩
 item:=by
  intro X hP hw hK hc i pins s σ H E I hf st hg
  subst hP hw hK
  obtain⟨⟨old,he⟩,hit⟩:=st
  obtain⟨xs,x,hq,hx⟩:=hg
  obtain⟨its,rv,p,hz⟩:=I.list hq
  obtain⟨u,hu,ru⟩:=rv.get hx
  obtain⟨f0,f1,f2,f3,f4,f5⟩:=hf it (by simp)
  obtain⟨g0,g1,g2,g3,g4,g5⟩:=hf e (by simp)
  refine wpAny_pyNext_enum_item he hit p.isList (x:=u) (by simpa using hu) hne fun h1 heo hit1 ht1 hz1 hk1=>?_
  refine⟨_,rfl,wpAny_letOwnedTupleGo_enum heo fun h2 he2 hs2=>?_⟩
  replace hs2:Heap.SameBut e h1 h2:=hs2
  have hel:e<s.heap.objs.size:=zcf6 he
  have kp:∀ b o,b ∉ [it,e]->s.heap.get? b=some o->h2.get? b=some o:=fun b o hb x=>by
   have b1:b≠it:=fun z=>hb (by simp[z])
   have b2:b≠e:=fun z=>hb (by simp[z])
   exact (hs2.2 b b2).trans (hk1 b o b2 b1 x)
  have ht2:h2.get? s.heap.objs.size=some { cls:=.type "tuple",data:=.seq #[.int i s.toks,u] }:=(hs2.2 _ (zcn1 hel)).trans ht1
  have hfr:H s.heap.objs.size=none:=I.fresh
  have nof:∀ b v,H b=some v->b ∉ [it,e]:=fun b v hb z=>by
   rcases zcf2.mp z with rfl|z
   ·rw[f0] at hb;cases hb
   ·have:b=e:=by simpa using z
    subst this
    rw[g0] at hb;cases hb
  have nlt:∀ b o,s.heap.get? b=some o->b≠s.heap.objs.size:=fun b o x=>zch9 (zcf6 x)
  have hok:HOk X.prog X.w (upd H s.heap.objs.size (.tup [.int i,x])) h2:=fun b v hb=>by
   by_cases e1:b=s.heap.objs.size
   ·subst e1
    rw[zc3] at hb
    cases hb
    exact⟨by show 2<=sizeLine;decide,[.int i s.toks,u],.cons ⟨_,rfl⟩ (.cons ru .nil),⟨_,ht2,rfl,_,rfl⟩⟩
   ·rw[zc6 e1] at hb
    refine (I.hok b v hb).stay (fun c w' hc q=>?_) (fun c q=>?_) (fun c ys q=>?_)
    ·rcases hc with rfl|hc
     ·exact kp _ _ (nof _ _ hb) q
     ·exact kp _ _ (nof _ _ hc) q
    ·rw[zc6 (za6 q hfr)];exact q
    ·rw[zc6 (za6 q hfr)];exact q
  have chs:∀ b∈[it,e],(b∈X.ex∨X.s₀.heap.objs.size<=b)/\b≠X.env.locals/\(∀ x c,X.env.cells.lookup x=some c->c≠b)/\∀ p∈X.pn++pins,p.1≠b:=fun b hb=>by
   rcases zcf2.mp hb with rfl|hb
   ·exact⟨f3,f1,f4,f5⟩
   ·have:b=e:=by simpa using hb
    subst this
    exact⟨g3,g1,g4,g5⟩
  have I2:Inv X pins σ (upd H s.heap.objs.size (.tup [.int i,x])) { s with heap:=h2,toks:=s.toks+1 }:=
   I.step (g':=s.gens) (d':=s.drawn) (t':=s.toks+1) (ch:=[it,e]) chs (fun b o _ _ hb x _=>kp b o hb x) (fun b o _ _ hb x _=>⟨o.slots,kp b o hb x⟩)
    (fun b o _ x n=>by rw[zc6 (nlt b o x)];exact n) (fun b o hb x=>⟨o,kp b o hb x⟩) (fun b ys q=>by rw[zc6 (za6 q hfr)];exact q) (fun b o v q=>by rw[zc6 (za6 q hfr)];exact q)
    (fun b ps q=>⟨#[],by rw[zc6 (za6 q hfr),q];simp⟩)
    (fun m hm=>by
     obtain⟨o,es,ep,ho,r⟩:=hm
     exact⟨o,es,ep,kp _ o (fun z=>by
      rcases zcf2.mp z with z|z
      ·exact f1 z.symm
      ·exact g1 (by simpa using z:X.env.locals=e).symm) ho,r⟩) hok I.bare
  have hi1:h2.IsListIter it a (i+1):=hit1.extBut hs2.extBut (Ne.symm hne)
  have he3:IsEnum h2 e it ((i+1:Nat):Int) u:=by
   have:((i+1:Nat):Int)=(i:Int)+1:=by push_cast;rfl
   rw[this];exact he2
  refine⟨.ref s.heap.objs.size,_,I2,rfl,⟨_,x,rfl,hfr,Same.upd hfr,zc3,fun ys hy=>by rw[I.list_inj hy hq];exact hx⟩,⟨⟨u,he3⟩,hi1⟩,fun b hb=>?_⟩
  have hb0:H b=none:=(hf b hb).1
  have hlt:b≠s.heap.objs.size:=by
   rcases zcf2.mp hb with rfl|hb
   ·obtain⟨o,ho,_⟩:=hit;exact nlt _ _ ho
   ·have:b=e:=by simpa using hb
    subst this
    exact zch9 hel
  rw[zc6 hlt];exact hb0
 done:=by
  intro X hP hw hK hc i pins s σ H E I hf st hg
  subst hP hw hK
  obtain⟨⟨old,he⟩,hit⟩:=st
  obtain⟨xs,hq,hx⟩:=hg
  obtain⟨its,rv,p,hz⟩:=I.list hq
  obtain⟨f0,f1,f2,f3,f4,f5⟩:=hf it (by simp)
  have hl:=rv.length
  exact wpAny_pyNext_enum_end (I.ok.hd hc) he hit p.isList (by simp;omega) fun h' eb=>⟨rfl,I.turned (t':=s.toks) (fun b o hb e=>eb b o hb e) f0 f1 f3 f4 f5⟩
 self:=fun _ _ _ _ _ st h=>by
  obtain⟨⟨old,he⟩,_⟩:=st
  exact wpAny_pyIter_enum he h
section
variable {X:Cx}{K:zce1}
theorem zal3:bootBuiltins "enumerate"=some (.type "enumerate"):=by decide +kernel
@[irreducible] def rEnum(K:zce1)(a:Addr)(H:Hp)(R:It->Hp->Prop):Prop:=(∃ xs,SqL K H a xs)/\R (Ite K a) H
def zbo3(K:zce1)(ta:TA):TI:=fun σ H R=>ta σ H fun vs H1=>match vs with
 | [.ref a]=>rEnum K a H1 R
 | _=>False
theorem piEnum{elts:List Expr}{k:Nat}{pt:Pos}{a:Expr}{ta:TA}{p:Pos}(hm:X.mg "enumerate"=none)(ha:PA X [a] ta)(hg:Gl X "enumerate":=by rfl)(hs:starEach [a] X.env=[(false,eval a X.env)]:=by rfl) :
  PI X (.Tuple elts k pt) (.Call (.Name "enumerate" p) [a] [] pos) (zbo3 X.K ta):=by
 intro pins s σ H R I h
 refine Call_ (zal7 I hg hm zal3 (PyProof.Rows.callWith_type1 (thn (ha pos pins s σ H _ I h) fun us s1 ⟨vs,H1,I1,r1,q1⟩=>?_) hs rfl))
 dsimp only at q1
 split at q1
 ·rename_i l
  unfold rEnum at q1
  obtain⟨⟨xs,hq⟩,q⟩:=q1
  obtain⟨u,rfl,rx⟩:=zw6 r1
  cases rx
  obtain⟨its,rv,pl,hz⟩:=I1.list hq
  refine call_enumerate_list pl.isList fun h' he hit hsz hk=>?_
  refine wpAny_pyIter_enum he ?_
  have I2:Inv X pins σ H1 { s1 with heap:=h' }:=I1.kept (t':=s1.toks) hk
  refine⟨s1.heap.objs.size+1,[s1.heap.objs.size,s1.heap.objs.size+1],_,Ite X.K l,H1,rfl,I2,zbj0 l _ _ (Nat.succ_ne_self _),⟨⟨_,he⟩,hit⟩,fun b hb=>?_,q⟩
  have hb':s1.heap.objs.size<=b:=by
   rcases zcf2.mp hb with rfl|hb
   ·exact zcg0 _
   ·have:b=s1.heap.objs.size+1:=by simpa using hb
    subst this
    exact Nat.le_succ _
  exact I1.fpOk hb' (I1.hok.fresh hb')
 ·exact q1.elim
theorem zbk1{elts:List Expr}{k:Nat}{pt:Pos}{a:Expr}{ta:TA}{p:Pos}(hK:X.K=K)(hm:X.mg "enumerate"=none)(ha:PA X [a] ta)(hg:Gl X "enumerate":=by rfl)(hs:starEach [a] X.env=[(false,eval a X.env)]:=by rfl) :
  PI X (.Tuple elts k pt) (.Call (.Name "enumerate" p) [a] [] pos) (zbo3 K ta):=by subst hK;exact piEnum hm ha hg hs
end
section
variable {K:zce1}{g:TG}{tb:TS}{D:Ends}{σ:St}{H:Hp}{R:It->Hp->Prop}
theorem zat2{a:Addr}(h:H a=some (.lst xs))(q:R (Ite K a) H):rEnum K a H R:=by unfold rEnum;exact⟨⟨xs,SqL.of h⟩,q⟩
theorem zaa2{a:Addr}(Pv:Nat->St->Hp->Prop)(h0:Pv 0 σ H)(hl:∀ i σ H,i<=xs.length->Pv i σ H->SqL K H a xs)(hs:∀ i y σ H p H',xs[i]?=some y->Pv i σ H->H p=none->Same H H'->H' p=some (.tup [.int i,y])->g (.ref p) σ H' fun σ2 H2=>tb { D with nx:=Pv (i+1),ct:=Pv (i+1),bk:=D.nx } σ2 H2)(hd:∀ σ H,Pv xs.length σ H->D.nx σ H):zae2 (Ite K a) g tb D σ H:=by
 unfold zae2
 refine⟨fun i m σ H=>m=xs.length - i/\i<=xs.length/\Pv i σ H,⟨xs.length,by simp,zcl0 _,h0⟩,?_⟩
 rintro i m σ H ⟨rfl,hi,p⟩
 have q:=hl i σ H hi p
 by_cases hlt:i<xs.length
 ·refine .inr ⟨⟨xs,xs[i],q,by simp[hlt]⟩,Pv (i+1),fun σ' H' p'=>⟨xs.length - (i+1),by omega,rfl,hlt,p'⟩,fun x H' y=>?_⟩
  obtain⟨pp,yy,rfl,y1,y2,y3,y4⟩:=y
  exact hs i yy σ H pp H' (y4 xs q) p y1 y2 y3
 ·have e:i=xs.length:=by omega
  subst e
  exact .inl ⟨⟨xs,q,zcg0 _⟩,hd σ H p⟩
end
section
variable {X:Cx}{K:zce1}
theorem zao1{x:V}:∀ {xs:List V}{us:List Value},Vals xs us->xs.all zh1=true->us.countP (eqU x)=xs.countP fun y=>eqV y x
 | _,_,.nil,_=>rfl
 | y :: xs,u :: us,.cons r t,f=>by
  rw[List.all_cons,zci7] at f
  rw[zcm9,zcm9,zaw8 r f.1,zao1 t f.2]
@[irreducible] def rCntA(p:Addr)(x:V)(H:Hp)(Q:VK):Prop:=∃ xs,H p=some (.lst xs)/\zh1 x=true/\xs.all zh1=true/\Q (.int (xs.countP fun y=>eqV y x:Nat)) H
def rCntM:Addr->List V->Hp->VK->Prop:=fun p vs H Q=>match vs with
 | [v]=>rCntA p v H Q
 | _=>False
theorem mCount:MtA X "list.count" rCntM:=fun pins s σ H p xs us Q I r h=>by
 unfold rCntM at h
 split at h
 ·rename_i v
  unfold rCntA at h
  obtain⟨ys,h1,h2,h3,h4⟩:=h
  obtain⟨u,rfl,ru⟩:=r.one
  obtain⟨z,its,n,r',hl,e⟩:=I.lstM h1
  refine call_meets F.slot_list_count ⟨_,e,rfl⟩ F.entry_list_count (F.args_list_count_2 _ _) (SeqAt.list_countAt p its.toArray n none #[] u (eqU v)) ⟨e,fun y hy=>zv6 ru h2 r' h3 y (by simpa using hy),?_⟩
  have ec:its.toArray.toList.countP (eqU v)=ys.countP fun y=>eqV y v:=zao1 r' h3
  exact⟨.int _,H,I.tok _,⟨_,by rw[ec]⟩,h4⟩
 ·exact h.elim
theorem cnt_rd{p:Addr}{x:V}(h:H p=some (.lst xs))(h1:zh1 x=true)(h2:xs.all zh1=true)(q:Q (.int (xs.countP fun y=>eqV y x:Nat)) H):rCntA p x H Q:=by unfold rCntA;exact⟨xs,h,h1,h2,q⟩
theorem zbk2{o:Expr}{t:TA}(hK:X.K=K)(ho:PE X o to)(ha:PA X [e] t)(hbase:attributeBase o "count" X.env (eval o X.env)=eval o X.env:=by rfl)(hfew:((backTo cpos (starEach [e] X.env)).all (fun x=>!x.1)&&(backToKw cpos (keywordEach [] X.env)).all (fun x=>x.1.isSome)
   && decide ([e].length+([]:List Keyword).length+(if ([]:List Keyword).isEmpty then 0 else 1)<30))=true:=by rfl)(hline:(apos.endLine==cpos.line)=true:=by rfl)(hs:starEach [e] X.env=(false,eval e X.env) :: starEach [] X.env:=by rfl)(hplain:(backTo cpos (starEach [] X.env)).any (·.1)=false:=by rfl):PE X (.Call (.Attribute o "count" apos) [e] [] cpos) (qBM K rCntM to t):=by
 subst hK
 exact peBM PySem.F.slot_list_count PySem.F.type_list_count mCount ho ha hbase hfew hline hs hplain
end
theorem zr7{k:Int}(h:0<=k):cutV xs (some k) none=xs.drop k.toNat:=by
 show List.take (xs.length - (if k<0 then (k+(xs.length:Int)).toNat else min k.toNat xs.length)) (List.drop (if k<0 then (k+(xs.length:Int)).toNat else min k.toNat xs.length) xs)=_
 rw[if_neg (by omega)]
 by_cases hk:k.toNat<=xs.length
 ·rw[Nat.min_eq_left hk,zci8 (by rw[zcl1];omega)]
 ·rw[Nat.min_eq_right (by omega),List.drop_of_length_le (by omega),List.drop_of_length_le (by omega),List.take_nil]
theorem zq1{k:Int}(h:0<=k):cutV xs none (some k)=xs.take k.toNat:=by
 show List.take ((if k<0 then (k+(xs.length:Int)).toNat else min k.toNat xs.length) - 0) (List.drop 0 xs)=_
 rw[if_neg (by omega),List.drop_zero,Nat.sub_zero]
 by_cases hk:k.toNat<=xs.length
 ·rw[Nat.min_eq_left hk]
 ·rw[Nat.min_eq_right (by omega),zci8 (zcg0 _),zci8 (by omega)]
theorem zbn3:cutV xs none (some (-1))=xs.take (xs.length - 1):=by
 show List.take ((if (-1:Int)<0 then ((-1:Int)+(xs.length:Int)).toNat else min (-1:Int).toNat xs.length) - 0) (List.drop 0 xs)=_
 rw[if_pos (by decide),List.drop_zero,Nat.sub_zero]
 congr 1
 omega
def rowV(n:Nat)(r:Nat->Int):List V:=(List.range n).map fun t=>V.int (r t)
theorem zbm6(n:Nat)(r:Nat->Int):(rowV n r).length=n:=by unfold rowV;simp
theorem zbn5{n:Nat}{r:Nat->Int}(h:i<n):(rowV n r)[i]?=some (.int (r i)):=by unfold rowV;simp[h]
theorem zn2(n:Nat)(r:Nat->Int):rowV n r=((List.range n).map r).map V.int:=by unfold rowV;rw[zck4];rfl
theorem zbs0{v:V}{n:Nat}(h:xs.length=n+1)(e:xs[n]?=some v):atI xs (-1)=some v:=by
 unfold atI ixN
 rw[if_neg (by decide),if_pos (by omega)]
 show xs[((-1:Int)+xs.length).toNat]?=_
 rw[show ((-1:Int)+xs.length).toNat=n by omega];exact e
theorem ixN_in{n:Nat}{i:Int}(h0:0<=i)(h1:i<n):ixN n i=some i.toNat:=by unfold ixN;rw[if_pos h0,if_pos h1]
structure zs7(H:Hp)(a:Addr)(ps:List Addr)(n h:Nat)(g:Nat->Nat->Int):Prop where
 out:H a=some (.lst (ps.map V.ref))
 len:ps.length=n
 row:∀ (i:Nat) (p:Addr),ps[i]?=some p->H p=some (.lst (rowV h (g i)))
theorem zs7.same{a:Addr}{n h:Nat}{g:Nat->Nat->Int}(G:zs7 H a ps n h g)(s:Same H H'):zs7 H' a ps n h g:=⟨s _ _ G.out,G.len,fun i p e=>s _ _ (G.row i p e)⟩
theorem zs7.some{H:Hp}{a:Addr}{ps:List Addr}{n h:Nat}{g:Nat->Nat->Int}(G:zs7 H a ps n h g){i:Nat}(hi:i<n):∃ p,ps[i]?=.some p/\H p=.some (.lst (rowV h (g i))):=by
 have hl:i<ps.length:=by rw[G.len];exact hi
 exact⟨ps[i],zce0 hl,G.row i _ (zce0 hl)⟩
structure Wk(J:It)(n:Nat)(H1:Hp)(X:Nat->V->Hp->Prop):Prop where
 go:∀ i H,Same H1 H->i<n->J.go i H
 stop:∀ H,Same H1 H->J.stop n H
 yld:∀ i H x H',Same H1 H->i<n->J.yld i H x H'->Same H H'/\X i x H'
theorem Wk.range{lo:Int}{n:Nat}:Wk (Itr lo n) n H1 fun i x _=>x=.int (lo+i):=
 ⟨fun i H _ h=>h,fun H _=>zcg0 _,fun i H x H' _ _ y=>by obtain⟨rfl,rfl⟩:=y;exact⟨Same.refl _,rfl⟩⟩
theorem Wk.list{K:zce1}{a:Addr}(h:SqL K H1 a xs):Wk (Itl K a) xs.length H1 fun i x _=>xs[i]?=some x:=
 ⟨fun i H s hi=>⟨xs,xs[i],s.seq h,by simp[hi]⟩,fun H s=>⟨xs,s.seq h,zcg0 _⟩,fun i H x H' s _ y=>by
  obtain⟨e,y⟩:=y
  subst e
  exact⟨Same.refl _,y xs (s.seq h)⟩⟩
structure zy5(H1 H:Hp)(acc:Addr)(ps:List Addr)(n:Nat)(f:Nat->HO):Prop where
 facc:H1 acc=none
 same:Same H1 H
 out:H acc=some (.lst (ps.map V.ref))
 len:ps.length=n
 nd:ps.Nodup
 nin:acc ∉ ps
 row:∀ i p,ps[i]?=some p->H1 p=none/\H p=some (f i)
theorem zy5.free{acc:Addr}{n:Nat}{f:Nat->HO}(F:zy5 H1 H acc ps n f){p:Addr}(h:p∈ps):H1 p=none:=by
 obtain⟨i,hi⟩:=zcl3 h
 exact (F.row i p hi).1
theorem zy5.some{H1 H:Hp}{acc:Addr}{ps:List Addr}{n:Nat}{f:Nat->HO}(F:zy5 H1 H acc ps n f){i:Nat}(hi:i<n):∃ p,ps[i]?=.some p/\H p=.some (f i):=by
 have hl:i<ps.length:=by rw[F.len];exact hi
 exact⟨ps[i],zce0 hl,(F.row i _ (zce0 hl)).2⟩
section
variable {K:zce1}{g:TG}{tt:TT}{te:TE}{σ0:St}{H1:Hp}{Q:VK}{J:It}{n:Nat}{X:Nat->V->Hp->Prop}
theorem zbd8(w:Wk J n H1 X)(hn:n<sizeLine)(f:Nat->HO)(Ps:Nat->St->Prop)(h0:Ps 0 σ0)(turn:∀ i x σ H (R:St->V->Hp->Prop) (S:St->Hp->Prop),i<n->Same H1 H->X i x H->Ps i σ->(∀ σ2 p H5,H p=none->Same H H5->H5 p=some (f i)->Ps (i+1) σ2->R σ2 (.ref p) H5)->g x σ H fun σ2 H3=>tt σ2 H3 fun b H4=>br b (te σ2 H4 fun v H5=>R σ2 v H5) (S σ2 H4))(fin:∀ acc ps H,zy5 H1 H acc ps n f->Q (.ref acc) H):zab8 J g tt te σ0 H1 Q:=by
 unfold zab8
 intro acc H2 hf hs ha
 refine⟨fun i m ys σ H=>m=n - i/\i<=n/\∃ ps:List Addr,ys=ps.map V.ref/\zy5 H1 H acc ps i f/\Ps i σ,⟨n,by simp,zcl0 _,[],rfl,⟨hf,hs,ha,rfl,zcm2,by simp,fun i p e=>by simp at e⟩,h0⟩,?_⟩
 rintro i m ys σ H ⟨rfl,hi,ps,rfl,F,P⟩
 refine⟨F.out,by rw[zcd9,F.len];omega,?_⟩
 by_cases hlt:i<n
 ·refine .inr ⟨w.go i H F.same hlt,fun x H' y=>?_⟩
  obtain⟨s1,x1⟩:=w.yld i H x H' F.same hlt y
  refine turn i x σ H' (fun σ2 v H5=>cPut _ acc (ps.map V.ref) i (n - i) σ2 v H5) (fun σ2 H4=>zam5 _ (ps.map V.ref) i (n - i) σ2 H4) hlt (F.same.trans s1) x1 P ?_
  intro σ2 p H5 fp s5 hp P2
  have fp0:H p=none:=s1.free fp
  have s15:=s1.trans s5
  have na:p≠acc:=Ne.symm (za6 F.out fp0)
  unfold cPut
  refine⟨s15 _ _ F.out,fun H6 c6 h6=>⟨n - (i+1),by omega,rfl,hlt,ps++[p],by rw[zch0];rfl,⟨F.facc,(F.same.trans s15).chg F.facc c6,by rw[zch0];exact h6,by rw[zce6,F.len];rfl,?_,?_,?_⟩,P2⟩⟩
  ·rw[List.nodup_append]
   refine⟨F.nd,by simp,fun a ha b hb=>?_⟩
   have:b=p:=by simpa using hb
   subst this
   obtain⟨k,hk⟩:=zcl3 ha
   exact za6 (F.row k a hk).2 fp0
  ·intro hz
   rcases zch8.mp hz with hz|hz
   ·exact F.nin hz
   ·exact na (by simpa using hz:acc=p).symm
  ·intro k q e
   by_cases hk:k<ps.length
   ·rw[zcg9 hk] at e
    obtain⟨z1,z2⟩:=F.row k q e
    exact⟨z1,c6 _ _ (fun z=>F.nin (z▸zce5 e)) (s15 _ _ z2)⟩
   ·rw[zch2 (by omega)] at e
    have hk2:k - ps.length=0:=by
     have:=(zce2.mp e).1
     simp at this;omega
    rw[hk2] at e
    have:p=q:=by simpa using e
    subst this
    have:k=i:=by have:=F.len;omega
    subst this
    exact⟨F.same.free fp0,c6 _ _ na hp⟩
 ·have e:i=n:=by omega
  subst e
  exact .inl ⟨w.stop H F.same,fin acc ps H F⟩
theorem zp8(w:Wk J n H1 X)(hn:n<sizeLine)(f:Nat->V)(p:Nat->Bool)(Ps:Nat->St->Prop)(h0:Ps 0 σ0)(turn:∀ i x σ H (R:St->V->Hp->Prop) (S:St->Hp->Prop),i<n->Same H1 H->X i x H->Ps i σ->(p i=true->∀ σ2 H5,Same H H5->Ps (i+1) σ2->R σ2 (f i) H5)->(p i=false->∀ σ2 H5,Same H H5->Ps (i+1) σ2->S σ2 H5) ->
   g x σ H fun σ2 H3=>tt σ2 H3 fun b H4=>br b (te σ2 H4 fun v H5=>R σ2 v H5) (S σ2 H4))(fin:∀ acc H,H1 acc=none->Same H1 H->H acc=some (.lst (((List.range n).filter p).map f))->Q (.ref acc) H):zab8 J g tt te σ0 H1 Q:=by
 unfold zab8
 intro acc H2 hf hs ha
 refine⟨fun i m ys σ H=>m=n - i/\i<=n/\ys=((List.range i).filter p).map f/\Same H1 H/\H acc=some (.lst ys)/\Ps i σ,⟨n,by simp,zcl0 _,rfl,hs,ha,h0⟩,?_⟩
 rintro i m ys σ H ⟨rfl,hi,rfl,s,hy,P⟩
 have hlen:(((List.range i).filter p).map f).length<=i:=by
  rw[zcd9]
  have:=List.length_filter_le p (List.range i)
  rwa [zcf8] at this
 refine⟨hy,by omega,?_⟩
 by_cases hlt:i<n
 ·refine .inr ⟨w.go i H s hlt,fun x H' y=>?_⟩
  obtain⟨s1,x1⟩:=w.yld i H x H' s hlt y
  refine turn i x σ H' (fun σ2 v H5=>cPut _ acc _ i (n - i) σ2 v H5) (fun σ2 H4=>zam5 _ _ i (n - i) σ2 H4) hlt (s.trans s1) x1 P ?_ ?_
  ·intro hp σ2 H5 s5 P2
   unfold cPut
   refine⟨s5 _ _ (s1 _ _ hy),fun H6 c6 h6=>⟨n - (i+1),by omega,rfl,hlt,?_,((s.trans s1).trans s5).chg hf c6,h6,P2⟩⟩
   rw[List.range_succ,List.filter_append,zch0]
   congr 1
   simp[hp]
  ·intro hp σ2 H5 s5 P2
   unfold zam5
   refine⟨n - (i+1),by omega,rfl,hlt,?_,(s.trans s1).trans s5,s5 _ _ (s1 _ _ hy),P2⟩
   rw[List.range_succ,List.filter_append,zch0]
   simp[hp]
 ·have e:i=n:=by omega
  subst e
  exact .inl ⟨w.stop H s,fin acc H hf s hy⟩
theorem zl4(n:Nat):(List.range n).filter (fun _=>true)=List.range n:=by simp
end
def ChgS(ps:List Addr)(H H':Hp):Prop:=∀ b o,b ∉ ps->H b=some o->H' b=some o
theorem ChgS.refl(ps:List Addr)(H:Hp):ChgS ps H H:=fun _ _ _ e=>e
theorem ChgS.same(x:ChgS ps H H1)(y:Same H1 H2):ChgS ps H H2:=fun b o h e=>y b o (x b o h e)
theorem Same.chgS{H0:Hp}(s:Same H0 H)(n:∀ p∈ps,H0 p=none)(c:ChgS ps H H'):Same H0 H':=fun b o e=>c b o (fun z=>by rw[n b z] at e;cases e) (s b o e)
theorem EqR.intL{K:zce1}{a b:Addr}{xs ys:List Int}(ha:SqL K H a (xs.map V.int))(hb:SqL K H b (ys.map V.int)):EqR K H 1 (.ref a) (.ref b) (decide (xs=ys)):=by
 by_cases hl:xs.length=ys.length
 ·have h:=EqR.lst (K:=K) (H:=H) (n:=0) (fun j=>decide (xs[j]?=ys[j]?)) ha hb (by simpa using hl) (fun j x y hx hy=>by
   rw[zce3] at hx hy
   obtain⟨i,e1,rfl⟩:=zce7.mp hx
   obtain⟨k,e2,rfl⟩:=zce7.mp hy
   have e:eqV (.int i) (.int k)=decide (xs[j]?=ys[j]?):=by
    rw[e1,e2]
    by_cases z:i=k
    ·subst z;simp[eqV]
    ·simp[eqV,z]
   rw[← e]
   exact EqR.flat rfl rfl)
  have e:(List.range (xs.map V.int).length).all (fun j=>decide (xs[j]?=ys[j]?))=decide (xs=ys):=by
   rw[zcl6,zcj7,decide_eq_true_iff]
   constructor
   ·intro q
    apply zcj2
    intro j
    by_cases hj:j<xs.length
    ·exact of_decide_eq_true (q j (zcm1.mpr (by simpa using hj)))
    ·rw[zcf9 (by omega),zcf9 (by omega)]
   ·rintro rfl j _
    exact decide_eq_true rfl
  rw[e] at h
  exact h
 ·have:decide (xs=ys)=false:=decide_eq_false fun e=>hl (by rw[e])
  rw[this]
  exact EqR.lstN ha hb (by simpa using hl)
theorem zaw4(n:Nat):(List.range n).all (fun _=>true)=true:=by simp
theorem EqR.allT{K:zce1}{a b:Addr}{ys:List V}{n:Nat}(ha:SqL K H a xs)(hb:SqL K H b ys)(hl:xs.length=ys.length)(h:∀ (j:Nat) (x y:V),xs[j]?=some x->ys[j]?=some y->EqR K H n x y true):EqR K H (n+1) (.ref a) (.ref b) true:=by
 have:=EqR.lst (fun _=>true) ha hb hl h
 rwa [zaw4] at this
theorem EqR.rows{K:zce1}{a b:Addr}{qs:List Addr}(ha:SqL K H a (ps.map V.ref))(hb:SqL K H b (qs.map V.ref))(hl:ps.length=qs.length)(h:∀ (i:Nat) (p q:Addr),ps[i]?=some p->qs[i]?=some q->∃ xs:List Int,SqL K H p (xs.map V.int)/\SqL K H q (xs.map V.int)):EqR K H 2 (.ref a) (.ref b) true:=by
 refine EqR.allT ha hb (by simpa using hl) fun j x y hx hy=>?_
 rw[zce3] at hx hy
 obtain⟨p,e1,rfl⟩:=zce7.mp hx
 obtain⟨q,e2,rfl⟩:=zce7.mp hy
 obtain⟨xs,h1,h2⟩:=h j p q e1 e2
 have:=EqR.intL h1 h2
 rwa [decide_eq_true rfl] at this
def Itd(hi:Int)(n:Nat):It:=⟨fun i _=>i<n,fun i H x H'=>H'=H/\x=.int (hi - i),fun i _=>n<=i⟩
section
variable {X:Cx}{tg:Expr}
@[irreducible] def zbu7(i j:Int)(H:Hp)(R:It->Hp->Prop):Prop:=(-(2 ^ 62)<=i/\i<2 ^ 62/\-(2 ^ 62)<=j/\j<2 ^ 62)/\R (Itd i (i - j).toNat) H
def qiRngD(ta:TA):TI:=fun σ H R=>ta σ H fun vs H1=>match vs with
 | [.int i,.int j,.int (-1)]=>zbu7 i j H1 R
 | _=>False
end
section
variable {X:Cx}{K:zce1}
def qBM0(K:zce1)(r:Addr->List V->Hp->VK->Prop)(to:TE):TE:=fun σ H Q=>to σ H fun x H1=>match x with
 | .ref p=>zah9 K p H1 (r p [] H1 Q)
 | _=>False
theorem peBM0{o:Expr}{name:Str}{id:String}{r:Addr->List V->Hp->VK->Prop}(slot:Slot "list" name id)(hty:typeOf (.builtin id)=pure (.type "method_descriptor"))(hm:MtA X id r)(ho:PE X o to)(hbase:attributeBase o name X.env (eval o X.env)=eval o X.env:=by rfl)(hline:(apos.endLine==cpos.line)=true:=by rfl) :
  PE X (.Call (.Attribute o name apos) [] [] cpos) (qBM0 X.K r to):=by
 intro pins s σ H Q I h
 refine wpAny_Call_method0_late hbase hline (thn (ho pins s σ H _ I h) fun v s1 ⟨x,H1,I1,r1,q1⟩=>?_)
 dsimp only at q1
 split at q1
 ·rename_i p
  unfold zah9 at q1
  obtain⟨hq,q1⟩:=q1
  obtain⟨h1,h2⟩:=zbc8 (T:="list") I1 r1 (.inl ⟨rfl,hq⟩)
  cases r1
  exact⟨"list",id,PySem.F.plainAttrs_list,slot,hty,h1,h2,Calls.callWith_builtin rfl (PySem.evalArgs_none (hm pins s1 σ H1 p [] [] Q I1 .nil q1))⟩
 ·exact q1.elim
@[irreducible] def rRevA(p:Addr)(H:Hp)(Q:VK):Prop:=∃ xs,H p=some (.lst xs)/\∀ H',Chg p H H'->H' p=some (.lst xs.reverse)->Q .non H'
@[irreducible] def rExtA(p b:Addr)(H:Hp)(Q:VK):Prop:=∃ xs zs,H p=some (.lst xs)/\H b=some (.lst zs)/\xs.length+zs.length<=sizeLine/\∀ H',Chg p H H'->H' p=some (.lst (xs++zs))->Q .non H'
def rRevM:Addr->List V->Hp->VK->Prop:=fun p vs H Q=>match vs with
 | []=>rRevA p H Q
 | _=>False
def rExtM:Addr->List V->Hp->VK->Prop:=fun p vs H Q=>match vs with
 | [.ref b]=>rExtA p b H Q
 | _=>False
theorem zbk4:MtA X "list.reverse" rRevM:=fun pins s σ H p xs us Q I r h=>by
 unfold rRevM at h
 split at h
 ·unfold rRevA at h
  obtain⟨ys,h1,h2⟩:=h
  exact zba9 pins s σ H (.ref p) [] (.ref p) us Q I rfl r ⟨p,ys,rfl,rfl,h1,h2 _ Chg.upd zc3⟩
 ·exact h.elim
theorem zbq6:MtA X "list.extend" rExtM:=fun pins s σ H p xs us Q I r h=>by
 unfold rExtM at h
 split at h
 ·unfold rExtA at h
  obtain⟨ys,zs,h1,h2,h3,h4⟩:=h
  exact zbd1 pins s σ H (.ref p) _ (.ref p) us Q I rfl r ⟨p,_,ys,zs,rfl,rfl,h1,h2,h3,h4 _ Chg.upd zc3⟩
 ·exact h.elim
theorem zar3{o:Expr}(hK:X.K=K)(ho:PE X o to)(hbase:attributeBase o "reverse" X.env (eval o X.env)=eval o X.env:=by rfl)(hline:(apos.endLine==cpos.line)=true:=by rfl):PE X (.Call (.Attribute o "reverse" apos) [] [] cpos) (qBM0 K rRevM to):=by
 subst hK
 exact peBM0 PySem.F.slot_list_reverse PySem.F.type_list_reverse zbk4 ho hbase hline
theorem zba4{o:Expr}{t:TA}(hK:X.K=K)(ho:PE X o to)(ha:PA X [e] t)(hbase:attributeBase o "extend" X.env (eval o X.env)=eval o X.env:=by rfl)(hfew:((backTo cpos (starEach [e] X.env)).all (fun x=>!x.1)&&(backToKw cpos (keywordEach [] X.env)).all (fun x=>x.1.isSome)
   && decide ([e].length+([]:List Keyword).length+(if ([]:List Keyword).isEmpty then 0 else 1)<30))=true:=by rfl)(hline:(apos.endLine==cpos.line)=true:=by rfl)(hs:starEach [e] X.env=(false,eval e X.env) :: starEach [] X.env:=by rfl)(hplain:(backTo cpos (starEach [] X.env)).any (·.1)=false:=by rfl):PE X (.Call (.Attribute o "extend" apos) [e] [] cpos) (qBM K rExtM to t):=by
 subst hK
 exact peBM PySem.F.slot_list_extend PySem.F.type_list_extend zbq6 ho ha hbase hfew hline hs hplain
theorem rev_rd{p:Addr}(h:H p=some (.lst xs))(q:∀ H',Chg p H H'->H' p=some (.lst xs.reverse)->Q .non H'):rRevA p H Q:=by unfold rRevA;exact⟨xs,h,q⟩
theorem ext_rd{p b:Addr}{zs:List V}(h:H p=some (.lst xs))(h2:H b=some (.lst zs))(hz:xs.length+zs.length<=sizeLine)(q:∀ H',Chg p H H'->H' p=some (.lst (xs++zs))->Q .non H'):rExtA p b H Q:=by unfold rExtA;exact⟨xs,zs,h,h2,hz,q⟩
theorem zax1{α β:Type}{f g:α->Option β}:∀ {l:List α},(∀ a∈l,f a=g a)->l.filterMap f=l.filterMap g
 | [],_=>rfl
 | a :: l,h=>by
  rw[zcl9,zcl9,h a zcg1,zax1 fun b hb=>h b (zcf5 _ hb)]
theorem zai7(its:List Value):slicePick its.toArray none none (some (-1))=its.reverse.toArray:=by
 unfold slicePick sliceBounds sliceRange
 simp only[Option.getD_some,show ¬ (-1:Int)>0 by decide,if_false,zce4]
 by_cases h0:its.length=0
 ·have:its=[]:=List.length_eq_zero_iff.mp h0
  subst this
  rfl
 ·have hgt:((its.length:Int) - 1) > -1:=by omega
  simp only[hgt,if_true]
  have e1:(((its.length:Int) - 1 - -1 - -1 - 1) / (- -1)).toNat=its.length:=by
   rw[show -(-1:Int)=1 by decide,Int.ediv_one];omega
  rw[e1]
  congr 1
  rw[List.filterMap_map]
  have hk:∀ k∈List.range its.length,((fun x=>its.toArray[x]?)∘fun k:Nat=>((its.length:Int) - 1+-1*(k:Int)).toNat) k=(some∘fun k=>its.getD (its.length - 1 - k) .none) k:=fun k hk=>by
   have hk:=zcm1.mp hk
   show its.toArray[((its.length:Int) - 1+-1*(k:Int)).toNat]?=some (its.getD (its.length - 1 - k) .none)
   rw[show ((its.length:Int) - 1+-1*(k:Int)).toNat=its.length - 1 - k by omega,List.getElem?_toArray,zce9,zce0 (by omega)]
   rfl
  rw[zax1 hk,List.filterMap_eq_map]
  apply zcj2
  intro i
  by_cases hi:i<its.length
  ·rw[zce3,zci1 hi,zck9 hi,zce0 (by omega)]
   show some (its.getD (its.length - 1 - i) .none)=_
   rw[zce9,zce0 (by omega)]
   rfl
  ·rw[zcf9 (by simp;omega),zcf9 (by simp;omega)]
@[irreducible] def rRvA(K:zce1)(a:Addr)(H:Hp)(Q:VK):Prop:=∃ xs,SqL K H a xs/\∀ p H',H p=none->Same H H'->H' p=some (.lst xs.reverse)->Q (.ref p) H'
def qRv(K:zce1)(te:TE):TE:=fun σ H Q=>te σ H fun x H1=>match x with
 | .ref a=>rRvA K a H1 Q
 | _=>False
theorem peRv{p1 p2 p3:Pos}(hK:X.K=K)(he:PE X e te):PE X (.Subscript e (.Slice none none (some (.UnaryOp .USub (.Constant (.int 1) 0 p1) p3)) p2) pos) (qRv K te):=by
 subst hK
 intro pins s σ H Q I h
 refine Subscript_ (thn (he pins s σ H _ I h) fun v s1 ⟨x,H1,I1,r1,q1⟩=>?_)
 dsimp only at q1
 split at q1
 case h_2=>exact q1.elim
 rename_i a
 unfold rRvA at q1
 obtain⟨xs,hx,q⟩:=q1
 refine wpAny_Slice ?_
 rw[evalPart_none]
 refine zcn4 (zcn4 ?_)
 rw[evalPart_some]
 refine thn (zx1 (X:=X) uNeg za2 pins s1 σ H1 (fun y H2=>y=.int (-1)/\H2=H1) I1 ⟨rfl,rfl⟩) fun u s2 ⟨y,H2,I2,r2,q2⟩=>?_
 obtain⟨rfl,rfl⟩:=q2
 obtain⟨t,rfl⟩:=r2
 cases r1
 have I4:Inv X pins σ H2 { s2 with heap:=s2.heap.push { cls:=.type "slice",data:=.fields #[.none,.none,.int (-1) t] } }:=I2.kept (t':=s2.toks) fun b ob q=>zcf3 _ q
 obtain⟨its,r,ht,hz⟩:=I4.list hx
 have hlen:=r.length
 refine tail_any (ops:=[.ref a,.ref s2.heap.objs.size]) ht.isList.typeIs F.slot_list_getitem.lookup ?_ (by with_unfolding_all rfl)
 refine wpAny_getItem_list_slice ht.isList (Heap.IsSliceOf.new ..) .none .none (.int (-1) t) (by simp) ?_ (by rw[zce4]<;>omega)
 rw[zai7]
 have hf:=I4.hok.fresh (zcg0 _)
 refine⟨.ref _,_,I4.laid (t':=s2.toks) (o:=.lst xs.reverse) (fun b ob q=>zcf3 _ q) (zcg0 _) ?_,rfl,q _ _ hf (Same.upd hf) zc3⟩
 exact⟨by rw[zci6];exact hz,_,0,r.reverse,zch7 _ rfl⟩
theorem rv_rd{a:Addr}(h:SqL K H a xs)(q:∀ p H',H p=none->Same H H'->H' p=some (.lst xs.reverse)->Q (.ref p) H'):rRvA K a H Q:=by unfold rRvA;exact⟨xs,h,q⟩
theorem ptW{t:TT}(h:PW X e t):PT X e t:=h.pt
end
def ExAt(B h:Heap)(e:Addr)(cls:Value)(dx:Option Addr):Prop:=
 ∃ (oe:Obj) (vs:Array Value),h.get? e=some oe/\oe.cls=cls/\oe.dict=dx/\oe.data=.fields vs/\1<vs.size /\
  (vs[1]?=some .none∨∃ (T:Addr) (oT:Obj) (ts:Array Value),vs[1]?=some (.ref T)/\B.get? T=none/\T≠e/\h.get? T=some oT/\oT.data=.fields ts/\3<ts.size/\ts[3]?=some .none)
def Th(h h':Heap):Prop:=∀ b o,h.get? b=some o->∃ o',h'.get? b=some o'
structure FlyX(B:Heap)(l:List Env)(e:Addr)(cls:Value)(dx:Option Addr)(h:Heap):Prop where
 stays:B.StaysIn h
 new:B.get? e=none
 frames:h.FunFrames B l
 ex:ExAt B h e cls dx
section
variable {M:Model}{A:Around}{E:Value->Shared->Prop}{s:Shared}{B:Heap}{env:Env}{outer:List Env}{L e:Addr}{cls:Value}{dx:Option Addr}{Q:Unit->Shared->Prop}
theorem zaa8(f:Array Value->Array Value)(o:Obj):(Obj.mapFields f o).cls=o.cls/\(Obj.mapFields f o).dict=o.dict:=by
 obtain⟨c,d,dt,sl⟩:=o
 cases dt<;>exact⟨rfl,rfl⟩
theorem zan0{head:Value}{hn:Bool}{oe:Obj}{vs:Array Value}(hfr:A.frames=some (env :: outer))(hf:env.frame=some L)(f1:B.StaysIn s.heap)(f2:B.get? e=none)(f3:s.heap.FunFrames B (env :: outer))(he:s.heap.get? e=some oe)(hc:oe.cls=cls)(hdx:oe.dict=dx)(hd:oe.data=.fields vs)(hsz:1<vs.size)(hQ:∀ h',FlyX B (env :: outer) e cls dx h'->s.heap.UpToSlots h'->Th s.heap h'->Q () { s with heap:=h' }) :
  wpAny M A (do let a ← frameOf env;let pl ← entryPlaceOf L hn;let b ← EntryCells.newEntry head a .none (rawInt L) .none pl;setField (.ref e) 1 b) (fun _ s1=>wpAny M A (setFlight (.ref e) none) Q E s1) E s:=by
 have hene:e ∉ (env :: outer).filterMap (·.frame):=fun hm=>by
  obtain⟨_,o,ho,hnf⟩:=f3.mem hm
  rw[he] at ho
  cases ho
  exact hnf vs hd
 refine zcn3 (wpAny_frameOf_fun hfr f3 hf fun g hg=>zcn3 (wpAny_entryPlaceOf fun pl hpl=>?_))
 refine zcn3 (wpAny_newObj_type ?_ (hpl.sizeOk5 _ _ _ _ _))
 have e1:g.get? e=some oe:=(hg.2.1 e hene).trans he
 have lt1:=zcf6 e1
 generalize hO:({ cls:=.type "traceback",data:=.fields ([head,.ref L,.none,rawInt L,.none]++(if pl.isEmpty then List.replicate 6 Value.none else pl)).toArray }:Obj)=O
 have hOd:O.data=.fields ([head,.ref L,.none,rawInt L,.none]++(if pl.isEmpty then List.replicate 6 Value.none else pl)).toArray:=by rw[← hO]
 have hOz:3<([head,.ref L,.none,rawInt L,.none]++(if pl.isEmpty then List.replicate 6 Value.none else pl)).toArray.size:=by simp
 have hOf:O.isFreed=false:=by rw[← hO];rfl
 generalize ([head,.ref L,.none,rawInt L,.none]++(if pl.isEmpty then List.replicate 6 Value.none else pl)).toArray=ts at hOd hOz
 have e2:(g.push O).get? e=some oe:=zcf3 _ e1
 have t2:(g.push O).get? g.objs.size=some O:=zch7 _ hOf
 have nT:g.objs.size≠e:=zcn1 lt1
 refine wpAny_setField e2 hd hsz ?_
 have d3:=Obj.data_mapFields hd (fun a=>a.setIfInBounds 1 (Value.ref g.objs.size))
 have e3:=zcj9 (Obj.mapFields fun a=>a.setIfInBounds 1 (Value.ref g.objs.size)) e2 (Obj.isFreed_of_fields d3)
 have t3:=(zcg3 (g.push O) (Obj.mapFields fun a=>a.setIfInBounds 1 (Value.ref g.objs.size)) (Ne.symm nT)).trans t2
 unfold setFlight
 refine zcn3 (wpAny_field e3 d3 (x:=.ref g.objs.size) (by simp[hsz]) ?_)
 rw[if_pos (by simp)]
 refine wpAny_setField t3 hOd hOz (hQ _ ?_ ?_ ?_)
 ·have kp:∀ b o,b≠e->g.get? b=some o->(((g.push O).update e (Obj.mapFields fun a=>a.setIfInBounds 1 (Value.ref g.objs.size))).update g.objs.size (Obj.mapFields fun a=>a.setIfInBounds 3 Value.none)).get? b=some o:=fun b o hb hz=>by
   rw[zcg3 _ _ (zcn1 (zcf6 hz)),zcg3 _ _ (Ne.symm hb)]
   exact zcf3 _ hz
  have d4:=Obj.data_mapFields hOd (fun a=>a.setIfInBounds 3 Value.none)
  have t4:=zcj9 (Obj.mapFields fun a=>a.setIfInBounds 3 Value.none) t3 (Obj.isFreed_of_fields d4)
  have e4:=(zcg3 ((g.push O).update e (Obj.mapFields fun a=>a.setIfInBounds 1 (Value.ref g.objs.size))) (Obj.mapFields fun a=>a.setIfInBounds 3 Value.none) nT).trans e3
  have pf:=zaa8 (fun a=>a.setIfInBounds 1 (Value.ref g.objs.size)) oe
  refine⟨fun b o hb=>kp b o (fun z=>by rw[z,f2] at hb;cases hb) ((hg.2.1 b fun hm=>by rw[(f3.mem hm).1] at hb;cases hb).trans (f1 b o hb)),f2,f3.of_keeps fun b o hb hnf=>?_,_,_,e4,pf.1.trans hc,pf.2.trans hdx,d3,by simpa using hsz,.inr ⟨_,_,_,by simp[hsz],?_,nT,t4,d4,by simpa using hOz,by simp[hOz]⟩⟩
  ·obtain⟨sl,hs⟩:=hg.2.2 b o hb
   refine⟨_,kp b _ (fun z=>?_) hs,rfl⟩
   rw[z,he] at hb
   cases hb
   exact hnf vs hd
  ·cases q:B.get? g.objs.size with
   | none=>rfl
   | some o=>
    have z1:=f1 _ _ q
    have z2:=(hg.2.1 _ fun hm=>by rw[(f3.mem hm).1] at q;cases q).trans z1
    exact absurd (zcf6 z2) (zcm7 _)
 ·intro b o hb hnf
  obtain⟨sl,hs⟩:=hg.2.2 b o hb
  refine⟨sl,?_⟩
  rw[zcg3 _ _ (zcn1 (zcf6 hs)),zcg3 _ _ (fun z=>?_)]
  ·exact zcf3 _ hs
  ·rw[← z,he] at hb
   cases hb
   exact hnf vs hd
 ·intro b o hb
  by_cases hbe:b=e
  ·subst hbe
   exact⟨_,(zcg3 _ _ nT).trans e3⟩
  ·obtain⟨sl,hs⟩:=hg.2.2 b o hb
   refine⟨{ o with slots:=sl },?_⟩
   rw[zcg3 _ _ (zcn1 (zcf6 hs)),zcg3 _ _ (Ne.symm hbe)]
   exact zcf3 _ hs
theorem zax4(hfr:A.frames=some (env :: outer))(hf:env.frame=some L)(F:FlyX B (env :: outer) e cls dx s.heap)(hQ:∀ h',FlyX B (env :: outer) e cls dx h'->s.heap.UpToSlots h'->Th s.heap h'->Q () { s with heap:=h' }):wpAny M A (noteFrame (.ref e) env) (fun _ s1=>wpAny M A (setFlight (.ref e) none) Q E s1) E s:=by
 obtain⟨f1,f2,f3,oe,vs,he,hc,hdx,hd,hsz,hT⟩:=F
 unfold noteFrame
 rw[hf]
 rcases hT with h1|⟨T,oT,ts,h1,bT,nT,gT,dT,zT,vT⟩
 ·refine zcn3 (wpAny_field he hd h1 ?_)
  dsimp only
  rw[if_neg (by simp)]
  exact zan0 hfr hf f1 f2 f3 he hc hdx hd hsz hQ
 ·refine zcn3 (wpAny_field he hd h1 ?_)
  dsimp only
  rw[if_pos (by simp)]
  refine zcn3 (wpAny_field gT dT vT ?_)
  rw[if_neg (by simp[rawInt])]
  refine zcn3 (wpAny_setField gT dT zT ?_)
  have ne:∀ b o,s.heap.get? b=some o->(∀ vs,o.data≠.fields vs)->b≠T:=fun b o hb hnf z=>by
   rw[z,gT] at hb
   cases hb
   exact hnf ts dT
  have kp:∀ b o,b≠T->s.heap.get? b=some o->(s.heap.update T (Obj.mapFields fun a=>a.setIfInBounds 3 Value.none)).get? b=some o:=fun b o hb hz=>by
   rw[zcg3 _ _ (Ne.symm hb)];exact hz
  refine zan0 (s:={ s with heap:=s.heap.update T (Obj.mapFields fun a=>a.setIfInBounds 3 Value.none) }) hfr hf (fun b o hb=>kp b o (fun z=>by rw[z,bT] at hb;cases hb) (f1 b o hb)) f2 (f3.of_keeps fun b o hb hnf=>⟨o,kp b o (ne b o hb hnf) hb,rfl⟩)
   (kp e oe (Ne.symm nT) he) hc hdx hd hsz fun h' F' U W=>hQ h' F' (fun b o hb hnf=>U b o (kp b o (ne b o hb hnf) hb) hnf) fun b o hb=>?_
  by_cases hbT:b=T
  ·subst hbT
   exact W b _ (zcj9 (Obj.mapFields fun a=>a.setIfInBounds 3 Value.none) gT (Obj.isFreed_of_fields (Obj.data_mapFields dT _)))
  ·exact W b o (kp b o hbT hb)
theorem zbv0(F:FlyX B outer e cls dx s.heap)(hQ:∀ h',FlyX B outer e cls dx h'->s.heap.UpToSlots h'->Th s.heap h'->Q () { s with heap:=h' }):wpAny M A (setFlight (.ref e) none) Q E s:=by
 obtain⟨f1,f2,f3,oe,vs,he,hc,hdx,hd,hsz,hT⟩:=F
 unfold setFlight
 rcases hT with h1|⟨T,oT,ts,h1,bT,nT,gT,dT,zT,vT⟩
 ·refine zcn3 (wpAny_field he hd h1 ?_)
  rw[if_neg (by simp)]
  exact zcn4 (hQ s.heap ⟨f1,f2,f3,oe,vs,he,hc,hdx,hd,hsz,.inl h1⟩ (Heap.UpToSlots.refl _) fun b o hb=>⟨o,hb⟩)
 ·refine zcn3 (wpAny_field he hd h1 ?_)
  rw[if_pos (by simp)]
  refine wpAny_setField gT dT zT ?_
  have kp:∀ b o,b≠T->s.heap.get? b=some o->(s.heap.update T (Obj.mapFields fun a=>a.setIfInBounds 3 Value.none)).get? b=some o:=fun b o hb hz=>by
   rw[zcg3 _ _ (Ne.symm hb)];exact hz
  have ne:∀ b o,s.heap.get? b=some o->(∀ vs,o.data≠.fields vs)->b≠T:=fun b o hb hnf z=>by
   rw[z,gT] at hb
   cases hb
   exact hnf ts dT
  have d4:=Obj.data_mapFields dT (fun a=>a.setIfInBounds 3 Value.none)
  have t4:=zcj9 (Obj.mapFields fun a=>a.setIfInBounds 3 Value.none) gT (Obj.isFreed_of_fields d4)
  exact hQ _ ⟨fun b o hb=>kp b o (fun z=>by rw[z,bT] at hb;cases hb) (f1 b o hb),f2,f3.of_keeps fun b o hb hnf=>⟨o,kp b o (ne b o hb hnf) hb,rfl⟩,oe,vs,kp e oe (Ne.symm nT) he,hc,hdx,hd,hsz,
   .inr ⟨T,_,_,h1,bT,nT,t4,d4,by simpa using zT,by simp[zT]⟩⟩ (fun b o hb hnf=>⟨o.slots,kp b o (ne b o hb hnf) hb⟩) fun b o hb=>(Classical.em (b=T)).elim (fun z=>by subst z;exact⟨_,t4⟩) fun z=>⟨o,kp b o z hb⟩
theorem zbj3(hfr:A.frames=some (env :: outer))(hf:env.frame=some L)(F:FlyX B (env :: outer) e cls dx s.heap)(hQ:∀ h',FlyX B outer e cls dx h'->s.heap.UpToSlots h'->Th s.heap h'->Q () { s with heap:=h' }):wpAny M A (leaving env (.ref e)) Q E s:=by
 unfold leaving
 exact zcn3 (zax4 hfr hf F fun h' F' U W=>hQ h' ⟨F'.stays,F'.new,F'.frames.2.2,F'.ex⟩ U W)
end
structure zx9(X:Cx)(pins:List (Addr×Obj))(σ:St)(H:Hp)(B:Heap)(e:Addr)(cls:Value)(dx:Option Addr)(s:Shared):Prop where
 inv:Inv X pins σ H s
 hok:HOk X.prog X.w H B
 fly:FlyX B X.stack e cls dx s.heap
 kb:∀ b o,X.s₀.heap.get? b=some o->X.H₀ b=none->b ∉ X.fs->b ∉ X.ex->B.get? b=some o
 en:∀ o,X.s₀.heap.get? e=some o->e∈X.ex
def CXR(P:Program)(w:World):CXT:=fun outer H s E e s'=>∃ (ea:Addr) (cls:Value) (dx:Option Addr) (H':Hp) (B:Heap),e=.ref ea/\s'.os=s.os/\AllBare s'.gens/\HOk P w H' B/\FlyX B outer ea cls dx s'.heap /\
 Un (frs outer) [] H H' s.heap s'.heap/\(∀ b o,s.heap.get? b=some o->H b=none->b ∉ frs outer->B.get? b=some o)/\(∀ o,s.heap.get? ea≠some o)/\E cls dx H'
section
variable {X:Cx}{pins:List (Addr×Obj)}{σ:St}{H:Hp}{s s':Shared}
theorem zab6(I:Inv X pins σ H s){b:Addr}{o:Obj}(e:X.s₀.heap.get? b=some o)(h:b ∉ X.fs):b ∉ frs X.stack:=fun hm=>by
 rcases zcf2.mp (I.stkSub b hm) with z|z
 ·exact absurd (zcg6 (zcf6 e) I.ok.above) (by rw[z];exact zcm7 _)
 ·exact h z
theorem zx9.of_call{E:XK}{e:Value}(I:Inv X pins σ H s)(h:CXR X.prog X.w X.stack H s E e s'):∃ (ea:Addr) (cls:Value) (dx:Option Addr) (H':Hp) (B:Heap),e=.ref ea/\zx9 X pins σ H' B ea cls dx s'/\E cls dx H':=by
 obtain⟨ea,cls,dx,H',B,rfl,os,bare,hok,fly,un,kb,en,hE⟩:=h
 refine⟨ea,cls,dx,H',B,rfl,⟨I.call' os un (hok.kept fly.stays) bare (fun b hb=>absurd hb (by simp)),hok,fly,fun b o e n h1 h2=>?_,fun o e=>?_⟩,hE⟩
 ·have k:=I.base.keep b o e n h1 h2
  exact kb b o k (I.base.free b o e n h2) (zab6 I e h1)
 ·apply Classical.byContradiction
  intro hx
  obtain⟨o',k⟩:=I.base.there ea o e hx
  exact en o' k
def XOut(X:Cx)(E:XK):Prop:=∀ (pins:List (Addr×Obj)) (σ:St) (H:Hp) (B:Heap) (e:Addr) (cls:Value) (dx:Option Addr) (s:Shared),zx9 X pins σ H B e cls dx s->E cls dx H->X.xe (.ref e) s
theorem passR{E:XK}(hx:XOut X E):zaa3 (CXR X.prog X.w) X E:=fun pins σ H s e s' I h=>by
 obtain⟨ea,cls,dx,H',B,rfl,F,hE⟩:=zx9.of_call I h
 exact hx _ _ _ _ _ _ _ _ F hE
theorem zbp5{P:Program}{w:World}:zaa3 (CXR P w) X E0:=fun _ _ _ _ _ _ _ h=>by
 obtain⟨_,_,_,_,_,_,_,_,_,_,_,_,_,h⟩:=h
 exact (show False from h).elim
end
theorem xout{P:Program}{w:World}{K:zce1}{mg:Str->Option Value}{base:Heap}{N:List Str}{cd:Value}{A:Around}{outer:List Env}{s:Shared}{E:XK} :
  XOut (cxOf (CXR P w) P w K mg base N qual scope f cd A outer s H E) E:=fun pins σ H' B e cls dx s' F hE=>by
 have I:=F.inv
 refine zbj3 (outer:=outer) I.ok.frames (rfl:(envOfC qual scope s.heap.objs.size f cd).frame=some s.heap.objs.size) F.fly fun h' F' U W=>?_
 have kb:∀ b o,s.heap.get? b=some o->H b=none->b ∉ frs outer->B.get? b=some o:=fun b o e n h1=>F.kb b o e n h1 (by exact zcg2)
 refine⟨e,cls,dx,H',B,rfl,I.os,I.bare,F.hok,F',?_,kb,fun o z=>absurd (F.en o z) (by exact zcg2),hE⟩
 have un:Un (frs outer) [] H H' s.heap s'.heap:=I.base
 refine⟨fun b o e n h1 _=>F'.stays _ _ (kb b o e n h1),fun b o e n h1 h2=>?_,un.free,fun b o e h2=>?_,un.tups,un.frzs,un.tbls⟩
 ·obtain⟨sl,k⟩:=un.slot b o e n h1 h2
  obtain⟨_,o2,ho2,hd⟩:=I.ok.funs.mem h1
  have:o2=o:=Option.some.inj (ho2.symm.trans e)
  subst this
  obtain⟨sl',k'⟩:=U b _ k hd
  exact⟨sl',k'⟩
 ·obtain⟨o',k⟩:=un.there b o e h2
  exact W b o' k
section
variable {P:Program}{w:World}{K:zce1}{mg:Str->Option Value}{base:Heap}
theorem Fun.okR{x:Str}{fd:FuncData}{N ps:List Str}{k:Nat}(F:Fun K x qual st f fd)(S:zb3 N ps (za5 st))(len:∀ vs H Q E,sp vs H Q E->vs.length=ps.length)(hbody:∀ (cdv:Value) (A:Around) (outer:List Env) (s:Shared) (H:Hp) (vs:List V) (Q:VK) (E:XK),Room k (A.deeper (envOfC qual (za5 st) s.heap.objs.size f cdv))->XOut (cxOf (CXR P w) P w K mg base N qual (za5 st) f cdv A outer s H E) E->sp vs H Q E ->
   ∃ t,PSs (cxOf (CXR P w) P w K mg base N qual (za5 st) f cdv A outer s H E) (zl8 st) t/\t { nx:=fun _ H'=>Q .non H',rt:=Q } (zaj4 N vs) H):FnOk P w K mg base (CXR P w) (k+1) f fd ps sp:=by
 obtain⟨oc,od,kV,doc,pm,an,cdv,ct,osl,rfl,lk,hcd⟩:=F.ex
 refine fn_of lk hcd S len fun A outer s H vs Q E hr hsp=>?_
 exact hbody cdv A outer s H vs Q E hr xout hsp
end
set_option maxHeartbeats 4000000
structure ExcK(K:zce1)(D:Addr):Prop where
 h1:zch4 K (.ref D) "__getattribute__"=some (some (.builtin "BaseException.__getattribute__"))
 h2:zch4 K (.ref D) "__getattr__"=some none
 h3:zch4 K (.ref D) "__class__"=some (some (.builtin "object.__class__"))
 h4:zcg4 K (.ref D) (.type "BaseException")=some true
 h5:PySem.W.mroIn K D (.type "object")=some true
def ExcIs(e:Addr)(cls:Value)(dx:Option Addr)(h:Heap):Prop:=∃ (oe:Obj) (vs:Array Value),h.get? e=some oe/\oe.cls=cls/\oe.dict=dx/\oe.data=.fields vs
section
open PySem.W PySem.Calls
theorem zbd6{prog:Program}{w:World}{A:Around}{E:Value->Shared->Prop}{K:Frag}{e:Addr}{h:Heap}{g d t os}{Q:Option Value->Shared->Prop}(X:K.In h)(x:ExcIs e (.ref D) none h)(k:ExcK K D)(hq:Q (some (.ref D)) ⟨h,g,d,t+1,os⟩):wpAny (model prog w) A (getAttr? (.ref e) "__class__") Q E ⟨h,g,d,t,os⟩:=by
 obtain⟨oe,vs,he,hc,hdx,hd⟩:=x
 obtain⟨h1,h2,h3,h4,h5⟩:=k
 have L0:Looks (model prog w) h (typeOf (.ref e)) (.ref D):=hc▸(Looks.ld he).andThen .now
 have L1:=looks_findIn (M:=model prog w) X h1
 have L2:=looks_findIn (M:=model prog w) X h2
 have L3:=looks_findIn (M:=model prog w) X h3
 have hx:(onTheHeap (Value.ref D)&&Value.builtin "BaseException.__getattribute__"==Value.builtin "object.__getattribute__")=false:=by
  have z:(Value.builtin "BaseException.__getattribute__"==Value.builtin "object.__getattribute__")=false:=by decide +kernel
  rw[z];rfl
 have I:InstAt h e oe D none:=⟨he,hc,by unfold notCls;rw[hd],by rw[hdx];trivial⟩
 have L4:Looks (model prog w) h (isInstance (.ref e) (.type "BaseException")) true:=L0.andThen (looks_subIn X h4)
 have FB:=PySem.F.attrBase_ValueError
 have f3:=FB.ga.bind (.ref e)
 have kd:builtinKind "BaseException.__getattribute__"=some .slot:=by decide +kernel
 have sid:splitId "BaseException.__getattribute__"=some ("BaseException","__getattribute__"):=by decide +kernel
 have aok:=PySem.F.args_bexc_ga (.ref e) (.str "__class__" t)
 have f5:=KF.type_class
 have f6:=PySem.F.slot_gs_get.lookup
 have f7:=PySem.F.slot_gs_set.lookup
 unfold getAttr? getAttrBy? getAttrBy
 refine zcn3 (wpAny_mkText (zcn3 (wpAny_attempt (zcn8 (zcn3 (L0.at (zcn3 (L1.at ?_))))))))
 dsimp only
 rw[if_neg (by rw[hx];decide)]
 unfold getAttrByItsOwn hookBefore
 repeat (any_goals (first|assumption|with_reducible refine L0.at ?_|with_reducible refine L1.at ?_|with_reducible refine L2.at ?_|with_reducible refine L3.at ?_|wp_step))
 refine codeAny_call_builtin FB.ga.plain PySem.F.entry_bexc_ga ?_
 simp only[checkBuiltinCall,kd,sid]
 refine zcn3 (L4.at ?_)
 repeat (any_goals (first|assumption|with_reducible refine L0.at ?_|with_reducible refine L1.at ?_|with_reducible refine L2.at ?_|with_reducible refine L3.at ?_|wp_step))
 refine class_get (ox:=oe) (od:=none) X I h5 ?_
 repeat (any_goals (first|assumption|wp_step))
theorem zbm4{K:Frag}{e:Addr}(k:ExcK K D)(hcl:(clsIn K D).isSome=true):KitX K (.ref e) (.ref D) (ExcIs e (.ref D) none) where
 ty:=fun M h _ p=>by
  obtain⟨oe,vs,he,hc,_⟩:=p
  exact hc▸(Looks.ld he).andThen .now
 it:=fun M h X p=>by
  obtain⟨cd,hcd⟩:=zck6.mp hcl
  unfold clsIn at hcd
  split at hcd
  ·rename_i ho
   intro A' Q' E' s' kk q
   unfold isType loadHead
   exact zcn3 (wpAny_loadPart (kk _ _ (X _ _ ho)) (zcn4 q))
  ·cases hcd
 ne:=fun h tp dd its n sl X htp=>by
  refine Bool.eq_false_iff.mpr fun q=>?_
  have z:D=tp:=Value.ref.inj (beq_iff_eq.mp q)
  subst z
  obtain⟨cd,hcd⟩:=zck6.mp hcl
  unfold clsIn at hcd
  split at hcd
  ·rename_i ho
   cases (X _ _ ho).symm.trans htp
  ·cases hcd
 ca:=fun {prog w A E Q s} X p q=>by
  obtain⟨hh,g,d,t,os⟩:=s
  exact zbd6 X p k q
end
abbrev excO(ea:Addr)(cls:Value)(dx:Option Addr):HO:=.ext (ExcIs ea cls dx)
section
variable {X:Cx}{K:zce1}{H:Hp}{Q:VK}
@[irreducible] def zao9(K:zce1)(x c:V)(H:Hp)(Q:VK):Prop:=zab5 K x c H Q∨∃ (ea D:Addr) (b:Bool),x=.ref ea/\H ea=some (excO ea (.ref D) none)/\ExcK K D/\(zcg8 K D).isSome=true/\(∀ cv,RelV c cv->zce8 K (.ref D) cv=some b)/\Q (.bl b) H
def zbo5(K:zce1):List V->Hp->VK->Prop:=fun xs H Q=>match xs with
 | [x,c]=>zao9 K x c H Q
 | _=>False
theorem cIsiX(hK:X.K=K):zk0 X (.builtin "isinstance") (zbo5 K):=by
 subst hK
 intro pins s σ H xs us Q I r h
 unfold zbo5 at h
 split at h
 ·unfold zao9 at h
  rcases h with h|⟨ea,D,b,rfl,h1,h2,h3,h4,h5⟩
  ·exact cIsi pins s σ H _ us Q I r h
  ·obtain⟨u,w,rfl,r1,r2⟩:=vals2 r
   cases r1
   obtain⟨p,_⟩:=I.hok ea _ h1
   exact zci9 (zbm4 h2 h3) I.kIn p (h4 _ r2) (fun z=>nomatch z) fun tk=>⟨.bl b,H,I.tok _,rfl,h5⟩
 ·exact h.elim
theorem zbr5{ea:Addr}{b:Bool}(h1:H ea=some (excO ea (.ref D) none))(h2:ExcK K D)(h3:(zcg8 K D).isSome=true)(e:zce8 K (.ref D) (.ref C)=some b)(q:Q (.bl b) H):zao9 K (.ref ea) (.ref C) H Q:=by
 unfold zao9;exact .inr ⟨ea,D,b,rfl,h1,h2,h3,fun cv r=>by cases r;exact e,q⟩
theorem zbn2{ea:Addr}{n:String}{b:Bool}(h1:H ea=some (excO ea (.ref D) none))(h2:ExcK K D)(h3:(zcg8 K D).isSome=true)(e:zce8 K (.ref D) (.type n)=some b)(q:Q (.bl b) H):zao9 K (.ref ea) (.ty n) H Q:=by
 unfold zao9;exact .inr ⟨ea,D,b,rfl,h1,h2,h3,fun cv r=>by cases r;exact e,q⟩
theorem zak2:bootBuiltins "ValueError"=some (.type "ValueError"):=by decide +kernel
end
section
variable {X:Cx}{pins:List (Addr×Obj)}{σ:St}{H:Hp}{s:Shared}
def ExcP(X:Cx)(pins:List (Addr×Obj))(σ:St)(EX:XK)(e:Value)(s':Shared):Prop:=∃ (H':Hp) (B:Heap) (ea:Addr) (cls:Value) (dx:Option Addr),e=.ref ea/\zx9 X pins σ H' B ea cls dx s'/\(∀ p∈X.pn++pins,B.get? p.1=some p.2)/\EX cls dx H'
def PSX(X:Cx)(st:Stmt)(t:XK->TS):Prop:=∀ (pins:List (Addr×Obj)) (s:Shared) (σ:St) (H:Hp) (D:Ends) (EX:XK),Inv X pins σ H s->t EX D σ H->wpAny (model X.prog X.w) X.A (exec st X.env) (SP X pins D) (ExcP X pins σ EX) s
def PSXs(X:Cx)(l:List Stmt)(t:XK->TS):Prop:=∀ (pins:List (Addr×Obj)) (s:Shared) (σ:St) (H:Hp) (D:Ends) (EX:XK),Inv X pins σ H s->t EX D σ H->wpAny (model X.prog X.w) X.A (execs l X.env) (SP X pins D) (ExcP X pins σ EX) s
theorem zbr2{EX:XK}{e:Value}{s':Shared}(I:Inv X pins σ H s)(h:CXR X.prog X.w X.stack H s EX e s'):ExcP X pins σ EX e s':=by
 obtain⟨ea,cls,dx,H',B,rfl,os,bare,hok,fly,un,k,en,hE⟩:=h
 refine⟨H',B,ea,cls,dx,rfl,⟨I.call' os un (hok.kept fly.stays) bare (fun b hb=>absurd hb (by simp)),hok,fly,fun b o e n h1 h2=>?_,fun o e=>?_⟩,fun p hp=>?_,hE⟩
 ·exact k b o (I.base.keep b o e n h1 h2) (I.base.free b o e n h2) (zab6 I e h1)
 ·apply Classical.byContradiction
  intro hx
  obtain⟨o',k'⟩:=I.base.there ea o e hx
  exact en o' k'
 ·obtain⟨q1,q2,q3,q4,_⟩:=I.pin p hp
  exact k _ _ q1 q2 fun hm=>(zcf2.mp (I.stkSub _ hm)).elim q3 q4
theorem zx9.move{B:Heap}{e:Addr}{cls:Value}{dx:Option Addr}{h':Heap}(F:zx9 X pins σ H B e cls dx s)(hp:∀ p∈X.pn++pins,B.get? p.1=some p.2)(F':FlyX B X.stack e cls dx h')(U:s.heap.UpToSlots h')(W:Th s.heap h') :
  zx9 X pins σ H B e cls dx { s with heap:=h' }:=by
 have I:=F.inv
 have cell:∀ {c:Addr}{v:Option Value},s.heap.IsCell c v->h'.IsCell c v:=fun ⟨o,ho,hd⟩=>by
  obtain⟨sl,z⟩:=U _ o ho fun vs q=>by rw[hd] at q;cases q
  exact⟨_,z,hd⟩
 refine⟨⟨I.ok,I.os,I.bare,⟨fun b o e n h1 h2=>F'.stays _ _ (F.kb b o e n h1 h2),fun b o e n h1 h2=>?_,I.base.free,fun b o e h2=>?_,I.base.tups,I.base.frzs,I.base.tbls⟩,?_,fun x c hc=>?_,I.free,I.freeC,fun p hpp=>?_,F.hok.kept F'.stays,I.len⟩,F.hok,F',F.kb,F.en⟩
 ·obtain⟨sl,k⟩:=I.base.slot b o e n h1 h2
  obtain⟨_,o2,ho2,hd⟩:=I.ok.funs.mem h1
  have:o2=o:=Option.some.inj (ho2.symm.trans e)
  subst this
  obtain⟨sl',k'⟩:=U b _ k hd
  exact⟨sl',k'⟩
 ·obtain⟨o',k⟩:=I.base.there b o e h2
  exact W b o' k
 ·obtain⟨m,hn,hl⟩:=I.loc
  refine⟨m,U.ns hn,fun i x v h1 h2 h3=>?_⟩
  obtain⟨u,r,q⟩:=hl i x v h1 h2 h3
  refine⟨u,r,?_⟩
  rcases q with q|⟨k,c,e,z⟩
  ·exact .inl q
  ·exact .inr ⟨k,c,e,cell z⟩
 ·obtain⟨v,z⟩:=I.cell x c hc
  exact⟨v,cell z⟩
 ·obtain⟨_,q2,q3,q4,q5⟩:=I.pin p hpp
  exact⟨F'.stays _ _ (hp p hpp),q2,q3,q4,q5⟩
theorem callX{k j:Nat}{x:Str}{ps:List Str}{p:Pos}{t:TA}(F:Def X.prog X.w X.K X.mg X.base (CXR X.prog X.w) k x ps sp)(hr:Room j X.A)(ha:PA X.nox (e :: es) t)(hk:k<=j:=by decide)(hg:Gl X x:=by rfl)(hdb:(x==("__debug__":Str))=false:=by decide)(he:starEach (e :: es) X.env=(false,eval e X.env) :: starEach es X.env:=by rfl)(hpl:(backTo pos (starEach es X.env)).any (·.1)=false:=by rfl){EX:XK}(I:Inv X pins σ H s)(h:t σ H fun vs H1=>sp vs H1 Q EX):wpAny (model X.prog X.w) X.A (eval (.Call (.Name x p) (e :: es) [] pos) X.env) (EP X pins σ Q) (ExcP X pins σ EX) s:=by
 obtain⟨f,fd,F1,F2,F3,F4⟩:=F.ex
 refine wpAny_Call_Name_kw (zq6 I hg F2 ?_ hdb)
 have hA:=ha pos pins s σ H _ (I.wish _) h
 refine PySem.W.callWith_K (h₀:=X.base) I.ok.mod.kin F3 (wpAny_mono hA (fun us s1 h1=>?_) fun _ _ z=>z.elim) he hpl
 obtain⟨vs,H1,I1,r,q⟩:=h1
 have I1:Inv X pins σ H1 s1:=I1.unwish
 refine⟨I1.kIn,?_⟩
 have hl:us.length=ps.length:=by rw[← r.length];exact F1.len _ _ _ _ q
 have hb:=F4 s1 us I1.kIn (by rw[List.append_nil];exact hl)
 rw[List.append_nil] at hb
 refine wpAny_call (codeAny_mono (F1.run X.A X.stack s1 H1 ⟨us,[]⟩ us vs Q EX (hr.mono hk) I1.env0 hb r q) fun r s' hq=>?_)
 cases r with
 | error e=>exact zbr2 I1 hq
 | ok fl=>
  cases fl with
  | ret u=>exact I1.after hq
  | next=>exact False.elim hq
  | brk=>exact False.elim hq
  | cont=>exact False.elim hq
def qxCall(sp:Sp)(t:TA):XK->TS:=fun EX D σ H=>t σ H fun vs H1=>sp vs H1 (fun _ H2=>D.nx σ H2) EX
theorem zbj6{k j:Nat}{x:Str}{ps:List Str}{p spos:Pos}{t:TA}(F:Def X.prog X.w X.K X.mg X.base (CXR X.prog X.w) k x ps sp)(hr:Room j X.A)(ha:PA X.nox (e :: es) t)(hk:k<=j:=by decide)(hg:Gl X x:=by rfl)(hdb:(x==("__debug__":Str))=false:=by decide)(he:starEach (e :: es) X.env=(false,eval e X.env) :: starEach es X.env:=by rfl)(hpl:(backTo pos (starEach es X.env)).any (·.1)=false:=by rfl)(hs:swapsWith (.Call (.Name x p) (e :: es) [] pos) none spos.line X.env=pure false:=by rfl):PSX X (.Expr (.Call (.Name x p) (e :: es) [] pos) spos) (qxCall sp t):=by
 intro pins s σ H D EX I h
 exact wpAny_Expr_any (wpAny_mono (callX F hr ha hk hg hdb he hpl I h) (fun v s1 ⟨x,H1,I1,r1,q1⟩=>⟨σ,H1,I1,q1⟩) fun _ _ z=>z) I.quiet hs
theorem zbp3{t:XK->TS}(h:PSX X st t):PSXs X [st] t:=by
 intro pins s σ H D EX I hq
 refine wpAny_execs_cons (wpAny_mono (h pins s σ H D EX I hq) (fun f s1 q=>?_) fun _ _ z=>z)
 cases f with
 | next=>exact wpAny_execs_nil q
 | brk=>exact q
 | cont=>exact q
 | ret u=>exact q
theorem zf2.ex{P:Program}{w:World}{h:Heap}{a:Addr}{o:HO}(x:zf2 P w H h a o):∃ u,h.get? a=some u:=by
 cases o with
 | lst xs=>obtain⟨_,_,_,_,e⟩:=x;exact⟨_,e⟩
 | tup xs=>obtain⟨_,_,_,ob,e,_⟩:=x;exact⟨ob,e⟩
 | dK kvs=>obtain⟨_,_,_,_,ob,_,_,e,_⟩:=x;exact⟨ob,e⟩
 | dT kvs=>obtain⟨_,_,_,_,ob,_,_,e,_⟩:=x;exact⟨ob,e⟩
 | set S n=>obtain⟨ob,_,_,_,e,_⟩:=x;exact⟨ob,e⟩
 | ins C dx fs=>obtain⟨_,_,_,e,_⟩:=x;exact⟨_,e⟩
 | own y=>exact x
 | xd fs=>obtain⟨_,⟨ob,_,_,e,_⟩,_⟩:=x;exact⟨ob,e⟩
 | rng lo hi=>obtain⟨_,_,_,e⟩:=x;exact⟨_,e⟩
 | frz ob u=>obtain⟨e,_⟩:=x;exact⟨_,e⟩
 | tbl ps=>exact⟨_,(show h.get? a=some _ from x)⟩
 | met f y=>exact⟨_,(show h.get? a=some _ from x)⟩
 | ext φ=>obtain⟨_,e,_⟩:=x;exact e
theorem zx9.track{B:Heap}{ea:Addr}{cls:Value}{dx:Option Addr}(F:zx9 X pins σ H B ea cls dx s)(hp:∀ p∈X.pn++pins,B.get? p.1=some p.2)(hex:X.ex=[]) :
  H ea=none/\Inv X pins σ (upd H ea (excO ea cls dx)) s:=by
 have I:=F.inv
 obtain⟨oe,vs,he,hc,hdx,hd,_⟩:=F.fly.ex
 have hn:H ea=none:=by
  cases q:H ea with
  | none=>rfl
  | some o=>
   obtain⟨u,z⟩:=zf2.ex (F.hok ea o q)
   rw[F.fly.new] at z
   cases z
 have nl:∀ {b:Addr}{o:Obj},s.heap.get? b=some o->(∀ vs,o.data≠.fields vs)->b≠ea:=fun hb hnf z=>by
  rw[z,he] at hb
  cases hb
  exact hnf vs hd
 have n0:∀ {b:Addr}{o:Obj},X.s₀.heap.get? b=some o->b≠ea:=fun hb z=>by
  have:=F.en _ (z▸hb)
  rw[hex] at this
  cases this
 refine⟨hn,I.ok,I.os,I.bare,⟨I.base.keep,I.base.slot,fun b o e n h1=>?_,I.base.there,fun b xs q=>?_,fun b o u q=>?_,fun b ps q=>?_⟩,I.loc,I.cell,?_,fun x c hcl=>?_,fun p hpp=>?_,fun b o q=>?_,I.len⟩
 ·rw[zc6 (n0 e)];exact I.base.free b o e n h1
 ·have z:=I.base.tups b xs q
  rw[zc6 (za6 z hn)];exact z
 ·have z:=I.base.frzs b o u q
  rw[zc6 (za6 z hn)];exact z
 ·obtain⟨more,z⟩:=I.base.tbls b ps q
  exact⟨more,by rw[zc6 (za6 z hn)];exact z⟩
 ·obtain⟨m,⟨o,es,ep,ho,hdd,_⟩,_⟩:=I.loc
  rw[zc6 (nl ho fun vs q=>by rw[hdd] at q;cases q)];exact I.free
 ·obtain⟨v,o,ho,hdd⟩:=I.cell x c hcl
  rw[zc6 (nl ho fun vs q=>by rw[hdd] at q;cases q)];exact I.freeC x c hcl
 ·obtain⟨q1,q2,q3,q4,q5⟩:=I.pin p hpp
  refine⟨q1,?_,q3,q4,q5⟩
  rw[zc6 fun z=>?_]
  ·exact q2
  ·have:=hp p hpp
   rw[z,F.fly.new] at this
   cases this
 ·by_cases hb:b=ea
  ·subst hb
   rw[zc3] at q
   cases q
   refine⟨⟨oe,vs,he,hc,hdx,hd⟩,⟨oe,he⟩,fun h1 h2 x k=>?_⟩
   obtain⟨o1,v1,e1,r⟩:=x
   exact⟨o1,v1,k _ e1,r⟩
  ·rw[zc6 hb] at q
   refine (I.hok b o q).stay (fun _ _ _ z=>z) (fun c z=>?_) fun c xs z=>?_
   ·rw[zc6 (za6 z hn)];exact z
   ·rw[zc6 (za6 z hn)];exact z
theorem zbc7{M:Model}{A:Around}{E:Value->Shared->Prop}{n:Str}{v:V}{Q:Unit->Shared->Prop}(I:Inv X pins σ H s)(hN:X.N.Nodup)(hi:X.N[i]?=some n)(hl:X.env.kindOf n=some .local)(hv:σ[i]?=some (some v))(h:∀ s',Inv X pins (σ.set i none) H s'->Q () s'):wpAny M A (unbindName X.env n) Q E s:=by
 obtain⟨m,hn,hlk⟩:=id I.loc
 have hcls:(X.env.scope.kind==.class || (X.env.scope.kind==.module&&X.env.locals != X.env.globals))=false:=by rw[I.ok.kind];rfl
 obtain⟨u,_,q⟩:=hlk i n v hi hv (.inl hl)
 have hm:m n=some u:=by
  rcases q with q|⟨k,_⟩
  ·exact q.2
  ·rw[hl] at k
   rcases k with k|k<;>cases k
 refine wpAny_unbindName_local hl hn hm hcls fun h' u' hn' hs=>h _ ?_
 obtain⟨oL,_,_,hoL,_⟩:=id hn
 have below:∀ {b:Addr}{o:Obj},X.s₀.heap.get? b=some o->b≠X.env.locals:=fun e=>zch9 (zcg6 (zcf6 e) I.ok.above)
 refine⟨I.ok,I.os,I.bare,⟨fun b o e n hb hx=>(hs.2 b (below e)).trans (I.base.keep b o e n hb hx),fun b o e n hb hx=>?_,I.base.free,fun b o e hx=>?_,I.base.tups,I.base.frzs,I.base.tbls⟩,⟨_,hn',fun j y v' e1 e2 e3=>?_⟩,fun y c e=>?_,I.free,I.freeC,fun p hp=>?_,fun b ob e=>?_,by rw[zcm4];exact I.len⟩
 ·obtain⟨sl,z⟩:=I.base.slot b o e n hb hx
  exact⟨sl,(hs.2 b (below e)).trans z⟩
 ·obtain⟨o',z⟩:=I.base.there b o e hx
  exact⟨o',(hs.2 b (below e)).trans z⟩
 ·by_cases hj:j=i
  ·subst hj
   rw[zcj3 (by rw[I.len];exact (zce2.mp hi).1)] at e2
   cases e2
  ·rw[zck1 (Ne.symm hj)] at e2
   obtain⟨w',r',q⟩:=hlk j y v' e1 e2 e3
   refine⟨w',r',?_⟩
   rcases q with ⟨k,z⟩|⟨k,c,z,zz⟩
   ·refine .inl ⟨k,?_⟩
    have:y≠n:=fun z=>hj (zak3 hN e1 (z▸hi))
    show (if y=n then u' else m y)=_
    rw[if_neg this];exact z
   ·exact .inr ⟨k,c,z,zz.sameBut hs (I.cne y c z)⟩
 ·obtain⟨w',z⟩:=I.cell y c e
  exact⟨w',z.sameBut hs (I.cne y c e)⟩
 ·obtain⟨e,n,ne,nf,d⟩:=I.pin p hp
  exact⟨(hs.2 p.1 ne).trans e,n,ne,nf,d⟩
 ·refine (I.hok b ob e).stay (fun c w' hc q=>(hs.2 c ?_).trans q) (fun _ q=>q) fun _ _ q=>q
  rintro rfl
  rcases hc with z|hc
  ·rw[← z,I.free] at e;cases e
  ·rw[I.free] at hc;cases hc
def zah0(X:Cx)(e:Value):Cx:={ X with A:=X.A.mark (some e),calm:=false,xe:=fun _ _=>False }
theorem Inv.mark(I:Inv X pins σ H s)(e:Value):Inv (zah0 X e) pins σ H s:=
 ⟨⟨I.ok.mod,I.ok.kind,I.ok.glob,I.ok.blt,I.ok.above,I.ok.inj,I.ok.has,I.ok.cab,(fun z=>absurd (show false=true from z) zcf0),I.ok.frames,I.ok.stk,I.ok.exf,I.ok.bs,I.ok.bsz,I.ok.noex,I.ok.exfs,I.ok.funs,I.ok.frf⟩,I.os,I.bare,I.base,I.loc,I.cell,I.free,I.freeC,I.pin,I.hok,I.len⟩
theorem Inv.unmark{e:Value}(I0:Inv X pins σ H s){σ':St}{s':Shared}(I:Inv (zah0 X e) pins σ' H' s'):Inv X pins σ' H' s':=
 ⟨I0.ok,I.os,I.bare,I.base,I.loc,I.cell,I.free,I.freeC,I.pin,I.hok,I.len⟩
@[irreducible] def zay0(K:zce1)(CH:Addr)(D:Ends)(σ:St)(ke ky:Nat)(cls:Value)(dx:Option Addr)(H':Hp):Prop:=PySem.W.exmOne K cls (.ref CH)=some true /\
 ∀ ea H'',H' ea=none->Same H' H''->H'' ea=some (excO ea cls dx)->D.nx ((σ.set ke none).set ky (some (.ref ea))) H''
def qTry(K:zce1)(CH:Addr)(t:XK->TS)(ke ky:Nat):TS:=fun D σ H=>t (fun cls dx H'=>zay0 K CH D σ ke ky cls dx H') D σ H
theorem psTry{K:zce1}{body:List Stmt}{t:XK->TS}{hx n y:Str}{CH:Addr}{ke ky:Nat}{np p1 p2 p3 hpos:Pos}(hK:X.K=K)(hN:X.N.Nodup)(hcl:X.mg hx=some (.ref CH))(hb:PSXs X body t)(hke:X.N[ke]?=some n:=by rfl)(hky:X.N[ky]?=some y:=by rfl)(hkk:ke≠ky:=by decide)(hln:X.env.kindOf n=some .local:=by rfl)(hly:X.env.kindOf y=some .local:=by rfl)(hgl:Gl X hx:=by rfl)(hdb:(hx==("__debug__":Str))=false:=by decide)(hnd:(n==("__debug__":Str))=false:=by decide)(hnc:(n==("__classdict__":Str))=false:=by decide)(hstk:X.stack=X.env :: X.outer:=by rfl)(hfr:X.env.frame=some X.env.locals:=by rfl)(hex:X.ex=[]:=by rfl)(hs:swapsWith (.Name n p2) (some (.Name y p1)) p3.line X.env=pure false:=by rfl) :
  PS X (.Try body [.ExceptHandler (some (.Name hx np)) (some n) [.Assign [.Name y p1] (.Name n p2) p3] hpos] [] [] pos) (qTry K CH t ke ky):=by
 subst hK
 intro pins s σ H D I h
 rw[arm_exec_Try]
 refine zcn3 (wpAny_standAt (wpAny_tryStmt_except (wpAny_mono (hb pins s σ H D _ I h) (fun f s1 q=>?_) fun e s1 q=>?_)))
 ·cases f with
  | next=>exact wpAny_execs_nil q
  | brk=>exact q
  | cont=>exact q
  | ret u=>exact q
 ·obtain⟨H1,B,ea,cls,dx,rfl,F,hp,q⟩:=q
  unfold zay0 at q
  obtain⟨hm,q⟩:=q
  have I1:=F.inv
  refine zax4 (L:=X.env.locals) (outer:=X.outer) (by rw[← hstk];exact I1.ok.frames) hfr (by rw[← hstk];exact F.fly) fun h2 F2 U2 W2=>?_
  rw[← hstk] at F2
  have F2:=F.move hp F2 U2 W2
  have I2:=F2.inv
  refine wpAny_handleBy_cons (codeAny_handlers_test ?_) (by intro z;cases z)
  refine zq6 (X:=zah0 X (.ref ea)) (I2.mark _) hgl hcl ?_ hdb
  have LT:PySem.W.Looks (model X.prog X.w) h2 (typeOf (.ref ea)) cls:=by
   obtain⟨oe,vs,he,hc,_⟩:=F2.fly.ex
   exact hc▸(PySem.W.Looks.ld he).andThen .now
  refine (PySem.W.exm_one I2.kIn LT hm).here ?_
  refine codeAny_handlers_suite_as ?_
  refine zbv0 F2.fly fun h3 F3 U3 W3=>?_
  have F3:=F2.move hp F3 U3 W3
  obtain⟨hn,I3⟩:=F3.track hp hex
  have hlσ:ke<σ.length:=by rw[I1.len];exact (zce2.mp hke).1
  refine zaa0 I3 hN hke (.inl hln) (v:=.ref ea) rfl (fun s4 I4=>?_) (.inr hln)
  have pn:PS (zah0 X (.ref ea)) (.Assign [.Name y p1] (.Name n p2) p3) (tAsg (qV ke) (zba8 ky)):=zbi3 (X:=zah0 X (.ref ea)) hN hky (.inl hly) (pq (X:=zah0 X (.ref ea)) ke hke (.inl hln) hnd hnc) hs (.inr hly)
  refine wpAny_mono (za4 pn pins s4 _ _ { nx:=fun σ' H'=>σ'=(σ.set ke (some (.ref ea))).set ky (some (.ref ea))/\H'=upd H1 ea (excO ea cls dx),rt:=fun _ _=>False } (I4.mark (.ref ea)) ?_) (fun f s5 q5=>?_) fun _ _ z=>(show False from z).elim
  ·show qV ke (σ.set ke (some (.ref ea))) _ _
   unfold qV
   rw[zcj3 hlσ]
   exact⟨rfl,rfl⟩
  ·cases f with
   | next=>
    obtain⟨σ5,H5,I5,rfl,rfl⟩:=q5
    have I5:=Inv.unmark I1 I5
    refine zcn3 (wpAny_bindName (zaa0 I5 hN hke (.inl hln) (v:=.non) rfl (fun s6 I6=>?_) (.inr hln)))
    refine wpAny_onRaise (zbc7 (v:=.non) I6 hN hke hln (by rw[zcj3 (by rw[zcm4,zcm4];exact hlσ)]) fun s7 I7=>?_)
    refine⟨_,_,I7,?_⟩
    rw[List.set_set,List.set_comm _ _ (Ne.symm hkk),List.set_set]
    exact q ea _ hn (Same.upd hn) zc3
   | brk=>obtain⟨_,_,_,z⟩:=q5;exact False.elim z
   | cont=>obtain⟨_,_,_,z⟩:=q5;exact False.elim z
   | ret u=>obtain⟨_,_,_,_,_,z⟩:=q5;exact False.elim z
end
section
open PySem.W
theorem zx6{K:Frag}{t:Value}{cd:ClassData}{b:Bool}(h1:clsIn K C=some cd)(h2:typeIn K (.ref C)=some (.type "type"))(h3:subIn K t (.ref C)=some b):kitCls K t (.ref C)=some b:=by
 unfold kitCls
 dsimp only
 rw[h1,h2,if_pos (by simp)]
 exact h3
theorem zj7{K:Frag}{t:Value}{cd:ClassData}{b:Bool}(h1:clsIn K C=some cd)(h2:typeIn K (.ref C)=some (.type "type"))(h3:subIn K t (.ref C)=some b)(h4:subIn K t t=some true):kitOne K t (.ref C)=some b:=by
 unfold kitOne
 split
 ·rename_i z
  have z:t=.ref C:=by simpa using z
  subst z
  rw[h3] at h4
  exact h4.symm
 ·exact zx6 h1 h2 h3
theorem zh0{K:Frag}{cd:ClassData}{b:Bool}(h1:clsIn K C=some cd)(h2:typeIn K (.ref C)=some (.type "type"))(h3:subIn K (.type "NoneType") (.ref C)=some b):kitOne K (.type "NoneType") (.ref C)=some b:=by
 unfold kitOne
 rw[if_neg (by simp)]
 exact zx6 h1 h2 h3
theorem zaf3{K:Frag}{b:Bool}(h:subIn K (.ref D) (.type "ValueError")=some b):kitOne K (.ref D) (.type "ValueError")=some b:=by
 unfold kitOne kitCls
 rw[if_neg (by simp)]
 dsimp only
 rw[if_pos (by decide +kernel)]
 exact h
theorem zbs3{K:Frag}{t:Value}{cd:ClassData}{b:Bool}(h0:subIn K (.ref C) (.type "BaseException")=some true)(h1:clsIn K C=some cd)(h2:typeIn K (.ref C)=some (.type "type"))(h3:subIn K t (.ref C)=some b):exmOne K t (.ref C)=some b:=by
 unfold exmOne
 rw[if_pos (by rw[h0];simp)]
 exact zx6 h1 h2 h3
end
theorem zbn7{K:zce1}{CH:Addr}{D:Ends}{σ:St}{ke ky:Nat}{cls:Value}{dx:Option Addr}(h1:PySem.W.exmOne K cls (.ref CH)=some true)(h2:∀ ea H'',H' ea=none->Same H' H''->H'' ea=some (excO ea cls dx)->D.nx ((σ.set ke none).set ky (some (.ref ea))) H''):zay0 K CH D σ ke ky cls dx H':=by
 unfold zay0;exact⟨h1,h2⟩
abbrev bmV:List Value:=[.type "ValueError",.type "Exception",.type "BaseException",.type "object"]
abbrev newV:String:="ValueError.__new__"
section
variable {X:Cx}{K:zce1}
@[irreducible] def rIdxA(p:Addr)(x:V)(H:Hp)(Q:VK):Prop:=∃ (xs:List V) (j:Nat),H p=some (.lst xs)/\zh1 x=true/\xs.all zh1=true/\(∃ y,xs[j]?=some y/\eqV y x=true)/\(∀ m y,m<j->xs[m]?=some y->eqV y x=false)/\Q (.int j) H
def rIdxM:Addr->List V->Hp->VK->Prop:=fun p vs H Q=>match vs with
 | [v]=>rIdxA p v H Q
 | _=>False
theorem mIndex:MtA X "list.index" rIdxM:=fun pins s σ H p xs us Q I r h=>by
 unfold rIdxM at h
 split at h
 ·rename_i v
  unfold rIdxA at h
  obtain⟨ys,j,h1,h2,h3,⟨y,hy,hit⟩,hno,h4⟩:=h
  obtain⟨u,rfl,ru⟩:=r.one
  obtain⟨z,its,n,r',hl,e⟩:=I.lstM h1
  have hj:j<its.toArray.size:=by
   have:=(zce2.mp hy).1
   rw[zce4];omega
  have at_:∀ (m:Nat) (hm:m<its.toArray.size),∃ y,ys[m]?=some y/\eqU v its.toArray[m]=eqV y v:=fun m hm=>by
   rw[zce4] at hm
   obtain⟨w',e1,q1⟩:=r'.get (zce0 (show m<ys.length by omega))
   refine⟨_,zce0 (by omega),?_⟩
   have i1:its.toArray[m]=w':=by
    have:=(zce2.mp e1).2
    simpa using this
   rw[i1]
   exact zaw8 q1 (zcj7.mp h3 _ (List.getElem_mem _))
  have hz:its.length<=sizeLine:=by omega
  rw[zcn5] at hz
  refine call_meets F.slot_list_index ⟨_,e,rfl⟩ F.entry_list_index (F.args_list_index_2 _ _) (SeqAt.list_indexAt p its.toArray n none #[] u (eqU v) j hj (by rw[zce4] at hj;omega) ?_ ?_) ⟨e,fun y hy=>zv6 ru h2 r' h3 y (by simpa using hy),⟨.int _,H,I.tok _,⟨_,rfl⟩,h4⟩⟩
  ·obtain⟨y',e1,e2⟩:=at_ j hj
   rw[hy] at e1
   cases e1
   rw[e2];exact hit
  ·intro m hm hlt
   obtain⟨y',e1,e2⟩:=at_ m hm
   rw[e2];exact hno m y' hlt e1
 ·exact h.elim
theorem idx_rd{p:Addr}{x:V}(j:Nat)(h:H p=some (.lst xs))(h1:zh1 x=true)(h2:xs.all zh1=true)(h3:∃ y,xs[j]?=some y/\eqV y x=true)(h4:∀ m y,m<j->xs[m]?=some y->eqV y x=false)(q:Q (.int j) H):rIdxA p x H Q:=by unfold rIdxA;exact⟨xs,j,h,h1,h2,h3,h4,q⟩
theorem zbf9{o:Expr}{t:TA}(hK:X.K=K)(ho:PE X o to)(ha:PA X [e] t)(hbase:attributeBase o "index" X.env (eval o X.env)=eval o X.env:=by rfl)(hfew:((backTo cpos (starEach [e] X.env)).all (fun x=>!x.1)&&(backToKw cpos (keywordEach [] X.env)).all (fun x=>x.1.isSome)
   && decide ([e].length+([]:List Keyword).length+(if ([]:List Keyword).isEmpty then 0 else 1)<30))=true:=by rfl)(hline:(apos.endLine==cpos.line)=true:=by rfl)(hs:starEach [e] X.env=(false,eval e X.env) :: starEach [] X.env:=by rfl)(hplain:(backTo cpos (starEach [] X.env)).any (·.1)=false:=by rfl):PE X (.Call (.Attribute o "index" apos) [e] [] cpos) (qBM K rIdxM to t):=by
 subst hK
 exact peBM PySem.F.slot_list_index PySem.F.type_list_index mIndex ho ha hbase hfew hline hs hplain
end
section
variable {X:Cx}{st:Stmt}{rest:List Stmt}{t u:TS}{e:Expr}{es:List Expr}{te:TE}{ta:TA}
@[irreducible] def PSsI(X:Cx)(st:List Stmt)(t:TS):Prop:=PSs X st t
@[irreducible] def PSI(X:Cx)(st:Stmt)(t:TS):Prop:=PS X st t
@[irreducible] def PEI(X:Cx)(e:Expr)(t:TE):Prop:=PE X e t
@[irreducible] def PAI(X:Cx)(es:List Expr)(t:TA):Prop:=PA X es t
theorem psOf(h:PS X st t):PSI X st t:=by unfold PSI;exact h
theorem pssTo{st:List Stmt}(h:PSsI X st t):PSs X st t:=by unfold PSsI at h;exact h
theorem zl5(h1:PSI X st t)(h2:PSsI X rest u):PSsI X (st :: rest) (tSeq t u):=by unfold PSsI PSI at *;exact za3 h1 h2
theorem zbl3(h1:PSI X st t):PSsI X [st] t:=by unfold PSsI PSI at *;exact za4 h1
theorem psIS{x:Str}{pos':Pos}(hN:X.N.Nodup)(he:PEI X e te)(hi:X.N[i]?=some x:=by rfl)(hx:Loc X.env.scope x:=by first|exact Or.inl rfl|exact Or.inr rfl)(hs:swapsWith e (some (.Name x pos')) pos.line X.env=pure false:=by rfl)(hf:X.fn x=true∨X.env.scope.names.lookup x=some .local:=by first|exact .inl rfl|exact .inr rfl|assumption) :
  PSI X (.Assign [.Name x pos'] e pos) (tAsg te (zba8 i)):=by unfold PSI PEI at *;exact zbi3 hN hi hx he hs hf
theorem peILst(h:PAI X es ta):PEI X (.List es pos) (qLst ta):=by unfold PEI PAI at *;exact ze5 h
theorem zm2{x j pos}:PEI X (.Constant (.str x) j pos) (tC (.str x)):=by unfold PEI;exact zb4
theorem zbq8:PAI X [] tNil:=by unfold PAI;exact za1
theorem zi0(ha:PEI X e te)(hr:PAI X es ta)(hs:starEach (e :: es) X.env=(false,eval e X.env) :: starEach es X.env:=by rfl):PAI X (e :: es) (tCons te ta):=by unfold PEI PAI at *;exact za0 ha hr hs
end
set_option maxHeartbeats 1000000
set_option maxHeartbeats 2000000
section
variable {X:Cx}{K:zce1}
end
section
variable {J:It}{n:Nat}{H1:Hp}{X:Nat->V->Hp->Prop}{g:TG}{tt:TT}{te:TE}{σ0:St}{Q:VK}
theorem zbp2(w:Wk J n H1 X)(hn:n<sizeLine)(Pv:Addr->Nat->List V->St->Hp->Prop)(h0:∀ acc H,H1 acc=none->Same H1 H->H acc=some (.lst [])->Pv acc 0 [] σ0 H)(hP:∀ acc i ys σ H H',Same H H'->Pv acc i ys σ H->Pv acc i ys σ H')(turn:∀ acc i x ys σ H (R:St->V->Hp->Prop) (S:St->Hp->Prop),i<n->H1 acc=none->Same H1 H->H acc=some (.lst ys)->X i x H->Pv acc i ys σ H ->
   (∀ σ2 v H5,Same H H5->(∀ H6,Chg acc H5 H6->Pv acc (i+1) (ys++[v]) σ2 H6)->R σ2 v H5)->(∀ σ2 H5,Same H H5->Pv acc (i+1) ys σ2 H5->S σ2 H5) ->
   g x σ H fun σ2 H3=>tt σ2 H3 fun b H4=>br b (te σ2 H4 fun v H5=>R σ2 v H5) (S σ2 H4))(fin:∀ acc ys σ H,H1 acc=none->Same H1 H->H acc=some (.lst ys)->Pv acc n ys σ H->Q (.ref acc) H):zab8 J g tt te σ0 H1 Q:=by
 unfold zab8
 intro acc H2 hf hs ha
 refine⟨fun i m ys σ H=>m=n - i/\i<=n/\ys.length<=i/\Same H1 H/\H acc=some (.lst ys)/\Pv acc i ys σ H,⟨n,by simp,zcl0 _,zcg0 _,hs,ha,h0 acc H2 hf hs ha⟩,?_⟩
 rintro i m ys σ H ⟨rfl,hi,hl,s,hy,P⟩
 refine⟨hy,by omega,?_⟩
 by_cases hlt:i<n
 ·refine .inr ⟨w.go i H s hlt,fun x H' y=>?_⟩
  obtain⟨s1,x1⟩:=w.yld i H x H' s hlt y
  refine turn acc i x ys σ H' (fun σ2 v H5=>cPut _ acc ys i (n - i) σ2 v H5) (fun σ2 H4=>zam5 _ ys i (n - i) σ2 H4) hlt hf (s.trans s1) (s1 _ _ hy) x1 (hP _ _ _ _ _ _ s1 P) ?_ ?_
  ·intro σ2 v H5 s5 q
   have s15:=s1.trans s5
   unfold cPut
   refine⟨s15 _ _ hy,fun H6 c6 h6=>⟨n - (i+1),by omega,rfl,hlt,by rw[zce6];simp;omega,(s.trans s15).chg hf c6,h6,q H6 c6⟩⟩
  ·intro σ2 H5 s5 q
   have s15:=s1.trans s5
   unfold zam5
   exact⟨n - (i+1),by omega,rfl,hlt,by omega,s.trans s15,s15 _ _ hy,q⟩
 ·have e:i=n:=by omega
  subst e
  exact .inl ⟨w.stop H s,fin acc ys σ H hf s hy P⟩
end
end L2
set_option maxHeartbeats 2000000
namespace L2
open PySem PySem.Spec PyProof.Rows
section
variable {X:Cx}{K:zce1}
@[irreducible] def rTupA(K:zce1)(p:Addr)(H:Hp)(Q:VK):Prop:=∃ ys,SqL K H p ys/\∀ l H',H l=none->Same H H'->H' l=some (.tup ys)->Q (.ref l) H'
def rTupM(K:zce1):List V->Hp->VK->Prop:=fun xs H Q=>match xs with
 | [.ref p]=>rTupA K p H Q
 | _=>False
theorem cTupK(hK:X.K=K):zk0 X (.type "tuple") (rTupM K):=fun pins s σ H xs us Q I r h=>by
 subst hK
 unfold rTupM at h
 split at h
 ·unfold rTupA at h
  obtain⟨ys,h1,h2⟩:=h
  exact zaj6 pins s σ H _ us Q I r ⟨_,ys,rfl,.inl ⟨h1,fun l hl=>h2 l _ hl (Same.upd hl) zc3⟩⟩
 ·exact h.elim
theorem zbh7{p:Addr}{H:Hp}{Q:VK}{ys:List V}(h:SqL K H p ys)(q:∀ l H',H l=none->Same H H'->H' l=some (.tup ys)->Q (.ref l) H'):rTupA K p H Q:=by unfold rTupA;exact⟨ys,h,q⟩
end
variable {H:Hp}{xs:List V}{u:Value}{to:TE}{apos cpos pos:Pos}{C D aH e:Addr}{h:Heap}{ep j m:Nat}{es:Array (Int×Value)}
theorem Same.seqT{K:zce1}{H':Hp}{a:Addr}(e:Same H H')(h:H a=some (.tup xs)):SqT K H' a xs:=SqT.of (e _ _ h)
theorem Wk.tup{K:zce1}{a:Addr}{H1:Hp}(h:H1 a=some (.tup xs)):Wk (Itt K a) xs.length H1 fun i x _=>xs[i]?=some x:=
 ⟨fun i H s hi=>⟨xs,xs[i],Same.seqT s h,by simp[hi]⟩,fun H s=>⟨xs,Same.seqT s h,zcg0 _⟩,fun i H x H' s _ y=>by
  obtain⟨e,y⟩:=y
  subst e
  exact⟨Same.refl _,y xs (Same.seqT s h)⟩⟩
set_option maxHeartbeats 4000000
section
variable {X:Cx}{K:zce1}{H:Hp}{Q:VK}
theorem zbv7{pins:List (Addr×Obj)}{σ:St}{s:Shared}{x:V}{t:Value}(I:Inv X pins σ H s)(rx:RelV x u)(ty:TyOf X.K H x t):∃ P:Heap->Prop,PySem.W.KitX X.K u t P/\P s.heap/\u≠.builtin "__main__.__loader__#opaque":=by
 cases ty with
 | non=>cases (show u=Value.none from rx);exact⟨_,PySem.W.kitx_none,True.intro,fun z=>nomatch z⟩
 | bl y=>cases (show u=Value.bool y from rx);exact⟨_,PySem.W.kitx_bool,True.intro,fun z=>nomatch z⟩
 | int i=>obtain⟨t,q⟩:=(show ∃ t,u=Value.int i t from rx);cases q;exact⟨_,PySem.W.kitx_int,True.intro,fun z=>nomatch z⟩
 | str y=>obtain⟨t,q⟩:=(show ∃ t,u=Value.str y t from rx);cases q;exact⟨_,PySem.W.kitx_str,True.intro,fun z=>nomatch z⟩
 | flt y=>obtain⟨t,q⟩:=(show ∃ t,u=Value.float y t from rx);cases q;exact⟨_,PySem.W.kitx_float,True.intro,fun z=>nomatch z⟩
 | @lst a xs ea=>
  cases (show u=Value.ref a from rx)
  obtain⟨_,_,n,_,h1⟩:=(show zf2 X.prog X.w H s.heap a (.lst xs) from I.hok a _ ea)
  exact⟨_,PySem.W.kitx_list,⟨_,h1,rfl⟩,fun z=>nomatch z⟩
 | @frz a ob xs ea=>
  cases (show u=Value.ref a from rx)
  obtain⟨_,_,_,n,_,h1⟩:=(show zf2 X.prog X.w H s.heap a (.frz ob (.lst xs)) from I.hok a _ ea)
  exact⟨_,PySem.W.kitx_list,⟨_,h1,rfl⟩,fun z=>nomatch z⟩
 | @tup a xs ea=>
  cases (show u=Value.ref a from rx)
  obtain⟨_,_,_,p⟩:=(show zf2 X.prog X.w H s.heap a (.tup xs) from I.hok a _ ea)
  obtain⟨o,h1,h2,_⟩:=p
  exact⟨_,PySem.W.kitx_tuple,⟨o,h1,h2⟩,fun z=>nomatch z⟩
 | @dK a kvs ea=>
  cases (show u=Value.ref a from rx)
  obtain⟨_,_,vs,_,p⟩:=(show zf2 X.prog X.w H s.heap a (.dK kvs) from I.hok a _ ea)
  obtain⟨o,es,ep,h1,h2,_⟩:=p
  exact⟨_,PySem.W.kitx_dict,⟨o,h1,h2.1⟩,fun z=>nomatch z⟩
 | @dT a kvs ea=>
  cases (show u=Value.ref a from rx)
  obtain⟨_,_,xs,_,o,es,ep,h1,h2,_⟩:=(show zf2 X.prog X.w H s.heap a (.dT kvs) from I.hok a _ ea)
  exact⟨_,PySem.W.kitx_dict,⟨o,h1,h2.1⟩,fun z=>nomatch z⟩
 | @ins a C dx fs ea cl ha hn htk hm=>
  cases (show u=Value.ref a from rx)
  obtain⟨mA,O,_⟩:=zbe5 I.hok ea
  obtain⟨od,J,_⟩:=O.look
  exact⟨_,PySem.W.kitx_own (cl.get _) cl.hd ha hn htk hm,J,fun z=>nomatch z⟩
@[irreducible] def zs4(K:zce1)(x c:V)(H:Hp)(Q:VK):Prop:=∃ (p:Addr) (ns:List String) (t:Value) (b:Bool),c=.ref p/\H p=some (.tup (ns.map V.ty))/\TyOf K H x t/\zcm3 K t (ns.map Value.type)=some b/\Q (.bl b) H
def zbp0(K:zce1):List V->Hp->VK->Prop:=fun xs H Q=>match xs with
 | [x,c]=>zs4 K x c H Q
 | _=>False
theorem zbd2:∀ {ns:List String}{us:List Value},Vals (ns.map V.ty) us->us=ns.map Value.type
 | [],_,.nil=>rfl
 | n :: ns,_,.cons r t=>by rw[show _=Value.type n from r,zbd2 t];rfl
theorem cIsiT(hK:X.K=K):zk0 X (.builtin "isinstance") (zbp0 K):=by
 subst hK
 intro pins s σ H xs us Q I r h
 unfold zbp0 at h
 split at h
 ·unfold zs4 at h
  obtain⟨p,ns,t,b,rfl,h1,h2,h3,h4⟩:=h
  obtain⟨u,w,rfl,r1,r2⟩:=vals2 r
  cases r2
  obtain⟨P,z1,z2,z3⟩:=zbv7 I r1 h2
  obtain⟨_,its,r3,o,e1,e2,n,e3⟩:=(show zf2 X.prog X.w H s.heap p (.tup (ns.map V.ty)) from I.hok p _ h1)
  have ei:=zbd2 r3
  subst ei
  obtain⟨oc,od,odt,osl⟩:=o
  cases e2
  cases e3
  exact PySem.W.kia_tup z1 I.kIn z2 e1 h3 z3 fun tk=>⟨.bl b,H,I.tok _,rfl,h4⟩
 ·exact h.elim
theorem zaw5{p:Addr}{i:Int}{ns:List String}{b:Bool}(h:H p=some (.tup (ns.map V.ty)))(q:Q (.bl b) H)(e:zcm3 K (.type "int") (ns.map Value.type)=some b:=by rfl):zs4 K (.int i) (.ref p) H Q:=by
 unfold zs4;exact⟨p,ns,_,b,rfl,h,.int i,e,q⟩
theorem zaw3{p:Addr}{x:Str}{ns:List String}{b:Bool}(h:H p=some (.tup (ns.map V.ty)))(q:Q (.bl b) H)(e:zcm3 K (.type "str") (ns.map Value.type)=some b:=by rfl):zs4 K (.str x) (.ref p) H Q:=by
 unfold zs4;exact⟨p,ns,_,b,rfl,h,.str x,e,q⟩
theorem zax3{p:Addr}{ns:List String}{b:Bool}(h:H p=some (.tup (ns.map V.ty)))(q:Q (.bl b) H)(e:zcm3 K (.type "NoneType") (ns.map Value.type)=some b:=by rfl):zs4 K .non (.ref p) H Q:=by
 unfold zs4;exact⟨p,ns,_,b,rfl,h,.non,e,q⟩
theorem zau6{p:Addr}{x:Bool}{ns:List String}{b:Bool}(h:H p=some (.tup (ns.map V.ty)))(q:Q (.bl b) H)(e:zcm3 K (.type "bool") (ns.map Value.type)=some b:=by rfl):zs4 K (.bl x) (.ref p) H Q:=by
 unfold zs4;exact⟨p,ns,_,b,rfl,h,.bl x,e,q⟩
theorem zav9{p a:Addr}{ns:List String}{b:Bool}(h:H p=some (.tup (ns.map V.ty)))(ha:H a=some (.lst xs))(q:Q (.bl b) H)(e:zcm3 K (.type "list") (ns.map Value.type)=some b:=by rfl):zs4 K (.ref a) (.ref p) H Q:=by
 unfold zs4;exact⟨p,ns,_,b,rfl,h,.lst ha,e,q⟩
theorem zax2{p a:Addr}{ns:List String}{b:Bool}(h:H p=some (.tup (ns.map V.ty)))(ha:H a=some (.tup xs))(q:Q (.bl b) H)(e:zcm3 K (.type "tuple") (ns.map Value.type)=some b:=by rfl):zs4 K (.ref a) (.ref p) H Q:=by
 unfold zs4;exact⟨p,ns,_,b,rfl,h,.tup ha,e,q⟩
end
section
variable {X:Cx}{K:zce1}
def isT(k:Str):V->Bool
 | .str z=>z==k
 | _=>false
def isTU(k:Str):Value->Bool
 | .str z _=>z==k
 | _=>false
theorem zbh1{k:Str}{x:V}(r:RelV x u):isTU k u=isT k x:=by
 cases x with
 | non=>cases (show u=Value.none from r);rfl
 | bl b=>cases (show u=Value.bool b from r);rfl
 | int i=>obtain⟨t,e⟩:=(show ∃ t,u=Value.int i t from r);cases e;rfl
 | str x=>obtain⟨t,e⟩:=(show ∃ t,u=Value.str x t from r);cases e;rfl
 | byt b=>obtain⟨t,e⟩:=(show ∃ t,u=Value.bytes b t from r);cases e;rfl
 | flt b=>obtain⟨t,e⟩:=(show ∃ t,u=Value.float b t from r);cases e;rfl
 | ref a=>cases (show u=Value.ref a from r);rfl
 | ty n=>cases (show u=Value.type n from r);rfl
theorem zal0{k:Str}:∀ {xs:List V}{us:List Value},Vals xs us->us.countP (isTU k)=xs.countP (isT k)
 | _,_,.nil=>rfl
 | y :: xs,u :: us,.cons r t=>by rw[zcm9,zcm9,zbh1 r,zal0 t]
def zbf1(H:Hp)(x:V):Prop:=zh1 x=true∨∃ a,x=.ref a/\((∃ ys,H a=some (.lst ys))∨∃ ys,H a=some (.tup ys))
theorem eqT_at{pins:List (Addr×Obj)}{σ:St}{s:Shared}{A:Around}{k:Str}{tk:Tok}{x:V}(I:Inv X pins σ H s)(hu:A.units<cLine)(r:RelV x u)(f:zbf1 H x):SeqAt.EqAt A s u (.str k tk) (isTU k u):=by
 rw[zbh1 r]
 rcases f with f|⟨a,rfl,f⟩
 ·cases x with
  | non=>cases (show u=Value.none from r);exact SeqAt.EqAt.none_str _ _
  | bl b=>cases (show u=Value.bool b from r);exact SeqAt.EqAt.bool_str _ _ _
  | int i=>obtain⟨t,e⟩:=(show ∃ t,u=Value.int i t from r);cases e;exact SeqAt.EqAt.int_str _ _ _ _
  | str x=>obtain⟨t,e⟩:=(show ∃ t,u=Value.str x t from r);cases e;exact SeqAt.EqAt.str_str _ _ _ _
  | _=>exact absurd (show false=true from f) zcf0
 ·cases (show u=Value.ref a from r)
  rcases f with ⟨ys,e⟩|⟨ys,e⟩
  ·obtain⟨_,its,n,_,e⟩:=(show zf2 X.prog X.w H s.heap a (.lst ys) from I.hok a _ e)
   exact SeqAt.EqAt.list_str _ _ ⟨_,e,rfl,n,rfl⟩ hu
  ·obtain⟨_,its,_,o,e,c⟩:=(show zf2 X.prog X.w H s.heap a (.tup ys) from I.hok a _ e)
   exact SeqAt.EqAt.tuple_str _ _ ⟨o,e,c⟩ hu
@[irreducible] def rCntT(p:Addr)(k:Str)(H:Hp)(Q:VK):Prop:=∃ xs,H p=some (.lst xs)/\(∀ x∈xs,zbf1 H x)/\Q (.int (xs.countP (isT k):Nat)) H
def zbg2:Addr->List V->Hp->VK->Prop:=fun p vs H Q=>match vs with
 | [.str k]=>rCntT p k H Q
 | _=>False
theorem zav5:∀ {xs:List V}{us:List Value},Vals xs us->∀ u∈us,∃ x∈xs,RelV x u
 | _,_,.nil=>fun u hu=>by cases hu
 | y :: xs,u :: us,.cons r t=>fun u' hu=>by
  rcases zcf2.mp hu with rfl|hu
  ·exact⟨y,zcg1,r⟩
  ·obtain⟨x,hx,rx⟩:=zav5 t u' hu
   exact⟨x,zcf5 _ hx,rx⟩
theorem zbu4(hu:X.A.units+40<cLine):MtA X "list.count" zbg2:=fun pins s σ H p xs us Q I r h=>by
 unfold zbg2 at h
 split at h
 ·rename_i k
  unfold rCntT at h
  obtain⟨ys,h1,h2,h3⟩:=h
  obtain⟨u,rfl,ru⟩:=r.one
  obtain⟨tk,rfl⟩:=(show ∃ t,u=Value.str k t from ru)
  obtain⟨z,its,n,r',hl,e⟩:=I.lstM h1
  refine call_meets F.slot_list_count ⟨_,e,rfl⟩ F.entry_list_count (F.args_list_count_2 _ _) (SeqAt.list_countAt p its.toArray n none #[] (.str k tk) (isTU k)) ⟨e,fun y hy=>?_,?_⟩
  ·obtain⟨x,hx,rx⟩:=zav5 r' y (by simpa using hy)
   exact eqT_at I (by rw[zo5];omega) rx (h2 x hx)
  ·have ec:its.toArray.toList.countP (isTU k)=ys.countP (isT k):=zal0 r'
   exact⟨.int _,H,I.tok _,⟨_,by rw[ec]⟩,h3⟩
 ·exact h.elim
theorem zbs1{p:Addr}{k:Str}{Q:VK}(h:H p=some (.lst xs))(h1:∀ x∈xs,zbf1 H x)(q:Q (.int (xs.countP (isT k):Nat)) H):rCntT p k H Q:=by unfold rCntT;exact⟨xs,h,h1,q⟩
theorem zbb5{o e:Expr}{t:TA}(hK:X.K=K)(hu:X.A.units+40<cLine)(ho:PE X o to)(ha:PA X [e] t)(hbase:attributeBase o "count" X.env (eval o X.env)=eval o X.env:=by rfl)(hfew:((backTo cpos (starEach [e] X.env)).all (fun x=>!x.1)&&(backToKw cpos (keywordEach [] X.env)).all (fun x=>x.1.isSome)
   && decide ([e].length+([]:List Keyword).length+(if ([]:List Keyword).isEmpty then 0 else 1)<30))=true:=by rfl)(hline:(apos.endLine==cpos.line)=true:=by rfl)(hs:starEach [e] X.env=(false,eval e X.env) :: starEach [] X.env:=by rfl)(hplain:(backTo cpos (starEach [] X.env)).any (·.1)=false:=by rfl):PE X (.Call (.Attribute o "count" apos) [e] [] cpos) (qBM K zbg2 to t):=by
 subst hK
 exact peBM PySem.F.slot_list_count PySem.F.type_list_count (zbu4 hu) ho ha hbase hfew hline hs hplain
end
section
variable {prog:Program}{w:World}{A:Around}{E:Value->Shared->Prop}{h:Heap}{g:Array GenState}{d:Drawn}{t:Nat}{os:OsState}
variable {nm q:Str}{C N:Addr}{bs bm bmB:List Value}{hdct:Bool}{sn:List Str}{sub:List Value}{ab:Bool}{col:Option Bool}{dd:Option Addr}{k0 k1 k2 k3 k5:Option Value}{B newId initId:String}{K:zce1}
theorem zae9(F:ExcBaseFacts B newId initId bmB)(T:OwnTail h bmB bm)(X:K.In h){rest:List Value}{fI:Addr}{Q:Fin->Shared->Prop}(hC:h.get? C=some (excClassObj nm q C N bs bm hdct sn sub ab col dd k0 k1 k2 k3 k5 newId))(hi:zch4 K (.ref C) "__init__"=some (some (.ref fI)))(hf:zch5 K (.ref fI)=some (.type "function"))(hq:∀ h' e,Heap.MadeExcOf h h' e (.ref C) rest->h.objs.size<=e->wpAny (model prog w) A (call (.ref fI) (.ref e :: rest)) (fun r s'=>r=.none/\Q (.done (.ret (.ref e))) s') E ⟨h',g,d,t,os⟩)(hrest:rest.length<=sizeLine) :
  wpAny (model prog w) A (Builtin.«type.__call__» ⟨.ref C :: rest,[]⟩) Q E ⟨h,g,d,t,os⟩:=by
 repeat (first|with_reducible refine wpAny_loadPart_at hC ?_|with_reducible refine wpAny_madeBy_exc hC ?_|wp_step)
 refine codeAny_call_builtin_code (Code.quiet_builtin _ F.quiet) (wpAny_check_new_subT F T hC ?_)
 refine codeAny_exc_new_subT F T hC ?_ hrest
 show wpAny _ _ _ _ _ _
 have kp:∀ b o,h.get? b=some o->((h.push { cls:=.type "tuple",data:=.seq rest.toArray }).push { cls:=.ref C,data:=.fields #[.ref h.objs.size,.none,.none,.none,.bool false,.none] }).get? b=some o:=fun b o e=>zcf3 _ (zcf3 _ e)
 have hC₁:=kp _ _ hC
 have X₁:=X.keeps kp
 have hget:((h.push { cls:=.type "tuple",data:=.seq rest.toArray }).push
   { cls:=.ref C,data:=.fields #[.ref h.objs.size,.none,.none,.none,.bool false,.none] }).get? (h.objs.size+1)=some
   { cls:=.ref C,data:=.fields #[.ref h.objs.size,.none,.none,.none,.bool false,.none] }:=by heap_get
 have hcC:(Value.ref C :: bm).contains (.ref C)=true:=by simp
 unfold isInstance
 repeat (first|with_reducible refine wpAny_loadPart_at hget ?_|(with_reducible refine wpAny_isSubtype_exc hC₁ ?_;rw[hcC])|wp_step)
 show wpAny _ _ (typeLookup (.ref C) _) _ _ _
 refine (PySem.W.looks_findIn X₁ hi).at ?_
 refine zcn8 (zcn3 ((PySem.W.bind_fn X₁ _ hf).at ?_))
 refine zcn3 (wpAny_mono (hq _ (h.objs.size+1) ⟨kp,Heap.get?_none_of_le (Nat.le_succ _),h.objs.size,hget,Heap.get?_none_of_le (zcg0 _),?_⟩ (Nat.le_succ _)) (fun r s' hr=>?_) fun _ _ x=>x)
 ·exact zcf3 _ (Heap.get?_push_at rfl rfl)
 ·obtain⟨rfl,hQ⟩:=hr
  wp_walk
  exact hQ
theorem zbh2(F:ExcBaseFacts B newId initId bmB)(T:OwnTail h bmB bm)(X:K.In h){rest:List Value}{fI:Addr}{Q:Value->Shared->Prop}(hC:h.get? C=some (excClassObj nm q C N bs bm hdct sn sub ab col dd k0 k1 k2 k3 k5 newId))(hi:zch4 K (.ref C) "__init__"=some (some (.ref fI)))(hf:zch5 K (.ref fI)=some (.type "function"))(hq:∀ h' e,Heap.MadeExcOf h h' e (.ref C) rest->h.objs.size<=e ->
   wpAny (model prog w) (A.under (.builtin "type.__call__" ⟨.ref C :: rest,[]⟩)) (call (.ref fI) (.ref e :: rest)) (fun r s'=>r=.none/\Q (.ref e) s') E ⟨h',g,d,t,os⟩)(hrest:rest.length<=sizeLine) :
  wpAny (model prog w) A (call (.ref C) rest) Q E ⟨h,g,d,t,os⟩:=by
 have f1:=tc_lookup
 have f2:=tc_bind (.ref C)
 have hT:(⟨h,g,d,t,os⟩:Shared).TypeIs (.ref C) "type":=⟨_,hC,rfl⟩
 refine wpAny_call (codeAny_of_tree ?_)
 show wpAny _ _ (callAny (.ref C) _) _ _ _
 repeat (any_goals (first|assumption|with_reducible refine wpAny_loadPart_at hC ?_|wp_step))
 refine⟨rfl,?_⟩
 refine codeAny_call_builtin_at (Code.quiet_builtin _ (by decide +kernel)) entry_typeCall (wpAny_check_type_call_sub hC (zae9 (hrest:=hrest) F T X hC hi hf fun h' e hm hz=>?_))
 exact hq h' e hm hz
end
section
variable {prog:Program}{w:World}{A:Around}{E:Value->Shared->Prop}{s:Shared}{env:Env}
variable {nm q:Str}{C N:Addr}{bs bm bmB:List Value}{hdct:Bool}{sn:List Str}{sub:List Value}{ab:Bool}{col:Option Bool}{dd:Option Addr}{k0 k1 k2 k3 k5:Option Value}{B newId initId:String}{K:zce1}
theorem zr0{M:Model}{x:Sem Value}{Q:Flow->Shared->Prop}(hbase:bm.contains (.type "BaseException")=true)(hh:A.handled=none)(h:wpAny M A x (fun v s₁=>∃ (e t:Addr) (dx:Option Addr),v=.ref e/\s₁.heap.get? C=some (excClassObj nm q C N bs bm hdct sn sub ab col dd k0 k1 k2 k3 k5 newId)/\s₁.heap.get? e=some { cls:=.ref C,dict:=dx,data:=.fields #[.ref t,.none,.none,.none,.bool false,.none] }/\E (.ref e) s₁) E s) :
  wpAny M A (raiseStmt env (some x) none) Q E s:=by
 have hcB:(Value.ref C :: bm).contains (.type "BaseException")=true:=by rw[List.contains_cons,hbase,Bool.or_true]
 unfold raiseStmt
 refine zcn3 (wpAny_mono h (fun v s₁ h₁=>?_) fun _ _ x=>x)
 obtain⟨e,t,dx,rfl,hC,he,hE⟩:=h₁
 obtain⟨hp,g,d,tk,os⟩:=s₁
 repeat (first|with_reducible refine wpAny_loadPart_at he ?_|with_reducible refine wpAny_loadPart_at hC ?_|(with_reducible refine wpAny_isSubtype_exc hC ?_;rw[hcB])|wp_step)
 exact wpAny_raiseNew_none hh hE
theorem zbb0(F:ExcBaseFacts B newId initId bmB){x:Str}{np:Pos}{args:List Expr}{fI:Addr}{Q:Flow->Shared->Prop}(hbase:bm.contains (.type "BaseException")=true)(hh:A.handled=none)(hplain:(backTo cpos (starEach args env)).any (·.1)=false)(hi:zch4 K (.ref C) "__init__"=some (some (.ref fI)))(hf:zch5 K (.ref fI)=some (.type "function"))(h:wpAny (model prog w) A (eval (.Name x np) env) (fun f s₁=>f=.ref C/\wpAny (model prog w) A (evalArgs (.ref C) true (backTo cpos (starEach args env)) [])
   (fun a s₂=>a.kw=[]/\a.pos.length<=sizeLine/\s₂.heap.get? C=some (excClassObj nm q C N bs bm hdct sn sub ab col dd k0 k1 k2 k3 k5 newId)/\K.In s₂.heap/\OwnTail s₂.heap bmB bm /\
    ∀ h' e,Heap.MadeExcOf s₂.heap h' e (.ref C) a.pos->s₂.heap.objs.size<=e->wpAny (model prog w) (A.under (.builtin "type.__call__" ⟨.ref C :: a.pos,[]⟩)) (call (.ref fI) (.ref e :: a.pos))
     (fun r s'=>r=.none/\(∃ (t:Addr) (dx:Option Addr),s'.heap.get? e=some { cls:=.ref C,dict:=dx,data:=.fields #[.ref t,.none,.none,.none,.bool false,.none] })/\s'.heap.get? C=some (excClassObj nm q C N bs bm hdct sn sub ab col dd k0 k1 k2 k3 k5 newId)/\E (.ref e) s') E { s₂ with heap:=h' }) E s₁) E s) :
  wpAny (model prog w) A (exec (.Raise (some (.Call (.Name x np) args [] cpos)) none pos) env) Q E s:=by
 rw[arm_exec_Raise]
 first
  | refine zcn3 (wpAny_standAt (zr0 (C:=C) (nm:=nm) (q:=q) (N:=N) (bs:=bs) (bm:=bm) (hdct:=hdct) (sn:=sn) (sub:=sub) (ab:=ab) (col:=col) (dd:=dd) (k0:=k0) (k1:=k1) (k2:=k2) (k3:=k3) (k5:=k5) (newId:=newId) hbase hh (zcn3 (wpAny_mono (wpAny_Call_ofName (wpAny_mono h (fun f s₁ h₁=>?_) fun _ _ x=>x)) (fun v s₃ h₃=>zcn3 (wpAny_standAt (zcn4 h₃))) fun _ _ x=>x))))
  | (simp only[evalOpt,Option.map];refine zcn3 (wpAny_standAt (zr0 (C:=C) (nm:=nm) (q:=q) (N:=N) (bs:=bs) (bm:=bm) (hdct:=hdct) (sn:=sn) (sub:=sub) (ab:=ab) (col:=col) (dd:=dd) (k0:=k0) (k1:=k1) (k2:=k2) (k3:=k3) (k5:=k5) (newId:=newId) hbase hh (zcn3 (wpAny_mono (wpAny_Call_ofName (wpAny_mono h (fun f s₁ h₁=>?_) fun _ _ x=>x)) (fun v s₃ h₃=>zcn3 (wpAny_standAt (zcn4 h₃))) fun _ _ x=>x)))))
 obtain⟨rfl,h₁⟩:=h₁
 unfold callWith
 refine zcn3 (zcn8 (wpAny_mono h₁ (fun a s₂ h₂=>zcn3 (wpAny_standAt ?_)) fun _ _ x=>x))
 obtain⟨apos,akw⟩:=a
 obtain⟨hkw,hlen,hC,hX,T,h₂⟩:=h₂
 obtain rfl:akw=[]:=hkw
 obtain⟨hp,g,d,tk,os⟩:=s₂
 simp only[hplain]
 refine zcn3 (wpAny_keeperOf_exc hC ?_)
 refine zcn3 (zbh2 (hrest:=hlen) F T hX hC hi hf fun h' e hm hz=>wpAny_mono (h₂ h' e hm hz) (fun r s' hr=>⟨hr.1,zcn3 (zcn8 (wpAny_point (zcn4 ?_)))⟩) fun _ _ z=>z)
 obtain⟨_,⟨t,dx,ho⟩,hC',hE⟩:=hr
 exact⟨e,t,dx,rfl,hC',ho,hE⟩
end
section
open PySem.W
variable {prog:Program}{w:World}{A:Around}{E:Value->Shared->Prop}{s:Shared}{K:Frag}
theorem zbt8{x:Addr}{ox:Obj}{vs:Array Value}{name:Str}{v:Value}{cd:ClassData}{Q:Unit->Shared->Prop}(X:K.In s.heap)(hx:s.heap.get? x=some ox)(hc:ox.cls=.ref C)(hdx:ox.dict=none)(hd:ox.data=.fields vs)(hs:findIn K (.ref C) "__setattr__"=some (some (.builtin "object.__setattr__")))(hcd:clsIn K C=some cd)(hmro:cd.mro=.ref C :: .ref aH :: bmV)(hh:cd.hasDict=true)(hn:findIn K (.ref C) name=some none)(hq:∀ h' tk',h'.get? x=some { ox with dict:=some s.heap.objs.size }->h'.Ns1 s.heap.objs.size (fun y=>if y=name then some v else none)->(∀ b o,b≠x->s.heap.get? b=some o->h'.get? b=some o)->Q () { s with heap:=h',toks:=tk' }) :
  wpAny (model prog w) A (setAttr (.ref x) name v) Q E s:=by
 have I:InstAt s.heap x ox C none:=⟨hx,hc,by unfold notCls;rw[hd],by rw[hdx];trivial⟩
 refine set_plain X I hs ?_
 have SF:=PySem.F.store_object
 have hm:Looks (model prog w) s.heap (mroOf (.ref C)) cd.mro:=(looks_clsIn X hcd).andThen .now
 have ty:=I.type (M:=model prog w)
 have sub:Looks (model prog w) s.heap (isInstance (.ref x) (.type "object")) true:=ty.andThen (looks_mroIn X (by unfold mroIn;rw[hcd,Option.bind_some,hmro];rfl))
 refine codeAny_call_builtin SF.slot.plain SF.entry (@check_slot (model prog w) _ _ { s with toks:=s.toks+1 } "object.__setattr__" "object" "__setattr__" (.ref x) [.str name s.toks,v] [] _ SF.kind SF.split sub (SF.args (.ref x) (.str name s.toks) v) ?_)
 rw[osa_eq,refuse_eq]
 refine zcn3 (zcn3 (ty.here (s:={ s with toks:=s.toks+1 }) (zcn3 (hm.here (s:={ s with toks:=s.toks+1 }) ?_))))
 rw[hmro,refuseLoop_ref,refuseLoop_ref,PySem.F.store_ValueError.passes]
 refine zcn4 (zcn3 (ty.here (s:={ s with toks:=s.toks+1 }) (zcn3 ((looks_findIn X hn).here (s:={ s with toks:=s.toks+1 }) (zcn3 (zcn4 ?_))))))
 have hxs:x≠s.heap.objs.size:=zch9 (zcf6 hx)
 have hx₁:(s.heap.push { cls:=.type "dict",data:=.dict #[] }).get? x=some ox:=zcf3 _ hx
 show wpAny _ _ (Builtin.ObjectAttr.storeInOwnDict (.ref x) (.ref C) (.str name s.toks) name v false) _ _ _
 unfold Builtin.ObjectAttr.storeInOwnDict Builtin.ObjectAttr.ownDictForStores instanceDict
 refine zcn3 (zcn4 (zcn3 (zcn3 (wpAny_loadPart (s:={ s with toks:=s.toks+1 }) hx ?_))))
 rw[hc]
 refine zcn3 ((looks_clsIn X hcd).here (s:={ s with toks:=s.toks+1 }) ?_)
 rw[hh]
 dsimp only
 rw[hdx,if_neg (by decide)]
 dsimp only
 rw[if_neg (by simp[typeHasDict]),hd]
 dsimp only
 refine zcn3 (wpAny_alloc' ?_)
 refine zcn3 (wpAny_update' hx₁ ?_)
 refine zcn4 ?_
 have hgd:((s.heap.push { cls:=.type "dict",data:=.dict #[] }).update x fun o=>{ cls:=o.cls,dict:=some s.heap.objs.size,data:=o.data,slots:=o.slots }).get? s.heap.objs.size=some { cls:=.type "dict",data:=.dict #[] }:=
  (Heap.get?_update_ne _ _ _ _ hxs.symm).trans (Heap.get?_push_at rfl rfl)
 have hnd:((s.heap.push { cls:=.type "dict",data:=.dict #[] }).update x fun o=>{ cls:=o.cls,dict:=some s.heap.objs.size,data:=o.data,slots:=o.slots }).Ns s.heap.objs.size (fun _=>none):=
  ⟨_,#[],_,hgd,rfl,fun e he=>absurd he (by simp),fun _=>rfl⟩
 show wpAny _ _ (Builtin.ObjectAttr.storeInDict s.heap.objs.size (.str name s.toks) name v) _ _ _
 unfold Builtin.ObjectAttr.storeInDict Builtin.ObjectAttr.newKeyGuard
 refine zcn3 (zcn4 (zcn3 (wpAny_nsSet1 (Heap.Ns1.of_empty hnd) fun h' hn' hs=>?_)))
 obtain⟨oD,esD,epD,hoD,hdD,hcD⟩:=hn'.count (Within.cons name v Within.nil)
 refine zcn3 (wpAny_lookBehind hoD (by rw[hdD];exact pastItsLine_dict (zci0 hcD (by rw[zcf1,zci4,zcn5];omega))) ?_)
 refine zcn4 (hq h' _ ?_ hn' (fun b ob hbx hb=>?_))
 ·refine (hs.2 x hxs).trans (zcj9 _ hx₁ ?_)
  have hfr:=(Heap.get?_some_iff.mp hx).2
  obtain⟨oc,od,odt,osl⟩:=ox
  cases odt<;>first|rfl|exact hfr
 ·exact (hs.2 b (zch9 (zcf6 hb))).trans ((Heap.get?_update_ne _ _ _ _ hbx).trans (zcf3 _ hb))
end
def ExNew(e:Addr)(cls:Value)(dx:Option Addr)(h:Heap):Prop:=∃ t:Addr,h.get? e=some { cls:=cls,dict:=dx,data:=.fields #[.ref t,.none,.none,.none,.bool false,.none] }
abbrev exN(e:Addr)(cls:Value)(dx:Option Addr):HO:=.ext (ExNew e cls dx)
theorem zbp7{P:Program}{w:World}{cls:Value}{dx:Option Addr}(x:ExNew e cls dx h):zf2 P w H h e (exN e cls dx):=by
 obtain⟨t,ht⟩:=id x
 exact⟨x,⟨_,ht⟩,fun h1 h2 ⟨t',e1⟩ k=>⟨t',k _ e1⟩⟩
structure IniK(K:zce1)(C aH f:Addr)(fld:Str):Prop where
 ob:∃ (nm q:Str) (N:Addr) (bs:List Value) (sn:List Str) (sub:List Value) (ab:Bool) (col:Option Bool) (dd:Option Addr) (k0 k1 k2 k3 k5:Option Value),K.lookup C=some (excClassObj nm q C N bs (.ref aH :: bmV) true sn sub ab col dd k0 k1 k2 k3 k5 newV)
 tl:∀ h:Heap,K.In h->OwnTail h bmV (.ref aH :: bmV)
 init:zch4 K (.ref C) "__init__"=some (some (.ref f))
 fn:zch5 K (.ref f)=some (.type "function")
 sa:zch4 K (.ref C) "__setattr__"=some (some (.builtin "object.__setattr__"))
 nf:zch4 K (.ref C) fld=some none
section
variable {X:Cx}{K:zce1}
@[irreducible] def rSetX(C:Addr)(fld:Str)(e:Addr)(y:V)(H:Hp)(R:Hp->Prop):Prop:=H e=some (exN e (.ref C) none)/\∀ d H',H d=none->d≠e->Chg e H H'->H' e=some (exN e (.ref C) (some d))->H' d=some (.xd [(fld,y)])->R H'
def sFldX(C:Addr)(fld:Str)(ta tv:TE):TS:=fun D σ H=>tv σ H fun y H1=>ta σ H1 fun x H2=>match x with
 | .ref e=>rSetX C fld e y H2 (fun H'=>D.nx σ H')
 | _=>False
theorem zbt1{fld:Str}{y:V}{R:Hp->Prop}(h:H e=some (exN e (.ref C) none))(q:∀ d H',H d=none->d≠e->Chg e H H'->H' e=some (exN e (.ref C) (some d))->H' d=some (.xd [(fld,y)])->R H'):rSetX C fld e y H R:=by unfold rSetX;exact⟨h,q⟩
theorem psFldX{f:Addr}{fld:Str}{o value:Expr}{ta tv:TE}{pos':Pos}(hK:X.K=K)(Z:IniK K C aH f fld)(ha:PE X o ta)(hv:PE X value tv)(hs:swapsWith value (some (.Attribute o fld pos')) pos.line X.env=pure false:=by rfl):PS X (.Assign [.Attribute o fld pos'] value pos) (sFldX C fld ta tv):=by
 subst hK
 intro pins s σ H D I h
 refine plainObj_wpAny_Assign_Attribute (thn (hv pins s σ H _ I h) fun u s1 ⟨y,H1,I1,ry,q⟩=>thn (ha pins s1 σ H1 _ I1 q) fun ov s2 ⟨x,H2,I2,rx,q2⟩=>?_) hs
 dsimp only at q2
 split at q2
 case h_2=>exact q2.elim
 rename_i e
 obtain rfl:ov=Value.ref e:=rx
 unfold rSetX at q2
 obtain⟨he,q2⟩:=q2
 obtain⟨⟨t,ht⟩,_,_⟩:=(show zf2 X.prog X.w H2 s2.heap e (exN e (.ref C) none) from I2.hok e _ he)
 obtain⟨nm,qn,N,bs,sn,sub,ab,col,dd,k0,k1,k2,k3,k5,lk⟩:=Z.ob
 have hcd:zcg8 X.K C=some { name:=nm,bases:=bs,mro:=Value.ref C :: .ref aH :: bmV,ns:=N,qualname:=qn,hasDict:=true,slotNames:=sn,subclasses:=sub,abstract:=ab,collection:=col }:=by
  unfold zcg8;rw[lk]
 refine zbt8 I2.kIn ht rfl rfl rfl Z.sa hcd rfl rfl Z.nf fun h' tk' hx' hn' hk=>?_
 have hf:H2 s2.heap.objs.size=none:=I2.hok.fresh (zcg0 _)
 have hne:s2.heap.objs.size≠e:=zcn1 (zcf6 ht)
 have e1:(h'.update e fun _=>{ cls:=.ref C,data:=.fields #[.ref t,.none,.none,.none,.bool false,.none] }).get? e=some { cls:=.ref C,data:=.fields #[.ref t,.none,.none,.none,.bool false,.none] }:=zcj9 _ hx' rfl
 have k1:∀ b u,s2.heap.get? b=some u->(h'.update e fun _=>{ cls:=.ref C,data:=.fields #[.ref t,.none,.none,.none,.bool false,.none] }).get? b=some u:=fun b u hb=>by
  by_cases hbe:b=e
  ·subst hbe
   rw[e1];exact ht.symm.trans hb
  ·rw[zcg3 _ _ (Ne.symm hbe)];exact hk b u hbe hb
 have I3:=I2.laid (a:=s2.heap.objs.size) (o:=.xd [(fld,y)]) (h':=h'.update e fun _=>{ cls:=.ref C,data:=.fields #[.ref t,.none,.none,.none,.bool false,.none] }) (t':=tk') k1 (zcg0 _)
  ⟨_,hn'.at (fun o q=>by rw[zcg3 _ _ (Ne.symm hne)];exact q),fun g=>by
   by_cases hg:g=fld
   ·subst hg
    have hb:(g==g)=true:=by simp
    show RelO (List.lookup g [(g,y)]) (if g=g then some u else none)
    rw[if_pos rfl,show List.lookup g [(g,y)]=some y by simp only[List.lookup,hb]];exact ry
   ·have hb:(g==fld)=false:=beq_eq_false_iff_ne.mpr hg
    show RelO (List.lookup g [(fld,y)]) (if g=fld then some u else none)
    rw[if_neg hg,show List.lookup g [(fld,y)]=none by simp only[List.lookup,hb]];exact True.intro⟩
 have heu:upd H2 s2.heap.objs.size (.xd [(fld,y)]) e=some (exN e (.ref C) none):=by rw[zc6 (Ne.symm hne)];exact he
 have I4:=I3.write (x:=e) (e:=e) (o:=exN e (.ref C) (some s2.heap.objs.size)) (h':=h') (t':=tk') (by rw[heu];exact True.intro) (.inl rfl) (fun b u hb z=>by
  have z:(h'.update e fun _=>{ cls:=.ref C,data:=.fields #[.ref t,.none,.none,.none,.bool false,.none] }).get? b=some u:=z
  rw[zcg3 _ _ (Ne.symm hb)] at z;exact z) ⟨_,hx'⟩ (zbp7 ⟨t,hx'⟩)
 exact⟨σ,_,I4,q2 _ _ hf hne (fun b o hb z=>by rw[zc6 hb,zc6 (za6 z hf)];exact z) zc3 (by rw[zc6 hne,zc3])⟩
@[irreducible] def zx5(C:Addr)(fld:Str):Sp:=fun vs H Q _=>∃ (e:Addr) (v:V),vs=[.ref e,v]/\H e=some (exN e (.ref C) none)/\∀ d H',H d=none->d≠e->Chg e H H'->H' e=some (exN e (.ref C) (some d))->H' d=some (.xd [(fld,v)])->Q .non H'
def hid(e:Addr)(H:Hp):Hp:=fun b=>if b=e then none else H b
theorem zv1{b:Addr}(h:b≠e):hid e H b=H b:=by unfold hid;rw[if_neg h]
theorem zbo0:hid e H e=none:=by unfold hid;rw[if_pos rfl]
theorem hid_of{b:Addr}{o:HO}(h:hid e H b=some o):b≠e/\H b=some o:=by
 by_cases z:b=e
 ·subst z;rw[zbo0] at h;cases h
 ·rw[zv1 z] at h;exact⟨z,h⟩
theorem zz8{b:Addr}(h:H b=none):hid e H b=none:=by
 by_cases z:b=e
 ·subst z;exact zbo0
 ·rw[zv1 z];exact h
section
variable {pins:List (Addr×Obj)}{σ:St}{H:Hp}{s:Shared}{e:Addr}{φ:Heap->Prop}
theorem HOk.hid{P:Program}{w:World}{h h':Heap}(x:HOk P w H h)(he:H e=some (.ext φ))(k:∀ b u,b≠e->(∃ o,H b=some o)->h.get? b=some u->h'.get? b=some u):HOk P w (L2.hid e H) h':=fun a o ha=>by
 obtain⟨hne,ha⟩:=hid_of ha
 have n1:∀ b,H b=some (.own a)->b≠e:=fun b hb z=>by rw[z,he] at hb;cases hb
 refine (x a o ha).stay (fun b u hb hu=>?_) (fun b hb=>by rw[zv1 (n1 b hb)];exact hb) fun b xs hb=>by
  rw[zv1 fun z=>by rw[z,he] at hb;cases hb];exact hb
 rcases hb with rfl|hb
 ·exact k _ _ hne ⟨_,ha⟩ hu
 ·exact k _ _ (n1 b hb) ⟨_,hb⟩ hu
theorem Inv.hid(I:Inv X pins σ H s)(he:H e=some (.ext φ)):Inv X pins σ (L2.hid e H) s:=by
 refine⟨I.ok,I.os,I.bare,⟨I.base.keep,I.base.slot,fun b o h1 h2 h3=>zz8 (I.base.free b o h1 h2 h3),I.base.there,fun b xs q=>?_,fun b o u q=>?_,fun b ps q=>?_⟩,I.loc,I.cell,zz8 I.free,fun x c h=>zz8 (I.freeC x c h),fun p hp=>?_,I.hok.hid he fun _ _ _ _ h=>h,I.len⟩
 ·have z:=I.base.tups b xs q
  rw[zv1 fun y=>by rw[y,he] at z;cases z];exact z
 ·have z:=I.base.frzs b o u q
  rw[zv1 fun y=>by rw[y,he] at z;cases z];exact z
 ·obtain⟨more,z⟩:=I.base.tbls b ps q
  exact⟨more,by rw[zv1 fun y=>by rw[y,he] at z;cases z];exact z⟩
 ·obtain⟨a1,a2,a3,a4,a5⟩:=I.pin p hp
  exact⟨a1,zz8 a2,a3,a4,a5⟩
theorem zx9.of_init{cls:Value}{dx:Option Addr}(I:Inv X pins σ H s)(he:H e=some (exN e cls dx))(hen:∀ o,X.s₀.heap.get? e=some o->e∈X.ex):zx9 X pins σ (L2.hid e H) (PySem.W.hideAll s.heap (e :: frs X.stack)) e cls dx s:=by
 obtain⟨⟨t,ht⟩,_,_⟩:=(show zf2 X.prog X.w H s.heap e (exN e cls dx) from I.hok e _ he)
 refine⟨I.hid he,I.hok.hid he fun b u hb hh hu=>PySem.W.hideAll_get _ hu ?_,⟨fun b o hb=>PySem.W.of_hideAll _ hb,?_,?_,?_⟩,fun b o e0 n h1 h2=>?_,hen⟩
 ·intro hm
  obtain⟨o,hh⟩:=hh
  rcases zcf2.mp hm with z|hm
  ·exact hb z
  ·rw[I.stkFree b hm] at hh;cases hh
 ·exact PySem.W.hideAll_none _ zcg1
 ·refine PySem.W.funFrames_hide I.stack fun env hv a hf=>?_
  exact zcf5 _ (List.mem_filterMap.mpr ⟨env,hv,hf⟩)
 ·exact⟨_,_,ht,rfl,rfl,rfl,by simp,.inl rfl⟩
 ·refine PySem.W.hideAll_get _ (I.base.keep b o e0 n h1 h2) fun hm=>?_
  rcases zcf2.mp hm with rfl|hm
  ·exact h2 (hen _ e0)
  ·exact zab6 I e0 h1 hm
end
@[irreducible] def zr5(C:Addr)(fld:Str)(E:XK)(v:V)(H:Hp):Prop:=∀ d H',H d=none->Same H H'->H' d=some (.xd [(fld,v)])->E (.ref C) (some d) H'
def zbi1(C:Addr)(fld:Str)(E:XK)(t:TE):TS:=fun _ σ H=>t σ H fun v H1=>zr5 C fld E v H1
theorem zaq1{fld:Str}{E:XK}{v:V}(q:∀ d H',H d=none->Same H H'->H' d=some (.xd [(fld,v)])->E (.ref C) (some d) H'):zr5 C fld E v H:=by unfold zr5;exact q
theorem zbk8{f:Addr}{fld pn x:Str}{fd:FuncData}{k:Nat}{E:XK}{e₀:Expr}{te:TE}{np:Pos}(Z:IniK X.K C aH f fld)(hm:X.mg x=some (.ref C))(Fi:FnOk X.prog X.w X.K X.mg X.base CX0 k f fd ["self",pn] (zx5 C fld))(hb:zz5 X.K fd ["self",pn] [])(hr:Room (k+1) X.A)(hc:X.calm=true)(hout:XOut X E)(he0:PE X e₀ te)(hg:Gl X x:=by rfl)(hd:(x==("__debug__":Str))=false:=by decide)(he:starEach [e₀] X.env=(false,eval e₀ X.env) :: starEach [] X.env:=by rfl)(hpl:(backTo cpos (starEach [] X.env)).any (·.1)=false:=by rfl) :
  PS X (.Raise (some (.Call (.Name x np) [e₀] [] cpos)) none pos) (zbi1 C fld E te):=by
 intro pins s σ H D I h
 obtain⟨nm,qn,N,bs,sn,sub,ab,col,dd,k0,k1,k2,k3,k5,lk⟩:=Z.ob
 refine zbb0 (K:=X.K) (C:=C) (nm:=nm) (q:=qn) (N:=N) (bs:=bs) (bm:=.ref aH :: bmV) (hdct:=true) (sn:=sn) (sub:=sub) (ab:=ab) (col:=col) (dd:=dd) (k0:=k0) (k1:=k1) (k2:=k2) (k3:=k3) (k5:=k5) PySem.F.excBase_ValueError
  (by rw[List.contains_cons,show List.contains bmV (Value.type "BaseException")=true by decide +kernel,Bool.or_true]) (I.ok.hd hc) (by rw[he];show (false || (backTo cpos (starEach [] X.env)).any (·.1))=false;rw[hpl];rfl) Z.init Z.fn (zq6 I hg hm ⟨rfl,?_⟩ hd)
 have hA:=za0 he0 (za1) he cpos pins s σ H (fun vs H1=>∃ v,vs=[v]/\zr5 C fld E v H1) I (by
  show te σ H fun v H1=>∃ v',[v]=[v']/\zr5 C fld E v' H1
  have e:(fun (v:V) (H1:Hp)=>∃ v',[v]=[v']/\zr5 C fld E v' H1)=fun v H1=>zr5 C fld E v H1:=by
   funext v H1
   apply propext
   exact⟨fun ⟨v',e1,e2⟩=>by cases e1;exact e2,fun e2=>⟨v,rfl,e2⟩⟩
  rw[e];exact h)
 rw[he] at hA ⊢
 refine Calls.evalArgs_plain (thn hA fun us s2 ⟨vs,H1,I1,r,v,ev,q⟩=>?_)
 subst ev
 obtain⟨u,rfl,ru⟩:=r.one
 refine⟨rfl,by show 1<=sizeLine;decide,I1.kIn _ _ lk,I1.kIn,Z.tl _ I1.kIn,fun h' e m hz=>?_⟩
 obtain⟨t,ht,_,_⟩:=m.there
 have hfe:H1 e=none:=I1.hok.fresh hz
 have I2:=I1.laid (a:=e) (o:=exN e (.ref C) none) (h':=h') (t':=s2.toks) m.keeps hz (zbp7 ⟨t,ht⟩)
 have hsp:zx5 C fld [.ref e,v] (upd H1 e (exN e (.ref C) none)) (fun w H'=>w=.non/\∃ d,H1 d=none/\d≠e/\Chg e (upd H1 e (exN e (.ref C) none)) H'/\H' e=some (exN e (.ref C) (some d))/\H' d=some (.xd [(fld,v)])) E:=by
  unfold zx5
  refine⟨e,v,rfl,zc3,fun d H' hd hne hch h1 h2=>⟨rfl,d,?_,hne,hch,h1,h2⟩⟩
  rw[zc6 hne] at hd;exact hd
 refine wpAny_call (codeAny_mono (Fi.run _ X.stack _ _ ⟨[.ref e,u],[]⟩ [.ref e,u] [.ref e,v] _ _ (hr.make C [u] []) (I2.env0.make C [u] []) (hb _ [.ref e,u] I2.kIn rfl) (.cons rfl (.cons ru .nil)) hsp) fun r s' hq'=>?_)
 cases r with
 | error e=>exact False.elim hq'
 | ok fl=>
  cases fl with
  | ret u'=>
   obtain⟨v',H3,I3,rv,rfl,d,hd1,hd2,hch,h3,h4⟩:=I2.after hq'
   cases (show u'=Value.none from rv)
   obtain⟨⟨t',ht'⟩,_,_⟩:=(show zf2 X.prog X.w H3 s'.heap e (exN e (.ref C) (some d)) from I3.hok e _ h3)
   refine⟨rfl,⟨t',some d,ht'⟩,I3.kIn _ _ lk,?_⟩
   have hen:∀ o,X.s₀.heap.get? e=some o->e∈X.ex:=fun o z=>by
    apply Classical.byContradiction
    intro hx
    obtain⟨o',k⟩:=I1.base.there e o z hx
    rw[m.new] at k
    cases k
   unfold zr5 at q
   refine hout _ _ _ _ _ _ _ _ (zx9.of_init I3 h3 hen) (q d _ hd1 (fun b o hb=>?_) (by rw[zv1 hd2];exact h4))
   have nb:=za6 hb hfe
   rw[zv1 nb]
   exact hch b o nb (by rw[zc6 nb];exact hb)
  | next=>exact False.elim hq'
  | brk=>exact False.elim hq'
  | cont=>exact False.elim hq'
end
def zbp6(e D d:Addr)(h:Heap):Prop:=ExcIs e (.ref D) (some d) h/\∃ od,h.get? d=some od
section
open PySem.W PySem.Calls
theorem zba0{prog:Program}{w:World}{A:Around}{E:Value->Shared->Prop}{K:Frag}{dx:Addr}{g d t os}{Q:Option Value->Shared->Prop}(X:K.In h)(x:zbp6 e D dx h)(k:ExcK K D)(hq:Q (some (.ref D)) ⟨h,g,d,t+1,os⟩):wpAny (model prog w) A (getAttr? (.ref e) "__class__") Q E ⟨h,g,d,t,os⟩:=by
 obtain⟨⟨oe,vs,he,hc,hdx,hd⟩,od,hod⟩:=x
 obtain⟨h1,h2,h3,h4,h5⟩:=k
 have L0:Looks (model prog w) h (typeOf (.ref e)) (.ref D):=hc▸(Looks.ld he).andThen .now
 have L1:=looks_findIn (M:=model prog w) X h1
 have L2:=looks_findIn (M:=model prog w) X h2
 have L3:=looks_findIn (M:=model prog w) X h3
 have hx:(onTheHeap (Value.ref D)&&Value.builtin "BaseException.__getattribute__"==Value.builtin "object.__getattribute__")=false:=by
  have z:(Value.builtin "BaseException.__getattribute__"==Value.builtin "object.__getattribute__")=false:=by decide +kernel
  rw[z];rfl
 have I:InstAt h e oe D (some od):=⟨he,hc,by unfold notCls;rw[hd],by rw[hdx];exact hod⟩
 have L4:Looks (model prog w) h (isInstance (.ref e) (.type "BaseException")) true:=L0.andThen (looks_subIn X h4)
 have FB:=PySem.F.attrBase_ValueError
 have f3:=FB.ga.bind (.ref e)
 have kd:builtinKind "BaseException.__getattribute__"=some .slot:=by decide +kernel
 have sid:splitId "BaseException.__getattribute__"=some ("BaseException","__getattribute__"):=by decide +kernel
 have aok:=PySem.F.args_bexc_ga (.ref e) (.str "__class__" t)
 have f5:=KF.type_class
 have f6:=PySem.F.slot_gs_get.lookup
 have f7:=PySem.F.slot_gs_set.lookup
 unfold getAttr? getAttrBy? getAttrBy
 refine zcn3 (wpAny_mkText (zcn3 (wpAny_attempt (zcn8 (zcn3 (L0.at (zcn3 (L1.at ?_))))))))
 dsimp only
 rw[if_neg (by rw[hx];decide)]
 unfold getAttrByItsOwn hookBefore
 repeat (any_goals (first|assumption|with_reducible refine L0.at ?_|with_reducible refine L1.at ?_|with_reducible refine L2.at ?_|with_reducible refine L3.at ?_|wp_step))
 refine codeAny_call_builtin FB.ga.plain PySem.F.entry_bexc_ga ?_
 simp only[checkBuiltinCall,kd,sid]
 refine zcn3 (L4.at ?_)
 repeat (any_goals (first|assumption|with_reducible refine L0.at ?_|with_reducible refine L1.at ?_|with_reducible refine L2.at ?_|with_reducible refine L3.at ?_|wp_step))
 refine class_get (ox:=oe) (od:=some od) X I h5 ?_
 repeat (any_goals (first|assumption|wp_step))
theorem zbg8{K:Frag}{dx:Addr}(k:ExcK K D)(hcl:(clsIn K D).isSome=true):KitX K (.ref e) (.ref D) (zbp6 e D dx) where
 ty:=fun M h _ p=>by
  obtain⟨⟨oe,vs,he,hc,_⟩,_⟩:=p
  exact hc▸(Looks.ld he).andThen .now
 it:=fun M h X p=>by
  obtain⟨cd,hcd⟩:=zck6.mp hcl
  unfold clsIn at hcd
  split at hcd
  ·rename_i ho
   intro A' Q' E' s' kk q
   unfold isType loadHead
   exact zcn3 (wpAny_loadPart (kk _ _ (X _ _ ho)) (zcn4 q))
  ·cases hcd
 ne:=fun h tp dd its n sl X htp=>by
  refine Bool.eq_false_iff.mpr fun q=>?_
  have z:D=tp:=Value.ref.inj (beq_iff_eq.mp q)
  subst z
  obtain⟨cd,hcd⟩:=zck6.mp hcl
  unfold clsIn at hcd
  split at hcd
  ·rename_i ho
   cases (X _ _ ho).symm.trans htp
  ·cases hcd
 ca:=fun {prog w A E Q s} X p q=>by
  obtain⟨hh,g,d,t,os⟩:=s
  exact zba0 X p k q
theorem zbm3{prog:Program}{w:World}{A:Around}{E:Value->Shared->Prop}{K:Frag}{oe od:Obj}{vs:Array Value}{dx:Addr}{name:Str}{v:Value}{expr:Bool}{s:Shared}{Q:Value->Shared->Prop}(X:K.In s.heap)(he:s.heap.get? e=some oe)(hc:oe.cls=.ref D)(hdx:oe.dict=some dx)(hd:oe.data=.fields vs)(hod:s.heap.get? dx=some od)(k:ExcK K D)(hh:hasDictIn K D=true)(ha:findIn K (.ref D) name=some none)(hl:lookIn name od=some (some v))(hv:handedIn v=true)(hq:Q v { s with toks:=s.toks+1 }):wpAny (model prog w) A (getAttr (.ref e) name expr) Q E s:=by
 obtain⟨h,g,d,t,os⟩:=s
 obtain⟨h1,h2,h3,h4,h5⟩:=k
 have L0:Looks (model prog w) h (typeOf (.ref e)) (.ref D):=hc▸(Looks.ld he).andThen .now
 have L1:=looks_findIn (M:=model prog w) X h1
 have L2:=looks_findIn (M:=model prog w) X h2
 have hx:(onTheHeap (Value.ref D)&&Value.builtin "BaseException.__getattribute__"==Value.builtin "object.__getattribute__")=false:=by
  have z:(Value.builtin "BaseException.__getattribute__"==Value.builtin "object.__getattribute__")=false:=by decide +kernel
  rw[z];rfl
 have I:InstAt h e oe D (some od):=⟨he,hc,by unfold notCls;rw[hd],by rw[hdx];exact hod⟩
 have L5:=looks_find (M:=model prog w) X I (findObj_own hh ha rfl hl)
 have L4:Looks (model prog w) h (isInstance (.ref e) (.type "BaseException")) true:=L0.andThen (looks_subIn X h4)
 have FB:=PySem.F.attrBase_ValueError
 have f3:=FB.ga.bind (.ref e)
 have hx0:(expr&&onTheHeap (Value.builtin "BaseException.__getattribute__"))=false:=by cases expr<;>rfl
 have kd:builtinKind "BaseException.__getattribute__"=some .slot:=by decide +kernel
 have sid:splitId "BaseException.__getattribute__"=some ("BaseException","__getattribute__"):=by decide +kernel
 have aok:=PySem.F.args_bexc_ga (.ref e) (.str name t)
 unfold getAttr getAttrBy
 refine zcn3 (wpAny_mkText (zcn8 (zcn3 (L0.at (zcn3 (L1.at ?_))))))
 dsimp only
 rw[if_neg (by rw[hx];decide)]
 unfold getAttrByItsOwn hookBefore
 repeat (any_goals (first|assumption|with_reducible refine L0.at ?_|with_reducible refine L1.at ?_|with_reducible refine L2.at ?_|wp_step))
 refine codeAny_call_builtin FB.ga.plain PySem.F.entry_bexc_ga ?_
 simp only[checkBuiltinCall,kd,sid]
 refine zcn3 (L4.at ?_)
 repeat (any_goals (first|assumption|with_reducible refine L0.at ?_|with_reducible refine L1.at ?_|with_reducible refine L2.at ?_|with_reducible refine L5.at ?_|wp_step))
 show wpAny _ _ (handedOut v) _ _ _
 rw[handedOut_of hv]
 exact zcn4 hq
end
section
variable {X:Cx}{K:zce1}{H:Hp}{Q:VK}
@[irreducible] def zae0(K:zce1)(x c:V)(H:Hp)(Q:VK):Prop:=zao9 K x c H Q∨∃ (ea D d:Addr) (fs:List (Str×V)) (b:Bool),x=.ref ea/\H ea=some (excO ea (.ref D) (some d))/\H d=some (.xd fs)/\ExcK K D/\(zcg8 K D).isSome=true/\(∀ cv,RelV c cv->zce8 K (.ref D) cv=some b)/\Q (.bl b) H
def zbp4(K:zce1):List V->Hp->VK->Prop:=fun xs H Q=>match xs with
 | [x,c]=>zae0 K x c H Q
 | _=>False
theorem zu6(hK:X.K=K):zk0 X (.builtin "isinstance") (zbp4 K):=by
 subst hK
 intro pins s σ H xs us Q I r h
 unfold zbp4 at h
 split at h
 ·unfold zae0 at h
  rcases h with h|⟨ea,D,d,fs,b,rfl,h1,h0,h2,h3,h4,h5⟩
  ·exact cIsiX rfl pins s σ H _ us Q I r h
  ·obtain⟨u,w,rfl,r1,r2⟩:=vals2 r
   cases r1
   obtain⟨p,_⟩:=I.hok ea _ h1
   obtain⟨_,⟨od,_,_,e0,_⟩,_⟩:=(show zf2 X.prog X.w H s.heap d (.xd fs) from I.hok d _ h0)
   exact zci9 (zbg8 h2 h3) I.kIn ⟨p,od,e0⟩ (h4 _ r2) (fun z=>nomatch z) fun tk=>⟨.bl b,H,I.tok _,rfl,h5⟩
 ·exact h.elim
theorem zbi5{x c:V}(h:zao9 K x c H Q):zae0 K x c H Q:=by unfold zae0;exact .inl h
theorem zbk7{ea d:Addr}{fs:List (Str×V)}{b:Bool}(h1:H ea=some (excO ea (.ref D) (some d)))(h0:H d=some (.xd fs))(h2:ExcK K D)(h3:(zcg8 K D).isSome=true)(e:zce8 K (.ref D) (.ref C)=some b)(q:Q (.bl b) H):zae0 K (.ref ea) (.ref C) H Q:=by
 unfold zae0;exact .inr ⟨ea,D,d,fs,b,rfl,h1,h0,h2,h3,fun cv r=>by cases r;exact e,q⟩
theorem zbm2{ea d:Addr}{fs:List (Str×V)}{n:String}{b:Bool}(h1:H ea=some (excO ea (.ref D) (some d)))(h0:H d=some (.xd fs))(h2:ExcK K D)(h3:(zcg8 K D).isSome=true)(e:zce8 K (.ref D) (.type n)=some b)(q:Q (.bl b) H):zae0 K (.ref ea) (.ty n) H Q:=by
 unfold zae0;exact .inr ⟨ea,D,d,fs,b,rfl,h1,h0,h2,h3,fun cv r=>by cases r;exact e,q⟩
@[irreducible] def rFldE(K:zce1)(ea:Addr)(f:Str)(H:Hp)(Q:VK):Prop:=∃ (D d:Addr) (fs:List (Str×V)) (v:V),H ea=some (excO ea (.ref D) (some d))/\H d=some (.xd fs)/\fs.lookup f=some v/\ExcK K D/\zcm5 K D=true/\zch4 K (.ref D) f=some none/\Q v H
def qFldE(K:zce1)(te:TE)(f:Str):TE:=fun σ H Q=>te σ H fun x H1=>match x with
 | .ref ea=>rFldE K ea f H1 Q
 | _=>False
theorem peFldE{e:Expr}{te:TE}{f:Str}(hK:X.K=K)(he:PE X e te)(hb:attributeBase e f X.env (eval e X.env)=eval e X.env:=by rfl):PE X (.Attribute e f pos) (qFldE K te f):=by
 subst hK
 intro pins s σ H Q I h
 refine zbt7 hb (thn (he pins s σ H _ I h) fun u s1 ⟨x,H1,I1,rx,q⟩=>?_)
 dsimp only at q
 split at q
 case h_2=>exact q.elim
 rename_i ea
 obtain rfl:u=Value.ref ea:=rx
 unfold rFldE at q
 obtain⟨D,d,fs,v,h1,h2,h3,h4,h5,h6,q⟩:=q
 obtain⟨⟨oe,vs,he,hc,hdx,hd⟩,_⟩:=I1.hok ea _ h1
 obtain⟨mA,n,r⟩:=(show zf2 X.prog X.w H1 s1.heap d (.xd fs) from I1.hok d _ h2)
 obtain⟨od,hod,hl⟩:=zal5 n
 obtain⟨u,hu,ru⟩:=RelO.some_of (v:=v) (o:=mA f) (by rw[← h3];exact r f)
 exact zbm3 I1.kIn he hc hdx hd hod h4 h5 h6 (by rw[hl,hu]) (zbg4 ru) ⟨v,H1,I1.tok _,ru,q⟩
theorem zbr1{ea d:Addr}{f:Str}{fs:List (Str×V)}{v:V}(h1:H ea=some (excO ea (.ref D) (some d)))(h2:H d=some (.xd fs))(h3:fs.lookup f=some v)(h4:ExcK K D)(h5:zcm5 K D=true)(h6:zch4 K (.ref D) f=some none)(q:Q v H):rFldE K ea f H Q:=by
 unfold rFldE;exact⟨D,d,fs,v,h1,h2,h3,h4,h5,h6,q⟩
end
def IniF(K:zce1)(qual:Str)(st:Stmt)(f:Addr)(pn:Str):Prop:=∃ fd,Fun K "__init__" qual st f fd/\zz5 K fd ["self",pn] []
def IniOk(P:Program)(w:World)(K:zce1)(mg:Str->Option Value)(base:Heap)(C f:Addr)(fld:Str):Prop:=∃ pn fd,FnOk P w K mg base CX0 1 f fd ["self",pn] (zx5 C fld)/\zz5 K fd ["self",pn] []
theorem zbh3{K:zce1}(X:K.In h)(q:PySem.W.excIn K aH bmV newV=true):OwnTail h bmV (.ref aH :: bmV):=by
 refine PySem.W.tail_of_in X ?_
 unfold PySem.W.excIn at q
 split at q
 case h_2=>cases q
 rename_i dd cd sl ho
 split at q
 case h_2=>cases q
 simp only[zci7,beq_iff_eq,Bool.not_eq_true'] at q
 obtain⟨⟨⟨⟨⟨q1,q2⟩,q3⟩,q4⟩,q5⟩,q6⟩:=q
 unfold PySem.W.tailIn
 dsimp only
 rw[ho]
 dsimp only
 rw[q5,q6]
 have e:PySem.W.tailIn K bmV bmV=true:=by unfold PySem.W.tailIn;rw[Bool.or_eq_true];exact .inl (by simp)
 rw[e]
 simp
theorem zax9{X:Cx}{f:Addr}{fld x:Str}{E:XK}{e₀:Expr}{te:TE}{np:Pos}(Z:IniK X.K C aH f fld)(hm:X.mg x=some (.ref C))(O:IniOk X.prog X.w X.K X.mg X.base C f fld)(hr:Room 2 X.A)(hc:X.calm=true)(hout:XOut X E)(he0:PE X e₀ te)(hg:Gl X x:=by rfl)(hd:(x==("__debug__":Str))=false:=by decide)(he:starEach [e₀] X.env=(false,eval e₀ X.env) :: starEach [] X.env:=by rfl)(hpl:(backTo cpos (starEach [] X.env)).any (·.1)=false:=by rfl) :
  PS X (.Raise (some (.Call (.Name x np) [e₀] [] cpos)) none pos) (zbi1 C fld E te):=by
 obtain⟨pn,fd,Fi,hb⟩:=O
 exact zbk8 Z hm Fi hb hr hc hout he0 hg hd he hpl
set_option maxHeartbeats 2000000
def zbg5(x0:Str)(names:List (Str×NameKind)):Prop:=names.filter (fun y=>y.2==.cell)=[(x0,.cell)]/\names.lookup x0=some .cell
theorem zbg5.only{x0:Str}{names:List (Str×NameKind)}(h:zbg5 x0 names):∀ y∈names,y.2=.cell->y.1=x0:=fun y hy hc=>by
 have:y∈names.filter (fun y=>y.2==.cell):=List.mem_filter.mpr ⟨hy,by rw[hc];rfl⟩
 rw[h.1] at this
 rw[zcj5.mp this]
set_option maxHeartbeats 1000000
section
variable {κ:Type}[DecidableEq κ]
def valV(kvs:List (κ×V))(k:κ):Option V:=(kvs.find? fun kv=>decide (kv.1=k)).map (·.2)
def putK(kvs:List (κ×V))(k:κ)(v:V):List (κ×V):=
 if (kvs.any fun kv=>decide (kv.1=k))=true then kvs.map (fun kv=>if kv.1=k then (kv.1,v) else kv) else kvs++[(k,v)]
theorem zaw9{p:κ×V}{r:List (κ×V)}{k:κ}(e:p.1=k):valV (p :: r) k=some p.2:=by simp[valV,zcl7,e]
theorem zau4{p:κ×V}{r:List (κ×V)}{k:κ}(e:¬ p.1=k):valV (p :: r) k=valV r k:=by simp[valV,zcl7,e]
theorem RelO.getD{o:Option V}{u:Option Value}{d:V}{d':Value}(r:RelO o u)(rd:RelV d d'):RelV (o.getD d) (u.getD d'):=by
 cases o with
 | none=>cases u with
  | none=>exact rd
  | some _=>exact (show False from r).elim
 | some _=>cases u with
  | none=>exact (show False from r).elim
  | some _=>exact r
theorem KV.val{kvs:List (κ×V)}{vs:List (κ×Value)}(r:KV kvs vs)(k:κ):RelO (valV kvs k) (valueAt vs k):=by
 unfold KV at r
 induction r with
 | nil=>exact True.intro
 | @cons p q ps qs h t ih=>
  obtain⟨h1,h2⟩:=h
  by_cases e:p.1=k
  ·have e':q.1=k:=h1.symm.trans e
   have b:valueAt (q :: qs) k=some q.2:=by simp[valueAt,zcl7,e']
   rw[zaw9 e,b];exact h2
  ·have e':¬ q.1=k:=fun z=>e (h1.trans z)
   have b:valueAt (q :: qs) k=valueAt qs k:=by simp[valueAt,zcl7,e']
   rw[zau4 e,b];exact ih
theorem KV.any{kvs:List (κ×V)}{vs:List (κ×Value)}(r:KV kvs vs)(k:κ):(kvs.any fun kv=>decide (kv.1=k))=vs.any fun kv=>decide (kv.1=k):=by
 unfold KV at r
 induction r with
 | nil=>rfl
 | cons h t ih=>rw[List.any_cons,List.any_cons,ih,h.1]
theorem KV.keys{kvs:List (κ×V)}{vs:List (κ×Value)}(r:KV kvs vs):kvs.map (·.1)=vs.map (·.1):=by
 unfold KV at r
 induction r with
 | nil=>rfl
 | cons h t ih=>rw[zcj4,zcj4,ih,h.1]
theorem KV.length{kvs:List (κ×V)}{vs:List (κ×Value)}(r:KV kvs vs):kvs.length=vs.length:=Paired.length r
end
theorem kV_is{P:Program}{w:World}{k:Key}(r:RelV (kV k) u):(zm8 P w).is k u=true:=by
 cases k with
 | inl i=>obtain⟨t,e⟩:=(show ∃ t,u=Value.int i t from r);subst e;exact zar8 P w i t
 | inr x=>obtain⟨t,e⟩:=(show ∃ t,u=Value.str x t from r);subst e;exact zu1 P w x t
section
variable {P:Program}{w:World}{H:Hp}{h:Heap}{a:Addr}
theorem rd_of{u:HO}(ok:HOk P w H h)(e:Rd H a u):zf2 P w H h a u:=e.ok ok
theorem dk_rd{kvs:List (Key×V)}(ok:HOk P w H h)(e:Rd H a (.dK kvs)):kvs.length<=sizeLine/\(a==sysModules)=false/\∃ vs,KV kvs vs/\h.DictOf (zm8 P w) a vs:=
 show zf2 P w H h a (.dK kvs) from rd_of ok e
theorem dk_of{kvs:List (Key×V)}(ok:HOk P w H h)(e:H a=some (.dK kvs)):kvs.length<=sizeLine/\(a==sysModules)=false/\∃ vs,KV kvs vs/\h.DictOf (zm8 P w) a vs:=dk_rd ok (.inl e)
end
def DGet(H:Hp)(a:Addr)(y:V)(r:Option V):Prop:=
 (∃ kvs k,Rd H a (.dK kvs)/\y=kV k/\r=valV kvs k)∨∃ kvs k b,Rd H a (.dT kvs)/\y=.ref b/\H b=some (.tup (k.map kV))/\r=valV kvs k
def DPut(H:Hp)(a:Addr)(y v:V)(H':Hp):Prop:=
 (∃ kvs k,H a=some (.dK kvs)/\y=kV k/\kvs.length<sizeLine/\H'=upd H a (.dK (putK kvs k v))) ∨
 ∃ kvs k b,H a=some (.dT kvs)/\y=.ref b/\H b=some (.tup (k.map kV))/\kvs.length<sizeLine/\H'=upd H a (.dT (putK kvs k v))
theorem DGet.k{H:Hp}{a:Addr}{kvs:List (Key×V)}{k:Key}(e:H a=some (.dK kvs)):DGet H a (kV k) (valV kvs k):=.inl ⟨kvs,k,.inl e,rfl,rfl⟩
theorem DGet.t{a b:Addr}{kvs:List (List Key×V)}{k:List Key}(e:H a=some (.dT kvs))(eb:H b=some (.tup (k.map kV))):DGet H a (.ref b) (valV kvs k):=.inr ⟨kvs,k,b,.inl e,rfl,eb,rfl⟩
theorem DPut.k{H:Hp}{a:Addr}{kvs:List (Key×V)}{k:Key}{v:V}(e:H a=some (.dK kvs))(hl:kvs.length<sizeLine):DPut H a (kV k) v (upd H a (.dK (putK kvs k v))):=.inl ⟨kvs,k,e,rfl,hl,rfl⟩
theorem DPut.t{a b:Addr}{kvs:List (List Key×V)}{k:List Key}{v:V}(e:H a=some (.dT kvs))(eb:H b=some (.tup (k.map kV)))(hl:kvs.length<sizeLine) :
  DPut H a (.ref b) v (upd H a (.dT (putK kvs k v))):=.inr ⟨kvs,k,b,e,rfl,eb,hl,rfl⟩
section
variable {X:Cx}{pins:List (Addr×Obj)}{σ:St}{H:Hp}{s:Shared}{a:Addr}{y v:V}{u r:Value}{o:Option V}{A:Around}{E:Value->Shared->Prop}
end
set_option maxHeartbeats 2000000
def RawD(h:Heap)(d:Addr)(es:Array DictEntry)(ep:Nat):Prop:=∃ o,h.get? d=some o/\o.ExactDict/\o.data=.dict es ep
theorem RawD.lt{h:Heap}{d:Addr}{es:Array DictEntry}{ep:Nat}(x:RawD h d es ep):d<h.objs.size:=let ⟨_,a,_⟩:=x;zcf6 a
open PySem.W
section
variable {lt:Nat->Nat->Bool}{n:Nat}
def KW{α:Type}(lt:Nat->Nat->Bool)(n:Nat)(Q:α->Prop):KasT α->Prop
 | .ret a=>Q a
 | .ask i j k=>i<n/\j<n/\KW lt n Q (k (lt i j))
theorem KW.mono{α:Type}{Q Q':α->Prop}(hq:∀ a,Q a->Q' a):∀ {t:KasT α},KW lt n Q t->KW lt n Q' t
 | .ret a,h=>hq a h
 | .ask _ _ k,⟨h1,h2,h3⟩=>⟨h1,h2,KW.mono hq (t:=k _) h3⟩
def Pm(n:Nat)(p:Array Nat):Prop:=p.toList.Perm (List.range n)
end
def ltP(x y:Int×Int):Bool:=if (x.1==y.1)=true then (if (x.2==y.2)=true then false else decide (x.2<y.2)) else decide (x.1<y.1)
section
variable {X:Cx}{K:zce1}
end
section
variable {lt:Nat->Nat->Bool}{n:Nat}
theorem Pm.size{p:Array Nat}(h:Pm n p):p.size=n:=by have:=h.length_eq;rw[zcf7,zcf8] at this;exact this
end
set_option maxHeartbeats 4000000
mutual
inductive ShV(H:Hp):V->PyData->Prop
 | non:ShV H .non .none
 | bl (b:Bool):ShV H (.bl b) (.bool b)
 | int (i:Int):ShV H (.int i) (.int i)
 | str (x:Str):ShV H (.str x) (.str x)
 | lst {a:Addr}{xs:List V}{ds:List PyData}:H a=some (.lst xs)->ShL H xs ds->ShV H (.ref a) (.list ds)
 | tup {a:Addr}{xs:List V}{ds:List PyData}:H a=some (.tup xs)->ShL H xs ds->ShV H (.ref a) (.tuple ds)
inductive ShL(H:Hp):List V->List PyData->Prop
 | nil:ShL H [] []
 | cons {x:V}{d:PyData}{xs:List V}{ds:List PyData}:ShV H x d->ShL H xs ds->ShL H (x :: xs) (d :: ds)
end
section
variable {X:Cx}{pins:List (Addr×Obj)}{σ:St}{H H':Hp}{s:Shared}{Q:VK}
theorem ShL.len{xs:List V}{ds:List PyData}(h:ShL H xs ds):xs.length=ds.length:=match h with
 | .nil=>rfl
 | .cons _ b=>by rw[zcf1,zcf1,b.len]
mutual
theorem ShV.reads(I:Inv X pins σ H s){v:V}{d:PyData}{u:Value}(h:ShV H v d)(r:RelV v u):∃ as,Reads s.heap u d as:=match h with
 | .non=>by cases (show u=Value.none from r);exact⟨_,.none⟩
 | .bl b=>by cases (show u=Value.bool b from r);exact⟨_,.bool b⟩
 | .int i=>by obtain⟨t,q⟩:=(show ∃ t,u=Value.int i t from r);cases q;exact⟨_,.int i t⟩
 | .str x=>by obtain⟨t,q⟩:=(show ∃ t,u=Value.str x t from r);cases q;exact⟨_,.str x t⟩
 | .lst (a:=a) (xs:=xs) e l=>by
  cases (show u=Value.ref a from r)
  obtain⟨_,us,n,rv,h1⟩:=(show zf2 X.prog X.w H s.heap a (.lst xs) from I.hok a _ e)
  obtain⟨as,ra⟩:=l.reads I rv
  exact⟨_,.list h1 rfl rfl (by simpa using ra)⟩
 | .tup (a:=a) (xs:=xs) e l=>by
  cases (show u=Value.ref a from r)
  obtain⟨_,us,rv,o,h1,h2,n,h3⟩:=(show zf2 X.prog X.w H s.heap a (.tup xs) from I.hok a _ e)
  obtain⟨as,ra⟩:=l.reads I rv
  exact⟨_,.tuple h1 h2 h3 (by simpa using ra)⟩
theorem ShL.reads(I:Inv X pins σ H s){xs:List V}{ds:List PyData}{us:List Value}(h:ShL H xs ds)(r:Vals xs us):∃ as,ReadsAll s.heap us ds as:=match h,r with
 | .nil,.nil=>⟨_,.nil⟩
 | .cons a b,.cons r1 r2=>by
  obtain⟨as,ra⟩:=a.reads I r1
  obtain⟨bs,rb⟩:=b.reads I r2
  exact⟨_,.cons ra rb⟩
end
structure zj5(d:PyData)(k m:Nat):Prop where
 ok:d.showable=true
 nd:d.hasDict=false
 dp:d.depth<=k
 ln:d.shown.length<=m
theorem zj5.up{d:PyData}{k k' m':Nat}(h:zj5 d k m)(h1:k<=k')(h2:m<=m'):zj5 d k' m':=⟨h.ok,h.nd,zci0 h.dp h1,zci0 h.ln h2⟩
theorem zak0{k m:Nat}:∀ {ds:List PyData},(∀ d∈ds,zj5 d k m)->PyData.showableAll ds=true/\PyData.hasDictAll ds=false/\PyData.depthAll ds<=k/\piled (PyData.shownAll ds)<=ds.length*(m+2)
 | [],_=>⟨rfl,rfl,zcl0 _,by simp[PyData.shownAll,piled]⟩
 | d :: ds,h=>by
  have h0:=h d (.head _)
  obtain⟨a1,a2,a3,a4⟩:=zak0 (ds:=ds) fun x hx=>h x (.tail _ hx)
  refine⟨by simp[PyData.showableAll,h0.ok,a1],by simp[PyData.hasDictAll,h0.nd,a2],?_,?_⟩
  ·have:=h0.dp
   simp only[PyData.depthAll]
   omega
  ·have:=h0.ln
   simp only[PyData.shownAll,piled_cons,zcf1,zcn2]
   omega
theorem zac9:∀ (ts:List Str) (k:Nat) (acc:Str),(textFrom k acc ts).length<=acc.length+piled ts
 | [],_,acc=>by simp[textFrom,piled]
 | t :: ts,k,acc=>by
  have ih:=zac9 ts (k+1) (acc++(if k>0 then ", " else "":String)++t)
  have e:(acc++(if k>0 then ", " else "":String)++t).length=acc.length+(if k>0 then 2 else 0)+t.length:=by
   rw[strLen_append,strLen_append]
   congr 2
   split<;>rfl
  rw[piled_cons]
  show (textFrom (k+1) _ ts).length<=_
  rw[e] at ih
  have e2:(if k>0 then 2 else 0)<=2:=by split<;>omega
  omega
theorem zj5.list{ds:List PyData}{k m:Nat}(h:∀ d∈ds,zj5 d k m):zj5 (.list ds) (k+1) (ds.length*(m+2)+2):=by
 obtain⟨a1,a2,a3,a4⟩:=zak0 h
 refine⟨by simpa [PyData.showable] using a1,by simpa [PyData.hasDict] using a2,by simp only[PyData.depth];omega,?_⟩
 have:=zac9 (PyData.shownAll ds) 0 "["
 have e1:((("[":String):Str)).length=1:=rfl
 have e2:((("]":String):Str)).length=1:=rfl
 simp only[PyData.shown,listText,strLen_append]
 omega
theorem zj5.tuple{ds:List PyData}{k m:Nat}(h:∀ d∈ds,zj5 d k m):zj5 (.tuple ds) (k+1) (ds.length*(m+2)+4):=by
 obtain⟨a1,a2,a3,a4⟩:=zak0 h
 refine⟨by simpa [PyData.showable] using a1,by simpa [PyData.hasDict] using a2,by simp only[PyData.depth];omega,?_⟩
 have e1:((("(":String):Str)).length=1:=rfl
 have e3:((if (PyData.shownAll ds).length==1 then ",)" else ")":String):Str).length<=2:=by split<;>decide
 have e4:(Str.join ", " (PyData.shownAll ds)).length<=piled (PyData.shownAll ds):=by
  by_cases z:PyData.shownAll ds=[]
  ·rw[z];decide
  ·have:=join_length_add _ z;omega
 simp only[PyData.shown,tupleText,strLen_append]
 omega
theorem zj5.int{i:Int}(h:-(10 ^ 100)<=i)(h':i<=10 ^ 100):zj5 (.int i) 0 1921:=by
 have hl:i.natAbs.log2<1920:=by
  by_cases z:i.natAbs=0
  ·rw[z];decide
  ·rw[Nat.log2_lt z]
   have h1:i.natAbs<=10 ^ 100:=by omega
   exact Nat.lt_of_le_of_lt h1 (by decide +kernel)
 exact⟨by simpa [PyData.showable] using hl,rfl,by simp[PyData.depth],by simpa only [PyData.shown] using PyProof.Rows.int_text_len_1921 hl⟩
theorem zj5.bl{b:Bool}:zj5 (.bool b) 0 5:=by cases b<;>exact⟨rfl,rfl,by simp[PyData.depth],by decide⟩
theorem zj5.str{x:Str}{m:Nat}(h:(reprText x).length<=m):zj5 (.str x) 0 m:=⟨rfl,rfl,by simp[PyData.depth],h⟩
theorem ShL.of{xs:List V}(f:V->PyData)(h:∀ x∈xs,ShV H x (f x)):ShL H xs (xs.map f):=by
 induction xs with
 | nil=>exact .nil
 | cons x xs ih=>exact .cons (h x (.head _)) (ih fun y hy=>h y (.tail _ hy))
end
mutual
def sml:PyData->Bool
 | .none | .bool _ | .int _ | .str _=>true
 | .list xs | .tuple xs=>decide (xs.length<=1000)&&zax5 xs
 | .dict _=>false
def zax5:List PyData->Bool
 | []=>true
 | x :: xs=>sml x&&zax5 xs
end
theorem zad4:∀ {ds:List PyData},(∀ d∈ds,sml d=true)->zax5 ds=true
 | [],_=>rfl
 | d :: ds,h=>by simp[zax5,h d (.head _),zad4 fun x hx=>h x (.tail _ hx)]
section
variable {H H':Hp}{K:zce1}{Q:VK}
theorem ShL.ex{P:PyData->Prop}:∀ {xs:List V},(∀ x∈xs,∃ d,ShV H x d/\P d)->∃ ds,ShL H xs ds/\∀ d∈ds,P d
 | [],_=>⟨[],.nil,fun _ h=>by cases h⟩
 | x :: xs,h=>by
  obtain⟨d,h1,h2⟩:=h x (.head _)
  obtain⟨ds,h3,h4⟩:=ShL.ex (xs:=xs) fun y hy=>h y (.tail _ hy)
  refine⟨d :: ds,.cons h1 h3,fun e he=>?_⟩
  rcases zcf2.mp he with rfl|he
  ·exact h2
  ·exact h4 e he
def Rda(H:Hp)(v:V)(k m:Nat):Prop:=∃ d,ShV H v d/\sml d=true/\zj5 d k m
theorem Rda.up{v:V}{k m k' m':Nat}(h:Rda H v k m)(h1:k<=k':=by omega)(h2:m<=m':=by omega):Rda H v k' m':=by obtain⟨d,a,b,c⟩:=h;exact⟨d,a,b,c.up h1 h2⟩
theorem Rda.int{i:Int}(h:-(10 ^ 100)<=i)(h':i<=10 ^ 100):Rda H (.int i) 0 1921:=⟨_,.int i,rfl,zj5.int h h'⟩
theorem Rda.bl{b:Bool}:Rda H (.bl b) 0 1921:=⟨_,.bl b,rfl,zj5.bl.up (by omega) (by omega)⟩
theorem Rda.str{x:Str}(h:(reprText x).length<=1921):Rda H (.str x) 0 1921:=⟨_,.str x,rfl,zj5.str h⟩
theorem Rda.lst{a:Addr}{xs:List V}{k m:Nat}(e:H a=some (.lst xs))(l:xs.length<=1000)(h:∀ x∈xs,Rda H x k m):Rda H (.ref a) (k+1) (xs.length*(m+2)+4):=by
 obtain⟨ds,h1,h2⟩:=ShL.ex (P:=fun d=>sml d=true/\zj5 d k m) h
 have hl:=h1.len
 refine⟨.list ds,.lst e h1,?_,?_⟩
 ·simp only[sml,zci7,decide_eq_true_eq]
  exact⟨by omega,zad4 fun d hd=>(h2 d hd).1⟩
 ·have:=zj5.list (ds:=ds) (k:=k) (m:=m) fun d hd=>(h2 d hd).2
  rw[hl]
  exact this.up (zcg0 _) (by omega)
theorem Rda.tup{a:Addr}{xs:List V}{k m:Nat}(e:H a=some (.tup xs))(l:xs.length<=1000)(h:∀ x∈xs,Rda H x k m):Rda H (.ref a) (k+1) (xs.length*(m+2)+4):=by
 obtain⟨ds,h1,h2⟩:=ShL.ex (P:=fun d=>sml d=true/\zj5 d k m) h
 have hl:=h1.len
 refine⟨.tuple ds,.tup e h1,?_,?_⟩
 ·simp only[sml,zci7,decide_eq_true_eq]
  exact⟨by omega,zad4 fun d hd=>(h2 d hd).1⟩
 ·have:=zj5.tuple (ds:=ds) (k:=k) (m:=m) fun d hd=>(h2 d hd).2
  rw[hl]
  exact this
end
section
variable {X:Cx}{K:zce1}{H:Hp}{Q:VK}
@[irreducible] def rInA(K:zce1)(neg:Bool)(x:V)(p:Addr)(H:Hp)(Q:VK):Prop:=∃ xs,(SqL K H p xs∨SqT K H p xs)/\zh1 x=true/\xs.all zh1=true/\Q (.bl (if neg then !inV x xs else inV x xs)) H
def rInM(K:zce1)(neg:Bool):R2:=fun x y H Q=>match y with
 | .ref p=>rInA K neg x p H Q
 | _=>False
theorem oInK(hK:X.K=K):OpR X (compareOp .In) (rInM K false):=by
 subst hK
 intro pins s σ H x y v u Q I rx ry h
 unfold rInM at h
 split at h
 ·unfold rInA at h
  obtain⟨xs,h1,h2,h3,h4⟩:=h
  exact zbc9 pins s σ H _ _ v u Q I rx ry ⟨_,xs,rfl,h1,h2,h3,h4⟩
 ·exact h.elim
theorem inT_rd{x:V}{p:Addr}(h:SqT K H p xs)(h1:zh1 x=true)(h2:xs.all zh1=true)(q:Q (.bl (inV x xs)) H):rInA K false x p H Q:=by unfold rInA;exact⟨xs,.inr h,h1,h2,q⟩
def strD:PyData->Str
 | .str x=>x
 | d=>d.shown
@[irreducible] def zbj9(x:V)(H:Hp)(Q:VK):Prop:=∃ d:PyData,ShV H x d/\zj5 d 20 16000000/\Q (.str (strD d)) H
def zbo1:List V->Hp->VK->Prop:=fun xs H Q=>match xs with
 | [x]=>zbj9 x H Q
 | _=>False
theorem zai8(hr:Room j X.A):zk0 X (.type "str") zbo1:=fun pins s σ H xs us Q I r h=>by
 unfold zbo1 at h
 split at h
 ·unfold zbj9 at h
  obtain⟨d,hv,hs,q⟩:=h
  obtain⟨u,rfl,r1⟩:=zw6 r
  have:=hr.un
  have hd:=hs.dp
  cases hv with
  | non=>cases (show u=Value.none from r1);exact P.str_of_none ⟨.str _,H,I.tok _,⟨_,rfl⟩,q⟩
  | bl b=>cases (show u=Value.bool b from r1);exact P.str_of_bool ⟨.str _,H,I.tok _,⟨_,rfl⟩,q⟩
  | int i=>
   obtain⟨t,e⟩:=(show ∃ t,u=Value.int i t from r1)
   cases e
   have ok:decide (i.natAbs.log2<1920)=true:=hs.ok
   exact P.str_of_int (of_decide_eq_true ok) ⟨.str _,H,I.tok _,⟨_,rfl⟩,q⟩
  | str x=>
   obtain⟨t,e⟩:=(show ∃ t,u=Value.str x t from r1)
   cases e
   exact P.str_of_str ⟨.str x,H,I,⟨_,rfl⟩,q⟩
  | @lst a xs ds e l=>
   cases (show u=Value.ref a from r1)
   obtain⟨as,rd⟩:=(ShV.lst e l).reads I rfl
   exact str_of_reads (h₀:=s.heap) rd hs.ok (fun z=>by rw[hs.nd] at z;cases z) hr.gd (by omega) (fun _ _ e=>e) (fun h' u tk hk=>⟨.str _,H,I.kept hk,⟨_,rfl⟩,q⟩) (zci0 hs.ln (by decide))
  | @tup a xs ds e l=>
   cases (show u=Value.ref a from r1)
   obtain⟨as,rd⟩:=(ShV.tup e l).reads I rfl
   exact str_of_reads (h₀:=s.heap) rd hs.ok (fun z=>by rw[hs.nd] at z;cases z) hr.gd (by omega) (fun _ _ e=>e) (fun h' u tk hk=>⟨.str _,H,I.kept hk,⟨_,rfl⟩,q⟩) (zci0 hs.ln (by decide))
 ·exact h.elim
theorem zas5{x:V}{d:PyData}(h:ShV H x d)(hs:zj5 d 20 16000000)(q:Q (.str (strD d)) H):zbj9 x H Q:=by unfold zbj9;exact⟨d,h,hs,q⟩
end
section
variable {X:Cx}{K:zce1}{H:Hp}{Q:VK}
def dI(kv:List (Int×Int)):List (Key×V):=kv.map fun z=>(.inl z.1,.int z.2)
def valI(kv:List (Int×Int))(i:Int):Option Int:=(kv.find? fun z=>decide (z.1=i)).map (·.2)
theorem zbj2(i:Int):∀ kv:List (Int×Int),valV (dI kv) (.inl i)=(valI kv i).map V.int
 | []=>rfl
 | z :: kv=>by
  by_cases e:z.1=i
  ·show valV (((.inl z.1:Key),V.int z.2) :: dI kv) (.inl i)=_
   rw[zaw9 (by exact congrArg Sum.inl e)]
   unfold valI
   rw[zcl7,decide_eq_true e];rfl
  ·show valV (((.inl z.1:Key),V.int z.2) :: dI kv) (.inl i)=_
   rw[zau4 (by exact fun q=>e (Sum.inl.inj q)),zbj2 i kv]
   unfold valI
   rw[zcl7,decide_eq_false e]
def eqDI(ka kb:List (Int×Int)):Bool:=ka.length==kb.length&&ka.all fun z=>valI kb z.1==some z.2
theorem zat8{A:Around}{s:Shared}{kb:List (Int×Int)}{ws:List (Key×Value)}(rb:KV (dI kb) ws):∀ {ka:List (Int×Int)}{vs:List (Key×Value)},KV (dI ka) vs->KeqHits A s ws vs (ka.all fun z=>valI kb z.1==some z.2)
 | [],vs,r=>by
  unfold KV dI at r
  cases r
  exact .nil
 | z :: ka,vs,r=>by
  unfold KV dI at r
  rw[zcj4] at r
  cases r with
  | @cons p q ps qs h t=>
   obtain⟨h1,h2⟩:=h
   obtain⟨k,v⟩:=q
   cases (show (Sum.inl z.1:Key)=k from h1)
   have val:=rb.val (.inl z.1)
   rw[zbj2] at val
   rw[List.all_cons]
   cases e:valI kb z.1 with
   | none=>
    rw[e] at val
    have:valueAt ws (.inl z.1)=none:=by
     cases w:valueAt ws (.inl z.1) with
     | none=>rfl
     | some y=>rw[w] at val;exact val.elim
    have f:((none:Option Int)==some z.2)=false:=rfl
    rw[f,Bool.false_and]
    exact .miss this
   | some n=>
    rw[e] at val
    obtain⟨y,ey,ry⟩:∃ y,valueAt ws (.inl z.1)=some y/\RelV (.int n) y:=by
     cases w:valueAt ws (.inl z.1) with
     | none=>rw[w] at val;exact val.elim
     | some y=>rw[w] at val;exact⟨y,rfl,val⟩
    have q:=zbe4 (A:=A) (s:=s) (show RelV (.int z.2) v from h2) ry rfl rfl
    have e2:eqV (.int z.2) (.int n)=(some n==some z.2):=by
     by_cases d:z.2=n
     ·subst d;simp[eqV]
     ·have d':¬ n=z.2:=fun x=>d x.symm
      show (z.2==n)=(some n==some z.2)
      rw[beq_eq_false_iff_ne.mpr d]
      exact (beq_eq_false_iff_ne.mpr fun x=>d' (Option.some.inj x)).symm
    rw[e2] at q
    exact .hit ey q (zat8 rb t)
@[irreducible] def rEqX(K:zce1)(x y:V)(H:Hp)(Q:VK):Prop:=
 (∃ a b n c,x=.ref a/\y=.ref b/\n<=40/\EqR K H n (.ref a) (.ref b) c/\Q (.bl c) H) ∨
 (∃ a b ka kb,x=.ref a/\y=.ref b/\H a=some (.dK (dI ka))/\H b=some (.dK (dI kb))/\Q (.bl (eqDI ka kb)) H) ∨
 ∃ d e,ShV H x d/\ShV H y e/\d.canLay0=true/\e.canLay0=true/\d.depth<=40/\Q (.bl (PyData.eqv d e)) H
def zba1(K:zce1):R2:=fun x y H Q=>match x,y with
 | .int i,.int j=>Q (.bl (decide (i=j))) H
 | .bl i,.bl j=>Q (.bl (decide (i=j))) H
 | .str i,.str j=>Q (.bl (decide (i=j))) H
 | x,y=>rEqX K x y H Q
def rNeXM(K:zce1):R2:=fun x y H Q=>zba1 K x y H fun v H'=>match v with
 | .bl b=>Q (.bl (!b)) H'
 | _=>False
theorem oEqX(hu:X.A.units+40<cLine):OpR X (compareOp .Eq) (zba1 X.K):=by
 intro pins s σ H x y v u Q I rx ry h
 unfold zba1 at h
 split at h
 ·exact zat9 pins s σ H _ _ v u Q I rx ry ⟨rfl,by rw[zl9 (f:=V.int) fun a b e=>V.int.inj e];exact h⟩
 ·exact zat9 pins s σ H _ _ v u Q I rx ry ⟨rfl,by rw[zl9 (f:=V.bl) fun a b e=>V.bl.inj e];exact h⟩
 ·exact zat9 pins s σ H _ _ v u Q I rx ry ⟨rfl,by rw[zl9 (f:=V.str) fun a b e=>V.str.inj e];exact h⟩
 ·unfold rEqX at h
  rcases h with ⟨a,b,n,c,rfl,rfl,hn,h1,h2⟩|⟨a,b,ka,kb,rfl,rfl,ea,eb,h⟩|⟨d,e,hd,he,cd,ce,dd,h⟩
  ·cases rx
   cases ry
   exact EqR.rc I h1 (A:=X.A) (by omega) _ _ _ _ ⟨.bl c,H,I,rfl,h2⟩
  ·cases rx
   cases ry
   obtain⟨_,sa,vs,ra,da⟩:=dk_of I.hok ea
   obtain⟨_,sb,ws,rb,db⟩:=dk_of I.hok eb
   refine keq_eq sa sb da db (by omega) (fun _=>zat8 rb ra) ⟨.bl (eqDI ka kb),H,I,?_,h⟩
   have la:vs.length=ka.length:=by rw[← ra.length];unfold dI;rw[zcd9]
   have lb:ws.length=kb.length:=by rw[← rb.length];unfold dI;rw[zcd9]
   rw[la,lb]
   rfl
  ·obtain⟨as,r1⟩:=hd.reads I rx
   obtain⟨bs,r2⟩:=he.reads I ry
   exact SeqAt.compareEq_reads r1 r2 cd ce (by have:=Nat.min_le_left d.depth e.depth;omega) ⟨.bl (PyData.eqv d e),H,I,rfl,h⟩
theorem oNeX(hu:X.A.units+40<cLine):OpR X (compareOp .NotEq) (rNeXM X.K):=by
 intro pins s σ H x y v u Q I rx ry h
 unfold rNeXM zba1 at h
 split at h
 ·exact zau2 pins s σ H _ _ v u Q I rx ry ⟨rfl,by rw[zl9 (f:=V.int) fun a b e=>V.int.inj e];exact h⟩
 ·exact zau2 pins s σ H _ _ v u Q I rx ry ⟨rfl,by rw[zl9 (f:=V.bl) fun a b e=>V.bl.inj e];exact h⟩
 ·exact zau2 pins s σ H _ _ v u Q I rx ry ⟨rfl,by rw[zl9 (f:=V.str) fun a b e=>V.str.inj e];exact h⟩
 ·unfold rEqX at h
  rcases h with ⟨a,b,n,c,rfl,rfl,hn,h1,h2⟩|⟨a,b,ka,kb,rfl,rfl,ea,eb,h⟩|⟨d,e,hd,he,cd,ce,dd,h⟩
  ·cases rx
   cases ry
   exact EqR.rcNe I h1 (A:=X.A) (by omega) _ _ _ _ ⟨.bl (!c),H,I,rfl,h2⟩
  ·cases rx
   cases ry
   obtain⟨_,sa,vs,ra,da⟩:=dk_of I.hok ea
   obtain⟨_,sb,ws,rb,db⟩:=dk_of I.hok eb
   refine keq_ne sa sb da db (by omega) (fun _=>zat8 rb ra) ⟨.bl (!eqDI ka kb),H,I,?_,h⟩
   have la:vs.length=ka.length:=by rw[← ra.length];unfold dI;rw[zcd9]
   have lb:ws.length=kb.length:=by rw[← rb.length];unfold dI;rw[zcd9]
   rw[la,lb]
   rfl
  ·obtain⟨as,r1⟩:=hd.reads I rx
   obtain⟨bs,r2⟩:=he.reads I ry
   exact SeqAt.compareNe_reads r1 r2 cd ce (by have:=Nat.min_le_left d.depth e.depth;omega) ⟨.bl (!PyData.eqv d e),H,I,rfl,h⟩
theorem eqS_rd{x y:V}{d e:PyData}(hd:ShV H x d)(he:ShV H y e)(cd:d.canLay0=true)(ce:e.canLay0=true)(dd:d.depth<=40)(q:Q (.bl (PyData.eqv d e)) H):rEqX K x y H Q:=by unfold rEqX;exact .inr (.inr ⟨d,e,hd,he,cd,ce,dd,q⟩)
end
section
variable {X:Cx}{K:zce1}{H:Hp}{Q:VK}
def pV(x:Int×Int):List V:=[.int x.1,.int x.2]
@[irreducible] def rLtA(a b:Addr)(H:Hp)(Q:VK):Prop:=∃ x y:Int×Int,H a=some (.tup (pV x))/\H b=some (.tup (pV y))/\Q (.bl (ltP x y)) H
def rLtXM:R2:=fun x y H Q=>match x,y with
 | .int i,.int j=>Q (.bl (decide (i<j))) H
 | .ref a,.ref b=>rLtA a b H Q
 | _,_=>False
@[irreducible] def rSlX(K:zce1)(a:Addr)(lo hi:Option Int)(H:Hp)(Q:VK):Prop:=(∃ xs,SqL K H a xs/\∀ p H',H p=none->Same H H'->H' p=some (.lst (cutV xs lo hi))->Q (.ref p) H') ∨
 ∃ xs,SqT K H a xs/\¬ (HT.sIx xs.length 0 lo=0/\HT.sIx xs.length xs.length hi=xs.length)/\∀ p H',H p=none->Same H H'->H' p=some (.tup (cutV xs lo hi))->Q (.ref p) H'
def rSlXM(K:zce1):V->Option Int->Option Int->Hp->VK->Prop:=fun x lo hi H Q=>match x with
 | .ref a=>rSlX K a lo hi H Q
 | _=>False
theorem slX:SlR X (rSlXM X.K):=by
 intro pins s σ H x v vl vu lo hi sl Q I rx hs pl pu h
 unfold rSlXM at h
 split at h
 ·unfold rSlX at h
  rcases h with ⟨xs,h1,q⟩|⟨xs,h1,h2,q⟩
  ·exact zbd3 pins s σ H _ v vl vu lo hi sl Q I rx hs pl pu ⟨_,xs,rfl,h1,fun p hp=>q p _ hp (Same.upd hp) zc3⟩
  ·exact sl_tup pins s σ H _ v vl vu lo hi sl Q I rx hs pl pu ⟨_,xs,rfl,h1,h2,fun p hp=>q p _ hp (Same.upd hp) zc3⟩
 ·exact h.elim
theorem zan5{a:Addr}{lo hi:Option Int}(h:SqL K H a xs)(q:∀ p H',H p=none->Same H H'->H' p=some (.lst (cutV xs lo hi))->Q (.ref p) H'):rSlX K a lo hi H Q:=by unfold rSlX;exact .inl ⟨xs,h,q⟩
theorem oEqXK(hK:X.K=K)(hu:X.A.units+40<cLine):OpR X (compareOp .Eq) (zba1 K):=by subst hK;exact oEqX hu
theorem oNeXK(hK:X.K=K)(hu:X.A.units+40<cLine):OpR X (compareOp .NotEq) (rNeXM K):=by subst hK;exact oNeX hu
def rIsXM:R2:=fun x y H Q=>match x,y with
 | .bl i,.bl j=>Q (.bl (decide (i=j))) H
 | x,.non=>Q (.bl (decide (x=.non))) H
 | _,_=>False
theorem zay6(i j:Bool):isSame (.bool i) (.bool j)=pure (decide (i=j)):=by cases i<;>cases j<;>rfl
theorem oIsX:OpR X (compareOp .Is) rIsXM:=by
 intro pins s σ H x y v u Q I rx ry h
 unfold rIsXM at h
 split at h
 ·rename_i i j
  cases (show v=Value.bool i from rx)
  cases (show u=Value.bool j from ry)
  show wpAny _ _ (isSame (.bool i) (.bool j) >>= fun b=>pure (Value.bool b)) _ _ s
  rw[zay6]
  exact zcn3 (zcn4 (zcn4 ⟨.bl (decide (i=j)),H,I,rfl,h⟩))
 ·exact zbq3 pins s σ H _ _ v u Q I rx ry ⟨rfl,h⟩
 ·exact h.elim
end
set_option maxHeartbeats 2000000
set_option maxHeartbeats 4000000
set_option maxHeartbeats 2000000
section
variable {X:Cx}{K:zce1}
end
section
variable {X:Cx}{K:zce1}
end
set_option maxHeartbeats 4000000
section
variable {X:Cx}{K:zce1}{H:Hp}{Q:VK}
def eRef(c:Addr->Bool):Value->Bool
 | .ref a=>c a
 | _=>false
theorem zap3:∀ {rs:List Addr}{us:List Value},Vals (rs.map V.ref) us->us=rs.map Value.ref
 | [],us,h=>by cases h;rfl
 | r :: rs,us,h=>by
  cases h with
  | cons h1 h2=>
   have h1:_=Value.ref r:=h1
   rw[zcj4,← zap3 h2,h1]
end
abbrev Pb:=SetTable.Probe
def advM(mask:Nat)(p:Pb):Pb:=
 if p.more>0 then { j:=p.j+1,more:=p.more - 1,i:=p.i,perturb:=p.perturb,dummy:=p.dummy }
 else { j:=(SetTable.leap mask p.i p.perturb).1,more:=SetTable.runEnd mask (SetTable.leap mask p.i p.perturb).1 - (SetTable.leap mask p.i p.perturb).1,i:=(SetTable.leap mask p.i p.perturb).1,perturb:=(SetTable.leap mask p.i p.perturb).2,dummy:=p.dummy }
def runS(mask:Nat)(a:Nat×Nat):Pb:={ j:=a.1,more:=SetTable.runEnd mask a.1 - a.1,i:=a.1,perturb:=a.2,dummy:=none }
def stp(mask:Nat)(h:Int):Nat->Pb
 | 0=>runS mask (SetTable.bits h % (mask+1),SetTable.bits h)
 | k+1=>advM mask (stp mask h k)
def wk(mask:Nat)(h:Int)(k:Nat):Nat:=(stp mask h k).j
theorem zam6(mask:Nat)(h:Int):∀ k,(stp mask h k).dummy=none
 | 0=>rfl
 | k+1=>by
  show (advM mask (stp mask h k)).dummy=none
  unfold advM
  split<;>exact zam6 mask h k
abbrev Msk(mask:Nat):Prop:=mask=7∨mask=31
theorem least{P:Nat->Prop}[DecidablePred P]:∀ {N:Nat},(∃ k,k<N/\P k)->∃ k,k<N/\P k/\∀ k',k'<k->¬ P k'
 | 0,h=>by obtain⟨k,hk,_⟩:=h;omega
 | N+1,h=>by
  by_cases e:∃ k,k<N/\P k
  ·obtain⟨k,hk,p,q⟩:=least e
   exact⟨k,by omega,p,q⟩
  ·obtain⟨k,hk,p⟩:=h
   have:k=N:=by
    by_cases z:k<N
    ·exact absurd ⟨k,z,p⟩ e
    ·omega
   subst this
   exact⟨k,hk,p,fun k' hk' p'=>e ⟨k',hk',p'⟩⟩
theorem zai3{xs:Array Nat}{j:Nat}(srt:xs.toList.Pairwise (· < ·)):∀ (fuel lo hi:Nat),lo<=hi->hi<=xs.size->hi - lo<=fuel->(∀ (i:Nat) x,i<lo->xs[i]?=some x->x<j)->(∀ (i:Nat) x,hi<=i->xs[i]?=some x->j<=x) ->
  (SetTable.below.go xs j fuel lo hi<=xs.size/\(∀ (i:Nat) x,i<SetTable.below.go xs j fuel lo hi->xs[i]?=some x->x<j)/\∀ (i:Nat) x,SetTable.below.go xs j fuel lo hi<=i->xs[i]?=some x->j<=x)
 | 0,lo,hi,h1,h2,h3,a,b=>by
  rw[SetTable.below.go.eq_1]
  have:lo=hi:=by omega
  subst this
  exact⟨h2,a,b⟩
 | fuel+1,lo,hi,h1,h2,h3,a,b=>by
  have mono:∀ {i k:Nat}{x y:Nat},i<k->xs[i]?=some x->xs[k]?=some y->x<y:=fun {i k x y} hik e1 e2=>by
   rw[← zcg7] at e1 e2
   obtain⟨l1,g1⟩:=zce2.mp e1
   obtain⟨l2,g2⟩:=zce2.mp e2
   have:=List.pairwise_iff_getElem.mp srt i k l1 l2 hik
   rw[g1,g2] at this
   exact this
  rw[SetTable.below.go.eq_2]
  by_cases c:lo<hi
  ·rw[if_pos c]
   have hm:(lo+hi) / 2<xs.size:=by omega
   have em:xs[(lo+hi) / 2]?=some xs[(lo+hi) / 2]:=zcl2 hm
   have eg:xs.getD ((lo+hi) / 2) j=xs[(lo+hi) / 2]:=by rw[Array.getD_eq_getD_getElem?,em];rfl
   show _/\_
   by_cases d:xs.getD ((lo+hi) / 2) j<j
   ·rw[if_pos d]
    rw[eg] at d
    refine zai3 srt fuel _ hi (by omega) h2 (by omega) (fun i x hi' e=>?_) b
    by_cases z:i=(lo+hi) / 2
    ·subst z;rw[em] at e;cases e;exact d
    ·exact Nat.lt_trans (mono (by omega) e em) d
   ·rw[if_neg d]
    rw[eg] at d
    refine zai3 srt fuel lo _ (by omega) (by omega) (by omega) a (fun i x hi' e=>?_)
    by_cases z:i=(lo+hi) / 2
    ·subst z;rw[em] at e;cases e;omega
    ·have:=mono (show (lo+hi) / 2<i by omega) em e
     omega
  ·rw[if_neg c]
   have:lo=hi:=by omega
   subst this
   exact⟨h2,a,b⟩
theorem zbn8{xs:Array Nat}(srt:xs.toList.Pairwise (· < ·))(j:Nat):SetTable.below xs j<=xs.size/\(∀ (i:Nat) x,i<SetTable.below xs j->xs[i]?=some x->x<j)/\∀ (i:Nat) x,SetTable.below xs j<=i->xs[i]?=some x->j<=x:=
 zai3 srt _ 0 xs.size (zcl0 _) (zcg0 _) (by omega) (fun i x h=>by omega) (fun i x h e=>by
  have:=(Array.getElem?_eq_some_iff.mp e).1
  omega)
theorem zv0{xs:Array Nat}(srt:xs.toList.Pairwise (· < ·)){i:Nat}(e:xs[i]?=some j):SetTable.below xs j=i:=by
 obtain⟨a,b,c⟩:=zbn8 srt j
 by_cases h1:i<SetTable.below xs j
 ·have:=b i j h1 e;omega
 ·by_cases h2:SetTable.below xs j<i
  ·have hs:SetTable.below xs j<xs.size:=by have:=(Array.getElem?_eq_some_iff.mp e).1;omega
   have er:xs[SetTable.below xs j]?=some xs[SetTable.below xs j]:=zcl2 hs
   have:=c _ _ (zcg0 _) er
   rw[← zcg7] at e er
   obtain⟨l1,g1⟩:=zce2.mp e
   obtain⟨l2,g2⟩:=zce2.mp er
   have:=List.pairwise_iff_getElem.mp srt _ _ l2 l1 h2
   rw[g1,g2] at this
   omega
  ·omega
theorem zbr4(j:Nat):SetTable.has #[] j=false:=rfl
theorem zaa4{t:SetTable}(srt:t.place.toList.Pairwise (· < ·)){i:Nat}(e:t.place[i]?=some j):t.slot j=.live i:=by
 unfold SetTable.slot
 show (if (t.place[SetTable.below t.place j]?==some j)=true then _ else _)=_
 rw[zv0 srt e,e,if_pos (beq_self_eq_true _)]
theorem zaz9{t:SetTable}(dum:t.dummies=#[])(e:j ∉ t.place.toList):t.slot j=.empty:=by
 unfold SetTable.slot
 show (if (t.place[SetTable.below t.place j]?==some j)=true then _ else if SetTable.has t.dummies j=true then _ else _)=_
 have:¬ (t.place[SetTable.below t.place j]?==some j)=true:=fun h=>by
  have h:=eq_of_beq h
  rw[← zcg7] at h
  exact e (zce5 h)
 rw[if_neg this,dum,zbr4,if_neg zcf0]
structure TOk(t:SetTable)(hs:List Int):Prop where
 msk:Msk t.mask
 dum:t.dummies=#[]
 len:t.place.toList.length=hs.length
 srt:t.place.toList.Pairwise (· < ·)
 bnd:∀ j∈t.place.toList,j<=t.mask
 rch:∀ (i:Nat) h,hs[i]?=some h->∃ k,t.place.toList[i]?=some (wk t.mask h k)/\∀ k',k'<k->wk t.mask h k'∈t.place.toList
theorem zay4{t:SetTable}{hs:List Int}(T:TOk t hs){hashAt:Nat->Int}{h:Int}{k0:Nat}(free:wk t.mask h k0 ∉ t.place.toList)(full:∀ k',k'<k0->wk t.mask h k'∈t.place.toList):∀ (fuel k:Nat),k<=k0->k0 - k<fuel ->
  (∃ k1 i,k<=k1/\k1<k0/\t.place.toList[i]?=some (wk t.mask h k1)/\hashAt i=h/\SetTable.probe.go t hashAt h fuel (stp t.mask h k)=some (.candidate (wk t.mask h k1) i (stp t.mask h (k1+1)))/\∀ k',k<=k'->k'<k1->∀ i',t.place.toList[i']?=some (wk t.mask h k')->hashAt i'≠h) ∨
  (SetTable.probe.go t hashAt h fuel (stp t.mask h k)=some (.empty (wk t.mask h k0) none)/\∀ k',k<=k'->k'<k0->∀ i',t.place.toList[i']?=some (wk t.mask h k')->hashAt i'≠h)
 | 0,k,h1,h2=>by omega
 | fuel+1,k,h1,h2=>by
  rw[SetTable.probe.go.eq_2]
  by_cases e:k=k0
  ·subst e
   right
   rw[show t.slot (stp t.mask h k).j=.empty from zaz9 T.dum free]
   refine⟨?_,fun k' a b=>by omega⟩
   show some (SetTable.Met.empty (wk t.mask h k) (stp t.mask h k).dummy)=_
   rw[zam6]
  ·obtain⟨i,ei⟩:=zcl3 (full k (by omega))
   have ei':t.place[i]?=some (wk t.mask h k):=by rw[← zcg7];exact ei
   rw[show t.slot (stp t.mask h k).j=.live i from zaa4 T.srt ei']
   show (∃ k1 i1,_/\_/\_/\_/\(if (hashAt i==h)=true then some (SetTable.Met.candidate (wk t.mask h k) i (stp t.mask h (k+1))) else SetTable.probe.go t hashAt h fuel (stp t.mask h (k+1)))=_/\_)∨((if (hashAt i==h)=true then some (SetTable.Met.candidate (wk t.mask h k) i (stp t.mask h (k+1))) else SetTable.probe.go t hashAt h fuel (stp t.mask h (k+1)))=_/\_)
   by_cases c:hashAt i=h
   ·left
    exact⟨k,i,zcg0 _,by omega,ei,c,by rw[if_pos (by rw[c];exact beq_self_eq_true _)],fun k' a b=>by omega⟩
   ·have nc:¬ (hashAt i==h)=true:=fun z=>c (eq_of_beq z)
    rw[if_neg nc]
    have here:∀ i',t.place.toList[i']?=some (wk t.mask h k)->hashAt i'≠h:=fun i' e'=>by
     have:i'=i:=by
      have b1:=zv0 T.srt (i:=i') (j:=wk t.mask h k) (by rw[← zcg7];exact e')
      have b2:=zv0 T.srt ei'
      omega
     rw[this];exact c
    rcases zay4 T free full fuel (k+1) (by omega) (by omega) with ⟨k1,i1,a1,a2,a3,a4,a5,a6⟩|⟨a1,a2⟩
    ·left
     refine⟨k1,i1,by omega,a2,a3,a4,a5,fun k' b1 b2 i' e'=>?_⟩
     by_cases z:k'=k
     ·subst z;exact here i' e'
     ·exact a6 k' (by omega) b2 i' e'
    ·right
     refine⟨a1,fun k' b1 b2 i' e'=>?_⟩
     by_cases z:k'=k
     ·subst z;exact here i' e'
     ·exact a2 k' (by omega) b2 i' e'
theorem TOk.of{t t2:SetTable}{hs:List Int}(T:TOk t hs)(e1:t2.mask=t.mask)(e2:t2.place=t.place)(e3:t2.dummies=t.dummies):TOk t2 hs:=
 ⟨by rw[e1];exact T.msk,by rw[e3];exact T.dum,by rw[e2];exact T.len,by rw[e2];exact T.srt,by rw[e1,e2];exact T.bnd,by rw[e1,e2];exact T.rch⟩
section
variable {prog:Program}{w:World}{A:Around}{E:Value->Shared->Prop}{s:Shared}
theorem zv8{M:Model}{α β:Type}(f:α->β->Sem (ForInStep β))(I:List α->β->Shared->Prop)(Q:β->Shared->Prop)(hs:∀ (x:α) (rest:List α) (b:β) (s:Shared),I (x :: rest) b s->wpAny M A (f x b) (fun r s'=>match r with|ForInStep.yield b'=>I rest b' s' | ForInStep.done b'=>Q b' s') E s)(hd:∀ (b:β) (s:Shared),I [] b s->Q b s):∀ (xs:List α) (b:β) (s:Shared),I xs b s->wpAny M A (forIn xs b f) Q E s
 | [],b,s,h=>by rw[List.forIn_nil];exact zcn4 (hd b s h)
 | x :: xs,b,s,h=>by
  rw[List.forIn_cons]
  refine zcn3 ?_
  have:=hs x xs b s h
  revert this
  generalize f x b=m
  intro this
  refine wpAny_mono this (fun r s' hr=>?_) (fun _ _ h=>h)
  cases r with
  | done b'=>exact zcn4 hr
  | yield b'=>exact zv8 f I Q hs hd xs b' s' hr
theorem zbj5{ks:List Int}{vs:List Value}(h:PySem.ItemsAre (intKind prog w) ks vs):∀ v∈vs,carriedByValue v=true:=by
 induction h with
 | nil=>intro v hv;cases hv
 | cons h1 h2 ih=>
  intro v hv
  rcases zcf2.mp hv with rfl|hv
  ·exact (intKind prog w).byValue _ _ h1
  ·exact ih v hv
theorem noref{v:Value}(h:carriedByValue v=true):∀ a,v=Value.ref a->False:=fun a e=>by subst e;cases h
theorem zbg6{k:List Int}{p:Addr}{Q:Bool->Shared->Prop}(h:IsTupleKey (intKind prog w) s.heap k p)(q:Q false s):wpAny (model prog w) A (ofAClassStatement 8 (.ref p)) Q E s:=by
 show wpAny (model prog w) A (ofAClassStatement (7+1) (.ref p)) Q E s
 rw[ofAClassStatement.eq_2]
 refine zcn3 (wpAny_typeOf h.typeIs ?_)
 obtain⟨o,items,n,ho,hc,hd,hi⟩:=h
 show wpAny (model prog w) A (if ("tuple"=="tuple")=true then _ else _) Q E s
 refine wpAny_ite_true rfl ?_
 refine zcn3 (zcn4 ?_)
 refine zcn6 rfl ?_
 refine zcn3 (wpAny_seqItems ho hd ?_)
 refine zcn3 ?_
 refine wpAny_forIn_array' _ (fun rest b s'=>s'=s/\b=(none,())/\∀ v∈rest,carriedByValue v=true) _ ?_ ?_ items _ ⟨rfl,rfl,zbj5 hi⟩
 ·rintro x rest b s' ⟨rfl,rfl,hv⟩
  rw[ofAClassStatement.eq_3 _ _ (noref (hv x (.head _)))]
  refine zcn3 (zcn4 ?_)
  refine zcn6 rfl (zcn4 ?_)
  exact⟨rfl,rfl,fun v h=>hv v (.tail _ h)⟩
 ·rintro b s' ⟨rfl,rfl,_⟩
  exact zcn4 q
theorem zbt9{k:List Int}{q:Addr}{Q:Bool->Shared->Prop}(hk:IsTupleKey (intKind prog w) s.heap k q){vs:List Value}(hv:∀ v∈vs,∃ p k',v=.ref p/\IsTupleKey (intKind prog w) s.heap k' p)(hQ:Q false s):wpAny (model prog w) A (searchCouldBeSeen (.ref q) vs) Q E s:=by
 unfold searchCouldBeSeen
 refine zcn3 ?_
 refine zv8 _ (fun rest b s'=>s'=s/\b=(none,())/\∀ v∈rest,∃ p k',v=.ref p/\IsTupleKey (intKind prog w) s.heap k' p) _ ?_ ?_ vs _ _ ⟨rfl,rfl,hv⟩
 ·rintro x rest b s' ⟨rfl,rfl,hv⟩
  obtain⟨p,k',rfl,hp⟩:=hv x (.head _)
  have hr:∀ v∈rest,∃ p k',v=.ref p/\IsTupleKey (intKind prog w) s'.heap k' p:=fun v h=>hv v (.tail _ h)
  show wpAny (model prog w) A (if ((q==p) || carriedByValue (Value.ref q)&&carriedByValue (Value.ref p))=true then _ else _) _ E s'
  by_cases c:((q==p) || carriedByValue (Value.ref q)&&carriedByValue (Value.ref p))=true
  ·rw[if_pos c]
   exact zcn4 ⟨rfl,rfl,hr⟩
  ·rw[if_neg c]
   refine zcn3 (wpAny_eqIsQuiet_tuple hk ?_)
   refine zcn6 rfl ?_
   refine zcn3 (wpAny_eqIsQuiet_tuple hp ?_)
   refine zcn6 rfl ?_
   refine zcn3 (zbg6 hk ?_)
   refine zcn6 rfl ?_
   refine zcn3 (zbg6 hp ?_)
   refine zcn6 rfl ?_
   exact zcn4 ⟨rfl,rfl,hr⟩
 ·rintro b s' ⟨rfl,rfl,_⟩
  exact zcn4 hQ
structure SetE(prog:Program)(w:World)(h:Heap)(a:Addr)(o:Obj)(es:Array (Int×Value))(ep:Nat)(t:SetTable)(keys:List (List Int)):Prop where
 at_:h.get? a=some o
 ex:o.ExactSet
 dat:o.data=Data.set es ep t
 tab:TOk t (es.toList.map (·.1))
 few:es.size*5<t.mask*3
 sz:es.size=keys.length
 el:∀ e∈es.toList,∃ p k,k∈keys/\e=(zcn7 (intKind prog w) k,.ref p)/\IsTupleKey (intKind prog w) h k p
 all:∀ k∈keys,∃ e∈es.toList,∃ p,e=(zcn7 (intKind prog w) k,.ref p)/\IsTupleKey (intKind prog w) h k p
theorem SetE.mask{h:Heap}{a:Addr}{o:Obj}{es:Array (Int×Value)}{ep:Nat}{t:SetTable}{keys:List (List Int)}(S:SetE prog w h a o es ep t keys):Msk t.mask:=S.tab.msk
theorem TOk.fits{t:SetTable}{es:Array (Int×Value)}(T:TOk t (es.toList.map (·.1)))(few:es.size<=t.mask):t.fits es.size=true:=by
 have l:=T.len
 rw[zcd9,zcf7,zcf7] at l
 unfold SetTable.fits SetTable.fill
 rw[T.dum,l]
 simp
 exact few
theorem SetE.fits{h:Heap}{a:Addr}{o:Obj}{es:Array (Int×Value)}{ep:Nat}{t:SetTable}{keys:List (List Int)}(S:SetE prog w h a o es ep t keys):t.fits es.size=true:=S.tab.fits (by have:=S.few;omega)
theorem SetE.gave{a:Addr}{o:Obj}{t:SetTable}{keys:List (List Int)}(S:SetE prog w h a o es ep t keys):t.gaveWay=false:=by
 unfold SetTable.gaveWay
 rcases S.mask with e|e<;>rw[e]<;>rfl
theorem zax8(p:Addr):isSame (.ref p) (.ref p)=pure true:=by
 show (if (p==p)=true then pure true else _)=_
 rw[if_pos (beq_self_eq_true p)]
theorem zaw7(t:SetTable):t.sameMemory t.moves t.mask=some true:=by
 unfold SetTable.sameMemory
 rw[if_pos (beq_self_eq_true _)]
theorem zbp1{a:Addr}{o:Obj}{es:Array (Int×Value)}{ep:Nat}{t:SetTable}{keys:List (List Int)}(S:SetE prog w s.heap a o es ep t keys)(hA:A.units<cLine){k:List Int}{q:Addr}(hk:IsTupleKey (intKind prog w) s.heap k q){k0:Nat}(free:wk t.mask (zcn7 (intKind prog w) k) k0 ∉ t.place.toList)(full:∀ k',k'<k0->wk t.mask (zcn7 (intKind prog w) k) k'∈t.place.toList)(hk0:k0<10*(t.mask+14)){Q:SetFound->Shared->Prop}(q1:k∈keys->Q (.there none) s)(q2:k ∉ keys->Q (.free (wk t.mask (zcn7 (intKind prog w) k) k0) false) s) :
  ∀ (fuel n:Nat) (stand:Option SetTable.Probe),n<=k0->k0 - n<fuel->stand.getD (t.probeStart (zcn7 (intKind prog w) k))=stp t.mask (zcn7 (intKind prog w) k) n->(∀ k',k'<n->∀ (i:Nat) p,t.place.toList[i]?=some (wk t.mask (zcn7 (intKind prog w) k) k')->es.toList[i]?=some (zcn7 (intKind prog w) k,.ref p)->¬ IsTupleKey (intKind prog w) s.heap k p)->wpAny (model prog w) A (setSearchFrom a (.ref q) (zcn7 (intKind prog w) k) true fuel stand) Q E s
 | 0,n,stand,h1,h2,h3,h4=>by omega
 | fuel+1,n,stand,h1,h2,h3,h4=>by
  rw[setSearchFrom.eq_2]
  refine zcn3 (wpAny_setState_of S.at_ S.dat S.fits ?_)
  show wpAny (model prog w) A (if t.gaveWay=true then _ else _) Q E s
  rw[S.gave]
  refine zcn6 rfl ?_
  rw[h3]
  have hl:=S.tab.len
  rw[zcd9] at hl
  rcases zay4 S.tab (hashAt:=fun i=>(Option.map (fun x=>x.fst) es[i]?).getD 0) free full (10*(t.mask+15)) n h1 (by omega) with ⟨k1,i,b1,b2,b3,b4,b5,b6⟩|⟨b1,b2⟩
  ·have b5:t.probe (fun i=>(Option.map (fun x=>x.fst) es[i]?).getD 0) (zcn7 (intKind prog w) k) (stp t.mask (zcn7 (intKind prog w) k) n)=_:=b5
   show wpAny (model prog w) A (match t.probe (fun i=>(Option.map (fun x=>x.fst) es[i]?).getD 0) (zcn7 (intKind prog w) k) (stp t.mask (zcn7 (intKind prog w) k) n) with|some met=>_|_=>_) Q E s
   rw[b5]
   have hi:i<es.size:=by
    have:=(zce2.mp b3).1
    rw[hl,zcf7] at this
    exact this
   have ei:es[i]?=some es[i]:=zcl2 hi
   have em:es[i]∈es.toList:=by rw[zcm6];exact Array.getElem_mem hi
   obtain⟨p,k',hk',eq,hp⟩:=S.el _ em
   rw[eq] at ei em
   have hh:zcn7 (intKind prog w) k'=zcn7 (intKind prog w) k:=by
    rw[ei] at b4
    exact b4
   have inv:¬ k'=k->∀ k'',k''<k1+1->∀ (i':Nat) p',t.place.toList[i']?=some (wk t.mask (zcn7 (intKind prog w) k) k'')->es.toList[i']?=some (zcn7 (intKind prog w) k,.ref p')->¬ IsTupleKey (intKind prog w) s.heap k p':=fun ne k'' hk'' i' p' e1 e2 hp'=>by
    by_cases c1:k''<n
    ·exact h4 k'' c1 i' p' e1 e2 hp'
    ·by_cases c2:k''<k1
     ·have:=b6 k'' (by omega) c2 i' e1
      rw[← zcg7,e2] at this
      exact this rfl
     ·have:k''=k1:=by omega
      subst this
      have x1:=zv0 S.tab.srt (i:=i') (by rw[← zcg7];exact e1)
      have x2:=zv0 S.tab.srt (i:=i) (by rw[← zcg7];exact b3)
      have:i'=i:=by omega
      subst this
      rw[zcg7,ei] at e2
      have:=(Prod.mk.inj (Option.some.inj e2)).2
      cases this
      exact ne (IsTupleKey.inj hp hp')
   refine wpAny_ite ?_
   split
   ·refine zcn3 (zbt9 hk (fun v hv=>?_) ?_)
    ·obtain⟨z,hz,rfl⟩:=zch1.mp hv
     obtain⟨hz,_⟩:=Array.mem_filter.mp (zcm6.mp hz)
     obtain⟨p2,k2,_,e2,h2⟩:=S.el z (zcm6.mpr hz)
     exact⟨p2,k2,by rw[e2],h2⟩
    refine zcn6 rfl ?_
    rw[ei]
    refine zcn3 (zcn8 (wpAny_eqBool_tuple hA hp hk ?_))
    refine zcn3 (wpAny_setState_of S.at_ S.dat S.fits ?_)
    by_cases e:k'=k
    ·rw[decide_eq_true e]
     exact wpAny_ite_true rfl (zcn4 (q1 (e▸hk')))
    ·rw[decide_eq_false e]
     refine zcn6 rfl ?_
     rw[zaw7]
     show wpAny (model prog w) A (match t.slot (wk t.mask (zcn7 (intKind prog w) k) k1) with|SetTable.Slot.live i'=>_|x=>_) Q E s
     rw[zaa4 S.tab.srt (i:=i) (by rw[← zcg7];exact b3)]
     show wpAny (model prog w) A (match es[i]? with|some (fst,y')=>_|none=>_) Q E s
     rw[ei]
     refine zcn3 (wpAny_of_eq (zax8 p) ?_)
     refine zcn3 (zcn4 ?_)
     refine zcn6 rfl ?_
     exact zbp1 S hA hk free full hk0 q1 q2 fuel (k1+1) (some _) (by omega) (by omega) rfl (inv e)
   ·rw[ei]
    refine zcn3 (zcn8 (wpAny_eqBool_tuple hA hp hk ?_))
    refine zcn3 (wpAny_setState_of S.at_ S.dat S.fits ?_)
    by_cases e:k'=k
    ·rw[decide_eq_true e]
     exact wpAny_ite_true rfl (zcn4 (q1 (e▸hk')))
    ·rw[decide_eq_false e]
     refine zcn6 rfl ?_
     rw[zaw7]
     show wpAny (model prog w) A (match t.slot (wk t.mask (zcn7 (intKind prog w) k) k1) with|SetTable.Slot.live i'=>_|x=>_) Q E s
     rw[zaa4 S.tab.srt (i:=i) (by rw[← zcg7];exact b3)]
     show wpAny (model prog w) A (match es[i]? with|some (fst,y')=>_|none=>_) Q E s
     rw[ei]
     refine zcn3 (wpAny_of_eq (zax8 p) ?_)
     refine zcn3 (zcn4 ?_)
     refine zcn6 rfl ?_
     exact zbp1 S hA hk free full hk0 q1 q2 fuel (k1+1) (some _) (by omega) (by omega) rfl (inv e)
  ·have b1:t.probe (fun i=>(Option.map (fun x=>x.fst) es[i]?).getD 0) (zcn7 (intKind prog w) k) (stp t.mask (zcn7 (intKind prog w) k) n)=_:=b1
   show wpAny (model prog w) A (match t.probe (fun i=>(Option.map (fun x=>x.fst) es[i]?).getD 0) (zcn7 (intKind prog w) k) (stp t.mask (zcn7 (intKind prog w) k) n) with|some met=>_|_=>_) Q E s
   rw[b1]
   refine zcn4 (q2 fun hin=>?_)
   obtain⟨e,he,p,rfl,hp⟩:=S.all k hin
   obtain⟨i,ei⟩:=zcl3 he
   obtain⟨kx,r1,r2⟩:=S.tab.rch i (zcn7 (intKind prog w) k) (by rw[zce3,ei];rfl)
   have lt:kx<k0:=by
    by_cases z:kx<k0
    ·exact z
    ·exfalso
     by_cases z2:kx=k0
     ·subst z2
      exact free (zce5 r1)
     ·exact free (r2 k0 (by omega))
   by_cases c:kx<n
   ·exact h4 kx c i p r1 ei hp
   ·have:=b2 kx (by omega) lt i r1
    rw[← zcg7,ei] at this
    exact this rfl
end
section
variable {prog:Program}{w:World}{A:Around}{E:Value->Shared->Prop}{s:Shared}
theorem zbe2{h':Heap}{k:List Int}{p:Addr}(hk:IsTupleKey (intKind prog w) h k p)(m:∀ o,h.get? p=some o->h'.get? p=some o):IsTupleKey (intKind prog w) h' k p:=by
 obtain⟨o,i,n,g,c,d,x⟩:=hk
 exact⟨o,i,n,m o g,c,d,x⟩
theorem SetE.mono{h':Heap}{a:Addr}{o:Obj}{t:SetTable}{keys:List (List Int)}(S:SetE prog w h a o es ep t keys)(m:∀ b o,h.get? b=some o->h'.get? b=some o):SetE prog w h' a o es ep t keys:=
 ⟨m _ _ S.at_,S.ex,S.dat,S.tab,S.few,S.sz,fun e he=>by obtain⟨p,k,h1,h2,h3⟩:=S.el e he;exact⟨p,k,h1,h2,zbe2 h3 fun o g=>m _ o g⟩,fun k hk=>by obtain⟨e,he,p,h2,h3⟩:=S.all k hk;exact⟨e,he,p,h2,zbe2 h3 fun o g=>m _ o g⟩⟩
end
set_option maxHeartbeats 2000000
section
variable {X:Cx}{K:zce1}
def qSM(r:Str->List V->Hp->VK->Prop)(to:TE)(t:TA):TE:=fun σ H Q=>to σ H fun x H1=>match x with
 | .str p=>t σ H1 fun xs H2=>r p xs H2 Q
 | _=>False
def MtS(X:Cx)(id:String)(r:Str->List V->Hp->VK->Prop):Prop:=
 ∀ (pins:List (Addr×Obj)) (s:Shared) (σ:St) (H:Hp) (p:Str) (tk:Tok) (xs:List V) (us:List Value) (Q:VK),Inv X pins σ H s->Vals xs us->r p xs H Q ->
  wpAny (model X.prog X.w) X.A (call (.builtin id) (.str p tk :: us)) (EP X pins σ Q) X.xe s
theorem peSM{o e:Expr}{es:List Expr}{t:TA}{name:Str}{id:String}{r:Str->List V->Hp->VK->Prop}(slot:Slot "str" name id)(hty:typeOf (.builtin id)=pure (.type "method_descriptor"))(hm:MtS X id r)(ho:PE X o to)(ha:PA X (e :: es) t)(hbase:attributeBase o name X.env (eval o X.env)=eval o X.env:=by rfl)(hfew:((backTo cpos (starEach (e :: es) X.env)).all (fun x=>!x.1)&&(backToKw cpos (keywordEach [] X.env)).all (fun x=>x.1.isSome)
   && decide ((e :: es).length+([]:List Keyword).length+(if ([]:List Keyword).isEmpty then 0 else 1)<30))=true:=by rfl)(hline:(apos.endLine==cpos.line)=true:=by rfl)(hs:starEach (e :: es) X.env=(false,eval e X.env) :: starEach es X.env:=by rfl)(hplain:(backTo cpos (starEach es X.env)).any (·.1)=false:=by rfl) :
  PE X (.Call (.Attribute o name apos) (e :: es) [] cpos) (qSM r to t):=by
 intro pins s σ H Q I h
 refine wpAny_Call_method_late hbase hfew hline rfl (thn (ho pins s σ H _ I h) fun v s1 ⟨x,H1,I1,r1,q1⟩=>?_)
 dsimp only at q1
 split at q1
 ·rename_i p
  obtain⟨h1,h2⟩:=zbc8 (T:="str") I1 r1 rfl
  refine⟨"str",id,PySem.F.plainAttrs_str,slot,hty,h1,h2,?_⟩
  have hA:=ha cpos pins s1 σ H1 _ I1 q1
  rw[hs] at hA ⊢
  refine Calls.callWith_builtin (by show (false || (backTo cpos (starEach es X.env)).any (·.1))=false;rw[hplain]<;>rfl) (Calls.evalArgs_plain ?_)
  obtain⟨tk,rfl⟩:=r1
  exact thn hA fun us s2 ⟨vs,H2,I2,r2,q2⟩=>hm pins s2 σ H2 p tk vs us Q I2 r2 q2
 ·exact q1.elim
theorem zaw0:∀ {ys:List Str}{us:List Value},Vals (ys.map V.str) us->StrsAre us ys
 | [],us,h=>by cases h;exact .nil
 | y :: ys,us,h=>by
  cases h with
  | cons h1 h2=>
   obtain⟨t,rfl⟩:=h1
   exact .cons y t (zaw0 h2)
@[irreducible] def zaw6(K:zce1)(x:Str)(p:Addr)(H:Hp)(Q:VK):Prop:=∃ ys:List Str,SqL K H p (ys.map V.str)/\(ys.map (·.length)).sum+ys.length*x.length<=16777216/\Q (.str (Txt.join x ys)) H
def zbh4(K:zce1):Str->List V->Hp->VK->Prop:=fun x vs H Q=>match vs with
 | [.ref p]=>zaw6 K x p H Q
 | _=>False
theorem mJoin:MtS X "str.join" (zbh4 X.K):=fun pins s σ H x tk xs us Q I r h=>by
 unfold zbh4 at h
 split at h
 ·unfold zaw6 at h
  obtain⟨ys,h1,h2,q⟩:=h
  obtain⟨u,rfl,r1⟩:=zw6 r
  cases r1
  obtain⟨its,r2,pl,_⟩:=I.list h1
  exact join_list pl.isList (zaw0 r2) h2 fun t' k=>⟨.str _,H,I.tok _,⟨_,rfl⟩,q⟩
 ·exact h.elim
theorem zac2{x:Str}{p:Addr}{Q:VK}{ys:List Str}(h:H p=some (.lst (ys.map V.str)))(hz:(ys.map (·.length)).sum+ys.length*x.length<=16777216)(q:Q (.str (Txt.join x ys)) H):zaw6 K x p H Q:=by unfold zaw6;exact⟨ys,SqL.of h,hz,q⟩
theorem zs3{o e:Expr}{t:TA}(hK:X.K=K)(ho:PE X o to)(ha:PA X [e] t)(hbase:attributeBase o "join" X.env (eval o X.env)=eval o X.env:=by rfl)(hfew:((backTo cpos (starEach [e] X.env)).all (fun x=>!x.1)&&(backToKw cpos (keywordEach [] X.env)).all (fun x=>x.1.isSome)
   && decide ([e].length+([]:List Keyword).length+(if ([]:List Keyword).isEmpty then 0 else 1)<30))=true:=by rfl)(hline:(apos.endLine==cpos.line)=true:=by rfl)(hs:starEach [e] X.env=(false,eval e X.env) :: starEach [] X.env:=by rfl)(hplain:(backTo cpos (starEach [] X.env)).any (·.1)=false:=by rfl):PE X (.Call (.Attribute o "join" apos) [e] [] cpos) (qSM (zbh4 K) to t):=by
 subst hK
 exact peSM PySem.F.slot_str_join PySem.F.type_str_join mJoin ho ha hbase hfew hline hs hplain
theorem zan6:∀ (ys:List Str) (k:Nat),Vals (ys.map V.str) (strsFrom k ys)
 | [],_=>.nil
 | y :: ys,k=>.cons ⟨_,rfl⟩ (zan6 ys (k+1))
@[irreducible] def zak8(x y:Str)(H:Hp)(Q:VK):Prop:=(y.length==0)=false/\x.length+2<=sizeLine/\∀ l H',H l=none->Same H H'->H' l=some (.lst ((Txt.split x y).map V.str))->Q (.ref l) H'
def zar4:Str->List V->Hp->VK->Prop:=fun x vs H Q=>match vs with
 | [.str y]=>zak8 x y H Q
 | _=>False
theorem mSplit:MtS X "str.split" zar4:=fun pins s σ H x tk xs us Q I r h=>by
 unfold zar4 at h
 split at h
 ·rename_i y
  unfold zak8 at h
  obtain⟨h1,h2,q⟩:=h
  obtain⟨u,rfl,r1⟩:=zw6 r
  obtain⟨t,rfl⟩:=r1
  have sl:=split_le x y
  have one:Txt.split x y=[x]->EP X pins σ Q (.ref s.heap.objs.size) { s with heap:=s.heap.push { cls:=.type "list",data:=.seq #[.str x tk] },toks:=s.toks }:=fun e=>
   ⟨.ref _,_,I.lnew (t':=s.toks) (ys:=[.str x]) (its:=[.str x tk]) (.cons ⟨_,rfl⟩ .nil) (by rw[zcf4];omega),rfl,q _ _ I.fresh (Same.upd I.fresh) (by rw[zc3,e];rfl)⟩
  by_cases c1:(decide (x.length<y.length) || decide (Builtin.Str.strKind x<Builtin.Str.strKind y))=true
  ·exact call_meets F.slot_str_split (typeIs_str s x tk) F.entry_str_split (F.args_str_split_2 _ _) (meets_str_split_cannot_occur x y tk t c1) (one (by unfold Txt.split;rw[if_pos c1]))
  ·have c1':=Bool.eq_false_iff.mpr c1
   by_cases c2:(Builtin.Str.occurrences x y 0 x.length (x.length+1)).isEmpty=true
   ·exact call_meets F.slot_str_split (typeIs_str s x tk) F.entry_str_split (F.args_str_split_2 _ _) (meets_str_split_not_found x y tk t c1' h1 c2) (one (by unfold Txt.split;rw[if_neg c1,if_pos c2]))
   ·have c2':=Bool.eq_false_iff.mpr c2
    have e:Txt.split x y=Builtin.Str.partsBetween x (Builtin.Str.occurrences x y 0 x.length (x.length+1)) y.length:=by unfold Txt.split;rw[if_neg c1,if_neg c2]
    rw[e] at q sl
    refine call_meets F.slot_str_split (typeIs_str s x tk) F.entry_str_split (F.args_str_split_2 _ _) (meets_str_split_sep x y tk t c1' h1 c2' (by omega) (by omega)) ?_
    exact⟨.ref _,_,I.lnew (zan6 _ s.toks) (by rw[zcd9];omega),rfl,q _ _ I.fresh (Same.upd I.fresh) zc3⟩
 ·exact h.elim
theorem zav8{x y:Str}{Q:VK}(h1:(y.length==0)=false)(h2:x.length+2<=sizeLine)(q:∀ l H',H l=none->Same H H'->H' l=some (.lst ((Txt.split x y).map V.str))->Q (.ref l) H'):zak8 x y H Q:=by unfold zak8;exact⟨h1,h2,q⟩
theorem zam3{o e:Expr}{t:TA}(hK:X.K=K)(ho:PE X o to)(ha:PA X [e] t)(hbase:attributeBase o "split" X.env (eval o X.env)=eval o X.env:=by rfl)(hfew:((backTo cpos (starEach [e] X.env)).all (fun x=>!x.1)&&(backToKw cpos (keywordEach [] X.env)).all (fun x=>x.1.isSome)
   && decide ([e].length+([]:List Keyword).length+(if ([]:List Keyword).isEmpty then 0 else 1)<30))=true:=by rfl)(hline:(apos.endLine==cpos.line)=true:=by rfl)(hs:starEach [e] X.env=(false,eval e X.env) :: starEach [] X.env:=by rfl)(hplain:(backTo cpos (starEach [] X.env)).any (·.1)=false:=by rfl):PE X (.Call (.Attribute o "split" apos) [e] [] cpos) (qSM zar4 to t):=
 peSM PySem.F.slot_str_split PySem.F.type_str_split mSplit ho ha hbase hfew hline hs hplain
def zas0:Str->List V->Hp->VK->Prop:=fun x vs H Q=>match vs with
 | [.str y]=>Q (.bl (Txt.startswith x y)) H
 | _=>False
theorem mStart:MtS X "str.startswith" zas0:=fun pins s σ H x tk xs us Q I r h=>by
 unfold zas0 at h
 split at h
 ·rename_i y
  obtain⟨u,rfl,r1⟩:=zw6 r
  obtain⟨t,rfl⟩:=r1
  exact call_gives F.slot_str_startswith (typeIs_str s x tk) F.entry_str_startswith (F.args_str_startswith_2 _ _) (gives_str_startswith x y tk t) ⟨.bl _,H,I,rfl,h⟩
 ·exact h.elim
theorem zaf6{o e:Expr}{t:TA}(hK:X.K=K)(ho:PE X o to)(ha:PA X [e] t)(hbase:attributeBase o "startswith" X.env (eval o X.env)=eval o X.env:=by rfl)(hfew:((backTo cpos (starEach [e] X.env)).all (fun x=>!x.1)&&(backToKw cpos (keywordEach [] X.env)).all (fun x=>x.1.isSome)
   && decide ([e].length+([]:List Keyword).length+(if ([]:List Keyword).isEmpty then 0 else 1)<30))=true:=by rfl)(hline:(apos.endLine==cpos.line)=true:=by rfl)(hs:starEach [e] X.env=(false,eval e X.env) :: starEach [] X.env:=by rfl)(hplain:(backTo cpos (starEach [] X.env)).any (·.1)=false:=by rfl):PE X (.Call (.Attribute o "startswith" apos) [e] [] cpos) (qSM zas0 to t):=
 peSM PySem.F.slot_str_startswith PySem.F.type_str_startswith mStart ho ha hbase hfew hline hs hplain
end
section
variable {X:Cx}{K:zce1}
def Its(x:Str):It:=⟨fun i _=>i<x.cps.size,fun i H v H'=>H'=H/\∃ c,x.cps[i]?=some c/\v=.str ⟨#[c]⟩,fun i _=>x.cps.size<=i⟩
theorem go_str{M:Model}{A:Around}{E:Value->Shared->Prop}{s:Shared}{tg:Expr}{it:Addr}{x:Str}{t:Tok}{Q:Unit->Shared->Prop}(hQ:Q () s):wpAny M A (letOwnedTupleGo tg (.ref it) (.str x t)) Q E s:=by
 unfold letOwnedTupleGo
 cases tg<;>exact zcn4 hQ
theorem zbm8{P:Program}{w:World}{K:zce1}{tg:Expr}(x:Str)(tx:Tok)(it:Addr):Turn P w K tg (Its x) [it] it (fun i h=>h.IsStrIter it (strIterType x) x tx i) where
 mem:=by simp
 obj:=fun i h st b hb=>by
  have e:b=it:=by simpa using hb
  subst e
  obtain⟨o,e,c,d⟩:=st
  exact⟨o,e,fun v z=>by rw[d] at z;cases z⟩
 keep:=fun i h h' st k=>by
  obtain⟨o,e,c,d⟩:=st
  exact⟨o,k it (by simp) o e,c,d⟩
 item:=by
  intro X hP hw hK hc i pins s σ H E I hf st hg
  subst hP hw hK
  have hg:i<x.cps.size:=hg
  obtain⟨c,ec⟩:∃ c,x.cps[i]?=some c:=⟨_,zcl2 hg⟩
  obtain⟨f0,f1,f2,f3,f4,f5⟩:=hf it (by simp)
  have fin:∀ h',h'.IsStrIter it (strIterType x) x tx (i+1)->Heap.SameBut it s.heap h'->∃ u,some (Value.str ⟨#[c]⟩ s.toks)=some u/\wpAny (model X.prog X.w) X.A (letOwnedTupleGo tg (.ref it) u) (fun _ s2=>∃ v H',Inv X pins σ H' s2/\RelV v u/\(Its x).yld i H v H'/\s2.heap.IsStrIter it (strIterType x) x tx (i+1)/\∀ b∈[it],H' b=none) E { s with heap:=h',toks:=s.toks+1 }:=fun h' st' sb=>
   ⟨_,rfl,go_str ⟨.str ⟨#[c]⟩,H,I.turned (t':=s.toks+1) (fun b o hb e=>(sb.2 b hb).trans e) f0 f1 f3 f4 f5,⟨_,rfl⟩,⟨rfl,c,ec,rfl⟩,st',fun b hb=>(hf b hb).1⟩⟩
  by_cases ha:(x.cps.all fun x=>decide (x<128))=true
  ·have e:strIterType x="str_ascii_iterator":=by unfold strIterType;rw[if_pos ha]
   rw[e] at st
   exact wpAny_pyNext_ascii_item st ec fun h' st' sb=>fin h' (by rw[e];exact st') sb
  ·have e:strIterType x="str_iterator":=by unfold strIterType;rw[if_neg ha]
   rw[e] at st
   exact wpAny_pyNext_wide_item st ec fun h' st' sb=>fin h' (by rw[e];exact st') sb
 done:=by
  intro X hP hw hK hc i pins s σ H E I hf st hg
  subst hP hw hK
  have hg:x.cps.size<=i:=hg
  have ec:x.cps[i]?=none:=Array.getElem?_eq_none hg
  obtain⟨f0,f1,f2,f3,f4,f5⟩:=hf it (by simp)
  by_cases ha:(x.cps.all fun x=>decide (x<128))=true
  ·have e:strIterType x="str_ascii_iterator":=by unfold strIterType;rw[if_pos ha]
   rw[e] at st
   exact wpAny_pyNext_ascii_end (I.ok.hd hc) st ec fun h' eb=>⟨rfl,I.turned (t':=s.toks) (fun b o hb e=>eb b o hb e) f0 f1 f3 f4 f5⟩
  ·have e:strIterType x="str_iterator":=by unfold strIterType;rw[if_neg ha]
   rw[e] at st
   exact wpAny_pyNext_wide_end (I.ok.hd hc) st ec fun h' eb=>⟨rfl,I.turned (t':=s.toks) (fun b o hb e=>eb b o hb e) f0 f1 f3 f4 f5⟩
 self:=fun A i s Q E st h=>by
  by_cases ha:(x.cps.all fun x=>decide (x<128))=true
  ·have e:strIterType x="str_ascii_iterator":=by unfold strIterType;rw[if_pos ha]
   rw[e] at st
   exact wpAny_pyIter_striter_ascii st h
  ·have e:strIterType x="str_iterator":=by unfold strIterType;rw[if_neg ha]
   rw[e] at st
   exact wpAny_pyIter_striter_wide st h
@[irreducible] def zay2(x:Str)(H:Hp)(R:It->Hp->Prop):Prop:=R (Its x) H
def qiStr(tl:TE):TI:=fun σ H R=>tl σ H fun x H1=>match x with
 | .str z=>zay2 z H1 R
 | _=>False
theorem piStr{tg l:Expr}{tl:TE}(hl:PE X l tl):PI X tg l (qiStr tl):=by
 intro pins s σ H R I h
 refine thn (hl pins s σ H _ I h) fun v s1 ⟨x,H1,I1,r1,q1⟩=>?_
 dsimp only at q1
 split at q1
 ·rename_i z
  unfold zay2 at q1
  obtain⟨t,rfl⟩:=r1
  have fp:∀ b∈[s1.heap.objs.size],FpOk X pins H1 b:=fun b hb=>by
   have e:b=s1.heap.objs.size:=by simpa using hb
   subst e
   exact I1.fpOk (zcg0 _) (I1.hok.fresh (zcg0 _))
  refine wpAny_pyIter_strU ?_
  exact⟨s1.heap.objs.size,[s1.heap.objs.size],_,_,H1,rfl,I1.kept (t':=s1.toks) fun b o e=>zcf3 _ e,zbm8 z t _,⟨_,zch7 _ rfl,rfl,rfl⟩,fp,q1⟩
 ·exact q1.elim
theorem zbn6{x:Str}{R:It->Hp->Prop}(q:R (Its x) H):zay2 x H R:=by unfold zay2;exact q
theorem Wk.str{x:Str}{H1:Hp}:Wk (Its x) x.cps.size H1 fun i v _=>∃ c,x.cps[i]?=some c/\v=.str ⟨#[c]⟩:=
 ⟨fun i H s hi=>hi,fun H s=>zcg0 _,fun i H v H' s _ y=>by
  obtain⟨e,y⟩:=y
  subst e
  exact⟨Same.refl _,y⟩⟩
def rSlZM(K:zce1):V->Option Int->Option Int->Hp->VK->Prop:=fun x lo hi H Q=>match x with
 | .ref a=>rSlX K a lo hi H Q
 | .str z=>z.length<=sizeLine/\Q (.str (Txt.slice z lo hi)) H
 | _=>False
theorem zbi2{v:Value}{o:Option Int}(p:IsPart v o):∃ q:Option (Int×Tok),v=partValue q/\q.map (·.1)=o:=by
 cases p with
 | none=>exact⟨none,rfl,rfl⟩
 | int i t=>exact⟨some (i,t),rfl,rfl⟩
theorem slZK(hK:X.K=K):SlR X (rSlZM K):=by
 subst hK
 intro pins s σ H x v vl vu lo hi sl Q I rx hs pl pu h
 unfold rSlZM at h
 split at h
 ·exact slX pins s σ H _ v vl vu lo hi sl Q I rx hs pl pu h
 ·rename_i z
  obtain⟨hz,q⟩:=h
  obtain⟨t,rfl⟩:=rx
  obtain⟨ql,rfl,el⟩:=zbi2 pl
  obtain⟨qu,rfl,eu⟩:=zbi2 pu
  refine⟨"str",_,slot_str_getitem.lookup,typeIs_str s z t,wpAny_getItem_str_slice (st:=none) hs rfl ?_⟩
  unfold sliceMade slicePicked
  rw[el,eu]
  have le:=Txt.slice_le z lo hi
  unfold Txt.slice at q le
  show Made.post (if (1==1&&(Builtin.Str.strSliceIndices lo hi 1 z.length).length==z.length)=true then _ else _) _ s
  split
  ·rename_i c
   rw[if_pos c] at q
   exact⟨.str z,H,I,⟨_,rfl⟩,q⟩
  ·rename_i c
   rw[if_neg c] at q le
   exact⟨zci0 le hz,.str _,H,I.tok _,⟨_,rfl⟩,q⟩
 ·exact h.elim
def hasS(x y:Str):Bool:=!(Builtin.Str.occurrences x y 0 x.length 1).isEmpty
def rInZM(K:zce1):R2:=fun x y H Q=>match x,y with
 | .str a,.str b=>Q (.bl (hasS b a)) H
 | x,y=>rInM K false x y H Q
theorem oInZK(hK:X.K=K):OpR X (compareOp .In) (rInZM K):=by
 intro pins s σ H x y v u Q I rx ry h
 unfold rInZM at h
 split at h
 ·obtain⟨t,rfl⟩:=rx
  obtain⟨t',rfl⟩:=ry
  exact P.in_str ⟨.bl _,H,I,rfl,h⟩
 ·exact oInK hK pins s σ H _ _ v u Q I rx ry h
@[irreducible] def rIntT(x:Str)(H:Hp)(Q:VK):Prop:=∃ n:Int,PySem.intText? x=some n/\x.length<=640/\Q (.int n) H
def zbq1:List V->Hp->VK->Prop:=fun xs H Q=>match xs with
 | [.str x]=>rIntT x H Q
 | _=>False
theorem cIntT:zk0 X (.type "int") zbq1:=fun pins s σ H xs us Q I r h=>by
 unfold zbq1 at h
 split at h
 ·unfold rIntT at h
  obtain⟨n,h1,h2,q⟩:=h
  obtain⟨u,rfl,r1⟩:=zw6 r
  obtain⟨t,rfl⟩:=r1
  exact PySem.W.KIN.call_text h1 h2 ⟨.int n,H,I.tok _,⟨_,rfl⟩,q⟩
 ·exact h.elim
theorem zbr3{x:Str}{Q:VK}{n:Int}(h1:PySem.intText? x=some n)(h2:x.length<=640)(q:Q (.int n) H):rIntT x H Q:=by unfold rIntT;exact⟨n,h1,h2,q⟩
end
section
variable {X:Cx}{K:zce1}
@[irreducible] def isFn(mg:Str->Option Value)(x:Str)(v:V):Prop:=∃ f,v=.ref f/\mg x=some (.ref f)
@[irreducible] def rFn(mg:Str->Option Value)(x:Str)(H:Hp)(Q:VK):Prop:=∀ v,isFn mg x v->Q v H
def qFn(mg:Str->Option Value)(x:Str):TE:=fun _ H Q=>rFn mg x H Q
theorem peFn{CX:CXT}{k:Nat}{x:Str}{ps:List Str}{sp:Sp}(F:Def X.prog X.w X.K X.mg X.base CX k x ps sp)(hg:Gl X x:=by rfl)(hdb:(x==("__debug__":Str))=false:=by decide):PE X (.Name x pos) (qFn X.mg x):=by
 obtain⟨f,fd,F1,F2,F3,F4⟩:=F.ex
 intro pins s σ H Q I h
 unfold qFn rFn at h
 exact zq6 I hg F2 ⟨.ref f,H,I,rfl,h _ (by unfold isFn;exact⟨f,rfl,F2⟩)⟩ hdb
theorem fn_rd{mg:Str->Option Value}{x:Str}{Q:VK}(q:∀ v,isFn mg x v->Q v H):rFn mg x H Q:=by unfold rFn;exact q
def zbp8(mg:Str->Option Value)(x:Str)(i:Nat)(sp:Sp)(E:XK)(t:TA):TE:=fun σ H Q=>match σ[i]? with
 | some (some v)=>isFn mg x v/\t σ H fun vs H1=>sp vs H1 Q E
 | _=>False
theorem pDL{CX:CXT}{k i:Nat}{x y:Str}{ps:List Str}{sp:Sp}{E:XK}{p:Pos}{e:Expr}{es:List Expr}{t:TA}(F:Def X.prog X.w X.K X.mg X.base CX k x ps sp)(hr:Room j X.A)(hx:zaa3 CX X E)(ha:PA X (e :: es) t)(hk:k<=j:=by decide)(hN:X.N[i]?=some y:=by rfl)(hv:Vis X.env.scope y:=by first|exact Or.inl rfl|exact Or.inr (Or.inl rfl)|exact Or.inr (Or.inr rfl))(hd:(y==("__debug__":Str))=false:=by decide)(hcd:(y==("__classdict__":Str))=false:=by decide)(he:starEach (e :: es) X.env=(false,eval e X.env) :: starEach es X.env:=by rfl)(hpl:(backTo pos (starEach es X.env)).any (·.1)=false:=by rfl) :
  PE X (.Call (.Name y p) (e :: es) [] pos) (zbp8 X.mg x i sp E t):=by
 obtain⟨f,fd,F1,F2,F3,F4⟩:=F.ex
 intro pins s σ H Q I h
 unfold zbp8 at h
 split at h
 ·rename_i v ev
  obtain⟨hf,h⟩:=h
  unfold isFn at hf
  obtain⟨f',rfl,F2'⟩:=hf
  cases F2.symm.trans F2'
  obtain⟨m,hn,hl⟩:=I.loc
  obtain⟨u,r,l⟩:=hl i y _ hN ev hv
  obtain rfl:u=Value.ref f:=r
  have fin:wpAny (model X.prog X.w) X.A (callWith pos (.ref f) [] (backTo pos (starEach (e :: es) X.env)) (backToKw pos (keywordEach [] X.env))) (EP X pins σ Q) X.xe s:=by
   refine PySem.W.callWith_K (h₀:=X.base) I.ok.mod.kin F3 (thn (ha pos pins s σ H _ I h) fun us s1 ⟨vs,H1,I1,r,q⟩=>⟨I1.kIn,?_⟩) he hpl
   refine zbq0 F1 (hr.mono hk) F4 .nil hx I1 r ?_
   simp only[List.append_nil]
   exact q
  refine wpAny_Call_Name_kw ?_
  rcases l with ⟨hk,hm⟩|⟨hk,c,hc,hcell⟩
  ·exact wpAny_Name (wpAny_loadName_local I.ok.kind hk hn hm fin) hd
  ·rcases hk with hk|hk
   ·exact wpAny_Name (wpAny_loadName_cell I.ok.kind hk hc hcell fin) hd
   ·exact wpAny_Name (wpAny_loadName_free I.ok.kind hk hc hcell fin hcd) hd
 ·exact h.elim
@[irreducible] def rInTT(K:zce1)(a p:Addr)(H:Hp)(Q:VK):Prop:=∃ (rs:List Addr) (c:Addr->Bool) (n:Nat),SqT K H p (rs.map V.ref)/\n<=38/\(∀ r∈rs,EqR K H n (.ref r) (.ref a) (c r))/\Q (.bl (rs.any c)) H
def zbo4(K:zce1):R2:=fun x y H Q=>match x,y with
 | .ref a,.ref p=>rInTT K a p H Q
 | x,y=>rInZM K x y H Q
theorem zbo2(hK:X.K=K)(hu:X.A.units+40<cLine):OpR X (compareOp .In) (zbo4 K):=by
 subst hK
 intro pins s σ H x y v u Q I rx ry h
 unfold zbo4 at h
 split at h
 ·unfold rInTT at h
  obtain⟨rs,c,n,h1,h2,h3,h4⟩:=h
  cases rx
  cases ry
  obtain⟨its,r,pl,hz⟩:=I.tuple h1
  have e:=zap3 r
  subst e
  refine SeqAt.in_tupleAt (eRef c) pl (fun w hw=>?_) ⟨.bl _,H,I,rfl,?_⟩
  ·obtain⟨q,hq,rfl⟩:=zch1.mp (by simpa using hw)
   exact EqR.at I (h3 q hq) rfl rfl (by rw[zo5];omega)
  ·have e2:(rs.map Value.ref).toArray.any (eRef c)=rs.any c:=by
    rw[List.any_toArray,List.any_map];rfl
   rw[e2]
   exact h4
 ·exact oInZK rfl pins s σ H _ _ v u Q I rx ry h
end
section
variable {X:Cx}{K:zce1}
def entS(w:World)(x:Str×Int×Tok×Tok):DictEntry:=⟨PyData.keyHash w.params x.1,.str x.1 x.2.2.1,.int x.2.1 x.2.2.2⟩
structure TabS(w:World)(K:zce1)(mg:Str->Option Value)(n:Str)(kvs:List (Str×Int)):Prop where
 ex:∃ (a:Addr) (es:List (Str×Int×Tok×Tok)) (ep:Nat),mg n=some (.ref a)/\(a==sysModules)=false/\K.lookup a=some { cls:=.type "dict",data:=.dict (es.map (entS w)).toArray ep }/\es.map (fun x=>(x.1,x.2.1))=kvs/\(es.map (·.1)).Nodup
def keyV(kvs:List (Str×Int)):List (Key×V):=kvs.map fun x=>(.inr x.1,.int x.2)
def zai6(kvs:List (Str×Int))(x:Str):V:=(valV (keyV kvs) (.inr x)).getD .non
def qGetC(kvs:List (Str×Int))(te:TE):TE:=fun σ H Q=>te σ H fun y H1=>match y with
 | .str x=>Q (zai6 kvs x) H1
 | _=>False
theorem zav7(P:Program)(w:World):∀ es:List (Str×Int×Tok×Tok),Pairs (zm8 P w) (es.map (entS w)) (es.map fun x=>((.inr x.1:Key),Value.int x.2.1 x.2.2.2))
 | []=>.nil
 | x :: es=>.cons (zu1 P w x.1 x.2.2.1) rfl (zav7 P w es)
theorem kv_of:∀ es:List (Str×Int×Tok×Tok),KV (keyV (es.map fun x=>(x.1,x.2.1))) (es.map fun x=>((.inr x.1:Key),Value.int x.2.1 x.2.2.2))
 | []=>.nil
 | x :: es=>.cons ⟨rfl,_,rfl⟩ (kv_of es)
theorem zam7:∀ {xs:List Str},xs.Nodup->(xs.map (Sum.inr:Str->Key)).Nodup
 | [],_=>zcm2
 | x :: xs,h=>by
  rw[zcj6] at h
  rw[zcj4,zcj6]
  refine⟨fun hx=>?_,zam7 h.2⟩
  obtain⟨y,hy,e⟩:=zch1.mp hx
  cases e
  exact h.1 hy
theorem peGetC{n:Str}{kvs:List (Str×Int)}{e:Expr}{te:TE}{p:Pos}(T:TabS X.w X.K X.mg n kvs)(he:PE X e te)(hg:Gl X n:=by rfl)(hdb:(n==("__debug__":Str))=false:=by decide)(m1:attributeBase (.Name n p) "get" X.env (eval (.Name n p) X.env)=eval (.Name n p) X.env:=by rfl)(m2:((backTo cpos (starEach [e] X.env)).all (fun x=>!x.1)&&(backToKw cpos (keywordEach [] X.env)).all (fun x=>x.1.isSome)&&decide (([e]:List Expr).length+([]:List Keyword).length+(if ([]:List Keyword).isEmpty then 0 else 1)<30))=true:=by rfl)(m3:(apos.endLine==cpos.line)=true:=by rfl)(m4:backTo cpos (starEach [e] X.env)=[(false,eval e X.env)]:=by rfl):PE X (.Call (.Attribute (.Name n p) "get" apos) [e] [] cpos) (qGetC kvs te):=by
 obtain⟨a,es,ep,g1,g2,g3,rfl,g5⟩:=T.ex
 intro pins s σ H Q I h
 have dd:∀ {s':Shared}{H':Hp},Inv X pins σ H' s'->s'.heap.DictOf (zm8 X.prog X.w) a (es.map fun x=>((.inr x.1:Key),Value.int x.2.1 x.2.2.2)):=fun {s' H'} I'=>by
  refine⟨_,_,ep,I'.kIn a _ g3,⟨rfl,rfl,rfl⟩,rfl,fun e' he'=>?_,by simpa using zav7 X.prog X.w es,?_⟩
  ·rw[List.mem_toArray] at he'
   obtain⟨x,hx,rfl⟩:=zch1.mp he'
   exact⟨.inr x.1,zu1 _ _ _ _,rfl⟩
  ·rw[zck4]
   have:=zam7 g5
   rw[zck4] at this
   exact this
 refine wpAny_Call_method m1 m2 m3 PySem.F.plainAttrs_dict PySem.F.slot_dict_get PySem.F.type_dict_get (zq6 I hg g1 ?_ hdb)
 refine⟨(dd I).typeIs,fun b q=>?_,?_⟩
 ·cases q
  exact⟨_,I.kIn a _ g3,rfl⟩
 rw[m4]
 refine Calls.callWith_builtin rfl (Calls.evalArgs_plain (Calls.spliced_cons (thn (he pins s σ H _ I h) fun iv s2 ⟨y,H2,I2,ry,q2⟩=>Calls.spliced_nil ?_)))
 dsimp only at q2
 split at q2
 ·rename_i x
  refine call_meetsIn PySem.F.slot_dict_get (dd I2).typeIs PySem.F.entry_dict_get (PySem.F.args_dict_get_2 _ _) (meets_dict_get (zm8 X.prog X.w) a (k:=.inr x) (kV_is ry) g2) ⟨_,(dd I2).mapOf,zai6 _ x,H2,I2.tok _,?_,q2⟩
  exact ((kv_of es).val (.inr x)).getD rfl
 ·exact q2.elim
theorem zbq7{w:World}{K:zce1}{mg:Str->Option Value}{n:Str}{a:Addr}{es:List (Str×Int×Tok×Tok)}(X:K.In h)(G:h.Ns zcn9 mg)(g1:zcg5 K zcn9 n=some (some (.ref a)))(g2:(a==sysModules)=false)(g3:K.lookup a=some { cls:=.type "dict",data:=.dict (es.map (entS w)).toArray ep })(g5:(es.map (·.1)).Nodup):TabS w K mg n (es.map fun x=>(x.1,x.2.1)):=
 ⟨a,es,ep,zch3 X G g1,g2,g3,rfl,g5⟩
end
section
variable {X:Cx}{a b c:Expr}{ta tb tc:TE}{pos:Pos}
def zbq5(r r':R2)(ta tb tc:TE):TT:=fun σ H Q=>ta σ H fun x H1=>tb σ H1 fun y H2=>r x y H2 fun z H3=>match z with
 | .bl k=>br k (tc σ H3 fun w' H4=>r' y w' H4 fun z' H5=>match z' with
  | .bl k'=>Q k' H5
  | _=>False) (Q false H3)
 | _=>False
theorem zbs9{op op':CmpOp}{r r':R2}(ho:OpR X (compareOp op) r)(ho':OpR X (compareOp op') r')(ha:PE X a ta)(hb:PE X b tb)(hc:PE X c tc)(hm:lastMarks [op,op'] [b,c]=false:=by with_unfolding_all rfl):PT X (.Compare a [op,op'] [b,c] pos) (zbq5 r r' ta tb tc):=by
 intro pins s σ H Q I h
 refine isTrue_chain (thn (ha pins s σ H _ I h) fun v s1 ⟨x,H1,I1,r1,q1⟩=>test_link (thn (hb pins s1 σ H1 _ I1 q1) fun u s2 ⟨y,H2,I2,r2,q2⟩=>
  thn (ho pins s2 σ H2 x y v u _ I2 r1 r2 q2) fun d s3 ⟨z,H3,I3,r3,q3⟩=>?_)) hm
 dsimp only at q3
 split at q3
 ·rename_i k
  cases r3
  refine wpAny_truthy_bool ?_
  rw[zv5] at q3
  cases k with
  | false=>exact ite_ff ⟨H3,I3,by simpa using q3⟩
  | true=>
   have q3:tc σ H3 (fun w' H4=>r' y w' H4 fun z' H5=>match z' with
    | .bl k'=>Q k' H5
    | _=>False):=by simpa using q3
   refine ite_tt (test_last (thn (hc pins s3 σ H3 _ I3 q3) fun w' s4 ⟨z',H4,I4,r4,q4⟩=>thn (ho' pins s4 σ H4 y z' u w' _ I4 r2 r4 q4) fun d' s5 ⟨z5,H5,I5,r5,q5⟩=>?_))
   dsimp only at q5
   split at q5
   ·cases r5
    exact wpAny_truthy_bool ⟨H5,I5,q5⟩
   ·exact q5.elim
 ·exact q3.elim
end
theorem zav4{c:Nat}:∀ {a b A B:List Nat},c ∉ a->c ∉ b->a++c :: A=b++c :: B->a=b/\A=B
 | [],[],A,B,_,_,h=>by
  cases h
  exact⟨rfl,rfl⟩
 | [],y :: b,A,B,_,hb,h=>by
  have:c=y:=by injection h
  exact absurd (by rw[this];exact zcg1) hb
 | x :: a,[],A,B,ha,_,h=>by
  have:x=c:=by injection h
  exact absurd (by rw[← this];exact zcg1) ha
 | x :: a,y :: b,A,B,ha,hb,h=>by
  have h:x :: (a++c :: A)=y :: (b++c :: B):=h
  injection h with h1 h2
  obtain⟨e1,e2⟩:=zav4 (a:=a) (b:=b) (fun z=>ha (zcf5 _ z)) (fun z=>hb (zcf5 _ z)) h2
  exact⟨by rw[h1,e1],e2⟩
theorem ze7(c:Nat)(a b:Str)(r:List Str):((⟨#[c]⟩:Str).join (a :: b :: r)).cps.toList=a.cps.toList++c :: ((⟨#[c]⟩:Str).join (b :: r)).cps.toList:=by
 rw[Str.join.eq_3 _ _ _ (by simp),PySem.W.KT.app_list,PySem.W.KT.app_list]
 simp
theorem zav3{c:Nat}:∀ {as bs:List Str},as≠[]->bs≠[]->(∀ a∈as,c ∉ a.cps.toList)->(∀ b∈bs,c ∉ b.cps.toList)->(⟨#[c]⟩:Str).join as=(⟨#[c]⟩:Str).join bs->as=bs
 | [],_,h,_,_,_,_=>absurd rfl h
 | _,[],_,h,_,_,_=>absurd rfl h
 | [a],[b],_,_,_,_,h=>by
  rw[Str.join.eq_2,Str.join.eq_2] at h
  rw[h]
 | [a],b :: b2 :: bs,_,_,ha,_,h=>by
  have h:=congrArg (fun x:Str=>x.cps.toList) h
  rw[ze7,Str.join.eq_2] at h
  exact absurd (by rw[h];simp) (ha a zcg1)
 | a :: a2 :: as,[b],_,_,_,hb,h=>by
  have h:=congrArg (fun x:Str=>x.cps.toList) h
  rw[ze7,Str.join.eq_2] at h
  exact absurd (by rw[← h];simp) (hb b zcg1)
 | a :: a2 :: as,b :: b2 :: bs,_,_,ha,hb,h=>by
  have h:=congrArg (fun x:Str=>x.cps.toList) h
  rw[ze7,ze7] at h
  obtain⟨e1,e2⟩:=zav4 (ha a zcg1) (hb b zcg1) h
  have e3:=zav3 (as:=a2 :: as) (bs:=b2 :: bs) (by simp) (by simp) (fun x hx=>ha x (zcf5 _ hx)) (fun x hx=>hb x (zcf5 _ hx)) (ext_toList e2)
  rw[ext_toList e1,e3]
theorem zah2{c:Nat}{ws:List Str}(hn:ws≠[])(h:∀ w∈ws,c ∉ w.cps.toList):Txt.split (Txt.join ⟨#[c]⟩ ws) ⟨#[c]⟩=ws:=by
 have e:Txt.join ⟨#[c]⟩ ws=(⟨#[c]⟩:Str).join ws:=StrLaws.glued_eq_join _ _
 have l:=split_pos (Txt.join ⟨#[c]⟩ ws) ⟨#[c]⟩
 refine zav3 (fun z=>by rw[z] at l;exact absurd l (by decide)) hn (fun p hp=>StrLaws.split_free _ c p hp) h ?_
 rw[StrLaws.join_split,e]
theorem zag4:∀ xs:List Str,((⟨#[]⟩:Str).join xs).cps.toList=(xs.map fun x=>x.cps.toList).flatten
 | []=>rfl
 | [x]=>by rw[Str.join.eq_2];simp
 | x :: y :: r=>by
  rw[Str.join.eq_3 _ _ _ (by simp),PySem.W.KT.app_list,PySem.W.KT.app_list,zag4 (y :: r)]
  simp
theorem zah7(c:Nat):∀ xs:List Str,((⟨#[c]⟩:Str).join (xs++[⟨#[]⟩])).cps.toList=(xs.map fun x=>x.cps.toList++[c]).flatten
 | []=>rfl
 | [x]=>by
  rw[show [x]++[(⟨#[]⟩:Str)]=x :: ⟨#[]⟩ :: [] from rfl,ze7,Str.join.eq_2]
  simp
 | x :: y :: r=>by
  rw[show x :: y :: r++[(⟨#[]⟩:Str)]=x :: y :: (r++[⟨#[]⟩]) from rfl,ze7,show y :: (r++[(⟨#[]⟩:Str)])=y :: r++[⟨#[]⟩] from rfl,zah7 c (y :: r)]
  simp
theorem zbb2{c:Nat}{xs:List Str}(h:∀ w∈xs,c ∉ w.cps.toList):Txt.split (Txt.join ⟨#[]⟩ (xs.map fun x=>x++(⟨#[c]⟩:Str))) ⟨#[c]⟩=xs++[⟨#[]⟩]:=by
 have e:Txt.join ⟨#[]⟩ (xs.map fun x=>x++(⟨#[c]⟩:Str))=Txt.join ⟨#[c]⟩ (xs++[⟨#[]⟩]):=by
  refine ext_toList ?_
  rw[show Txt.join ⟨#[]⟩ (xs.map fun x=>x++(⟨#[c]⟩:Str))=(⟨#[]⟩:Str).join _ from StrLaws.glued_eq_join _ _,show Txt.join ⟨#[c]⟩ (xs++[⟨#[]⟩])=(⟨#[c]⟩:Str).join _ from StrLaws.glued_eq_join _ _,zag4,zah7,zck4]
  congr 1
  refine List.map_congr_left fun x _=>?_
  show (x++(⟨#[c]⟩:Str)).cps.toList=_
  rw[PySem.W.KT.app_list]
 rw[e]
 refine zah2 (by simp) fun w hw=>?_
 rcases zch8.mp hw with hw|hw
 ·exact h w hw
 ·rw[zcj5.mp hw];simp
def numS(n:Int):Str:=Str.ofString (toString n)
theorem zs0(m:Nat):(numS m).cps.toList=(zck2 10 m).map Char.toNat:=PySem.W.KIN.signs_num m
theorem zab1(m:Nat):∀ c∈(zck2 10 m).map Char.toNat,48<=c/\c<=57:=fun c hc=>by
 obtain⟨ch,hch,rfl⟩:=zch1.mp hc
 exact digit_range (Nat.isDigit_of_mem_toDigits (by decide) (by decide) hch)
theorem zbf7(m:Nat):(zck2 10 m).map Char.toNat≠[]:=fun e=>by
 have h:=toDigits_len_ge 10 m
 rw[List.map_eq_nil_iff.mp e] at h
 exact absurd h (by decide)
theorem zai4{n:Int}(h:n<0):(numS n).cps.toList=45 :: (numS (0 - n)).cps.toList:=by
 unfold numS
 rw[toString_neg h,Str.ofString_eq_toList,Str.ofString_eq_toList]
 simp
theorem zbl9{r:List Nat}(h:(zck2 10 m).map Char.toNat=48 :: r):r=[]:=by
 have v:=PySem.W.KIN.val_back m
 have t:=NumText.toDigits_all ((zck2 10 m).map Char.toNat) (zab1 m)
 rw[v] at t
 have l:=congrArg List.length h
 rw[zcd9,zcf1] at l
 rw[h] at t
 rw[show List.dropWhile (fun x=>x==48) (48 :: r)=List.dropWhile (fun x=>x==48) r from rfl] at t
 have dl:=(List.dropWhile_suffix (fun x=>x==48) (l:=r)).length_le
 cases e:List.dropWhile (fun x=>x==48) r with
 | nil=>
  rw[e] at t
  have t:zck2 10 m=['0']:=t
  rw[t] at l
  exact List.length_eq_zero_iff.mp (by simpa using l.symm)
 | cons c q=>
  rw[e] at t dl
  have t:zck2 10 m=List.map Char.ofNat (c :: q):=t
  rw[t,zcd9] at l
  omega
theorem zba7{n:Int}(h:(numS n).length<=640):PySem.intText? (numS n)=some n:=by
 have pos:∀ m:Nat,(numS m).length<=4300->PySem.intText? (numS m)=some (m:Int):=fun m hl=>by
  have e:=intText_digits (x:=numS m) (by rw[zs0];exact zab1 m) (by rw[zs0];exact zbf7 m) hl
  rw[zs0,PySem.W.KIN.val_back] at e
  exact e
 rcases Int.lt_or_le n 0 with hn|hn
 ·obtain⟨m,hm⟩:=zcl8 (show 0<=0 - n by omega)
  have e:=zai4 hn
  rw[hm,zs0] at e
  have r:=intText_neg e (zab1 m) (zbf7 m) (zci0 h (by decide))
  rw[r,PySem.W.KIN.val_back]
  congr 1
  omega
 ·obtain⟨m,rfl⟩:=zcl8 hn
  exact pos m (zci0 h (by decide))
section
variable {X:Cx}{K:zce1}
structure TupC(K:zce1)(mg:Str->Option Value)(n:Str)(xs:List V):Prop where
 ex:∃ a:Addr,mg n=some (.ref a)/\∀ H:Hp,SqT K H a xs
def qTupC(K:zce1)(xs:List V):TE:=fun _ H Q=>∀ a:Addr,(∀ H':Hp,SqT K H' a xs)->Q (.ref a) H
theorem peTupC{n:Str}{p:Pos}(hK:X.K=K)(T:TupC K X.mg n xs)(hg:Gl X n:=by rfl)(hdb:(n==("__debug__":Str))=false:=by decide):PE X (.Name n p) (qTupC K xs):=by
 obtain⟨a,g1,g2⟩:=T.ex
 intro pins s σ H Q I h
 exact zq6 I hg g1 ⟨.ref a,H,I,rfl,h a g2⟩ hdb
theorem zbv8{mg:Str->Option Value}{n:Str}{a:Addr}{es:List (Str×Tok)}(X:K.In h)(G:h.Ns zcn9 mg)(g1:zcg5 K zcn9 n=some (some (.ref a)))(g3:K.lookup a=some { cls:=.type "tuple",data:=.seq (es.map fun x=>Value.str x.1 x.2).toArray ep })(hl:es.length<=100):TupC K mg n (es.map fun x=>V.str x.1):=by
 refine⟨a,zch3 X G g1,fun H=>.inr ⟨_,_,ep,g3,rfl,rfl,?_,?_⟩⟩
 ·rw[zce4,zcd9,zcn5];omega
 ·show Vals _ _
  clear g3 hl
  induction es with
  | nil=>exact .nil
  | cons x es ih=>exact .cons ⟨_,rfl⟩ ih
end
section
variable {X:Cx}
def qTryN(t:XK->TS):TS:=fun D σ H=>t (fun _ _ _=>False) D σ H
theorem psTryN{body:List Stmt}{t:XK->TS}{eh:ExceptHandler}{hs:List ExceptHandler}(hb:PSXs X body t):PS X (.Try body (eh :: hs) [] [] pos) (qTryN t):=by
 intro pins s σ H D I h
 rw[arm_exec_Try]
 refine zcn3 (wpAny_standAt (wpAny_tryStmt_except (wpAny_mono (hb pins s σ H D _ I h) (fun f s1 q=>?_) fun e s1 q=>?_)))
 ·cases f with
  | next=>exact wpAny_execs_nil q
  | brk=>exact q
  | cont=>exact q
  | ret u=>exact q
 ·obtain⟨H1,B,ea,cls,dx,rfl,F,hp,q⟩:=q
  exact q.elim
end
end L2
set_option maxHeartbeats 1000000
set_option maxHeartbeats 0
namespace G
local macro_rules | `(tactic| eq_refl)=>`(tactic| first|exact Or.inl rfl|exact Or.inr rfl)
local macro_rules | `(tactic| ac_rfl)=>`(tactic| exact⟨rfl,rfl,rfl,by decide +kernel,rfl,by decide +kernel,by decide +kernel⟩)
open PySem L2
variable {zbw0 f q:Addr}{Bs:List (List Addr)}{c i m:Nat}{As B ps:List Addr}{H H':Hp}{Q:VK}{E:XK}{fd:FuncData}
def top(i:Nat):Stmt:=PySem.Challenge.pw_hostfields_k76_battles_written.main.body.getD i (.Pass ⟨0,0,0,0⟩)
abbrev zx3:Stmt:=top 16
theorem zat5:zb3 ["thing"] ["thing"] (za5 zx3):=by ac_rfl
abbrev zac7:Stmt:=top 17
theorem zaz4:zb3 ["thing","least"] ["thing","least"] (za5 zac7):=by ac_rfl
abbrev zr4:Stmt:=top 18
theorem zaj8:zb3 ["thing","least","most"] ["thing","least","most"] (za5 zr4):=by ac_rfl
abbrev zo7:Stmt:=top 22
theorem zn5:zb3 ["battle","number","field"] ["battle"] (za5 zo7):=by ac_rfl
abbrev zx7:Stmt:=top 23
theorem zar2:zb3 ["battle"] ["battle"] (za5 zx7):=by ac_rfl
abbrev zu8:Stmt:=top 24
theorem zan8:zb3 ["first","second"] ["first","second"] (za5 zu8):=by ac_rfl
abbrev zw9:Stmt:=top 25
theorem zas8:zb3 ["first","second","field"] ["first","second","field"] (za5 zw9):=by ac_rfl
abbrev zy2:Stmt:=top 26
theorem zaq3:zb3 ["many_rows","many_numbers","rows"] ["many_rows","many_numbers","rows"] (za5 zy2):=by ac_rfl
abbrev zn7:Stmt:=top 27
theorem zac6:zb3 ["many_numbers","row"] ["many_numbers","row"] (za5 zn7):=by ac_rfl
abbrev zbe1:Stmt:=top 29
theorem zat3:zb3 ["rows","told","row"] ["rows"] (za5 zbe1):=by ac_rfl
abbrev zp0:Stmt:=top 35
theorem zad8:zb3 ["battle"] ["battle"] (za5 zp0):=by ac_rfl
abbrev zac8:Stmt:=top 36
theorem zay9:zb3 ["rows"] ["rows"] (za5 zac8):=by ac_rfl
abbrev zx0:Stmt:=top 37
theorem zat0:zb3 ["row"] ["row"] (za5 zx0):=by ac_rfl
abbrev zo9:Stmt:=top 38
theorem zag2:zb3 ["battle"] ["battle"] (za5 zo9):=by ac_rfl
abbrev zt8:Stmt:=top 39
theorem zao7:zb3 ["field"] ["field"] (za5 zt8):=by ac_rfl
abbrev zp4:Stmt:=top 40
theorem zn9:zb3 ["text","rows","battle"] ["text"] (za5 zp4):=by ac_rfl
abbrev zu3:Stmt:=top 41
theorem zr3:zb3 ["rows","first","second"] ["rows"] (za5 zu3):=by ac_rfl
abbrev zw8:Stmt:=top 42
theorem zaq7:zb3 ["first","second","row"] ["first","second","row"] (za5 zw8):=by ac_rfl
abbrev zp2:Stmt:=top 43
theorem zaf2:zb3 ["many_rows","many_numbers","numbers"] ["many_rows","many_numbers","numbers"] (za5 zp2):=by ac_rfl
abbrev zt4:Stmt:=top 44
theorem zf4:zb3 ["text","stands","pieces","rows","ahead","number","piece","row"] ["text","stands"] (za5 zt4):=by ac_rfl
abbrev zw2:Stmt:=top 45
theorem zad3:zb3 ["piece","words"] ["piece"] (za5 zw2):=by ac_rfl
abbrev zq5:Stmt:=top 46
theorem zak7:zb3 ["word","many"] ["word","many"] (za5 zq5):=by ac_rfl
abbrev zt9:Stmt:=top 47
theorem zz1:zb3 ["word","figures"] ["word"] (za5 zt9):=by ac_rfl
abbrev zj6:Stmt:=top 48
theorem zu2:zb3 ["ahead","row"] ["ahead","row"] (za5 zj6):=by ac_rfl
abbrev zo1:Stmt:=top 50
theorem zr2:zb3 ["_law_number","_law_k","_law_mixed"] ["_law_number","_law_k"] (za5 zo1):=by ac_rfl
abbrev zp3:Stmt:=top 51
theorem zae8:zb3 ["_law_cell"] ["_law_cell"] (za5 zp3):=by ac_rfl
abbrev zt1:Stmt:=top 52
theorem zi5:zb3 ["_law_left","_law_base","_law_digit","_law_number","_law_turn","_law_mixed"] ["_law_left","_law_base"] (za5 zt1):=by ac_rfl
abbrev zj4:Stmt:=top 53
theorem zm6:zb3 ["_law_left","_law_far"] ["_law_left"] (za5 zj4):=by ac_rfl
abbrev zj2:Stmt:=top 54
theorem zc2:zb3 ["_law_left","_law_first","_law_second","_law_kind","_law_worth","_law_tie","_law_near","_law_far","_law_rows","_law_x"] ["_law_left","_law_first","_law_second"] (za5 zj2):=by ac_rfl
abbrev zi2:Stmt:=top 55
theorem zd5:zb3 ["_law_left","_law_most","_law_many","_law_first","_law_second","_law_fields"] ["_law_left","_law_most","_law_many"] (za5 zi2):=by ac_rfl
abbrev zo8:Stmt:=top 56
theorem zg6:zb3 ["_law_battle","_law_first","_law_second","_law_fields","_law_found","_law_field"] ["_law_battle"] (za5 zo8):=by ac_rfl
abbrev zm1:Stmt:=top 57
theorem zb1:zb3 ["_law_left","_law_field","_law_first","_law_second","_law_kind","_law_far","_law_rows","_law_at","_law_some","_law_word","_law_worth","_law_more"] ["_law_left","_law_field","_law_first","_law_second"] (za5 zm1):=by ac_rfl
abbrev zm5:Stmt:=top 58
theorem zb9:zb3 ["_law_left","_law_battle","_law_first","_law_second","_law_fields","_law_kind","_law_far","_law_wrong","_law_sides","_law_at","_law_found","_law_place"] ["_law_left","_law_battle"] (za5 zm5):=by ac_rfl
abbrev zl7:Stmt:=top 59
theorem zd0:zb3 ["_law_field","_law_words","_law_row"] ["_law_field"] (za5 zl7):=by ac_rfl
abbrev zo0:Stmt:=top 60
theorem zj8:zb3 ["_law_battle","_law_first","_law_second","_law_fields"] ["_law_battle"] (za5 zo0):=by ac_rfl
abbrev zn6:Stmt:=top 61
theorem ze3:zb3 ["_law_caught","_law_some","_law_names"] ["_law_caught"] (za5 zn6):=by ac_rfl
abbrev zp1:Stmt:=top 62
theorem zn8:zb3 ["_law_thing","_law_part"] ["_law_thing"] (za5 zp1):=by ac_rfl
abbrev zt7:Stmt:=top 63
theorem zq7:zb3 ["_law_thing","_law_part"] ["_law_thing"] (za5 zt7):=by ac_rfl
abbrev zr1:Stmt:=top 64
theorem zh3:zb3 ["_law_battle","_law_some","_law_field","_law_row"] ["_law_battle"] (za5 zr1):=by ac_rfl
abbrev zm0:Stmt:=top 65
theorem zk8:zb3 ["_law_battle","_law_caught","e"] ["_law_battle"] (za5 zm0):=by ac_rfl
abbrev zas3:Stmt:=top 66
theorem zp6:zb3 ["_law_script","_law_cell","_law_left","_law_battle","_law_handed","_law_due","_law_turn","_law_text","_law_told","_law_bad","_law_place"] ["_law_script"] (za5 zas3):=by ac_rfl
abbrev zi3:Stmt:=zbs5 (top 2) 0
theorem zai9:zb3 ["self","field"] ["self","field"] (za5 zi3):=by ac_rfl
theorem zy3{P:Program}{w:World}{K:zce1}{mg:Str->Option Value}{base:Heap}{C aH:Addr}(F:IniF K "NoBattle.__init__" zi3 f "field")(Z:IniK K C aH f "field"):IniOk P w K mg base C f "field":=by
 obtain⟨fd,F,hb⟩:=F
 refine⟨_,fd,F.ok zai9 (fun vs H Q E h=>by unfold zx5 at h;obtain⟨_,_,rfl,_⟩:=h;rfl) fun _ _ _ s H vs Q E hr h=>?_,hb⟩
 unfold zx5 at h
 obtain⟨e,v,rfl,he,q⟩:=h
 refine⟨_,(za4 (psFldX (K:=K) rfl Z (pq 0) (pq 1))),?_⟩
 (conv=>whnf)
 exact zbt1 he q
theorem nb_0:(["number"]:List Str).Nodup:=by decide +kernel
theorem nb_1:(["row","many_numbers"]:List Str).Nodup:=by decide +kernel
theorem nb_2:(["word"]:List Str).Nodup:=by decide +kernel
theorem nb_3:(["row"]:List Str).Nodup:=by decide +kernel
theorem nb_4:(["field"]:List Str).Nodup:=by decide +kernel
theorem nb_5:(["sign"]:List Str).Nodup:=by decide +kernel
theorem nb_6:(["word"]:List Str).Nodup:=by decide +kernel
theorem nb_7:(["row","numbers","many_numbers"]:List Str).Nodup:=by decide +kernel
theorem nb_8:(["row","first","second"]:List Str).Nodup:=by decide +kernel
theorem nb_9:(["_law_y","_law_left","_law_worth"]:List Str).Nodup:=by decide +kernel
theorem nb_10:(["_law_k","_law_left","_law_first","_law_second"]:List Str).Nodup:=by decide +kernel
theorem nb_11:(["_law_row"]:List Str).Nodup:=by decide +kernel
theorem nb_12:(["_law_row"]:List Str).Nodup:=by decide +kernel
theorem nb_13:(["_law_number"]:List Str).Nodup:=by decide +kernel
theorem nb_14:(["_law_field"]:List Str).Nodup:=by decide +kernel
theorem nb_15:(["_law_one"]:List Str).Nodup:=by decide +kernel
theorem nb_16:(["_law_row"]:List Str).Nodup:=by decide +kernel
structure Cz(K:zce1)(mg:Str->Option Value)(base:Heap)(zbw2 zbw0 zbx0 zbx6 zbw3 zbx1 zbw6 zbw4 zbw5 zbx2 zbx3 zbx7 zbx4 zbw7 zbw8:Addr):Prop where
 g_HostError:mg "HostError"=some (.ref zbw2)
 g_NoBattle:mg "NoBattle"=some (.ref zbw0)
 g_NoPlan:mg "NoPlan"=some (.ref zbx0)
 g_NoMix:mg "NoMix"=some (.ref zbx6)
 g_NoStream:mg "NoStream"=some (.ref zbw3)
 g_NoSide:mg "NoSide"=some (.ref zbx1)
 g_NoAlike:mg "NoAlike"=some (.ref zbw6)
 g_NoNumber:mg "NoNumber"=some (.ref zbw4)
 g_TooGreat:mg "TooGreat"=some (.ref zbw5)
 g_NoEven:mg "NoEven"=some (.ref zbx2)
 g_NoText:mg "NoText"=some (.ref zbx3)
 g_NoRow:mg "NoRow"=some (.ref zbx7)
 g_NoName:mg "NoName"=some (.ref zbx4)
 g_NoPlace:mg "NoPlace"=some (.ref zbw7)
 z_NoBattle:IniK K zbw0 zbw2 zbw8 "field"
 fi_NoBattle:IniF K "NoBattle.__init__" zi3 zbw8 "field"
 hd_NoBattle:zcm5 K zbw0=true
 k_NoBattle:ExcK K zbw0
 c_NoBattle:(zcg8 K zbw0).isSome=true
 m_NoBattle:PySem.W.exmOne K (.ref zbw0) (.ref zbw2)=some true
 v_NoBattle:zce8 K (.ref zbw0) (.type "ValueError")=some true
 i_NoBattle_HostError:zce8 K (.ref zbw0) (.ref zbw2)=some true
 i_NoBattle_NoBattle:zce8 K (.ref zbw0) (.ref zbw0)=some true
 i_NoBattle_NoPlan:zce8 K (.ref zbw0) (.ref zbx0)=some false
 i_NoBattle_NoMix:zce8 K (.ref zbw0) (.ref zbx6)=some false
 i_NoBattle_NoStream:zce8 K (.ref zbw0) (.ref zbw3)=some false
 i_NoBattle_NoSide:zce8 K (.ref zbw0) (.ref zbx1)=some false
 i_NoBattle_NoAlike:zce8 K (.ref zbw0) (.ref zbw6)=some false
 i_NoBattle_NoNumber:zce8 K (.ref zbw0) (.ref zbw4)=some false
 i_NoBattle_TooGreat:zce8 K (.ref zbw0) (.ref zbw5)=some false
 i_NoBattle_NoEven:zce8 K (.ref zbw0) (.ref zbx2)=some false
 i_NoBattle_NoText:zce8 K (.ref zbw0) (.ref zbx3)=some false
 i_NoBattle_NoRow:zce8 K (.ref zbw0) (.ref zbx7)=some false
 i_NoBattle_NoName:zce8 K (.ref zbw0) (.ref zbx4)=some false
 i_NoBattle_NoPlace:zce8 K (.ref zbw0) (.ref zbw7)=some false
 n_HostError:zce8 K (.type "NoneType") (.ref zbw2)=some false
 n_NoBattle:zce8 K (.type "NoneType") (.ref zbw0)=some false
 n_NoPlan:zce8 K (.type "NoneType") (.ref zbx0)=some false
 n_NoMix:zce8 K (.type "NoneType") (.ref zbx6)=some false
 n_NoStream:zce8 K (.type "NoneType") (.ref zbw3)=some false
 n_NoSide:zce8 K (.type "NoneType") (.ref zbx1)=some false
 n_NoAlike:zce8 K (.type "NoneType") (.ref zbw6)=some false
 n_NoNumber:zce8 K (.type "NoneType") (.ref zbw4)=some false
 n_TooGreat:zce8 K (.type "NoneType") (.ref zbw5)=some false
 n_NoEven:zce8 K (.type "NoneType") (.ref zbx2)=some false
 n_NoText:zce8 K (.type "NoneType") (.ref zbx3)=some false
 n_NoRow:zce8 K (.type "NoneType") (.ref zbx7)=some false
 n_NoName:zce8 K (.type "NoneType") (.ref zbx4)=some false
 n_NoPlace:zce8 K (.type "NoneType") (.ref zbw7)=some false
structure Nm(mg:Str->Option Value):Prop where
 ValueError_:mg "ValueError"=none
 all_:mg "all"=none
 bool_:mg "bool"=none
 enumerate_:mg "enumerate"=none
 int_:mg "int"=none
 isinstance_:mg "isinstance"=none
 len_:mg "len"=none
 list_:mg "list"=none
 range_:mg "range"=none
 str_:mg "str"=none
 tuple_:mg "tuple"=none
local macro_rules | `(tactic| walk_at "hp")=>`(tactic| first|assumption|(refine Same.at (H:=?H) ?s ?e;(case s=>assumption);(case e=>walk_at "hp"))|(refine Chg.at (a:=?a) (H:=?H) ?c ?e ?n;(case c=>assumption);(case n=>walk_at "ne");(case e=>walk_at "hp"))|fail "hp")
local macro_rules | `(tactic| walk_at "ne")=>`(tactic| first|assumption|(apply Ne.symm;assumption)|fail "ne")
local macro_rules | `(tactic| ac_nf)=>`(tactic| (conv=>whnf))
local macro_rules | `(tactic| walk_at "st")=>`(tactic| (conv=>whnf);first
 | refine zbq4 (by omega) (by omega) ?_
 | refine zab4 (by omega) (by omega) ?_
 | refine zbu3 (by omega) (fun r h0 h1=>?_)
 | refine div_rd (by omega) (by omega) ?_
 | (refine pow_rd ⟨by decide,by decide,by decide⟩ ?_;simp only[Int.reduceToNat,Int.reducePow])
 | (refine zb2 (xs:=?xs) (v:=?v) ?hp ?ev ?_;(case hp=>walk_at "hp");(case ev=>rfl))
 | (refine zp5 (xs:=?xs) (v:=?v) ?hp ?ev ?_;(case hp=>walk_at "hp");(case ev=>rfl))
 | refine zb5 (fun p H' hf hs ha=>?_)
 | refine zb6 (fun p H' hf hs ha=>?_)
 | refine zau0 ?_
 | (refine zx8 (xs:=?xs) ?hp ?_;(case hp=>walk_at "hp"))
 | (refine zad2 (xs:=?xs) ?hp ?_;(case hp=>walk_at "hp"))
 | (refine zo6 (xs:=?xs) ?hp ?_;(case hp=>walk_at "hp"))
 | (refine zm9 (xs:=?xs) ?hp ?_;(case hp=>walk_at "hp"))
 | refine zbv2 ?_
 | refine br_T ?_
 | refine br_F ?_
 | refine zq2 (by omega) ?_
 | refine zp9 (by omega) ?_
 | fail "st")
local macro_rules | `(tactic| rfl')=>`(tactic| first|decide|omega)
section
variable {P:Program}{w:World}{K:zce1}{mg:Str->Option Value}{base:Heap}{zbw2:Addr}{zbw0:Addr}{zbx0:Addr}{zbx6:Addr}{zbw3:Addr}{zbx1:Addr}{zbw6:Addr}{zbw4:Addr}{zbw5:Addr}{zbx2:Addr}{zbx3:Addr}{zbx7:Addr}{zbx4:Addr}{zbw7:Addr}{zbw8:Addr}
inductive MkV(H:Hp):Nat->V->List Addr->Prop
 | flat {n:Nat}{v:V}(f:zh1 v=true) (k:isT "mark" v=false):MkV H n v []
 | tup {n:Nat}{p:Addr}{xs:List V}{Bs:List (List Addr)}(h:H p=some (.tup xs)) (z:xs.length<=1000) (l:Bs.length=xs.length) (e:∀ (i:Nat) x B,xs[i]?=some x->Bs[i]?=some B->MkV H n x B):MkV H (n+1) (.ref p) Bs.flatten
 | lst {n:Nat}{p:Addr}{xs:List V}{Bs:List (List Addr)}(h:H p=some (.lst xs)) (z:xs.length<=1000) (l:Bs.length=xs.length) (e:∀ (i:Nat) x B,xs[i]?=some x->Bs[i]?=some B->MkV H n x B):MkV H (n+1) (.ref p) (p :: Bs.flatten)
theorem zu9{a:Addr}(h:a∈Bs.flatten):∃ (i:Nat) (B:List Addr),Bs[i]?=some B/\a∈B:=by
 obtain⟨B,hB,ha⟩:=zcm0.mp h
 obtain⟨i,hi,e⟩:=zcl4.mp hB
 exact⟨i,B,by rw[zce0 hi,e],ha⟩
theorem zz6{a:Addr}(h:Bs[i]?=some B)(ha:a∈B):a∈Bs.flatten:=zcm0.mpr ⟨B,zce5 h,ha⟩
theorem bs_at{n:Nat}(l:Bs.length=n)(h:i<n):∃ B,Bs[i]?=some B:=⟨_,zce0 (by rfl')⟩
theorem xs_at{xs:List V}{n:Nat}(l:Bs.length=xs.length)(h:Bs[i]?=some B):∃ x,xs[i]?=some x:=⟨_,zce0 (by have:=(zce2.mp h).1;omega)⟩
theorem MkV.isl{n:Nat}{v:V}(m:MkV H n v As):∀ a∈As,∃ ys,H a=some (.lst ys):=by
 induction m with
 | flat _ _=>intro a h;cases h
 | tup h z l e ih=>
  intro a ha
  obtain⟨i,B,e1,e2⟩:=zu9 ha
  obtain⟨x,ex⟩:=xs_at (n:=0) l e1
  exact ih i x B ex e1 a e2
 | @lst n p xs Bs h z l e ih=>
  intro a ha
  rcases zcf2.mp ha with rfl|ha
  ·exact⟨_,h⟩
  ·obtain⟨i,B,e1,e2⟩:=zu9 ha
   obtain⟨x,ex⟩:=xs_at (n:=0) l e1
   exact ih i x B ex e1 a e2
theorem MkV.chgS{L:List Addr}(hL:∀ a∈L,∃ ys,H a=some (.lst ys))(c:ChgS L H H'){n:Nat}{v:V}(m:MkV H n v As):(∀ a∈As,a ∉ L)->MkV H' n v As:=by
 induction m with
 | flat f k=>intro _;exact .flat f k
 | tup h z l e ih=>
  intro hn
  refine .tup (c _ _ (fun hm=>by obtain⟨ys,q⟩:=hL _ hm;rw[h] at q;cases q) h) z l fun i x B e1 e2=>ih i x B e1 e2 fun a ha=>hn a (zz6 e2 ha)
 | lst h z l e ih=>
  intro hn
  exact .lst (c _ _ (hn _ zcg1) h) z l fun i x B e1 e2=>ih i x B e1 e2 fun a ha=>hn a (zcf5 _ (zz6 e2 ha))
theorem MkV.same{n:Nat}{v:V}(m:MkV H n v As)(s:Same H H'):MkV H' n v As:=m.chgS (L:=[]) (fun _ h=>by cases h) (fun b o _ e=>s b o e) fun _ _ h=>by cases h
def Mkd(H H':Hp)(As:List Addr):Prop:=ChgS As H H'/\∀ a∈As,∀ xs,H a=some (.lst xs)->H' a=some (.lst (xs++[.str "mark"]))
theorem Mkd.same{H H' H'':Hp}{As:List Addr}(m:Mkd H H' As)(s:Same H' H''):Mkd H H'' As:=⟨m.1.same s,fun a ha xs h=>s _ _ (m.2 a ha xs h)⟩
theorem zan2(h:Bs[i]?=some B):(Bs.take (i+1)).flatten=(Bs.take i).flatten++B:=by
 rw[List.take_succ,h];simp
theorem zbm7(h:Bs[i]?=some B)(nd:Bs.flatten.Nodup):B.Nodup/\∀ a∈B,a ∉ (Bs.take i).flatten:=by
 have e:Bs.flatten=(Bs.take (i+1)).flatten++(Bs.drop (i+1)).flatten:=by rw[← zck3,List.take_append_drop]
 rw[e,zan2 h] at nd
 have n1:=(List.nodup_append.mp nd).1
 have n2:=List.nodup_append.mp n1
 exact⟨n2.2.1,fun a ha hb=>n2.2.2 a hb a ha rfl⟩
theorem Mkd.push{H1 H2:Hp}(h:Bs[i]?=some B)(hd:∀ a∈B,a ∉ (Bs.take i).flatten)(m:Mkd H H1 (Bs.take i).flatten)(m2:Mkd H1 H2 B):Mkd H H2 (Bs.take (i+1)).flatten:=by
 rw[zan2 h]
 refine⟨fun b o hb e=>m2.1 b o (fun z=>hb (zch6 _ z)) (m.1 b o (fun z=>hb (List.mem_append_left _ z)) e),fun a ha xs hx=>?_⟩
 rcases zch8.mp ha with ha|ha
 ·exact m2.1 a _ (fun z=>hd a z ha) (m.2 a ha xs hx)
 ·exact m2.2 a ha xs (m.1 a _ (hd a ha) hx)
theorem zau5{K:zce1}{p:Addr}{ys:List V}(h:H p=some (.tup ys))(q:∀ l H',H l=none->Same H H'->H' l=some (.lst ys)->Q (.ref l) H'):zab7 K p H Q:=by unfold zab7;exact⟨ys,.inr (SqT.of h),q⟩
def zai5:Nat->Sp
 | 0=>fun _ _ _ _=>False
 | n+1=>fun vs H Q _=>∃ (p:Addr) (As:List Addr),vs=[.ref p]/\MkV H n (.ref p) As/\As.Nodup/\∀ H',Mkd H H' As->Q .non H'
@[irreducible] def zh9:Sp:=zai5 6
theorem zbi7{p:Addr}(m:MkV H 5 (.ref p) As)(nd:As.Nodup)(q:∀ H',Mkd H H' As->Q .non H'):zh9 [.ref p] H Q E:=by unfold zh9;exact⟨p,As,rfl,m,nd,q⟩
theorem MkV.cases{H:Hp}{n:Nat}{v:V}{As:List Addr}(m:MkV H n v As):(zh1 v=true/\isT "mark" v=false/\As=[])∨∃ (n':Nat) (p:Addr) (xs:List V) (Bs:List (List Addr)),n=n'+1/\v=.ref p/\xs.length<=1000/\Bs.length=xs.length/\(∀ (i:Nat) x B,xs[i]?=some x->Bs[i]?=some B->MkV H n' x B)/\((H p=some (.tup xs)/\As=Bs.flatten)∨(H p=some (.lst xs)/\As=p :: Bs.flatten)):=by
 cases m with
 | flat f k=>exact .inl ⟨f,k,rfl⟩
 | tup h z l e=>exact .inr ⟨_,_,_,_,rfl,rfl,z,l,e,.inl ⟨h,rfl⟩⟩
 | lst h z l e=>exact .inr ⟨_,_,_,_,rfl,rfl,z,l,e,.inr ⟨h,rfl⟩⟩
theorem zbl7{K:zce1}{n:Nat}{v:V}{t:Addr}(ht:H t=some (.tup [.ty "list",.ty "tuple"]))(m:MkV H n v As)(h1:zh1 v=true->As=[]->Q (.bl false) H)(h2:∀ p,v=.ref p->Q (.bl true) H):zs4 K v (.ref t) H Q:=by
 have ht:H t=some (.tup (["list","tuple"].map V.ty)):=ht
 rcases m.cases with ⟨f,k,e⟩|⟨n',p,xs,Bs,rfl,rfl,z,l,e,⟨h,_⟩|⟨h,_⟩⟩
 ·cases v with
  | non=>exact zax3 ht (h1 f e)
  | bl b=>exact zau6 ht (h1 f e)
  | int i=>exact zaw5 ht (h1 f e)
  | str x=>exact zaw3 ht (h1 f e)
  | _=>exact absurd (show false=true from f) zcf0
 ·exact zax2 ht h (h2 p rfl)
 ·exact zav9 ht h (h2 p rfl)
theorem zaf7(F:Fun K "_law_marked" "_law_marked" zp1 f fd)(N:Nm mg)(hgR:mg "_law_marked"=some (.ref f))(hkR:zck5 K (.ref f)=true)(hbR:zz5 K fd ["_law_thing"] []):FnOk P w K mg base CX0 7 f fd ["_law_thing"] zh9:=by
 have key:∀ n,FnOk P w K mg base CX0 (n+1) f fd ["_law_thing"] (zai5 n):=by
  intro n
  induction n with
  | zero=>exact F.ok zn8 (fun vs H Q E h=>h.elim) (fun cdv A outer s H vs Q E hr h=>h.elim)
  | succ n ih=>
   have zby2:Def P w K mg base CX0 (n+1) "_law_marked" ["_law_thing"] (zai5 n):=⟨f,fd,ih,hgR,hkR,hbR⟩
   refine F.ok zn8 (fun vs H Q E h=>by obtain⟨_,_,rfl,_⟩:=h;rfl) fun _ _ _ s H vs Q E hr h=>?_
   obtain⟨p,As,rfl,m,nd,q⟩:=h
   refine⟨_,(za3 (zt2 PassesOwn.never rfl (zf5 (K:=K) rfl (pT (zab9 (K:=K) rfl) N.list_ zk6 (za0 (pq 0) za1))) (zb0 (i:=1) zn8.nd rfl (by eq_refl)) (za4 (psIf (ptV (pB (cIsiT (K:=K) rfl) N.isinstance_ za7 (za0 (pq 1) (za0 (zg1 (za0 (pTy N.list_ zk6) (za0 (pTy N.tuple_ zr6) za1))) za1)))) (za4 (zn1 (pD zby2 hr zc1 (za0 (pq 1) za1) (hk:=by rfl')))) zb8)))
   (za4 (psIf (ptV (pB (zae5 (K:=K) rfl) N.isinstance_ za7 (za0 (pq 0) (za0 (pTy N.list_ zk6) za1)))) (za4 (zn1 (zo3 (pq 0) (za0 zb4 za1)))) zb8))),?_⟩
   rcases m.cases with ⟨f,_,_⟩|⟨n',p',xs,Bs,rfl,ep,z,l,e,hc⟩
   ·exact absurd (show false=true from f) zcf0
   cases ep
   have nf:Bs.flatten.Nodup:=by
    rcases hc with ⟨_,rfl⟩|⟨_,rfl⟩
    ·exact nd
    ·exact (zcj6.mp nd).2
   have isl:∀ (i:Nat) B,Bs[i]?=some B->∀ a∈B,∃ ys,H a=some (.lst ys):=fun i B hB=>by
    obtain⟨x,ex⟩:=xs_at (n:=0) l hB
    exact (e i x B ex hB).isl
   have isl2:∀ i,∀ a∈(Bs.take i).flatten,∃ ys,H a=some (.lst ys):=fun i a ha=>by
    obtain⟨B,hB,hm⟩:=zcm0.mp ha
    obtain⟨j,hj,ej⟩:=zcl4.mp (zcl5 hB)
    exact isl j B (by rw[zce0 hj,ej]) a hm
   have hm:∀ (R:VK),(∀ l' H',H l'=none->Same H H'->H' l'=some (.lst xs)->R (.ref l') H')->zab7 K p H R:=fun R r=>by
    rcases hc with ⟨h,_⟩|⟨h,_⟩
    ·exact zau5 h r
    ·exact zr8 (SqL.of h) r
   ac_nf
   refine hm _ (fun q1 H1 f1 s1 h1=>?_)
   refine zc7 h1 ?_
   have nq:∀ i,q1 ∉ (Bs.take i).flatten:=fun i hi=>by obtain⟨ys,z⟩:=isl2 i q1 hi;rw[f1] at z;cases z
   refine zj9 (xs:=xs) (fun i σ H2=>∃ t:Option V,σ=[some (.ref p),t]/\Mkd H H2 (Bs.take i).flatten/\H2 q1=some (.lst xs)) ?_ ?_ ?_ ?_
   ·exact⟨_,rfl,⟨fun b o _ h=>s1 b o h,fun a ha=>by simp at ha⟩,h1⟩
   ·rintro i σ H2 _ ⟨_,_,_,h⟩
    exact SqL.of h
   ·rintro i x σ H2 hx ⟨t,rfl,m2,h2⟩
    have hi:=(zce2.mp hx).1
    obtain⟨B,hB⟩:=bs_at l hi
    have nb:=zbm7 hB nf
    have mx:=(e i x B hx hB).chgS (isl2 i) m2.1 nb.2
    refine zb5 (fun t1 H3 f3 s3 h3=>?_)
    ac_nf
    refine zbl7 h3 (mx.same s3) (fun fx eB=>?_) (fun p1 ep=>?_)
    ·subst eB
     refine br_F ?_
     ac_nf
     refine⟨_,rfl,(Mkd.push hB nb.2 m2 ⟨fun b o _ h=>h,fun a ha=>by cases ha⟩).same s3,s3 _ _ h2⟩
    ·subst ep
     refine br_T ?_
     ac_nf
     obtain⟨n'',rfl⟩:∃ n'',n'=n''+1:=by
      rcases mx.cases with ⟨f,_,_⟩|⟨n'',_,_,_,rfl,_⟩
      ·exact absurd (show false=true from f) zcf0
      ·exact⟨_,rfl⟩
     refine⟨p1,B,rfl,mx.same s3,nb.1,fun H4 m4=>?_⟩
     ac_nf
     refine⟨_,rfl,Mkd.push hB nb.2 (m2.same s3) m4,m4.1 _ _ (fun hq=>?_) (s3 _ _ h2)⟩
     obtain⟨ys,zz⟩:=isl i B hB q1 hq
     rw[f1] at zz
     cases zz
   ·rintro σ H2 ⟨t,rfl,m2,h2⟩
    have eT:Bs.take xs.length=Bs:=by rw[← l,List.take_length]
    rw[eT] at m2
    ac_nf
    rcases hc with ⟨h,rfl⟩|⟨h,rfl⟩
    ·have hp:=m2.1 _ _ (fun hm=>by obtain⟨i,B,e1,e2⟩:=zu9 hm;obtain⟨ys,z⟩:=isl i B e1 _ e2;rw[h] at z;cases z) h
     refine zx8 hp ?_
     refine br_F ?_
     ac_nf
     exact q _ m2
    ·have np:=(zcj6.mp nd).1
     have hp:=m2.1 _ _ np h
     refine zad2 hp ?_
     refine br_T ?_
     refine zt0 hp ?_
     refine zam1 hp (by rw[zcn5];omega) (fun H3 c3 h3=>?_)
     ac_nf
     refine q _ ⟨fun b o hb h=>c3 b o (fun z=>hb (z▸zcg1)) (m2.1 b o (fun z=>hb (zcf5 _ z)) h),fun a ha ys hy=>?_⟩
     rcases zcf2.mp ha with rfl|ha
     ·rw[h] at hy
      cases hy
      exact h3
     ·exact c3 _ _ (fun z=>np (z▸ha)) (m2.2 a ha ys hy)
 unfold zh9
 exact key 6
inductive OnV(H:Hp):Nat->V->Prop
 | flat {n:Nat}{v:V}(f:zh1 v=true):OnV H n v
 | tup {n:Nat}{p:Addr}{xs:List V}(h:H p=some (.tup xs)) (z:xs.length<=1000) (e:∀ (i:Nat) x,xs[i]?=some x->OnV H n x):OnV H (n+1) (.ref p)
 | lst {n:Nat}{p:Addr}{xs:List V}(h:H p=some (.lst (xs++[.str "mark"]))) (z:xs.length<=1000) (c:xs.countP (isT "mark")=0) (e:∀ (i:Nat) x,xs[i]?=some x->OnV H n x):OnV H (n+1) (.ref p)
theorem zau3{H:Hp}{n:Nat}:∀ {xs:List V}{Bs:List (List Addr)},Bs.length=xs.length->(∀ (i:Nat) x B,xs[i]?=some x->Bs[i]?=some B->MkV H n x B)->xs.countP (isT "mark")=0
 | [],_,_,_=>rfl
 | x :: xs,[],l,_=>by cases l
 | x :: xs,B :: Bs,l,e=>by
  have h0:isT "mark" x=false:=by
   rcases (e 0 x B rfl rfl).cases with ⟨_,k,_⟩|⟨_,p,_,_,_,rfl,_⟩
   ·exact k
   ·rfl
  rw[zcm9,h0,zau3 (by simpa using l) fun i x B h1 h2=>e (i+1) x B h1 h2]
  rfl
theorem MkV.on{H0:Hp}{L:List Addr}(d:Mkd H0 H L)(hL:∀ a∈L,∃ ys,H0 a=some (.lst ys)){n:Nat}{v:V}(m:MkV H0 n v As):(∀ a∈As,a∈L)->OnV H n v:=by
 induction m with
 | flat f _=>intro _;exact .flat f
 | tup h z l e ih=>
  intro hs
  refine .tup (d.1 _ _ (fun hm=>by obtain⟨ys,q⟩:=hL _ hm;rw[h] at q;cases q) h) z fun i x hx=>?_
  obtain⟨B,hB⟩:=bs_at l (zce2.mp hx).1
  exact ih i x B hx hB fun a ha=>hs a (zz6 hB ha)
 | lst h z l e ih=>
  intro hs
  refine .lst (d.2 _ (hs _ zcg1) _ h) z (zau3 l e) fun i x hx=>?_
  obtain⟨B,hB⟩:=bs_at l (zce2.mp hx).1
  exact ih i x B hx hB fun a ha=>hs a (zcf5 _ (zz6 hB ha))
theorem OnV.same(s:Same H H'){n:Nat}{v:V}(m:OnV H n v):OnV H' n v:=by
 induction m with
 | flat f=>exact .flat f
 | tup h z e ih=>exact .tup (s _ _ h) z ih
 | lst h z c e ih=>exact .lst (s _ _ h) z c ih
theorem OnV.plain{n:Nat}{v:V}(m:OnV H n v):zbf1 H v:=by
 cases m with
 | flat f=>exact .inl f
 | tup h _ _=>exact .inr ⟨_,rfl,.inr ⟨_,h⟩⟩
 | lst h _ _ _=>exact .inr ⟨_,rfl,.inl ⟨_,h⟩⟩
theorem zbd4{K:zce1}{v:V}{t:Addr}(ht:H t=some (.tup [.ty "list",.ty "tuple"]))(m:zbf1 H v)(h1:zh1 v=true->Q (.bl false) H)(h2:∀ p,v=.ref p->Q (.bl true) H):zs4 K v (.ref t) H Q:=by
 have ht:H t=some (.tup (["list","tuple"].map V.ty)):=ht
 rcases m with f|⟨a,rfl,⟨ys,h⟩|⟨ys,h⟩⟩
 ·cases v with
  | non=>exact zax3 ht (h1 f)
  | bl b=>exact zau6 ht (h1 f)
  | int i=>exact zaw5 ht (h1 f)
  | str x=>exact zaw3 ht (h1 f)
  | _=>exact absurd (show false=true from f) zcf0
 ·exact zav9 ht h (h2 a rfl)
 ·exact zax2 ht h (h2 a rfl)
def zaj0:Nat->Sp
 | 0=>fun _ _ _ _=>False
 | n+1=>fun vs H Q _=>∃ p:Addr,vs=[.ref p]/\OnV H n (.ref p)/\∀ H',Same H H'->Q (.bl true) H'
@[irreducible] def zl6:Sp:=zaj0 6
theorem zbv3{H0:Hp}{p:Addr}(m:MkV H0 5 (.ref p) As)(d:Mkd H0 H As)(q:∀ H',Same H H'->Q (.bl true) H'):zl6 [.ref p] H Q E:=by unfold zl6;exact⟨p,rfl,m.on d m.isl fun _ h=>h,q⟩
theorem zap0(F:Fun K "_law_once" "_law_once" zt7 f fd)(N:Nm mg)(hgR:mg "_law_once"=some (.ref f))(hkR:zck5 K (.ref f)=true)(hbR:zz5 K fd ["_law_thing"] []):FnOk P w K mg base CX0 7 f fd ["_law_thing"] zl6:=by
 have key:∀ n,FnOk P w K mg base CX0 (n+1) f fd ["_law_thing"] (zaj0 n):=by
  intro n
  induction n with
  | zero=>exact F.ok zq7 (fun vs H Q E h=>h.elim) (fun cdv A outer s H vs Q E hr h=>h.elim)
  | succ n ih=>
   have zbz1:Def P w K mg base CX0 (n+1) "_law_once" ["_law_thing"] (zaj0 n):=⟨f,fd,ih,hgR,hkR,hbR⟩
   refine F.ok zq7 (fun vs H Q E h=>by obtain⟨_,rfl,_⟩:=h;rfl) fun _ _ _ s H vs Q E hr h=>?_
   obtain⟨p,rfl,m,q⟩:=h
   have hu:=hu40 hr
   refine⟨_,(za3 (psIf (ptW (zbb4 (ptV (pB (zae5 (K:=K) rfl) N.isinstance_ za7 (za0 (pq 0) (za0 (pTy N.list_ zk6) za1)))) (zw3 (ptC (oNeK (K:=K) rfl (by exact hu)) (zbb5 (K:=K) rfl (by exact hu) (pq 0) (za0 zb4 za1)) za2)))) (za4 (za9 zt5)) zb8)
   (za3 (zt2 PassesOwn.never rfl (zf5 (K:=K) rfl (pq 0)) (zb0 (i:=1) zq7.nd rfl (by eq_refl)) (za4 (psIf (ptW (zbb4 (ptV (pB (cIsiT (K:=K) rfl) N.isinstance_ za7 (za0 (pq 1) (za0 (zg1 (za0 (pTy N.list_ zk6) (za0 (pTy N.tuple_ zr6) za1))) za1)))) (zw3 (zm3 (ptV (pD zbz1 hr zc1 (za0 (pq 1) za1) (hk:=by rfl'))))))) (za4 (za9 zt5)) zb8)))
   (za4 (za9 zt5)))),?_⟩
   cases m with
   | flat f=>exact absurd (show false=true from f) zcf0
   | @tup n' _ xs h z e=>
    refine zx8 h ?_
    refine br_F ?_
    refine br_F ?_
    refine zax6 h ?_
    refine zbn4 (xs:=xs) (fun i σ H2=>∃ t:Option V,σ=[some (.ref p),t]/\Same H H2) ?_ ?_ ?_ ?_
    ·exact⟨_,rfl,Same.refl _⟩
    ·rintro i σ H2 _ ⟨_,_,s2⟩
     exact SqT.of (s2 _ _ h)
    ·rintro i x σ H2 hx ⟨t,rfl,s2⟩
     have o:=(e i x hx).same s2
     refine zb5 (fun t1 H3 f3 s3 h3=>?_)
     ac_nf
     refine zbd4 h3 (o.same s3).plain (fun fx=>?_) (fun p1 ep=>?_)
     ·ac_nf
      refine br_F ?_
      refine br_F ?_
      ac_nf
      exact⟨_,rfl,s2.trans s3⟩
     ·ac_nf
      refine br_T ?_
      ac_nf
      subst ep
      refine⟨p1,rfl,o.same s3,fun H4 s4=>?_⟩
      refine zd4 (br_T ?_)
      ac_nf
      exact⟨_,rfl,(s2.trans s3).trans s4⟩
    ·rintro σ H2 ⟨t,rfl,s2⟩
     ac_nf
     exact q _ s2
   | @lst n' _ xs h z c e=>
    refine zad2 h ?_
    refine br_T ?_
    refine zt0 h ?_
    refine zbs1 h (fun x hx=>?_) ?_
    ·rcases zch8.mp hx with hx|hx
     ·obtain⟨i,hi,ei⟩:=zcl4.mp hx
      exact (e i x (by rw[zce0 hi,ei])).plain
     ·rw[zcj5.mp hx];exact .inl rfl
    rw[List.countP_append,c]
    refine zd4 (zq2 rfl ?_)
    refine zc7 h ?_
    refine zj9 (xs:=xs++[.str "mark"]) (fun i σ H2=>∃ t:Option V,σ=[some (.ref p),t]/\Same H H2) ?_ ?_ ?_ ?_
    ·exact⟨_,rfl,Same.refl _⟩
    ·rintro i σ H2 _ ⟨_,_,s2⟩
     exact SqL.of (s2 _ _ h)
    ·rintro i x σ H2 hx ⟨t,rfl,s2⟩
     have o:OnV H2 n' x:=by
      by_cases hi:i<xs.length
      ·rw[zcg9 hi] at hx
       exact (e i x hx).same s2
      ·have:=zce5 hx
       rw[zch2 (by rfl')] at hx
       have hm:=zce5 hx
       rw[zcj5.mp hm]
       exact .flat rfl
     refine zb5 (fun t1 H3 f3 s3 h3=>?_)
     ac_nf
     refine zbd4 h3 (o.same s3).plain (fun fx=>?_) (fun p1 ep=>?_)
     ·ac_nf
      refine br_F ?_
      refine br_F ?_
      ac_nf
      exact⟨_,rfl,s2.trans s3⟩
     ·ac_nf
      refine br_T ?_
      ac_nf
      subst ep
      refine⟨p1,rfl,o.same s3,fun H4 s4=>?_⟩
      refine zd4 (br_T ?_)
      ac_nf
      exact⟨_,rfl,(s2.trans s3).trans s4⟩
    ·rintro σ H2 ⟨t,rfl,s2⟩
     ac_nf
     exact q _ s2
 unfold zl6
 exact key 6
@[irreducible] def zh2:Sp:=fun vs H Q _=>∃ i:Int,vs=[.int i]/\Q (.bl true) H
theorem zbe6{i:Int}(q:Q (.bl true) H):zh2 [.int i] H Q E:=by unfold zh2;exact⟨i,rfl,q⟩
theorem zaq5(F:Fun K "is_whole" "is_whole" zx3 f fd)(N:Nm mg):FnOk P w K mg base CX0 1 f fd ["thing"] zh2:=by
 refine F.ok zat5 (fun vs H Q E h=>by unfold zh2 at h;obtain⟨n,rfl,_⟩:=h;rfl) fun _ _ _ s H vs Q E hr h=>?_
 unfold zh2 at h
 obtain⟨i,rfl,q⟩:=h
 refine⟨_,(za4 (za9 (zak5 (pB (zae5 (K:=K) rfl) N.isinstance_ za7 (za0 (pq 0) (za0 (pTy N.int_ zan7) za1))) (zv4 (peNot (pB (zae5 (K:=K) rfl) N.isinstance_ za7 (za0 (pq 0) (za0 (pTy N.bool_ zbi8) za1)))))))),?_⟩
 repeat walk_at "st"
 ac_nf
 exact q
@[irreducible] def zk5:Sp:=fun vs H Q _=>∃ i l:Int,vs=[.int i,.int l]/\Q (.bl (decide (l<=i))) H
theorem zbc4{i l:Int}(q:Q (.bl (decide (l<=i))) H):zk5 [.int i,.int l] H Q E:=by unfold zk5;exact⟨i,l,rfl,q⟩
theorem zba2(F:Fun K "is_from" "is_from" zac7 f fd)(N:Nm mg)(zbx9:Def P w K mg base CX0 1 "is_whole" ["thing"] zh2):FnOk P w K mg base CX0 2 f fd ["thing","least"] zk5:=by
 refine F.ok zaz4 (fun vs H Q E h=>by unfold zk5 at h;obtain⟨n,k,rfl,_⟩:=h;rfl) fun _ _ _ s H vs Q E hr h=>?_
 unfold zk5 at h
 obtain⟨i,l,rfl,q⟩:=h
 refine⟨_,(za4 (za9 (zak5 (pD zbx9 hr zc1 (za0 (pq 0) za1)) (zv4 (peC oLe (pq 1) (pq 0)))))),?_⟩
 refine zbe6 ?_
 walk_at "st"
 ac_nf
 exact q
@[irreducible] def zg0:Sp:=fun vs H Q _=>∃ i l m:Int,vs=[.int i,.int l,.int m]/\Q (.bl (decide (l<=i/\i<=m))) H
theorem zbe3{i l m:Int}(q:Q (.bl (decide (l<=i/\i<=m))) H):zg0 [.int i,.int l,.int m] H Q E:=by unfold zg0;exact⟨i,l,m,rfl,q⟩
theorem zz7{p q:Prop}[Decidable p][Decidable q](h:p):decide (p/\q)=decide q:=by simp[h]
theorem zaa1{p q:Prop}[Decidable p][Decidable q](h:¬ p):decide (p/\q)=false:=by simp[h]
theorem zai1(F:Fun K "is_between" "is_between" zr4 f fd)(N:Nm mg)(zbz2:Def P w K mg base CX0 2 "is_from" ["thing","least"] zk5):FnOk P w K mg base CX0 3 f fd ["thing","least","most"] zg0:=by
 refine F.ok zaj8 (fun vs H Q E h=>by unfold zg0 at h;obtain⟨n,k,_,rfl,_⟩:=h;rfl) fun _ _ _ s H vs Q E hr h=>?_
 unfold zg0 at h
 obtain⟨i,l,m,rfl,q⟩:=h
 refine⟨_,(za4 (za9 (zak5 (pD zbz2 hr zc1 (za0 (pq 0) (za0 (pq 1) za1))) (zv4 (peC oLe (pq 0) (pq 2)))))),?_⟩
 refine zbc4 ?_
 refine ze8 (fun h=>?_) (fun h=>?_)
 ·ac_nf
  rw[zz7 h] at q
  exact q
 ·ac_nf
  rw[zaa1 h] at q
  exact q
theorem zbu8(n:Nat):((List.range n).map fun _=>V.bl true)=((List.range n).map fun _=>true).map V.bl:=by rw[zck4];rfl
theorem zbl8(n:Nat):((List.range n).map fun _=>true).all id=true:=by rw[List.all_map];exact zaw4 n
inductive Fd where
 | more (w t:Int)
 | lead (w l:Int)
 | tab (g:Nat->Nat->Int)
def Fd.Ok:Fd->Prop
 | .more w t=>1<=w/\-w<=t/\t<=w
 | .lead w _=>1<=w
 | .tab _=>True
def FdAt(H:Hp)(p:Addr)(a c:Nat):Fd->Prop
 | .more w t=>H p=some (.tup [.str "more",.int w,.int t])
 | .lead w l=>H p=some (.tup [.str "lead",.int w,.int l])
 | .tab g=>∃ q ps,H p=some (.tup [.str "table",.ref q])/\zs7 H q ps (a+1) (c+1) g
theorem FdAt.same{H H':Hp}{p:Addr}{a c:Nat}{f:Fd}(F:FdAt H p a c f)(s:Same H H'):FdAt H' p a c f:=by
 cases f with
 | more w t=>exact s _ _ F
 | lead w l=>exact s _ _ F
 | tab g=>
  obtain⟨q,ps,h1,h2⟩:=F
  exact⟨q,ps,s _ _ h1,h2.same s⟩
theorem FdAt.some{H:Hp}{p:Addr}{a c:Nat}{f:Fd}(F:FdAt H p a c f):∃ xs,H p=some (.tup xs):=by
 cases f with
 | more w t=>exact⟨_,F⟩
 | lead w l=>exact⟨_,F⟩
 | tab g=>
  obtain⟨q,ps,h1,h2⟩:=F
  exact⟨_,h1⟩
structure zh7(H:Hp)(b l:Addr)(ps:List Addr)(a c:Nat)(fs:List Fd):Prop where
 out:H b=some (.tup [.int a,.int c,.ref l])
 lst:H l=some (.lst (ps.map V.ref))
 len:ps.length=fs.length
 fld:∀ (i:Nat) p f,ps[i]?=some p->fs[i]?=some f->FdAt H p a c f/\f.Ok
abbrev OkB(a c:Nat)(fs:List Fd):Prop:=(a<=10/\c<=10)/\1<=fs.length/\fs.length<=5
theorem zh7.same{H H':Hp}{b l:Addr}{ps:List Addr}{a c:Nat}{fs:List Fd}(B:zh7 H b l ps a c fs)(s:Same H H'):zh7 H' b l ps a c fs:=⟨s _ _ B.out,s _ _ B.lst,B.len,fun i p f h1 h2=>⟨(B.fld i p f h1 h2).1.same s,(B.fld i p f h1 h2).2⟩⟩
theorem zh7.elt{b l:Addr}{a:Nat}{fs:List Fd}(B:zh7 H b l ps a c fs){v:V}(e:(ps.map V.ref)[i]?=some v):∃ p f,v=.ref p/\ps[i]?=some p/\fs[i]?=some f/\FdAt H p a c f/\f.Ok:=by
 rw[zce3] at e
 obtain⟨p,ep,rfl⟩:=zce7.mp e
 obtain⟨f,ef⟩:∃ f,fs[i]?=some f:=⟨_,zce0 (by have:=(zce2.mp ep).1;have:=B.len;omega)⟩
 exact⟨p,f,rfl,ep,ef,B.fld i p f ep ef⟩
@[irreducible] def zi4:Sp:=fun vs H Q _=>∃ x y:Int,vs=[.int x,.int y]/\Q (.bl (decide ((0<=x/\x<=10)/\0<=y/\y<=10))) H
theorem zap4{x y:Int}(q:Q (.bl (decide ((0<=x/\x<=10)/\0<=y/\y<=10))) H):zi4 [.int x,.int y] H Q E:=by unfold zi4;exact⟨x,y,rfl,q⟩
theorem zan4(F:Fun K "are_hosts" "are_hosts" zu8 f fd)(N:Nm mg){zbz8:Tok}(c_MOST_HOSTS:mg "MOST_HOSTS"=some (.int 10 zbz8))(zbx8:Def P w K mg base CX0 3 "is_between" ["thing","least","most"] zg0):FnOk P w K mg base CX0 4 f fd ["first","second"] zi4:=by
 refine F.ok zan8 (fun vs H Q E h=>by unfold zi4 at h;obtain⟨_,_,rfl,_⟩:=h;rfl) fun _ _ _ s H vs Q E hr h=>?_
 unfold zi4 at h
 obtain⟨x,y,rfl,q⟩:=h
 refine⟨_,(za4 (za9 (zak5 (pD zbx8 hr zc1 (za0 (pq 0) (za0 za2 (za0 (zf8 (v:=.int 10) rfl c_MOST_HOSTS ⟨_,rfl⟩) za1)))) (zv4 (pD zbx8 hr zc1 (za0 (pq 1) (za0 za2 (za0 (zf8 (v:=.int 10) rfl c_MOST_HOSTS ⟨_,rfl⟩) za1)))))))),?_⟩
 refine zbe3 ?_
 refine ze8 (fun h=>?_) (fun h=>?_)
 ·ac_nf
  refine zbe3 ?_
  ac_nf
  rw[zz7 h] at q
  exact q
 ·ac_nf
  rw[zaa1 h] at q
  exact q
inductive Fx where
 | flat (w:Str) (zs:List Int)
 | tab (rows:List (List Int))
structure zp7(H:Hp)(q:Addr)(ps:List Addr)(rows:List (List Int)):Prop where
 out:H q=some (.lst (ps.map V.ref))
 len:ps.length=rows.length
 row:∀ (i:Nat) p r,ps[i]?=some p->rows[i]?=some r->H p=some (.lst (r.map V.int))
theorem zp7.same{rows:List (List Int)}(R:zp7 H q ps rows)(s:Same H H'):zp7 H' q ps rows:=⟨s _ _ R.out,R.len,fun i p r h1 h2=>s _ _ (R.row i p r h1 h2)⟩
theorem zp7.elt{rows:List (List Int)}(R:zp7 H q ps rows){v:V}(e:(ps.map V.ref)[i]?=some v):∃ p r,v=.ref p/\ps[i]?=some p/\rows[i]?=some r/\H p=some (.lst (r.map V.int)):=by
 rw[zce3] at e
 obtain⟨p,ep,rfl⟩:=zce7.mp e
 obtain⟨r,er⟩:∃ r,rows[i]?=some r:=⟨_,zce0 (by have:=(zce2.mp ep).1;have:=R.len;omega)⟩
 exact⟨p,r,rfl,ep,er,R.row i p r ep er⟩
def FxAt(H:Hp)(p:Addr):Fx->Prop
 | .flat w zs=>H p=some (.tup (.str w :: zs.map V.int))
 | .tab rows=>∃ q ps,H p=some (.tup [.str "table",.ref q])/\zp7 H q ps rows
def Fx.Gd:Fx->Prop
 | .flat w zs=>w≠"table"/\zs.length<=10
 | .tab rows=>rows.length<=100/\∀ r∈rows,r.length<=100
theorem FxAt.same{H H':Hp}{p:Addr}{f:Fx}(F:FxAt H p f)(s:Same H H'):FxAt H' p f:=by
 cases f with
 | flat w zs=>exact s _ _ F
 | tab rows=>
  obtain⟨q,ps,h1,h2⟩:=F
  exact⟨q,ps,s _ _ h1,h2.same s⟩
def isF(a c:Int):Fx->Bool
 | .flat w [x,y]=>if w="more" then decide (1<=x/\-x<=y/\y<=x) else if w="lead" then decide (1<=x) else false
 | .flat _ _=>false
 | .tab rows=>decide ((rows.length:Int)=a+1)&&rows.all fun r=>decide ((r.length:Int)=c+1)
structure BxAt(H:Hp)(b l:Addr)(ps:List Addr)(a c:Int)(fs:List Fx):Prop where
 out:H b=some (.tup [.int a,.int c,.ref l])
 lst:H l=some (.lst (ps.map V.ref))
 len:ps.length=fs.length
 fld:∀ (i:Nat) p f,ps[i]?=some p->fs[i]?=some f->FxAt H p f/\f.Gd
theorem BxAt.same{H H':Hp}{b l:Addr}{ps:List Addr}{a c:Int}{fs:List Fx}(B:BxAt H b l ps a c fs)(s:Same H H'):BxAt H' b l ps a c fs:=⟨s _ _ B.out,s _ _ B.lst,B.len,fun i p f h1 h2=>⟨(B.fld i p f h1 h2).1.same s,(B.fld i p f h1 h2).2⟩⟩
theorem BxAt.elt{b l:Addr}{a c:Int}{fs:List Fx}(B:BxAt H b l ps a c fs){v:V}(e:(ps.map V.ref)[i]?=some v):∃ p f,v=.ref p/\ps[i]?=some p/\fs[i]?=some f/\FxAt H p f/\f.Gd:=by
 rw[zce3] at e
 obtain⟨p,ep,rfl⟩:=zce7.mp e
 obtain⟨f,ef⟩:∃ f,fs[i]?=some f:=⟨_,zce0 (by have:=(zce2.mp ep).1;have:=B.len;omega)⟩
 exact⟨p,f,rfl,ep,ef,B.fld i p f ep ef⟩
abbrev Sz(a c:Int)(n:Nat):Prop:=((0<=a/\a<=10)/\0<=c/\c<=10)/\1<=n/\n<=5
def BadB(H:Hp)(b:Addr)(k:Int):Prop:=∃ l ps a c fs,BxAt H b l ps a c fs/\fs.length<=100 /\
 ((¬ Sz a c fs.length/\k=-1)∨(Sz a c fs.length/\∃ (j:Nat) (f:Fx),k=j/\fs[j]?=some f/\isF a c f=false/\∀ (i:Nat) g,i<j->fs[i]?=some g->isF a c g=true))
theorem BadB.same{H H':Hp}{b:Addr}{k:Int}(B:BadB H b k)(s:Same H H'):BadB H' b k:=by
 obtain⟨l,ps,a,c,fs,B,r⟩:=B
 exact⟨l,ps,a,c,fs,B.same s,r⟩
def toFx(a c:Nat):Fd->Fx
 | .more w t=>.flat "more" [w,t]
 | .lead w l=>.flat "lead" [w,l]
 | .tab g=>.tab ((List.range (a+1)).map fun x=>(List.range (c+1)).map (g x))
theorem zaa7{n:Nat}{g:Nat->Nat->Int}(G:zs7 H q ps n m g):zp7 H q ps ((List.range n).map fun x=>(List.range m).map (g x)):=by
 refine⟨G.out,by rw[G.len,zcd9,zcf8],fun i p r h1 h2=>?_⟩
 have hi:i<n:=by have:=(zce2.mp h1).1;have:=G.len;omega
 rw[zce3,zci1 hi] at h2
 cases h2
 rw[← zn2]
 exact G.row i p h1
theorem zai2{p:Addr}{a:Nat}{f:Fd}(F:FdAt H p a c f)(ha:a<=10)(hc:c<=10):FxAt H p (toFx a c f)/\(toFx a c f).Gd:=by
 cases f with
 | more w t=>exact⟨F,by decide,by simp⟩
 | lead w l=>exact⟨F,by decide,by simp⟩
 | tab g=>
  obtain⟨q,ps,h1,h2⟩:=F
  refine⟨⟨q,ps,h1,zaa7 h2⟩,by rw[zcd9,zcf8];omega,fun r hr=>?_⟩
  obtain⟨x,_,rfl⟩:=zch1.mp hr
  rw[zcd9,zcf8];omega
theorem zbd9{a:Nat}{f:Fd}(O:f.Ok):isF a c (toFx a c f)=true:=by
 cases f with
 | more w t=>exact decide_eq_true (show 1<=w/\-w<=t/\t<=w from O)
 | lead w l=>exact decide_eq_true (show 1<=w from O)
 | tab g=>
  show (decide _&&List.all _ _)=true
  rw[zci7,zcj7]
  refine⟨decide_eq_true (by rw[zcd9,zcf8];rfl),fun r hr=>?_⟩
  obtain⟨x,_,rfl⟩:=zch1.mp hr
  exact decide_eq_true (by rw[zcd9,zcf8];rfl)
theorem toBx{b l:Addr}{a:Nat}{fs:List Fd}(B:zh7 H b l ps a c fs)(ha:a<=10)(hc:c<=10):BxAt H b l ps a c (fs.map (toFx a c)):=by
 refine⟨B.out,B.lst,by rw[B.len,zcd9],fun i p f h1 h2=>?_⟩
 rw[zce3] at h2
 obtain⟨f',e,rfl⟩:=zce7.mp h2
 exact zai2 (B.fld i p f' h1 e).1 ha hc
@[irreducible] def ze9:Sp:=fun vs H Q _=>∃ (r:Addr) (n:Int) (zs:List Int),vs=[.int n,.ref r]/\H r=some (.lst (zs.map V.int))/\zs.length<=1000/\∀ H',Same H H'->Q (.bl (decide ((zs.length:Int)=n))) H'
theorem zab2{r:Addr}{n:Int}{zs:List Int}(h:H r=some (.lst (zs.map V.int)))(hn:zs.length<=1000)(q:∀ H',Same H H'->Q (.bl (decide ((zs.length:Int)=n))) H'):ze9 [.int n,.ref r] H Q E:=by unfold ze9;exact⟨r,n,zs,rfl,h,hn,q⟩
theorem zac4(F:Fun K "is_table_row" "is_table_row" zn7 f fd)(N:Nm mg)(zbx9:Def P w K mg base CX0 1 "is_whole" ["thing"] zh2):FnOk P w K mg base CX0 2 f fd ["many_numbers","row"] ze9:=by
 refine F.ok zac6 (fun vs H Q E h=>by unfold ze9 at h;obtain⟨_,_,_,rfl,_⟩:=h;rfl) fun _ _ _ s H vs Q E hr h=>?_
 unfold ze9 at h
 obtain⟨r,n,zs,rfl,h,hn,q⟩:=h
 have hu:=hu40 hr
 refine⟨_,(za4 (za9 (zak5 (pB (zae5 (K:=K) rfl) N.isinstance_ za7 (za0 (pq 1) (za0 (pTy N.list_ zk6) za1))) (zak5 (peC (oEqK (K:=K) rfl (by exact hu)) (pB (zv7 (K:=K) rfl) N.len_ zn3 (za0 (pq 1) za1)) (pq 0)) (zv4 (pB (cAllK (K:=K) rfl rfl) N.all_ zau8 (za0 (zk1 (N:=["number"]) (ks:=[none]) (zf5 (K:=K) rfl (pq 1)) (fun _ _ _ _ _=>(zb0 (i:=0) nb_0 rfl (by eq_refl))) (fun _ _ _ _ _=>zf7) (fun _ _ _ _ _=>(pD zbx9 hr zc1 (za0 (pq 0) za1))) (.skip .nil)) za1))))))),?_⟩
 refine zad2 h ?_
 refine br_T ?_
 refine zm9 h ?_
 rw[zcd9]
 refine ze8 (fun en=>?_) (fun en=>?_)
 ·rw[decide_eq_true en] at q
  refine zc7 h ?_
  refine zp8 (Wk.list (SqL.of h)) (by rw[zcd9,zcn5];omega) (fun i=>.bl true) (fun _=>true) (fun j σ=>∃ t:Option V,σ=[t]) ⟨none,rfl⟩ ?_ ?_
  ·rintro j v σ H1 R S hj s1 hx ⟨t,rfl⟩ k _
   rw[zce3] at hx
   obtain⟨z,_,rfl⟩:=zce7.mp hx
   refine br_T ?_
   refine zbe6 ?_
   ac_nf
   exact k rfl _ _ (Same.refl _) ⟨_,rfl⟩
  intro acc H1 f1 s1 h1
  rw[zl4,zcd9,zbu8] at h1
  refine zaw2 h1 ?_
  rw[zbl8]
  ac_nf
  exact q _ s1
 ·rw[decide_eq_false en] at q
  ac_nf
  exact q _ (Same.refl _)
theorem zbh8(l:List Bool):(l.map V.bl)=(List.range l.length).map fun i=>V.bl (l.getD i false):=by
 apply zcj2
 intro i
 rw[zce3,zce3]
 by_cases h:i<l.length
 ·rw[zci1 h,zce0 h]
  simp[h]
 ·rw[zcf9 (by rfl'),zcf9 (by simp;omega)]
  rfl
@[irreducible] def zk3:Sp:=fun vs H Q _=>∃ (r:Addr) (ps:List Addr) (n m:Int) (rows:List (List Int)),vs=[.int n,.int m,.ref r]/\zp7 H r ps rows/\rows.length<=100/\(∀ r∈rows,r.length<=100)/\∀ H',Same H H'->Q (.bl (decide ((rows.length:Int)=n)&&rows.all fun r=>decide ((r.length:Int)=m))) H'
theorem zat1{r:Addr}{n m:Int}{rows:List (List Int)}(h:zp7 H r ps rows)(hn:rows.length<=100)(hm:∀ r∈rows,r.length<=100)(q:∀ H',Same H H'->Q (.bl (decide ((rows.length:Int)=n)&&rows.all fun r=>decide ((r.length:Int)=m))) H'):zk3 [.int n,.int m,.ref r] H Q E:=by unfold zk3;exact⟨r,ps,n,m,rows,rfl,h,hn,hm,q⟩
theorem zas7(F:Fun K "is_table" "is_table" zy2 f fd)(N:Nm mg)(zbz5:Def P w K mg base CX0 2 "is_table_row" ["many_numbers","row"] ze9):FnOk P w K mg base CX0 3 f fd ["many_rows","many_numbers","rows"] zk3:=by
 refine F.ok zaq3 (fun vs H Q E h=>by unfold zk3 at h;obtain⟨_,_,_,_,_,rfl,_⟩:=h;rfl) fun _ _ _ s H vs Q E hr h=>?_
 unfold zk3 at h
 obtain⟨r,ps,n,m,rows,rfl,R,hn,hm,q⟩:=h
 have hu:=hu40 hr
 have gl:=R.len
 refine⟨_,(za3 (psIf (ptW (pwOr (zm3 (ptV (pB (zae5 (K:=K) rfl) N.isinstance_ za7 (za0 (pq 2) (za0 (pTy N.list_ zk6) za1))))) (zy4 (ptC (oNeK (K:=K) rfl (by exact hu)) (pB (zv7 (K:=K) rfl) N.len_ zn3 (za0 (pq 2) za1)) (pq 0))))) (za4 (za9 zt5)) zb8)
   (za4 (za9 (pB (cAllK (K:=K) rfl rfl) N.all_ zau8 (za0 (zk1 (N:=["row","many_numbers"]) (ks:=[none,some 1]) (zf5 (K:=K) rfl (pq 2)) (fun _ _ _ _ _=>(zb0 (i:=0) nb_1 rfl (by eq_refl))) (fun _ _ _ _ _=>zf7) (fun _ _ _ _ _=>(pD zbz5 hr zc1 (za0 (pq 1) (za0 (pq 0) za1)))) (.skip (.take rfl rfl (by eq_refl) .nil))) za1))))),?_⟩
 refine zad2 R.out ?_
 refine zd4 (br_T ?_)
 refine zm9 R.out ?_
 rw[zcd9,gl]
 refine zd4 (ze8 (fun en=>?_) (fun en=>?_))
 ·rw[decide_eq_true en,Bool.true_and] at q
  refine zc7 R.out ?_
  refine zp8 (Wk.list (SqL.of R.out)) (by rw[zcd9,zcn5];omega) (fun i=>.bl ((rows.map fun r=>decide ((r.length:Int)=m)).getD i false)) (fun _=>true) (fun j σ=>∃ t:Option V,σ=[t,some (.int m)]) ⟨none,rfl⟩ ?_ ?_
  ·rintro j v σ H1 R' S hj s1 hx ⟨t,rfl⟩ k _
   obtain⟨p,r1,rfl,ep,er,hp⟩:=(R.same s1).elt hx
   have eb:(rows.map fun r=>decide ((r.length:Int)=m)).getD j false=decide ((r1.length:Int)=m):=by
    rw[zce9,zce3,er];rfl
   rw[eb] at k
   refine br_T ?_
   refine zab2 hp (by have:=hm r1 (zce5 er);omega) (fun H2 s2=>?_)
   ac_nf
   exact k rfl _ _ s2 ⟨_,rfl⟩
  intro acc H1 f1 s1 h1
  have eb:=zbh8 (rows.map fun r=>decide ((r.length:Int)=m))
  rw[zcd9] at eb
  rw[zl4,zcd9,gl,← eb] at h1
  refine zaw2 h1 ?_
  rw[List.all_map]
  ac_nf
  exact q _ s1
 ·rw[decide_eq_false en,Bool.false_and] at q
  ac_nf
  exact q _ (Same.refl _)
@[irreducible] def zk7:Sp:=fun vs H Q _=>∃ (p:Addr) (a c:Int) (f:Fx),vs=[.int a,.int c,.ref p]/\FxAt H p f/\f.Gd/\∀ H',Same H H'->Q (.bl (isF a c f)) H'
theorem zac0{p:Addr}{a c:Int}{f:Fx}(F:FxAt H p f)(O:f.Gd)(q:∀ H',Same H H'->Q (.bl (isF a c f)) H'):zk7 [.int a,.int c,.ref p] H Q E:=by unfold zk7;exact⟨p,a,c,f,rfl,F,O,q⟩
theorem zaj7{a c:Int}{w:Str}{zs:List Int}(h:zs.length≠2):isF a c (.flat w zs)=false:=by
 match zs,h with
 | [],_=>rfl
 | [_],_=>rfl
 | [_,_],h=>exact absurd rfl h
 | _ :: _ :: _ :: _,_=>rfl
theorem zar9(F:Fun K "is_field" "is_field" zw9 f fd)(N:Nm mg)(zbx8:Def P w K mg base CX0 3 "is_between" ["thing","least","most"] zg0)(zbz2:Def P w K mg base CX0 2 "is_from" ["thing","least"] zk5)(zcb1:Def P w K mg base CX0 3 "is_table" ["many_rows","many_numbers","rows"] zk3)(zbx9:Def P w K mg base CX0 1 "is_whole" ["thing"] zh2):FnOk P w K mg base CX0 4 f fd ["first","second","field"] zk7:=by
 refine F.ok zas8 (fun vs H Q E h=>by unfold zk7 at h;obtain⟨_,_,_,_,rfl,_⟩:=h;rfl) fun _ _ _ s H vs Q E hr h=>?_
 unfold zk7 at h
 obtain⟨p,a,c,f,rfl,F,O,q⟩:=h
 have hu:=hu40 hr
 refine⟨_,(za3 (psIf (zm3 (ptV (pB (zae5 (K:=K) rfl) N.isinstance_ za7 (za0 (pq 2) (za0 (pTy N.tuple_ zr6) za1))))) (za4 (za9 zt5)) zb8)
   (za3 (psIf (ptW (zbb4 (ptC (oEqK (K:=K) rfl (by exact hu)) (pB (zv7 (K:=K) rfl) N.len_ zn3 (za0 (pq 2) za1)) za2) (zw3 (ptC (oEqK (K:=K) rfl (by exact hu)) (zb7 (K:=K) rfl (pq 2) za2) zb4)))) (za4 (za9 (zak5 (pD zbz2 hr zc1 (za0 (zb7 (K:=K) rfl (pq 2) za2) (za0 za2 za1))) (zv4 (pD zbx8 hr zc1 (za0 (zb7 (K:=K) rfl (pq 2) za2) (za0 (zx1 uNeg (zb7 (K:=K) rfl (pq 2) za2)) (za0 (zb7 (K:=K) rfl (pq 2) za2) za1)))))))) zb8)
   (za3 (psIf (ptW (zbb4 (ptC (oEqK (K:=K) rfl (by exact hu)) (pB (zv7 (K:=K) rfl) N.len_ zn3 (za0 (pq 2) za1)) za2) (zw3 (ptC (oEqK (K:=K) rfl (by exact hu)) (zb7 (K:=K) rfl (pq 2) za2) zb4)))) (za4 (za9 (zak5 (pD zbz2 hr zc1 (za0 (zb7 (K:=K) rfl (pq 2) za2) (za0 za2 za1))) (zv4 (pD zbx9 hr zc1 (za0 (zb7 (K:=K) rfl (pq 2) za2) za1)))))) zb8)
   (za3 (psIf (ptW (zbb4 (ptC (oEqK (K:=K) rfl (by exact hu)) (pB (zv7 (K:=K) rfl) N.len_ zn3 (za0 (pq 2) za1)) za2) (zw3 (ptC (oEqK (K:=K) rfl (by exact hu)) (zb7 (K:=K) rfl (pq 2) za2) zb4)))) (za4 (za9 (pD zcb1 hr zc1 (za0 (za8 oAdd (pq 0) za2) (za0 (za8 oAdd (pq 1) za2) (za0 (zb7 (K:=K) rfl (pq 2) za2) za1)))))) zb8)
   (za4 (za9 zt5)))))),?_⟩
 cases f with
 | flat w zs=>
  have F:H p=some (.tup (.str w :: zs.map V.int)):=F
  obtain⟨nt,zl⟩:w≠"table"/\zs.length<=10:=O
  have q:=q _ (Same.refl _)
  refine zx8 F ?_
  refine zd4 (br_T ?_)
  refine zo6 F ?_
  rw[zcf1,zcd9]
  ac_nf
  by_cases e2:zs.length=2
  ·obtain⟨x,y,rfl⟩:∃ x y,zs=[x,y]:=by
    match zs,e2 with
    | [x,y],_=>exact⟨x,y,rfl⟩
   refine zq2 rfl ?_
   refine zb2 (v:=.str w) F rfl ?_
   refine ze8 (fun em=>?_) (fun em=>?_)
   ·subst em
    have q:Q (.bl (decide (1<=x/\-x<=y/\y<=x))) H:=q
    refine zb2 (v:=.int x) F rfl ?_
    refine zbc4 ?_
    refine ze8 (fun e1=>?_) (fun e1=>?_)
    ·rw[zz7 e1] at q
     refine zb2 (v:=.int y) F rfl ?_
     refine zb2 (v:=.int x) F rfl ?_
     refine zb2 (v:=.int x) F rfl ?_
     refine zbe3 ?_
     ac_nf
     exact q
    ·rw[zaa1 e1] at q
     ac_nf
     exact q
   ·have q:Q (.bl (if w="more" then decide (1<=x/\-x<=y/\y<=x) else if w="lead" then decide (1<=x) else false)) H:=q
    rw[if_neg em] at q
    refine zo6 F ?_
    refine zq2 rfl ?_
    refine zb2 (v:=.str w) F rfl ?_
    refine ze8 (fun el=>?_) (fun el=>?_)
    ·rw[if_pos el] at q
     refine zb2 (v:=.int x) F rfl ?_
     refine zbc4 ?_
     refine ze8 (fun e1=>?_) (fun e1=>?_)
     ·rw[decide_eq_true e1] at q
      refine zb2 (v:=.int y) F rfl ?_
      refine zbe6 ?_
      ac_nf
      exact q
     ·rw[decide_eq_false e1] at q
      ac_nf
      exact q
    ·rw[if_neg el] at q
     refine zo6 F ?_
     refine zp9 (by show ¬ ((3:Nat):Int)=2;decide) ?_
     refine br_F ?_
     ac_nf
     exact q
  ·rw[zaj7 e2] at q
   refine zp9 (by rfl') ?_
   refine br_F ?_
   refine zo6 F ?_
   rw[zcf1,zcd9]
   refine zp9 (by rfl') ?_
   refine br_F ?_
   refine zo6 F ?_
   rw[zcf1,zcd9]
   refine ze8 (fun e1=>?_) (fun e1=>?_)
   ·obtain⟨z,rfl⟩:∃ z,zs=[z]:=by
     match zs,(show zs.length=1 by rfl') with
     | [z],_=>exact⟨z,rfl⟩
    refine zb2 (v:=.str w) F rfl ?_
    refine zp9 nt ?_
    ac_nf
    exact q _ (Same.refl _)
   ·ac_nf
    refine br_F ?_
    ac_nf
    exact q
 | tab rows=>
  obtain⟨q',ps,F,R⟩:=F
  obtain⟨o1,o2⟩:rows.length<=100/\∀ r∈rows,r.length<=100:=O
  refine zx8 F ?_
  refine zd4 (br_T ?_)
  refine zo6 F ?_
  refine zp9 (by show ¬ ((2:Nat):Int)=3;decide) ?_
  refine br_F ?_
  refine zo6 F ?_
  refine zp9 (by show ¬ ((2:Nat):Int)=3;decide) ?_
  refine br_F ?_
  refine zo6 F ?_
  refine zq2 rfl ?_
  refine zb2 (v:=.str "table") F rfl ?_
  refine zq2 rfl ?_
  refine zb2 (v:=.ref q') F rfl ?_
  refine zat1 (n:=a+1) (m:=c+1) R o1 o2 (fun H1 s1=>?_)
  ac_nf
  exact q _ s1
@[irreducible] def zk4:Sp:=fun vs H Q _=>∃ (b l:Addr) (ys:List V) (a c:Int),vs=[.ref b]/\H b=some (.tup [.int a,.int c,.ref l])/\H l=some (.lst ys)/\Q (.bl (decide (Sz a c ys.length))) H
theorem zt3{b l:Addr}{ys:List V}{a c:Int}(h1:H b=some (.tup [.int a,.int c,.ref l]))(h2:H l=some (.lst ys))(q:Q (.bl (decide (Sz a c ys.length))) H):zk4 [.ref b] H Q E:=by unfold zk4;exact⟨b,l,ys,a,c,rfl,h1,h2,q⟩
theorem zat4(F:Fun K "has_size" "has_size" zx7 f fd)(N:Nm mg){zbz6:Tok}(c_MOST_FIELDS:mg "MOST_FIELDS"=some (.int 5 zbz6))(zca5:Def P w K mg base CX0 4 "are_hosts" ["first","second"] zi4):FnOk P w K mg base CX0 5 f fd ["battle"] zk4:=by
 refine F.ok zar2 (fun vs H Q E h=>by unfold zk4 at h;obtain⟨_,_,_,_,_,rfl,_⟩:=h;rfl) fun _ _ _ s H vs Q E hr h=>?_
 unfold zk4 at h
 obtain⟨b,l,ys,a,c,rfl,h1,h2,q⟩:=h
 refine⟨_,(za4 (za9 (zak5 (pD zca5 hr zc1 (za0 (zb7 (K:=K) rfl (pq 0) za2) (za0 (zb7 (K:=K) rfl (pq 0) za2) za1))) (zv4 (zbu5 oLe oLe za2 (pB (zv7 (K:=K) rfl) N.len_ zn3 (za0 (zb7 (K:=K) rfl (pq 0) za2) za1)) (zf8 (v:=.int 5) rfl c_MOST_FIELDS ⟨_,rfl⟩)))))),?_⟩
 refine zb2 (v:=.int a) h1 rfl ?_
 refine zb2 (v:=.int c) h1 rfl ?_
 refine zap4 ?_
 refine ze8 (fun e1=>?_) (fun e1=>?_)
 ·ac_nf
  refine zb2 (v:=.ref l) h1 rfl ?_
  refine zm9 h2 ?_
  ac_nf
  rw[zz7 e1] at q
  refine ze8 (fun e2=>?_) (fun e2=>?_)
  ·ac_nf
   rw[show decide (1<=ys.length/\ys.length<=5)=decide ((ys.length:Int)<=5) by rw[zcl6,decide_eq_true_iff,decide_eq_true_iff];omega] at q
   exact q
  ·ac_nf
   rw[decide_eq_false (by rfl')] at q
   exact q
 ·rw[zaa1 e1] at q
  ac_nf
  exact q
@[irreducible] def zd2(zbw0:Addr):Sp:=fun vs H Q E=>∃ b:Addr,vs=[.ref b] /\
 ((∃ (l:Addr) (ps:List Addr) (a c:Nat) (fs:List Fd),zh7 H b l ps a c fs/\OkB a c fs/\∀ H',Same H H'->Q .non H') ∨
  ∃ k:Int,BadB H b k/\∀ d H',H d=none->Same H H'->H' d=some (.xd [("field",.int k)])->E (.ref zbw0) (some d) H')
theorem zs8{b l:Addr}{a:Nat}{fs:List Fd}(B:zh7 H b l ps a c fs)(O:OkB a c fs)(q:∀ H',Same H H'->Q .non H'):zd2 zbw0 [.ref b] H Q E:=by unfold zd2;exact⟨b,rfl,.inl ⟨l,ps,a,c,fs,B,O,q⟩⟩
theorem zar1{b:Addr}{k:Int}(B:BadB H b k)(q:∀ d H',H d=none->Same H H'->H' d=some (.xd [("field",.int k)])->E (.ref zbw0) (some d) H'):zd2 zbw0 [.ref b] H Q E:=by unfold zd2;exact⟨b,rfl,.inr ⟨k,B,q⟩⟩
theorem zag0(F:Fun K "look_battle" "look_battle" zo7 f fd)(N:Nm mg)(zcb2:Def P w K mg base CX0 5 "has_size" ["battle"] zk4)(zcb3:Def P w K mg base CX0 4 "is_field" ["first","second","field"] zk7)(Z:Cz K mg base zbw2 zbw0 zbx0 zbx6 zbw3 zbx1 zbw6 zbw4 zbw5 zbx2 zbx3 zbx7 zbx4 zbw7 zbw8):FnOk P w K mg base (CXR P w) 6 f fd ["battle"] (zd2 zbw0):=by
 refine F.okR zn5 (fun vs H Q E h=>by unfold zd2 at h;obtain⟨_,rfl,_⟩:=h;rfl) (fun cdv A outer s H vs Q E hr hX h=>?_)
 unfold zd2 at h
 obtain⟨b,rfl,h⟩:=h
 refine⟨_,(za3 (psIf (zm3 (ptV (pD zcb2 hr zc1 (za0 (pq 0) za1)))) (za4 (zax9 Z.z_NoBattle Z.g_NoBattle (zy3 Z.fi_NoBattle Z.z_NoBattle) (hr.mono (by decide)) rfl hX (zx1 uNeg za2))) zb8)
   (za4 (zt2 PassesOwn.leaving rfl (zbk1 (K:=K) rfl N.enumerate_ (za0 (zb7 (K:=K) rfl (pq 0) za2) za1)) (zad5 (K:=K) (n:=2) rfl rfl (zg8 (zb0 (i:=1) zn5.nd rfl (by eq_refl)) (zg8 (zb0 (i:=2) zn5.nd rfl (by eq_refl)) zac3))) (za4 (psIf (zm3 (ptV (pD zcb3 hr zc1 (za0 (zb7 (K:=K) rfl (pq 0) za2) (za0 (zb7 (K:=K) rfl (pq 0) za2) (za0 (pq 2) za1)))))) (za4 (zax9 Z.z_NoBattle Z.g_NoBattle (zy3 Z.fi_NoBattle Z.z_NoBattle) (hr.mono (by decide)) rfl hX (pq 1))) zb8))))),?_⟩
 rcases h with ⟨l,ps,a,c,fs,B,O,q⟩|⟨k,⟨l,ps,a,c,fs,B,hl,hk⟩,q⟩
 ·have X:=toBx B O.1.1 O.1.2
  have bl:=B.len
  refine zt3 B.out B.lst ?_
  rw[decide_eq_true (by rw[zcd9,bl];exact⟨⟨⟨by rfl',by rfl'⟩,by rfl',by rfl'⟩,O.2⟩)]
  refine zd4 (br_T ?_)
  refine zb2 (v:=.ref l) B.out rfl ?_
  refine zat2 B.lst ?_
  refine zaa2 (xs:=ps.map V.ref) (fun i σ H1=>∃ x y:Option V,σ=[some (.ref b),x,y]/\Same H H1) ?_ ?_ ?_ ?_
  ·exact⟨_,_,rfl,Same.refl _⟩
  ·rintro i σ H1 _ ⟨_,_,_,s1⟩
   exact SqL.of (s1 _ _ B.lst)
  ·rintro i v σ H1 p H2 hi ⟨x,y,rfl,s1⟩ f2 s2 h2
   have s12:=s1.trans s2
   obtain⟨p',f,rfl,e1,e2,hf,ok⟩:=(X.same s12).elt hi
   rw[zce3] at e2
   obtain⟨f',e3,rfl⟩:=zce7.mp e2
   refine zq3 h2 ?_
   refine zb2 (v:=.int a) (s12 _ _ B.out) rfl ?_
   refine zb2 (v:=.int c) (s12 _ _ B.out) rfl ?_
   refine zac0 hf ok (fun H3 s3=>?_)
   rw[zbd9 (B.fld i p' f' e1 e3).2]
   refine zd4 (br_T ?_)
   ac_nf
   exact⟨_,_,rfl,s12.trans s3⟩
  ·rintro σ H1 ⟨x,y,rfl,s1⟩
   ac_nf
   exact q _ s1
 ·have bl:=B.len
  rcases hk with ⟨nz,rfl⟩|⟨sz,j,f,rfl,ej,bad,good⟩
  ·ac_nf
   refine zt3 B.out B.lst ?_
   rw[decide_eq_false (by rw[zcd9,bl];exact nz)]
   refine zd4 (br_F ?_)
   ac_nf
   exact zaq1 q
  ·have hj:j<ps.length:=by have:=(zce2.mp ej).1;omega
   refine zt3 B.out B.lst ?_
   rw[decide_eq_true (by rw[zcd9,bl];exact sz)]
   refine zd4 (br_T ?_)
   refine zb2 (v:=.ref l) B.out rfl ?_
   refine zat2 B.lst ?_
   refine zaa2 (xs:=ps.map V.ref) (fun i σ H1=>∃ x y:Option V,σ=[some (.ref b),x,y]/\Same H H1/\i<=j) ?_ ?_ ?_ ?_
   ·exact⟨_,_,rfl,Same.refl _,zcl0 _⟩
   ·rintro i σ H1 _ ⟨_,_,_,s1,_⟩
    exact SqL.of (s1 _ _ B.lst)
   ·rintro i v σ H1 p H2 hi ⟨x,y,rfl,s1,ij⟩ f2 s2 h2
    have s12:=s1.trans s2
    obtain⟨p',f',rfl,e1,e2,hf,ok⟩:=(B.same s12).elt hi
    refine zq3 h2 ?_
    refine zb2 (v:=.int a) (s12 _ _ B.out) rfl ?_
    refine zb2 (v:=.int c) (s12 _ _ B.out) rfl ?_
    refine zac0 hf ok (fun H3 s3=>?_)
    by_cases e:i=j
    ·subst e
     have:f'=f:=Option.some.inj (e2.symm.trans ej)
     subst this
     rw[bad]
     refine zd4 (br_F ?_)
     ac_nf
     exact zaq1 (fun d H4 f4 s4 h4=>q d H4 ((s12.trans s3).free f4) ((s12.trans s3).trans s4) h4)
    ·rw[good i f' (by rfl') e2]
     refine zd4 (br_T ?_)
     ac_nf
     exact⟨_,_,rfl,s12.trans s3,by rfl'⟩
   ·rintro σ H1 ⟨x,y,rfl,s1,ij⟩
    rw[zcd9] at ij
    omega
def rm(p:Addr)(H:Hp):Hp:=fun b=>if b=p then none else H b
def nw(H H':Hp):Hp:=fun b=>match H b with
 | none=>H' b
 | some _=>none
theorem zf9{p b:Addr}{o:HO}(n:b≠p)(h:H b=some o):rm p H b=some o:=by unfold rm;rw[if_neg n];exact h
theorem zj0{p b:Addr}{o:HO}(h:rm p H b=some o):b≠p/\H b=some o:=by
 unfold rm at h
 by_cases e:b=p
 ·rw[if_pos e] at h;cases h
 ·rw[if_neg e] at h;exact⟨e,h⟩
theorem zae1{b:Addr}{o:HO}(n:H b=none)(h:H' b=some o):nw H H' b=some o:=by unfold nw;rw[n];exact h
theorem nw_of{b:Addr}{o:HO}(h:nw H H' b=some o):H b=none/\H' b=some o:=by
 unfold nw at h
 cases e:H b with
 | none=>rw[e] at h;exact⟨rfl,h⟩
 | some v=>rw[e] at h;cases h
theorem ze1(p:Addr)(H:Hp):Same (rm p H) H:=fun b o h=>(zj0 h).2
theorem Same.rm{p:Addr}{H H':Hp}(s:Same H H'):Same (rm p H) (G.rm p H'):=fun b o h=>zf9 (zj0 h).1 (s _ _ (zj0 h).2)
theorem Chg.rm{p:Addr}{H H':Hp}(s:Chg p H H'):Same (rm p H) (G.rm p H'):=fun b o h=>zf9 (zj0 h).1 (s _ _ (zj0 h).1 (zj0 h).2)
theorem zba6(h1:Bs.flatten.Nodup)(h2:B.Nodup)(h3:∀ a∈B,a ∉ Bs.flatten):(Bs++[B]).flatten.Nodup:=by
 rw[zck3,List.flatten_singleton]
 exact List.nodup_append.mpr ⟨h1,h2,fun a ha b hb e=>h3 b hb (e▸ha)⟩
theorem zh4{α:Type}{l:List α}{x y:α}{j:Nat}(h:(l++[x])[j]?=some y):(j<l.length/\l[j]?=some y)∨(j=l.length/\y=x):=by
 by_cases hj:j<l.length
 ·rw[zcg9 hj] at h
  exact .inl ⟨hj,h⟩
 ·rw[zch2 (by rfl')] at h
  have h0:j - l.length=0:=by
   have:=(zce2.mp h).1
   simp at this;omega
  rw[h0] at h
  exact .inr ⟨by rfl',(Option.some.inj h).symm⟩
theorem MkV.row{p:Addr}{n m:Nat}{zs:List Int}(h:H p=some (.lst (zs.map V.int)))(z:zs.length<=1000):MkV H (n+1) (.ref p) [p]:=by
 have:=MkV.lst (n:=n) (Bs:=List.replicate zs.length []) h (by rw[zcd9];exact z) (by rw[zcj8,zcd9]) (fun i x B h1 h2=>by
  rw[zce3] at h1
  obtain⟨i',_,rfl⟩:=zce7.mp h1
  have:B=[]:=zcj0 (zce5 h2)
  subst this
  exact .flat rfl rfl)
 simpa using this
theorem zae4(ps:List Addr):(ps.map fun p=>[p]).flatten=ps:=by
 induction ps with
 | nil=>rfl
 | cons p ps ih=>rw[zcj4,zci2,ih];rfl
theorem MkV.grid{n:Nat}{g:Nat->Nat->Int}(G:zs7 H q ps n m g)(hn:n<=1000)(hm:m<=1000):MkV H 2 (.ref q) (q :: ps):=by
 have:=MkV.lst (n:=1) (Bs:=ps.map fun p=>[p]) G.out (by rw[zcd9,G.len];exact hn) (by rw[zcd9,zcd9]) (fun i x B h1 h2=>by
  rw[zce3] at h1 h2
  obtain⟨p,ep,rfl⟩:=zce7.mp h1
  rw[ep] at h2
  cases h2
  have hr:=G.row i p ep
  rw[zn2] at hr
  exact MkV.row (m:=0) hr (by rw[zcd9,zcf8];exact hm))
 rwa [zae4] at this
theorem MkV.flats{p:Addr}{n:Nat}{xs:List V}(h:H p=some (.tup xs))(z:xs.length<=1000)(f:∀ x∈xs,zh1 x=true/\isT "mark" x=false):MkV H (n+1) (.ref p) []:=by
 have:=MkV.tup (n:=n) (Bs:=List.replicate xs.length []) h z (by rw[zcj8]) (fun i x B h1 h2=>by
  have:B=[]:=zcj0 (zce5 h2)
  subst this
  exact .flat (f x (zce5 h1)).1 (f x (zce5 h1)).2)
 simpa using this
def FdN(H:Hp)(p:Addr)(a c:Nat)(f:Fd):Prop:=FdAt H p a c f/\∃ B:List Addr,MkV H 3 (.ref p) B/\B.Nodup
theorem FdN.more{H:Hp}{p:Addr}{a c:Nat}{w t:Int}(h:H p=some (.tup [.str "more",.int w,.int t])):FdN H p a c (.more w t):=⟨h,[],MkV.flats h (by simp) (fun x hx=>by simp only[zcf2,zcg2,or_false] at hx;rcases hx with rfl|rfl|rfl<;>exact⟨rfl,by first|rfl|decide⟩),zcm2⟩
theorem FdN.lead{H:Hp}{p:Addr}{a c:Nat}{w t:Int}(h:H p=some (.tup [.str "lead",.int w,.int t])):FdN H p a c (.lead w t):=⟨h,[],MkV.flats h (by simp) (fun x hx=>by simp only[zcf2,zcg2,or_false] at hx;rcases hx with rfl|rfl|rfl<;>exact⟨rfl,by first|rfl|decide⟩),zcm2⟩
theorem FdN.tab{H:Hp}{p q:Addr}{ps:List Addr}{a c:Nat}{g:Nat->Nat->Int}(h:H p=some (.tup [.str "table",.ref q]))(G:zs7 H q ps (a+1) (c+1) g)(ha:a<=10)(hc:c<=10)(nd:ps.Nodup)(nq:q ∉ ps):FdN H p a c (.tab g):=by
 refine⟨⟨q,ps,h,G⟩,q :: ps,?_,zcj6.mpr ⟨nq,nd⟩⟩
 have:=MkV.tup (n:=2) (Bs:=[[],q :: ps]) h (by simp) rfl (fun i x B h1 h2=>by
  match i with
  | 0=>cases h1;cases h2;exact .flat rfl (by decide)
  | 1=>cases h1;cases h2;exact MkV.grid G (by rfl') (by rfl')
  | i+2=>simp at h1)
 simpa using this
structure FlN(H:Hp)(l:Addr)(ps:List Addr)(a c:Nat)(fs:List Fd)(As:List Addr):Prop where
 lst:H l=some (.lst (ps.map V.ref))
 len:ps.length=fs.length
 fld:∀ (i:Nat) p f,ps[i]?=some p->fs[i]?=some f->FdAt H p a c f
 tr:MkV H 4 (.ref l) As
 nd:As.Nodup
structure BatN(H:Hp)(b l:Addr)(ps:List Addr)(a c:Nat)(fs:List Fd)(As:List Addr):Prop where
 bat:zh7 H b l ps a c fs
 tr:MkV H 5 (.ref b) As
 nd:As.Nodup
theorem FlN.bat{b l:Addr}{a:Nat}{fs:List Fd}(F:FlN H l ps a c fs As)(hb:H b=some (.tup [.int a,.int c,.ref l]))(ok:∀ f∈fs,f.Ok):BatN H b l ps a c fs As:=by
 refine⟨⟨hb,F.lst,F.len,fun i p f h1 h2=>⟨F.fld i p f h1 h2,ok f (zce5 h2)⟩⟩,?_,F.nd⟩
 have:=MkV.tup (n:=4) (Bs:=[[],[],As]) hb (by simp) rfl (fun i x B h1 h2=>by
  match i with
  | 0=>cases h1;cases h2;exact .flat rfl rfl
  | 1=>cases h1;cases h2;exact .flat rfl rfl
  | 2=>cases h1;cases h2;exact F.tr
  | i+3=>simp at h1)
 simpa using this
abbrev Rw:=Str×List Int
def zu4:Str:=⟨#[32]⟩
def zi1:Str:=⟨#[10]⟩
def zc5(r:Rw):Str:=Txt.join zu4 (r.1 :: r.2.map numS)
def zad1(rs:List Rw):Str:=Txt.join ⟨#[]⟩ (rs.map fun r=>zc5 r++zi1)
def RwT(H:Hp)(p:Addr)(r:Rw):Prop:=H p=some (.tup (.str r.1 :: r.2.map V.int))
structure zq0(H:Hp)(l:Addr)(ps:List Addr)(rs:List Rw):Prop where
 out:H l=some (.lst (ps.map V.ref))
 len:ps.length=rs.length
 row:∀ (i:Nat) p r,ps[i]?=some p->rs[i]?=some r->RwT H p r
theorem zq0.same{l:Addr}{rs:List Rw}(R:zq0 H l ps rs)(s:Same H H'):zq0 H' l ps rs:=⟨s _ _ R.out,R.len,fun i p r e1 e2=>s _ _ (R.row i p r e1 e2)⟩
def SmI(n:Int):Prop:=-(10 ^ 50)<=n/\n<=10 ^ 50
structure OkR(r:Rw):Prop where
 w:r.1.length<=10
 l:r.2.length<=200
 n:∀ n∈r.2,SmI n
 t:(reprText r.1).length<=100
theorem SmI.shows{n:Int}(h:SmI n):zj5 (.int n) 20 16000000:=(zj5.int (by have:=h.1;omega) (by have:=h.2;omega)).up (by decide) (by decide)
theorem zn4{n:Int}(h:SmI n):(numS n).length<=52:=by
 have pos:∀ m:Int,0<=m->m<=10 ^ 50->(numS m).length<=51:=fun m h0 h1=>PyProof.Rows.toString_length_le h0 (by decide) (by rfl')
 rcases Int.lt_or_le n 0 with hn|hn
 ·have e:=congrArg List.length (zai4 hn)
  rw[zcf1,zcf7,zcf7] at e
  have:=pos (0 - n) (by rfl') (by have:=h.1;omega)
  show (numS n).cps.size<=52
  have:(numS (0 - n)).cps.size<=51:=this
  omega
 ·have:=pos n hn h.2
  omega
theorem zbg9{n:Int}(h:c≠45/\(c<48∨57<c)):c ∉ (numS n).cps.toList:=PyProof.Rows.int_text_free' c h n
theorem zw0{xs:List Str}(h:∀ x∈xs,x.length<=m):(xs.map (·.length)).sum<=xs.length*m:=by
 induction xs with
 | nil=>simp
 | cons x xs ih=>
  have h1:=h x (.head _)
  have h2:=ih fun y hy=>h y (.tail _ hy)
  rw[zcj4,List.sum_cons,zcf1,Nat.add_mul]
  omega
theorem zv9{r:Rw}(o:OkR r):∀ x∈r.1 :: r.2.map numS,x.length<=52:=fun x hx=>by
 rcases zcf2.mp hx with rfl|hx
 ·have:=o.w;omega
 ·obtain⟨n,hn,rfl⟩:=zch1.mp hx
  exact zn4 (o.n n hn)
theorem zag8(sep:Str)(ts:List Str):(Txt.join sep ts).length<=(ts.map (·.length)).sum+ts.length*sep.length:=by
 rw[show Txt.join sep ts=sep.join ts from StrLaws.glued_eq_join _ _]
 exact StrLaws.join_length_le _ _
theorem zm7{r:Rw}(o:OkR r):(zc5 r).length<=20000:=by
 have h1:=zag8 zu4 (r.1 :: r.2.map numS)
 have h2:=zw0 (zv9 o)
 have h3:=o.l
 rw[zcf1,zcd9] at h1 h2
 unfold zc5
 have:zu4.length=1:=rfl
 rw[this] at h1
 omega
@[irreducible] def zl0:Sp:=fun vs H Q _=>∃ (p:Addr) (r:Rw),vs=[.ref p]/\RwT H p r/\OkR r/\∀ H',Same H H'->Q (.str (zc5 r)) H'
theorem zau1{p:Addr}{r:Rw}(h:RwT H p r)(o:OkR r)(q:∀ H',Same H H'->Q (.str (zc5 r)) H'):zl0 [.ref p] H Q E:=by unfold zl0;exact⟨p,r,rfl,h,o,q⟩
theorem zar7(F:Fun K "row_text" "row_text" zx0 f fd)(N:Nm mg):FnOk P w K mg base CX0 1 f fd ["row"] zl0:=by
 refine F.ok zat0 (fun vs H Q E h=>by unfold zl0 at h;obtain⟨_,_,rfl,_⟩:=h;rfl) fun _ _ _ s H vs Q E hr h=>?_
 unfold zl0 at h
 obtain⟨p,r,rfl,h,o,q⟩:=h
 have hu:=hu40 hr
 have o2:=o.l
 refine⟨_,(za4 (za9 (zs3 (K:=K) rfl zb4 (za0 (zk1 (N:=["word"]) (ks:=[none]) (zf5 (K:=K) rfl (pq 0)) (fun _ _ _ _ _=>(zb0 (i:=0) nb_2 rfl (by eq_refl))) (fun _ _ _ _ _=>zf7) (fun _ _ _ _ _=>(pT (zai8 hr) N.str_ zv3 (za0 (pq 0) za1))) (.skip .nil)) za1)))),?_⟩
 refine zax6 h ?_
 refine zp8 (Wk.tup h) (by rw[zcn5,zcf1,zcd9];omega) (fun j=>.str ((r.1 :: r.2.map numS).getD j ⟨#[]⟩)) (fun _=>true) (fun j σ=>∃ t:Option V,σ=[t]) ⟨none,rfl⟩ ?_ ?_
 ·rintro j x σ J R' S' hj sJ hx ⟨_,rfl⟩ kk _
  refine br_T ?_
  ac_nf
  cases j with
  | zero=>
   cases hx
   refine zas5 (.str r.1) ((zj5.str (m:=16000000) (by have:=o.t;omega)).up (by decide) (by decide)) ?_
   ac_nf
   exact kk rfl _ _ (Same.refl _) ⟨_,rfl⟩
  | succ j=>
   rw[zck0,zce3] at hx
   obtain⟨n,en,rfl⟩:=zce7.mp hx
   rw[show (r.1 :: r.2.map numS).getD (j+1) ⟨#[]⟩=numS n by rw[zce9,zck0,zce3,en];rfl] at kk
   refine zas5 (.int n) (o.n n (zce5 en)).shows ?_
   ac_nf
   exact kk rfl _ _ (Same.refl _) ⟨_,rfl⟩
 intro acc I f1 s1 h1
 have e:(((List.range (V.str r.1 :: r.2.map V.int).length).filter fun _=>true).map fun j=>V.str ((r.1 :: r.2.map numS).getD j ⟨#[]⟩))=(r.1 :: r.2.map numS).map V.str:=by
  rw[zl4]
  apply zcj2
  intro i
  rw[zce3,zce3]
  by_cases hi:i<(r.1 :: r.2.map numS).length
  ·rw[zci1 (by simpa using hi),zce0 hi]
   show some (V.str ((r.1 :: r.2.map numS).getD i ⟨#[]⟩))=_
   rw[zce9,zce0 hi]
   rfl
  ·rw[zcf9 (by simpa using hi),zcf9 (by rfl')]
   rfl
 rw[e] at h1
 refine zac2 h1 ?_ ?_
 ·have h2:=zw0 (zv9 o)
  rw[zcf1,zcd9] at h2 ⊢
  show _+(r.2.length+1)*1<=_
  omega
 ac_nf
 exact q I s1
@[irreducible] def zm4:Sp:=fun vs H Q _=>∃ (l:Addr) (ps:List Addr) (rs:List Rw),vs=[.ref l]/\zq0 H l ps rs/\rs.length<=400/\(∀ r∈rs,OkR r)/\∀ H',Same H H'->Q (.str (zad1 rs)) H'
theorem zbb8{l:Addr}{rs:List Rw}(R:zq0 H l ps rs)(hl:rs.length<=400)(o:∀ r∈rs,OkR r)(q:∀ H',Same H H'->Q (.str (zad1 rs)) H'):zm4 [.ref l] H Q E:=by unfold zm4;exact⟨l,ps,rs,rfl,R,hl,o,q⟩
theorem zaz3(F:Fun K "text_of" "text_of" zac8 f fd)(N:Nm mg)(zcb4:Def P w K mg base CX0 1 "row_text" ["row"] zl0):FnOk P w K mg base CX0 2 f fd ["rows"] zm4:=by
 refine F.ok zay9 (fun vs H Q E h=>by unfold zm4 at h;obtain⟨_,_,_,rfl,_⟩:=h;rfl) fun _ _ _ s H vs Q E hr h=>?_
 unfold zm4 at h
 obtain⟨l,ps,rs,rfl,R,hl,o,q⟩:=h
 have hu:=hu40 hr
 have rl:=R.len
 refine⟨_,(za4 (za9 (zs3 (K:=K) rfl zb4 (za0 (zk1 (N:=["row"]) (ks:=[none]) (zf5 (K:=K) rfl (pq 0)) (fun _ _ _ _ _=>(zb0 (i:=0) nb_3 rfl (by eq_refl))) (fun _ _ _ _ _=>zf7) (fun _ _ _ _ _=>(za8 oAdd (pD zcb4 hr zc1 (za0 (pq 0) za1)) zb4)) (.skip .nil)) za1)))),?_⟩
 refine zc7 R.out ?_
 refine zp8 (n:=(ps.map V.ref).length) (Wk.list (SqL.of R.out)) (by rw[zcn5,zcd9];omega) (fun j=>.str ((rs.map fun r=>zc5 r++zi1).getD j ⟨#[]⟩)) (fun _=>true) (fun j σ=>∃ t:Option V,σ=[t]) ⟨none,rfl⟩ ?_ ?_
 ·rintro j x σ J R' S' hj sJ hx ⟨_,rfl⟩ kk _
  rw[zce3] at hx
  obtain⟨p,ep,rfl⟩:=zce7.mp hx
  obtain⟨r,er⟩:∃ r,rs[j]?=some r:=⟨_,zce0 (by have:=(zce2.mp ep).1;omega)⟩
  have okr:=o r (zce5 er)
  have ln:=zm7 okr
  rw[show (rs.map fun r=>zc5 r++zi1).getD j ⟨#[]⟩=zc5 r++zi1 by rw[zce9,zce3,er];rfl] at kk
  refine br_T ?_
  refine zau1 (sJ _ _ (R.row j p r ep er)) okr (fun J1 s1=>?_)
  ac_nf
  refine⟨by show (zc5 r).length+1<=sizeLine;rw[zcn5];omega,?_⟩
  ac_nf
  exact kk rfl _ _ s1 ⟨_,rfl⟩
 intro acc I f1 s1 h1
 have e:(((List.range (ps.map V.ref).length).filter fun _=>true).map fun j=>V.str ((rs.map fun r=>zc5 r++zi1).getD j ⟨#[]⟩))=(rs.map fun r=>zc5 r++zi1).map V.str:=by
  rw[zl4,zcd9,rl]
  apply zcj2
  intro i
  rw[zce3,zce3]
  by_cases hi:i<rs.length
  ·rw[zci1 hi,zce3,zce0 hi]
   show some (V.str ((rs.map fun r=>zc5 r++zi1).getD i ⟨#[]⟩))=_
   rw[zce9,zce3,zce0 hi]
   rfl
  ·rw[zcf9 (by simpa using hi),zcf9 (by simpa using hi)]
   rfl
 rw[e] at h1
 refine zac2 h1 ?_ ?_
 ·have h2:=zw0 (xs:=rs.map fun r=>zc5 r++zi1) (m:=20001) fun x hx=>by
   obtain⟨r,hr,rfl⟩:=zch1.mp hx
   have:=zm7 (o r hr)
   have e:=congrArg List.length (PySem.W.KT.app_list (zc5 r) zi1)
   rw[zce6,zcf7,zcf7,zcf7] at e
   show (zc5 r++zi1).cps.size<=20001
   have e1:zi1.cps.size=1:=rfl
   have e2:(zc5 r).cps.size<=20000:=this
   omega
  rw[zcd9] at h2 ⊢
  show _+rs.length*0<=_
  omega
 ac_nf
 exact q I s1
def rowX:Fx->Rw
 | .flat w zs=>(w,zs)
 | .tab rows=>("table",rows.flatten)
def zj1(a c:Int)(fs:List Fx):List Rw:=("hosts",[a,c]) :: fs.map rowX
theorem zt6{m:Nat}:∀ {rows:List (List Int)},(∀ r∈rows,r.length<=m)->rows.flatten.length<=rows.length*m
 | [],_=>by simp
 | r :: rows,h=>by
  have h1:=h r zcg1
  have h2:=zt6 (m:=m) (rows:=rows) fun x hx=>h x (zcf5 _ hx)
  rw[zci2,zce6,zcf1,zcn2]
  omega
theorem zag3{rows:List (List Int)}(h1:rows.length<=100)(h2:∀ r∈rows,r.length<=100):rows.flatten.length<=10000:=
 zci0 (zt6 h2) (zci0 (Nat.mul_le_mul_right 100 h1) (by decide))
@[irreducible] def zw5:Sp:=fun vs H Q _=>∃ (q:Addr) (ps:List Addr) (rows:List (List Int)),vs=[.ref q]/\zp7 H q ps rows/\rows.length<=100/\(∀ r∈rows,r.length<=100)/\∀ l H',H l=none->Same H H'->H' l=some (.lst (rows.flatten.map V.int))->Q (.ref l) H'
theorem zbu9{rows:List (List Int)}(R:zp7 H q ps rows)(h1:rows.length<=100)(h2:∀ r∈rows,r.length<=100)(k:∀ l H',H l=none->Same H H'->H' l=some (.lst (rows.flatten.map V.int))->Q (.ref l) H'):zw5 [.ref q] H Q E:=by
 unfold zw5;exact⟨q,ps,rows,rfl,R,h1,h2,k⟩
theorem zbv6(F:Fun K "flat" "flat" zbe1 f fd)(N:Nm mg):FnOk P w K mg base CX0 1 f fd ["rows"] zw5:=by
 refine F.ok zat3 (fun vs H Q E h=>by unfold zw5 at h;obtain⟨_,_,_,rfl,_⟩:=h;rfl) fun _ _ _ s H vs Q E hr h=>?_
 unfold zw5 at h
 obtain⟨q,ps,rows,rfl,R,h1,h2,k⟩:=h
 have hu:=hu40 hr
 have rl:=R.len
 refine⟨_,(za3 (psS (i:=1) zat3.nd (ze5 za1))
   (za3 (zt2 PassesOwn.never rfl (zf5 (K:=K) rfl (pq 0)) (zb0 (i:=2) zat3.nd rfl (by eq_refl)) (za4 (zn1 (zba4 (K:=K) rfl (pq 1) (za0 (pq 2) za1)))))
   (za4 (za9 (pq 1))))),?_⟩
 refine zb6 (fun l H1 g1 s1 k1=>?_)
 refine zc7 (s1 _ _ R.out) ?_
 refine zj9 (xs:=ps.map V.ref) (fun i σ I=>∃ y:Option V,σ=[some (.ref q),some (.ref l),y]/\Same H I/\I l=some (.lst ((rows.take i).flatten.map V.int))) ?_ ?_ ?_ ?_
 ·exact⟨_,rfl,s1,k1⟩
 ·rintro i σ I _ ⟨_,_,sI,_⟩
  exact SqL.of (sI _ _ R.out)
 ·rintro i y σ I hy ⟨y2,rfl,sI,kI⟩
  obtain⟨p,r,rfl,ep,er,hp⟩:=(R.same sI).elt hy
  have hi:=(zce2.mp er).1
  have rr:=h2 r (zce5 er)
  have fl:=zag3 (rows:=rows.take i) (by rw[zck7];omega) (fun x hx=>h2 x (zcl5 hx))
  refine zt0 kI ?_
  refine ext_rd kI hp (by rw[zcd9,zcd9,zcn5];omega) (fun J c2 k2=>?_)
  ac_nf
  refine⟨_,rfl,fun b o z=>c2 _ _ (za6 z g1) (sI _ _ z),?_⟩
  rw[k2,List.take_succ,er,zck3,zch0]
  simp
 ·rintro σ I ⟨y,rfl,sI,kI⟩
  rw[zcd9,zci8 (by rfl')] at kI
  ac_nf
  exact k l I g1 sI kI
@[irreducible] def zi8:Sp:=fun vs H Q _=>∃ (p:Addr) (f:Fx),vs=[.ref p]/\FxAt H p f/\f.Gd/\∀ p' H',Same H H'->RwT H' p' (rowX f)->Q (.ref p') H'
theorem zan3{p:Addr}{f:Fx}(h1:FxAt H p f)(h2:f.Gd)(k:∀ p' H',Same H H'->RwT H' p' (rowX f)->Q (.ref p') H'):zi8 [.ref p] H Q E:=by
 unfold zi8;exact⟨p,f,rfl,h1,h2,k⟩
theorem zap6(F:Fun K "field_row" "field_row" zt8 f fd)(N:Nm mg)(zcd0:Def P w K mg base CX0 1 "flat" ["rows"] zw5):FnOk P w K mg base CX0 2 f fd ["field"] zi8:=by
 refine F.ok zao7 (fun vs H Q E h=>by unfold zi8 at h;obtain⟨_,_,rfl,_⟩:=h;rfl) fun _ _ _ s H vs Q E hr h=>?_
 unfold zi8 at h
 obtain⟨p,f,rfl,hf,gd,k⟩:=h
 have hu:=hu40 hr
 refine⟨_,(za4 (za9 (peIf (ptC (oEqK (K:=K) rfl (by exact hu)) (zb7 (K:=K) rfl (pq 0) za2) zb4) (pT (cTupK (K:=K) rfl) N.tuple_ zr6 (za0 (za8 oAdd (ze5 (za0 zb4 za1)) (pD zcd0 hr zc1 (za0 (zb7 (K:=K) rfl (pq 0) za2) za1))) za1)) (pq 0)))),?_⟩
 cases f with
 | flat w zs=>
  have hf:H p=some (.tup (.str w :: zs.map V.int)):=hf
  refine zb2 (v:=.str w) hf (by unfold atI ixN;simp) ?_
  refine zp9 gd.1 ?_
  ac_nf
  exact k p H (Same.refl _) hf
 | tab rows=>
  obtain⟨q0,rs,hp,R⟩:=hf
  obtain⟨g1,g2⟩:rows.length<=100/\∀ r∈rows,r.length<=100:=gd
  have fl:=zag3 g1 g2
  refine zb2 (v:=.str "table") hp rfl ?_
  refine zq2 rfl ?_
  refine zb6 (fun l1 H1 f1 s1 k1=>?_)
  refine zb2 (v:=.ref q0) (s1 _ _ hp) rfl ?_
  refine zbu9 (R.same s1) g1 g2 (fun l2 H2 f2 s2 k2=>?_)
  refine zg9 (s2 _ _ k1) k2 (by rw[zcd9,zcn5,zcf4];omega) (fun l3 H3 f3 s3 k3=>?_)
  refine zbh7 (SqL.of k3) (fun p4 H4 f4 s4 k4=>?_)
  ac_nf
  exact k p4 H4 (((s1.trans s2).trans s3).trans s4) k4
@[irreducible] def zg7:Sp:=fun vs H Q _=>∃ (b l:Addr) (ps:List Addr) (a c:Int) (fs:List Fx),vs=[.ref b]/\BxAt H b l ps a c fs/\fs.length<=100/\∀ l' ps' H',H l'=none->Same H H'->zq0 H' l' ps' (zj1 a c fs)->Q (.ref l') H'
theorem zaf8{b l:Addr}{a c:Int}{fs:List Fx}(B:BxAt H b l ps a c fs)(h1:fs.length<=100)(k:∀ l' ps' H',H l'=none->Same H H'->zq0 H' l' ps' (zj1 a c fs)->Q (.ref l') H'):zg7 [.ref b] H Q E:=by
 unfold zg7;exact⟨b,l,ps,a,c,fs,rfl,B,h1,k⟩
theorem zaf4(F:Fun K "battle_rows" "battle_rows" zo9 f fd)(N:Nm mg)(zca6:Def P w K mg base CX0 2 "field_row" ["field"] zi8):FnOk P w K mg base CX0 3 f fd ["battle"] zg7:=by
 refine F.ok zag2 (fun vs H Q E h=>by unfold zg7 at h;obtain⟨_,_,_,_,_,_,rfl,_⟩:=h;rfl) fun _ _ _ s H vs Q E hr h=>?_
 unfold zg7 at h
 obtain⟨b,l,ps,a,c,fs,rfl,B,hl,k⟩:=h
 have hu:=hu40 hr
 have bl:=B.len
 refine⟨_,(za4 (za9 (za8 oAdd (ze5 (za0 (zg1 (za0 zb4 (za0 (zb7 (K:=K) rfl (pq 0) za2) (za0 (zb7 (K:=K) rfl (pq 0) za2) za1)))) za1)) (zk1 (N:=["field"]) (ks:=[none]) (zf5 (K:=K) rfl (zb7 (K:=K) rfl (pq 0) za2)) (fun _ _ _ _ _=>(zb0 (i:=0) nb_4 rfl (by eq_refl))) (fun _ _ _ _ _=>zf7) (fun _ _ _ _ _=>(pD zca6 hr zc1 (za0 (pq 0) za1))) (.skip .nil))))),?_⟩
 refine zb2 (v:=.int a) B.out rfl ?_
 refine zb2 (v:=.int c) B.out rfl ?_
 refine zb5 (fun p1 H1 f1 s1 k1=>?_)
 refine zb6 (fun l2 H2 f2 s2 k2=>?_)
 have B2:=B.same (s1.trans s2)
 refine zb2 (v:=.ref l) B2.out rfl ?_
 refine zc7 B2.lst ?_
 refine zbp2 (Wk.list (SqL.of B2.lst)) (by rw[zcd9,zcn5];omega) (fun acc i ys σ I=>∃ (t:Option V) (qs:List Addr),σ=[t]/\ys=qs.map V.ref/\qs.length=i/\∀ (j:Nat) p f,qs[j]?=some p->fs[j]?=some f->RwT I p (rowX f)) ?_ ?_ ?_ ?_
 ·intro acc I f3 s3 h3
  exact⟨none,[],rfl,rfl,rfl,fun j p f e=>by simp at e⟩
 ·rintro acc i ys σ I J sJ ⟨t,qs,rfl,rfl,ql,pr⟩
  exact⟨t,qs,rfl,rfl,ql,fun j p f e1 e2=>sJ _ _ (pr j p f e1 e2)⟩
 ·rintro acc i x ys σ I R S hi facc sI hacc hx ⟨t,qs,rfl,rfl,ql,pr⟩ kR _
  obtain⟨p,f,rfl,ep,ef,hf,gd⟩:=(B2.same sI).elt hx
  refine br_T ?_
  refine zan3 hf gd (fun p' J sJ hp'=>?_)
  ac_nf
  refine kR _ _ _ sJ (fun J2 c2=>?_)
  have nt:∀ {p:Addr}{r:Rw},RwT J p r->p≠acc:=fun {p r} h z=>by
   unfold RwT at h
   rw[z,sJ _ _ hacc] at h
   cases h
  refine⟨_,qs++[p'],rfl,by rw[zch0];rfl,by rw[zce6,ql];rfl,fun j p2 f2 e1 e2=>?_⟩
  rcases zh4 e1 with ⟨hj,e1⟩|⟨hj,rfl⟩
  ·have:=sJ _ _ (pr j p2 f2 e1 e2)
   exact c2 _ _ (nt this) this
  ·have:f=f2:=Option.some.inj (ef.symm.trans (by rw[show i=j by rfl'];exact e2))
   subst this
   exact c2 _ _ (nt hp') hp'
 ·rintro acc ys σ I facc sI hacc ⟨t,qs,_,rfl,ql,pr⟩
  rw[zcd9,bl] at ql
  refine zg9 (sI _ _ k2) hacc (by rw[zcd9,zcn5,zcf4];omega) (fun l3 H3 f3 s3 k3=>?_)
  ac_nf
  have s23:=sI.trans s3
  have s03:=(s1.trans s2).trans s23
  refine k l3 (p1 :: qs) H3 (((s1.trans s2).trans sI).free f3) s03 ⟨k3,by unfold zj1;rw[zcf1,zcf1,zcd9,ql],fun i p r e1 e2=>?_⟩
  unfold zj1 at e2
  cases i with
  | zero=>cases e1;cases e2;exact (s2.trans s23) _ _ k1
  | succ i=>
   rw[zck0] at e1 e2
   rw[zce3] at e2
   obtain⟨f,ef,rfl⟩:=zce7.mp e2
   exact s3 _ _ (pr i p f e1 ef)
@[irreducible] def zf1:Sp:=fun vs H Q _=>∃ n k:Int,vs=[.int n,.int k]/\0<=n/\n<2147483629/\0<=k/\k<=10000000/\∀ r:Int,0<=r->r<2147483587->Q (.int r) H
theorem zaz0{n k:Int}(h0:0<=n)(h1:n<2147483629)(h2:0<=k)(h3:k<=10000000)(q:∀ r:Int,0<=r->r<2147483587->Q (.int r) H):zf1 [.int n,.int k] H Q E:=by
 unfold zf1;exact⟨n,k,rfl,h0,h1,h2,h3,q⟩
theorem zaa9(F:Fun K "_law_stirred" "_law_stirred" zo1 f fd)(N:Nm mg):FnOk P w K mg base CX0 1 f fd ["_law_number","_law_k"] zf1:=by
 refine F.ok zr2 (fun vs H Q E h=>by unfold zf1 at h;obtain⟨n,k,rfl,_⟩:=h;rfl) fun _ _ _ s H vs Q E hr h=>?_
 unfold zf1 at h
 obtain⟨n,k,rfl,h1,h2,h3,h4,q⟩:=h
 refine⟨_,(za3 (psS (i:=2) zr2.nd (za8 oMod (za8 oMul (za8 oAdd (za8 oAdd (za8 oMul (pq 0) (pq 0)) (za8 oMul (pq 1) (pq 0))) (za8 oMul (za8 oMul za2 (pq 1)) (pq 1))) za2) za2))
   (za4 (za9 (za8 oMod (za8 oMul (pq 2) (pq 2)) za2)))),?_⟩
 repeat walk_at "st"
 ac_nf
 exact q _ (by assumption) (by assumption)
def zc0(H:Hp)(a:Addr)(b:Int):Prop:=∃ x y z:Int,H a=some (.lst [.int x,.int y,.int z])/\(y=1∨(y=0/\0<=x/\x<2147483629))/\0<=z/\z<=b
theorem zc0.same{H H':Hp}{a:Addr}{b:Int}(h:zc0 H a b)(s:Same H H'):zc0 H' a b:=by
 obtain⟨x,y,z,e,r⟩:=h
 exact⟨x,y,z,s _ _ e,r⟩
local macro_rules | `(tactic| walk_at "la")=>`(tactic| first|assumption|(refine zc0.same (H:=?H) ?l ?s;(case s=>assumption);(case l=>walk_at "la"))|fail "la")
theorem zc0.up{a:Addr}{b c:Int}(h:zc0 H a b)(l:b<=c):zc0 H a c:=by
 obtain⟨x,y,z,e1,e2,e3,e4⟩:=h
 exact⟨x,y,z,e1,e2,e3,by rfl'⟩
theorem zc0.ne{H:Hp}{a p:Addr}{b:Int}(h:zc0 H a b)(f:H p=none):p≠a:=by
 obtain⟨x,y,z,e,_⟩:=h
 exact Ne.symm (za6 e f)
local macro_rules | `(tactic| walk_at "ne")=>`(tactic| first|assumption|(apply Ne.symm;assumption)|(refine zc0.ne (H:=?H) (b:=?b) ?l ?f;(case f=>assumption);(case l=>walk_at "la"))|fail "ne")
@[irreducible] def zg4:Sp:=fun vs H Q _=>∃ c:Int,vs=[.int c]/\∀ p H',H p=none->Same H H'->zc0 H' p 0->Q (.ref p) H'
theorem zbd7{c:Int}(q:∀ p H',H p=none->Same H H'->zc0 H' p 0->Q (.ref p) H'):zg4 [.int c] H Q E:=by
 unfold zg4;exact⟨c,rfl,q⟩
theorem zaf9(F:Fun K "_law_opened" "_law_opened" zp3 f fd)(N:Nm mg):FnOk P w K mg base CX0 1 f fd ["_law_cell"] zg4:=by
 refine F.ok zae8 (fun vs H Q E h=>by unfold zg4 at h;obtain⟨n,rfl,_⟩:=h;rfl) fun _ _ _ s H vs Q E hr h=>?_
 unfold zg4 at h
 obtain⟨c,rfl,q⟩:=h
 refine⟨_,(za3 (psIf (ptC oLt (pq 0) (za8 oPow za2 za2)) (za4 (za9 (ze5 (za0 (za8 oMod (pq 0) za2) (za0 za2 (za0 za2 za1)))))) zb8)
   (za4 (za9 (ze5 (za0 (za8 oSub (pq 0) (za8 oPow za2 za2)) (za0 za2 (za0 za2 za1))))))),?_⟩
 walk_at "st"
 refine ze8 (fun h=>?_) (fun h=>?_)
 ·repeat walk_at "st"
  ac_nf
  exact q _ _ (by assumption) (by assumption) ⟨_,_,_,by assumption,.inr ⟨rfl,by assumption,by assumption⟩,by rfl',by rfl'⟩
 ·repeat walk_at "st"
  ac_nf
  exact q _ _ (by assumption) (by assumption) ⟨_,_,_,by assumption,.inl rfl,by rfl',by rfl'⟩
@[irreducible] def zd7:Sp:=fun vs H Q _=>∃ (a:Addr) (m b:Int),vs=[.ref a,.int m]/\zc0 H a b/\b<=1000000/\0<m/\m<10 ^ 60/\∀ (d:Int) H',0<=d->d<m->Chg a H H'->zc0 H' a (b+4)->Q (.int d) H'
theorem zd6{a:Addr}{m b:Int}(hL:zc0 H a b)(hb:b<=1000000)(h0:0<m)(h1:m<10 ^ 60)(q:∀ (d:Int) H',0<=d->d<m->Chg a H H'->zc0 H' a (b+4)->Q (.int d) H'):zd7 [.ref a,.int m] H Q E:=by
 unfold zd7;exact⟨a,m,b,rfl,hL,hb,h0,h1,q⟩
theorem zap2(F:Fun K "_law_draw" "_law_draw" zt1 f fd)(N:Nm mg)(zbz7:Def P w K mg base CX0 1 "_law_stirred" ["_law_number","_law_k"] zf1):FnOk P w K mg base CX0 2 f fd ["_law_left","_law_base"] zd7:=by
 refine F.ok zi5 (fun vs H Q E h=>by unfold zd7 at h;obtain⟨a,m,b,rfl,_⟩:=h;rfl) fun _ _ _ s H vs Q E hr h=>?_
 unfold zd7 at h
 obtain⟨a,m,b,rfl,⟨x,y,z,hl,hy,hz0,hz1⟩,hb,hm0,hm1,q⟩:=h
 have hu:=hu40 hr
 refine⟨_,(za3 (psIf (ptC (oEqK (K:=K) rfl (by exact hu)) (zb7 (K:=K) rfl (pq 0) za2) za2) (za3 (psS (i:=2) zi5.nd (za8 oMod (zb7 (K:=K) rfl (pq 0) za2) (pq 1)))
   (za3 (zy9 (za8 oDiv (zb7 (K:=K) rfl (pq 0) za2) (pq 1)) (zbi0 (pq 0) za2 setM))
   (za4 (za9 (pq 2))))) zb8)
   (za3 (psS (i:=3) zi5.nd za2)
   (za3 (zt2 PassesOwn.never rfl (zah6 N.range_ (za0 (zb7 (K:=K) rfl (ze5 (za0 za2 (za0 za2 za1))) (pT cInt N.int_ zan7 (za0 (peC oGt (pq 1) (za8 oPow za2 za2)) za1))) za1)) (zb0 (i:=4) zi5.nd rfl (by eq_refl)) (za3 (zy9 (za8 oAdd (zb7 (K:=K) rfl (pq 0) za2) za2) (zbi0 (pq 0) za2 setM))
   (za3 (psS (i:=5) zi5.nd (pD zbz7 hr zc1 (za0 (zb7 (K:=K) rfl (pq 0) za2) (za0 (zb7 (K:=K) rfl (pq 0) za2) za1))))
   (za4 (psS (i:=3) zi5.nd (za8 oAdd (za8 oMul (pq 3) za2) (za8 oMod (za8 oMul (pq 5) (za8 oAdd (pq 5) za2)) za2)))))))
   (za4 (za9 (za8 oMod (pq 3) (pq 1))))))),?_⟩
 walk_at "st"
 refine ze8 (fun h=>?_) (fun h=>?_)
 ·subst h
  walk_at "st"
  walk_at "st"
  walk_at "st"
  walk_at "st"
  refine zbf6 hl (by rfl) (fun H1 hc h1=>?_)
  ac_nf
  exact q _ _ (by assumption) (by assumption) hc ⟨_,_,_,h1,.inl rfl,hz0,by rfl'⟩
 ·obtain⟨rfl,hx0,hx1⟩:y=0/\0<=x/\x<2147483629:=by rfl'
  refine zb6 (fun p1 H1 hf1 hs1 ha1=>?_)
  walk_at "st"
  refine zl2 ha1 (by split<;>decide) (by show _<((2:Nat):Int);split<;>decide) (fun v hv=>?_)
  obtain⟨j,rfl,hj1,hj4⟩:∃ j:Int,v=.int j/\1<=j/\j<=4:=by
   simp only[zcf2,zcg2,or_false] at hv
   rcases hv with rfl|rfl
   ·exact⟨1,rfl,by decide,by decide⟩
   ·exact⟨4,rfl,by decide,by decide⟩
  refine zs1 (by decide) (by decide) (by rfl') (by rfl') ?_
  refine zx4 (fun i σ H2=>∃ (num:Int) (t mx:Option V),σ=[some (.ref a),some (.int m),none,some (.int num),t,mx]/\0<=num/\Chg a H H2/\H2 a=some (.lst [.int x,.int 0,.int (z+i)])) ?_ ?_ ?_
  ·exact⟨0,none,none,rfl,by decide,hs1.toChg,by rw[hs1 _ _ hl];simp⟩
  ·rintro i σ H2 hi ⟨num,t,mx,rfl,hn,hc,h2⟩
   have hi4:(i:Int)<4:=by rfl'
   walk_at "st"
   refine zbf6 h2 (by rfl) (fun H3 hc3 h3=>?_)
   walk_at "st"
   walk_at "st"
   refine zaz0 hx0 hx1 (by rfl') (by rfl') (fun r hr0 hr1=>?_)
   walk_at "st"
   walk_at "st"
   walk_at "st"
   ac_nf
   refine⟨_,_,_,rfl,?_,hc.trans hc3,?_⟩
   ·rename_i r2 hr20 hr21
    omega
   ·rw[h3]
    have e:z+(i:Int)+1=z+((i+1:Nat):Int):=by rfl'
    rw[← e]
    rfl
  ·rintro σ H2 ⟨num,t,mx,rfl,hn,hc,h2⟩
   walk_at "st"
   ac_nf
   exact q _ _ (by assumption) (by assumption) hc ⟨_,_,_,h2,.inr ⟨rfl,hx0,hx1⟩,by rfl',by rfl'⟩
theorem Chg.free'{a l:Addr}(x:Chg a H H')(h:H' l=none)(n:l≠a):H l=none:=by
 cases e:H l with
 | none=>rfl
 | some o=>
  have:=x l o n e
  rw[h] at this
  cases this
theorem zc0.chg{a p:Addr}{b:Int}(h:zc0 H a b)(c:Chg p H H')(n:a≠p):zc0 H' a b:=by
 obtain⟨x,y,z,e,r⟩:=h
 exact⟨x,y,z,c _ _ n e,r⟩
theorem zc0.some{H:Hp}{a:Addr}{b:Int}(h:zc0 H a b):∃ o,H a=some o:=by
 obtain⟨x,y,z,e,r⟩:=h
 exact⟨_,e⟩
@[irreducible] def zc9:Sp:=fun vs H Q _=>∃ (a:Addr) (b:Int),vs=[.ref a]/\zc0 H a b/\b<=100000/\∀ (d:Int) H',1<=d->d<=2*10 ^ 28->Chg a H H'->zc0 H' a (b+16)->Q (.int d) H'
theorem zaf5{a:Addr}{b:Int}(hL:zc0 H a b)(hb:b<=100000)(q:∀ (d:Int) H',1<=d->d<=2*10 ^ 28->Chg a H H'->zc0 H' a (b+16)->Q (.int d) H'):zc9 [.ref a] H Q E:=by unfold zc9;exact⟨a,b,rfl,hL,hb,q⟩
theorem zu7(F:Fun K "_law_drawn_worth" "_law_drawn_worth" zj4 f fd)(N:Nm mg)(zbw1:Def P w K mg base CX0 2 "_law_draw" ["_law_left","_law_base"] zd7):FnOk P w K mg base CX0 3 f fd ["_law_left"] zc9:=by
 refine F.ok zm6 (fun vs H Q E h=>by unfold zc9 at h;obtain⟨_,_,rfl,_⟩:=h;rfl) fun _ _ _ s H vs Q E hr h=>?_
 unfold zc9 at h
 obtain⟨a,b,rfl,hL,hb,q⟩:=h
 refine⟨_,(za3 (psS (i:=1) zm6.nd (za8 oAdd (za8 oPow za2 za2) (pD zbw1 hr zc1 (za0 (pq 0) (za0 (za8 oPow za2 za2) za1)))))
   (za4 (za9 (zb7 (K:=K) rfl (ze5 (za0 (za8 oAdd za2 (pD zbw1 hr zc1 (za0 (pq 0) (za0 za2 za1)))) (za0 (za8 oAdd za2 (pD zbw1 hr zc1 (za0 (pq 0) (za0 za2 za1)))) (za0 (pq 1) za1)))) (za8 oDiv (pD zbw1 hr zc1 (za0 (pq 0) (za0 za2 za1))) za2))))),?_⟩
 walk_at "st"
 walk_at "st"
 refine zd6 hL (by rfl') (by rfl') (by rfl') (fun d1 H1 d10 d11 c1 L1=>?_)
 refine zd6 L1 (by rfl') (by rfl') (by rfl') (fun d2 H2 d20 d21 c2 L2=>?_)
 refine zd6 L2 (by rfl') (by rfl') (by rfl') (fun d3 H3 d30 d31 c3 L3=>?_)
 refine zb6 (fun p4 H4 f4 s4 h4=>?_)
 refine zd6 (L3.same s4) (by rfl') (by rfl') (by rfl') (fun d5 H5 d50 d51 c5 L5=>?_)
 have h45:=c5 _ _ (L3.ne f4) h4
 walk_at "st"
 refine zl2 h45 (by rfl') (by simp only[zcf1,zci4];omega) ?_
 intro v hv
 obtain⟨m,rfl,m1,m2⟩:∃ m:Int,v=.int m/\1<=m/\m<=2*10 ^ 28:=by
  simp only[zcf2,zcg2,or_false] at hv
  rcases hv with rfl|rfl|rfl<;>exact⟨_,rfl,by rfl',by rfl'⟩
 clear hv
 ac_nf
 exact q m H5 m1 m2 ((((c1.trans c2).trans c3).same s4).trans c5) (L5.up (by rfl'))
theorem zbv1{z:List Int}{n:Nat}(h:z.length=n):z.map V.int=rowV n fun y=>z.getD y 0:=by
 subst h
 apply zcj2
 intro i
 by_cases hi:i<z.length
 ·rw[zbn5 hi,zce3,zce0 hi,zce9,zce0 hi]
  rfl
 ·rw[zcf9 (by simp;omega),zcf9 (by rw[zbm6];omega)]
def Fd.Bd(a c:Nat):Fd->Prop
 | .more w _=>w<=2*10 ^ 28
 | .lead w l=>w<=2*10 ^ 28/\-(2*10 ^ 29)<=l/\l<=2*10 ^ 29
 | .tab g=>∀ x y,x<=a->y<=c->-(2*10 ^ 28)<=g x y/\g x y<=2*10 ^ 28
@[irreducible] def zd1:Sp:=fun vs H Q _=>∃ (a:Addr) (b:Int) (n m:Nat),vs=[.ref a,.int n,.int m]/\zc0 H a b/\b<=90000/\n<=10/\m<=10/\∀ p f H',Chg a H H'->zc0 H' a (b+1000)->FdAt (nw H H') p n m f->f.Ok->f.Bd n m->Q (.ref p) H'
theorem zae3{a:Addr}{b:Int}{n:Nat}(hL:zc0 H a b)(hb:b<=90000)(h1:n<=10)(h2:m<=10)(q:∀ p f H',Chg a H H'->zc0 H' a (b+1000)->FdAt (nw H H') p n m f->f.Ok->f.Bd n m->Q (.ref p) H'):zd1 [.ref a,.int n,.int m] H Q E:=by unfold zd1;exact⟨a,b,n,m,rfl,hL,hb,h1,h2,q⟩
theorem zu5(F:Fun K "_law_drawn_field" "_law_drawn_field" zj2 f fd)(N:Nm mg)(zbw1:Def P w K mg base CX0 2 "_law_draw" ["_law_left","_law_base"] zd7)(zby3:Def P w K mg base CX0 3 "_law_drawn_worth" ["_law_left"] zc9):FnOk P w K mg base CX0 4 f fd ["_law_left","_law_first","_law_second"] zd1:=by
 refine F.ok zc2 (fun vs H Q E h=>by unfold zd1 at h;obtain⟨_,_,_,_,rfl,_⟩:=h;rfl) fun _ _ _ s H vs Q E hr h=>?_
 unfold zd1 at h
 obtain⟨a,b,n,m,rfl,hL,hb,h1,h2,q⟩:=h
 have hu:=hu40 hr
 obtain⟨oa,ea⟩:=hL.some
 refine⟨_,(za3 (psS (i:=3) zc2.nd (pD zbw1 hr zc1 (za0 (pq 0) (za0 za2 za1))))
   (za3 (psS (i:=4) zc2.nd (pD zby3 hr zc1 (za0 (pq 0) za1)))
   (za3 (psIf (ptC (oEqK (K:=K) rfl (by exact hu)) (pq 3) za2) (za3 (psS (i:=5) zc2.nd (zb7 (K:=K) rfl (ze5 (za0 (za8 oSub (pD zbw1 hr zc1 (za0 (pq 0) (za0 (za8 oAdd (za8 oMul za2 (pq 4)) za2) za1))) (pq 4)) (za0 za2 (za0 (pq 4) (za0 (za8 oSub za2 (pq 4)) za1))))) (pD zbw1 hr zc1 (za0 (pq 0) (za0 za2 za1)))))
   (za4 (za9 (zg1 (za0 zb4 (za0 (pq 4) (za0 (pq 5) za1))))))) zb8)
   (za3 (psIf (ptC (oEqK (K:=K) rfl (by exact hu)) (pq 3) za2) (za3 (psS (i:=6) zc2.nd (za8 oSub (za8 oSub (pD zbw1 hr zc1 (za0 (pq 0) (za0 (za8 oAdd (za8 oAdd (pq 1) (pq 2)) za2) za1))) (pq 2)) za2))
   (za3 (psS (i:=7) zc2.nd (za8 oMul (zb7 (K:=K) rfl (ze5 (za0 za2 (za0 (zx1 uNeg za2) za1))) (pD zbw1 hr zc1 (za0 (pq 0) (za0 za2 za1)))) (za8 oPow za2 za2)))
   (za4 (za9 (zg1 (za0 zb4 (za0 (pq 4) (za0 (zb7 (K:=K) rfl (ze5 (za0 (pq 6) (za0 (pq 6) (za0 (pq 6) (za0 (pq 7) za1))))) (pD zbw1 hr zc1 (za0 (pq 0) (za0 za2 za1)))) za1)))))))) zb8)
   (za3 (psS (i:=8) zc2.nd (ze5 za1))
   (za3 (zt2 PassesOwn.never rfl (zah6 N.range_ (za0 (za8 oAdd (pq 1) za2) za1)) (zb0 (i:=9) zc2.nd rfl (by eq_refl)) (za4 (zn1 (zo3 (pq 8) (za0 (zk1 (N:=["_law_y","_law_left","_law_worth"]) (ks:=[none,some 0,some 4]) (zah6 N.range_ (za0 (za8 oAdd (pq 2) za2) za1)) (fun _ _ _ _ _=>(zb0 (i:=0) nb_9 rfl (by eq_refl))) (fun _ _ _ _ _=>zf7) (fun _ _ _ _ _=>(za8 oSub (pD zbw1 hr zc1 (za0 (pq 1) (za0 (za8 oAdd (za8 oMul za2 (pq 2)) za2) za1))) (pq 2))) (.skip (.take rfl rfl (by eq_refl) (.take rfl rfl (by eq_refl) .nil)))) za1)))))
   (za4 (za9 (zg1 (za0 zb4 (za0 (pq 8) za1))))))))))),?_⟩
 refine zd6 hL (by rfl') (by rfl') (by rfl') (fun kd H1 k0 k1 c1 L1=>?_)
 refine zaf5 L1 (by rfl') (fun wt H2 w0 w1 c2 L2=>?_)
 have c02:=c1.trans c2
 refine ze8 (fun e0=>?_) (fun e0=>?_)
 ·walk_at "st"
  refine zd6 L2 (by rfl') (by rfl') (by rfl') (fun d3 H3 d30 d31 c3 L3=>?_)
  refine zb6 (fun p4 H4 f4 s4 h4=>?_)
  refine zd6 (L3.same s4) (by rfl') (by rfl') (by rfl') (fun d5 H5 d50 d51 c5 L5=>?_)
  have h45:=c5 _ _ (L3.ne f4) h4
  refine zl2 h45 (by rfl') (by simp only[zcf1,zci4];omega) ?_
  intro v hv
  obtain⟨t,rfl,t1,t2⟩:∃ t:Int,v=.int t/\-wt<=t/\t<=wt:=by
   simp only[zcf2,zcg2,or_false] at hv
   rcases hv with rfl|rfl|rfl|rfl<;>exact⟨_,rfl,by rfl',by rfl'⟩
  clear hv
  refine zb5 (fun p6 H6 f6 s6 h6=>?_)
  ac_nf
  have c05:Chg a H H5:=(((c02.trans c3).same s4).trans c5)
  refine q p6 (.more wt t) H6 (c05.same s6) ((L5.same s6).up (by rfl')) ?_ ⟨w0,t1,t2⟩ w1
  exact zae1 (Chg.free' c05 f6 (L5.ne f6)) h6
 refine ze8 (fun e1=>?_) (fun e1=>?_)
 ·ac_nf
  refine zd6 L2 (by rfl') (by rfl') (by rfl') (fun d3 H3 d30 d31 c3 L3=>?_)
  refine zb6 (fun p4 H4 f4 s4 h4=>?_)
  refine zd6 (L3.same s4) (by rfl') (by rfl') (by rfl') (fun d5 H5 d50 d51 c5 L5=>?_)
  have h45:=c5 _ _ (L3.ne f4) h4
  refine zl2 h45 (by rfl') (by simp only[zcf1,zci4];omega) ?_
  intro v hv
  obtain⟨sg,rfl,sg1,sg2⟩:∃ t:Int,v=.int t/\-1<=t/\t<=1:=by
   simp only[zcf2,zcg2,or_false] at hv
   rcases hv with rfl|rfl<;>exact⟨_,rfl,by rfl',by rfl'⟩
  clear hv
  walk_at "st"
  refine zab4 (by rfl') (by rfl') ?_
  refine zb6 (fun p6 H6 f6 s6 h6=>?_)
  refine zd6 (L5.same s6) (by rfl') (by rfl') (by rfl') (fun d7 H7 d70 d71 c7 L7=>?_)
  have h67:=c7 _ _ (L5.ne f6) h6
  refine zl2 h67 (by rfl') (by simp only[zcf1,zci4];omega) ?_
  intro v hv
  obtain⟨t,rfl,tl0,tl1⟩:∃ t:Int,v=.int t/\-(2*10 ^ 29)<=t/\t<=2*10 ^ 29:=by
   have sgg:-(10 ^ 29)<=sg*10 ^ 29/\sg*10 ^ 29<=10 ^ 29:=by rfl'
   simp only[zcf2,zcg2,or_false] at hv
   rcases hv with rfl|rfl|rfl|rfl<;>exact⟨_,rfl,by rfl',by rfl'⟩
  clear hv
  refine zb5 (fun p8 H8 f8 s8 h8=>?_)
  ac_nf
  have c07:Chg a H H7:=((((c02.trans c3).same s4).trans c5).same s6).trans c7
  refine q p8 (.lead wt t) H8 (c07.same s8) ((L7.same s8).up (by rfl')) ?_ w0 ⟨w1,tl0,tl1⟩
  exact zae1 (Chg.free' c07 f8 (L7.ne f8)) h8
 refine zb6 (fun r H3 f3 s3 h3=>?_)
 have nr:r≠a:=L2.ne f3
 have fr:H r=none:=Chg.free' c02 f3 nr
 refine zs1 (by decide) (by decide) (by rfl') (by rfl') ?_
 rw[show ((n:Int)+1 - 0).toNat=n+1 by rfl']
 refine zx4 (fun i σ H4=>∃ (x:Option V) (t1 t2 t3:Option V) (qs:List Addr) (zs:List (List Int)),σ=[some (.ref a),some (.int n),some (.int m),some (.int kd),some (.int wt),t1,t2,t3,some (.ref r),x]/\Chg a H H4/\zc0 H4 a (b+20+50*i)/\H4 r=some (.lst (qs.map V.ref))/\qs.length=i/\zs.length=i/\∀ (k:Nat) q z,qs[k]?=some q->zs[k]?=some z->H q=none/\q≠r/\q≠a/\H4 q=some (.lst (z.map V.int))/\z.length=m+1/\∀ v∈z,-wt<=v/\v<=wt) ?_ ?_ ?_
 ·exact⟨_,_,_,_,[],[],rfl,c02.same s3,(L2.same s3).up (by rfl'),h3,rfl,rfl,fun k q z e=>by simp at e⟩
 ·rintro i σ H4 hi ⟨x0,t1,t2,t3,qs,zs,rfl,c4,L4,h4,ql,zl,pr⟩
  have hi:i<n+1:=hi
  refine zt0 h4 ?_
  refine zs1 (by decide) (by decide) (by rfl') (by rfl') ?_
  rw[show ((m:Int)+1 - 0).toNat=m+1 by rfl']
  refine zab3 (by rw[zcn5];omega) (fun acc H5 f5 s5 h5=>?_)
  have na:acc≠a:=L4.ne f5
  have nra:r≠acc:=za6 h4 f5
  refine⟨fun j ys σ H6=>∃ (t:Option V) (z:List Int),σ=[t,some (.ref a),some (.int wt)]/\ys=z.map V.int/\z.length=j/\(∀ v∈z,-wt<=v/\v<=wt)/\zc0 H6 a (b+20+50*i+4*j)/\Chg2 a acc H4 H6,?_,?_,?_⟩
  ·exact⟨none,[],rfl,rfl,rfl,fun v hv=>(by cases hv),(L4.same s5).up (by rfl'),s5.to2⟩
  ·rintro j m' ys σ H6 hj hm hl h6 ⟨t,z,rfl,rfl,lz,bz,L6,c6⟩
   have hj:j<m+1:=hj
   refine br_T ?_
   walk_at "st"
   refine zd6 L6 (by rfl') (by rfl') (by rfl') (fun d H7 d0 d1 c7 L7=>?_)
   refine zau9 hj hm hl (c7 _ _ na h6) (fun H8 c8 h8=>?_)
   exact⟨_,z++[d - wt],rfl,by rw[zch0];rfl,by rw[zce6,lz];rfl,fun v hv=>by
    rcases zch8.mp hv with hv|hv
    ·exact bz v hv
    ·rw[zcj5.mp hv];omega,(L7.chg c8 (Ne.symm na)).up (by rfl'),(c6.trans c7.toL).trans c8.toR⟩
  ·rintro ys σ H6 h6 ⟨t,z,rfl,rfl,lz,bz,L6,c6⟩
   ac_nf
   have h4r:H6 r=some (.lst (qs.map V.ref)):=c6 _ _ nr nra h4
   refine zam1 h4r (by rw[zcd9,zcn5];omega) (fun H7 c7 h7=>?_)
   ac_nf
   have facc:H acc=none:=Chg.free' c4 f5 na
   refine⟨_,_,_,_,qs++[acc],zs++[z],rfl,fun b o z1 e=>c7 _ _ (za6 e fr) (c6 _ _ z1 (za6 e facc) (c4 _ _ z1 e)),(L6.chg c7 (Ne.symm nr)).up (by rfl'),by rw[h7,zch0];rfl,by rw[zce6,ql];rfl,by rw[zce6,zl];rfl,fun k q z' g1 g2=>?_⟩
   by_cases hk:k<qs.length
   ·rw[zcg9 hk] at g1
    rw[zcg9 (by rfl')] at g2
    obtain⟨y1,y2,y3,y4,y5,y6⟩:=pr k q z' g1 g2
    exact⟨y1,y2,y3,c7 _ _ y2 (c6 _ _ y3 (za6 y4 f5) y4),y5,y6⟩
   ·rw[zch2 (by rfl')] at g1 g2
    have k0:k - qs.length=0:=by
     have:=(zce2.mp g1).1
     simp at this;omega
    rw[k0] at g1
    rw[show k - zs.length=0 by rfl'] at g2
    cases g1
    cases g2
    exact⟨facc,Ne.symm nra,na,c7 _ _ (Ne.symm nra) h6,lz,bz⟩
 ·rintro σ H4 ⟨x0,t1,t2,t3,qs,zs,rfl,c4,L4,h4,ql,zl,pr⟩
  refine zb5 (fun p5 H5 f5 s5 h5=>?_)
  ac_nf
  refine q p5 (.tab fun x y=>(zs.getD x []).getD y 0) H5 (c4.same s5) ((L4.same s5).up (by rfl')) ⟨r,qs,zae1 (Chg.free' c4 f5 (L4.ne f5)) h5,zae1 fr (s5 _ _ h4),ql,fun i p e=>?_⟩ trivial (fun x y hx hy=>?_)
  case refine_2=>
   obtain⟨q0,eq0⟩:∃ q0,qs[x]?=some q0:=⟨_,zce0 (by rfl')⟩
   obtain⟨z,ez⟩:∃ z,zs[x]?=some z:=⟨_,zce0 (by rfl')⟩
   obtain⟨_,_,_,_,y5,y6⟩:=pr x q0 z eq0 ez
   have eg:zs.getD x []=z:=by rw[zce9,ez];rfl
   obtain⟨v,ev⟩:∃ v,z[y]?=some v:=⟨_,zce0 (by rfl')⟩
   have ev2:z.getD y 0=v:=by rw[zce9,ev];rfl
   show -(2*10 ^ 28)<=(zs.getD x []).getD y 0/\(zs.getD x []).getD y 0<=2*10 ^ 28
   rw[eg,ev2]
   have:=y6 v (zce5 ev)
   omega
  obtain⟨z,ez⟩:∃ z,zs[i]?=some z:=⟨_,zce0 (by have:=(zce2.mp e).1;omega)⟩
  obtain⟨y1,y2,y3,y4,y5,_⟩:=pr i p z e ez
  have eg:zs.getD i []=z:=by rw[zce9,ez];rfl
  show nw H H5 p=some (.lst (rowV (m+1) fun y=>(zs.getD i []).getD y 0))
  rw[eg,← zbv1 y5]
  exact zae1 y1 (s5 _ _ y4)
theorem zbm5(k:Nat)(q:Addr):(List.replicate k [V.ref q]).flatten=(List.replicate k q).map V.ref:=by
 induction k with
 | zero=>rfl
 | succ n ih=>rw[zcj1,zci2,ih];rfl
@[irreducible] def zc8:Sp:=fun vs H Q _=>∃ (a:Addr) (b:Int),vs=[.ref a,.int 10,.int 5]/\zc0 H a b/\b<=1000/\∀ bt l ps n m fs H',Chg a H H'->zc0 H' a (b+10000)->zh7 (rm a H') bt l ps n m fs->OkB n m fs->(∀ f∈fs,f.Bd n m)->Q (.ref bt) H'
theorem zac1{a:Addr}{b:Int}(hL:zc0 H a b)(hb:b<=1000)(q:∀ bt l ps n m fs H',Chg a H H'->zc0 H' a (b+10000)->zh7 (rm a H') bt l ps n m fs->OkB n m fs->(∀ f∈fs,f.Bd n m)->Q (.ref bt) H'):zc8 [.ref a,.int 10,.int 5] H Q E:=by unfold zc8;exact⟨a,b,rfl,hL,hb,q⟩
theorem zs5(F:Fun K "_law_drawn_battle" "_law_drawn_battle" zi2 f fd)(N:Nm mg)(zbw1:Def P w K mg base CX0 2 "_law_draw" ["_law_left","_law_base"] zd7)(zby4:Def P w K mg base CX0 4 "_law_drawn_field" ["_law_left","_law_first","_law_second"] zd1):FnOk P w K mg base CX0 5 f fd ["_law_left","_law_most","_law_many"] zc8:=by
 refine F.ok zd5 (fun vs H Q E h=>by unfold zc8 at h;obtain⟨_,_,rfl,_⟩:=h;rfl) fun _ _ _ s H vs Q E hr h=>?_
 unfold zc8 at h
 obtain⟨a,b,rfl,hL,hb,q⟩:=h
 have hu:=hu40 hr
 refine⟨_,(za3 (psS (i:=3) zd5.nd (pD zbw1 hr zc1 (za0 (pq 0) (za0 (za8 oAdd (pq 1) za2) za1))))
   (za3 (psS (i:=4) zd5.nd (pD zbw1 hr zc1 (za0 (pq 0) (za0 (za8 oAdd (pq 1) za2) za1))))
   (za3 (psC (i:=5) (N:=["_law_k","_law_left","_law_first","_law_second"]) (ks:=[none,some 0,some 3,some 4]) zd5.nd (zah6 N.range_ (za0 (za8 oAdd za2 (pD zbw1 hr zc1 (za0 (pq 0) (za0 (pq 2) za1)))) za1)) (fun _ _ _ _ _=>(zb0 (i:=0) nb_10 rfl (by eq_refl))) (fun _ _ _ _ _=>zf7) (fun _ _ _ _ _=>(pD zby4 hr zc1 (za0 (pq 1) (za0 (pq 2) (za0 (pq 3) za1))))) (.skip (.take rfl rfl (by eq_refl) (.take rfl rfl (by eq_refl) (.take rfl rfl (by eq_refl) .nil)))))
   (za3 (zbc5 (psIf (ptC (oEqK (K:=K) rfl (by exact hu)) (pD zbw1 hr zc1 (za0 (pq 0) (za0 za2 za1))) za2) (za4 (psS (i:=5) zd5.nd (za8 oMul (ze6 (slK (K:=K) rfl) (pq 5) zh8 (zk2 za2)) (pB (zv7 (K:=K) rfl) N.len_ zn3 (za0 (pq 5) za1))))) zb8))
   (za4 (za9 (zg1 (za0 (pq 3) (za0 (pq 4) (za0 (pq 5) za1)))))))))),?_⟩
 refine zd6 hL (by rfl') (by rfl') (by rfl') (fun d1 H1 d10 d11 c1 L1=>?_)
 obtain⟨n,rfl⟩:∃ n:Nat,d1=n:=⟨d1.toNat,by rfl'⟩
 refine zd6 L1 (by rfl') (by rfl') (by rfl') (fun d2 H2 d20 d21 c2 L2=>?_)
 obtain⟨m,rfl⟩:∃ n:Nat,d2=n:=⟨d2.toNat,by rfl'⟩
 refine zd6 L2 (by rfl') (by rfl') (by rfl') (fun d3 H3 d30 d31 c3 L3=>?_)
 have c03:=(c1.trans c2).trans c3
 refine zs1 (by decide) (by decide) (by rfl') (by rfl') ?_
 obtain⟨z,ez⟩:∃ z:Nat,(1+d3 - 0).toNat=z:=⟨_,rfl⟩
 rw[ez]
 have hz:1<=z/\z<=5:=by rfl'
 refine zab3 (by rw[zcn5];omega) (fun acc H4 f4 s4 h4=>?_)
 have na:acc≠a:=L3.ne f4
 have facc:H acc=none:=Chg.free' c03 f4 na
 refine⟨fun j ys σ H5=>∃ (t:Option V) (qs:List Addr) (fs:List Fd),σ=[t,some (.ref a),some (.int n),some (.int m)]/\ys=qs.map V.ref/\qs.length=j/\fs.length=j/\(∀ f∈fs,f.Bd n m)/\zc0 H5 a (b+12+1000*j)/\Chg2 a acc H3 H5/\∀ (k:Nat) q f,qs[k]?=some q->fs[k]?=some f->FdAt (rm a (rm acc H5)) q n m f/\f.Ok,?_,?_,?_⟩
 ·exact⟨none,[],[],rfl,rfl,rfl,rfl,fun f hf=>(by cases hf),(L3.same s4).up (by rfl'),s4.to2,fun k q f e=>by simp at e⟩
 ·rintro j m' ys σ H5 hj hm hl h5 ⟨t,qs,fs,rfl,rfl,ql,fl,fb,L5,c5,pr⟩
  have hj:j<z:=hj
  obtain⟨oa,ea⟩:=L5.some
  refine br_T ?_
  refine zae3 L5 (by rfl') (by rfl') (by rfl') (fun p6 f H6 c6 L6 F6 ok bd=>?_)
  refine zau9 hj hm hl (c6 _ _ na h5) (fun H7 c7 h7=>?_)
  refine⟨_,qs++[p6],fs++[f],rfl,by rw[zch0];rfl,by rw[zce6,ql];rfl,by rw[zce6,fl];rfl,fun f' hf=>by
   rcases zch8.mp hf with hf|hf
   ·exact fb f' hf
   ·rw[zcj5.mp hf];exact bd,(L6.chg c7 (Ne.symm na)).up (by rfl'),(c5.trans c6.toL).trans c7.toR,fun k p f' g1 g2=>?_⟩
  by_cases hk:k<qs.length
  ·rw[zcg9 hk] at g1
   rw[zcg9 (by rfl')] at g2
   obtain⟨y1,y2⟩:=pr k p f' g1 g2
   refine⟨y1.same (fun b o e=>?_),y2⟩
   have e1:=zj0 e
   have e2:=zj0 e1.2
   exact zf9 e1.1 (zf9 e2.1 (c7 _ _ e2.1 (c6 _ _ e1.1 e2.2)))
  ·rw[zch2 (by rfl')] at g1 g2
   have k0:k - qs.length=0:=by
    have:=(zce2.mp g1).1
    simp at this;omega
   rw[k0] at g1
   rw[show k - fs.length=0 by rfl'] at g2
   cases g1
   cases g2
   refine⟨F6.same (fun b o e=>?_),ok⟩
   have e1:=nw_of e
   have n1:b≠a:=fun w=>by rw[w,ea] at e1;cases e1.1
   have n2:b≠acc:=fun w=>by rw[w,h5] at e1;cases e1.1
   exact zf9 n1 (zf9 n2 (c7 _ _ n2 e1.2))
 ·rintro ys σ H5 h5 ⟨t,qs,fs,rfl,rfl,ql,fl,fb,L5,c5,pr⟩
  have c05:Chg a H H5:=fun b o z1 e=>c5 _ _ z1 (za6 e facc) (c03 _ _ z1 e)
  have pr':∀ (k:Nat) q f,qs[k]?=some q->fs[k]?=some f->FdAt (rm a H5) q n m f/\f.Ok:=fun k q f g1 g2=>⟨(pr k q f g1 g2).1.same (Same.rm (ze1 acc H5)),(pr k q f g1 g2).2⟩
  refine zav0 (fun σ H6=>∃ (l:Addr) (ps:List Addr) (fs:List Fd),σ=[some (.ref a),some (.int 10),some (.int 5),some (.int n),some (.int m),some (.ref l)]/\Chg a H H6/\zc0 H6 a (b+10000)/\l≠a/\H6 l=some (.lst (ps.map V.ref))/\ps.length=fs.length/\(1<=fs.length/\fs.length<=5)/\(∀ f∈fs,f.Bd n m)/\∀ (k:Nat) p f,ps[k]?=some p->fs[k]?=some f->FdAt (rm a H6) p n m f/\f.Ok) ?_ ?_
  ·ac_nf
   refine zd6 L5 (by rfl') (by rfl') (by rfl') (fun d6 H6 d60 d61 c6 L6=>?_)
   have h6:=c6 _ _ na h5
   have pr6:∀ (k:Nat) q f,qs[k]?=some q->fs[k]?=some f->FdAt (rm a H6) q n m f/\f.Ok:=fun k q f g1 g2=>⟨(pr' k q f g1 g2).1.same (Chg.rm c6),(pr' k q f g1 g2).2⟩
   refine ze8 (fun e0=>?_) (fun e0=>?_)
   ·obtain⟨q0,eq0⟩:∃ q0,qs[0]?=some q0:=⟨_,zce0 (by rfl')⟩
    obtain⟨g0,eg0⟩:∃ q0,fs[0]?=some q0:=⟨_,zce0 (by rfl')⟩
    have tk:cutV (qs.map V.ref) none (some 1)=[V.ref q0]:=by
     rw[zq1 (by decide)]
     cases qs with
     | nil=>simp at eq0
     | cons x xs=>simp at eq0;subst eq0;rfl
    refine zaf1 (SqL.of h6) (fun p7 H7 f7 s7 h7=>?_)
    rw[tk] at h7
    refine zm9 (s7 _ _ h6) ?_
    rw[zcd9,ql]
    refine zbf2 h7 (by rfl') (by rfl') (by rw[zcn5,zcf4];omega) (fun p8 H8 f8 s8 h8=>?_)
    rw[zbm5] at h8
    ac_nf
    have s68:=s7.trans s8
    refine⟨p8,List.replicate (z:Int).toNat q0,List.replicate (z:Int).toNat g0,rfl,(c05.trans c6).same s68,(L6.same s68).up (by rfl'),(L6.same s7).ne f8,h8,by rw[zcj8,zcj8],by rw[zcj8];omega,fun f hf=>by rw[zcj0 hf];exact fb g0 (zce5 eg0),fun k p f g1 g2=>?_⟩
    have e1:p=q0:=zcj0 (zce5 g1)
    have e2:f=g0:=zcj0 (zce5 g2)
    subst e1 e2
    exact⟨(pr6 0 p f eq0 eg0).1.same (Same.rm s68),(pr6 0 p f eq0 eg0).2⟩
   ·ac_nf
    exact⟨acc,qs,fs,rfl,c05.trans c6,L6.up (by rfl'),na,h6,by rfl',by rfl',fb,pr6⟩
  ·rintro σ H6 ⟨l,ps,fs',rfl,c6,L6,nl,h6,pl',fl',fb',pr6⟩
   refine zb5 (fun p7 H7 f7 s7 h7=>?_)
   ac_nf
   exact q p7 l ps n m fs' H7 (c6.same s7) (L6.same s7) ⟨zf9 (L6.ne f7) h7,zf9 nl (s7 _ _ h6),pl',fun i p f g1 g2=>⟨(pr6 i p f g1 g2).1.same (Same.rm s7),(pr6 i p f g1 g2).2⟩⟩ ⟨⟨by rfl',by rfl'⟩,fl'⟩ fb'
def fxs(a c:Nat)(fs:List Fd):List Fx:=fs.map (toFx a c)
def batT(a c:Nat)(fs:List Fd):Str:=zad1 (zj1 a c (fxs a c fs))
def OkT(a c:Nat)(fs:List Fd):Prop:=∀ r∈zj1 a c (fxs a c fs),OkR r
theorem zaz8{a:Nat}{f:Fd}(ha:a<=10)(hc:c<=10)(h1:f.Ok)(h2:f.Bd a c):OkR (rowX (toFx a c f)):=by
 cases f with
 | more w t=>
  obtain⟨q1,q2,q3⟩:1<=w/\-w<=t/\t<=w:=h1
  have q4:w<=2*10 ^ 28:=h2
  refine⟨by show ("more":Str).length<=10;decide +kernel,by show 2<=200;decide,fun n hn=>?_,by show (reprText "more").length<=100;decide +kernel⟩
  have hn:n∈[w,t]:=hn
  unfold SmI
  simp only[zcf2,zcg2,or_false] at hn
  rcases hn with rfl|rfl<;>omega
 | lead w l=>
  have q1:1<=w:=h1
  obtain⟨q4,q5,q6⟩:w<=2*10 ^ 28/\-(2*10 ^ 29)<=l/\l<=2*10 ^ 29:=h2
  refine⟨by show ("lead":Str).length<=10;decide +kernel,by show 2<=200;decide,fun n hn=>?_,by show (reprText "lead").length<=100;decide +kernel⟩
  have hn:n∈[w,l]:=hn
  unfold SmI
  simp only[zcf2,zcg2,or_false] at hn
  rcases hn with rfl|rfl<;>omega
 | tab g=>
  have q:∀ x y,x<=a->y<=c->-(2*10 ^ 28)<=g x y/\g x y<=2*10 ^ 28:=h2
  refine⟨by show ("table":Str).length<=10;decide +kernel,?_,fun n hn=>?_,by show (reprText "table").length<=100;decide +kernel⟩
  ·show ((List.range (a+1)).map fun x=>(List.range (c+1)).map (g x)).flatten.length<=200
   refine zci0 (zt6 (m:=11) fun r hr=>?_) ?_
   ·obtain⟨x,_,rfl⟩:=zch1.mp hr
    rw[zcd9,zcf8];omega
   ·rw[zcd9,zcf8];omega
  ·have hn:n∈((List.range (a+1)).map fun x=>(List.range (c+1)).map (g x)).flatten:=hn
   obtain⟨r,hr,hn⟩:=zcm0.mp hn
   obtain⟨x,hx,rfl⟩:=zch1.mp hr
   obtain⟨y,hy,rfl⟩:=zch1.mp hn
   have:=q x y (by have:=zcm1.mp hx;omega) (by have:=zcm1.mp hy;omega)
   unfold SmI
   omega
theorem zbo6{a:Nat}{fs:List Fd}(ha:a<=10)(hc:c<=10)(h1:∀ f∈fs,f.Ok)(h2:∀ f∈fs,f.Bd a c):OkT a c fs:=fun r hr=>by
 unfold zj1 fxs at hr
 rcases zcf2.mp hr with rfl|hr
 ·refine⟨by show ("hosts":Str).length<=10;decide +kernel,by show 2<=200;decide,fun n hn=>?_,by show (reprText "hosts").length<=100;decide +kernel⟩
  have hn:n∈[(a:Int),(c:Int)]:=hn
  unfold SmI
  simp only[zcf2,zcg2,or_false] at hn
  rcases hn with rfl|rfl<;>omega
 ·rw[zck4] at hr
  obtain⟨f,hf,rfl⟩:=zch1.mp hr
  exact zaz8 ha hc (h1 f hf) (h2 f hf)
theorem OkT.rev{a:Nat}{fs:List Fd}(h:OkT a c fs):OkT a c fs.reverse:=fun r hr=>h r (by
 unfold zj1 fxs at hr ⊢
 rcases zcf2.mp hr with rfl|hr
 ·exact zcg1
 ·rw[zcn0,zcn0] at hr
  exact zcf5 _ (List.mem_reverse.mp hr))
theorem zo4(a c:Int)(fs:List Fx):(zj1 a c fs).length=fs.length+1:=by unfold zj1;rw[zcf1,zcd9]
@[irreducible] def zd3(zbw0:Addr):Sp:=fun vs H Q E=>∃ b:Addr,vs=[.ref b] /\
 ((∃ (l:Addr) (ps:List Addr) (a c:Nat) (fs:List Fd),zh7 H b l ps a c fs/\OkB a c fs/\OkT a c fs/\∀ H',Same H H'->Q (.str (batT a c fs)) H') ∨
  ∃ k:Int,BadB H b k/\∀ d H',H d=none->Same H H'->H' d=some (.xd [("field",.int k)])->E (.ref zbw0) (some d) H')
theorem zs9{b l:Addr}{a:Nat}{fs:List Fd}(B:zh7 H b l ps a c fs)(O:OkB a c fs)(T:OkT a c fs)(q:∀ H',Same H H'->Q (.str (batT a c fs)) H'):zd3 zbw0 [.ref b] H Q E:=by unfold zd3;exact⟨b,rfl,.inl ⟨l,ps,a,c,fs,B,O,T,q⟩⟩
theorem zv2{b:Addr}{k:Int}(B:BadB H b k)(q:∀ d H',H d=none->Same H H'->H' d=some (.xd [("field",.int k)])->E (.ref zbw0) (some d) H'):zd3 zbw0 [.ref b] H Q E:=by unfold zd3;exact⟨b,rfl,.inr ⟨k,B,q⟩⟩
theorem zae6(F:Fun K "battle_text" "battle_text" zp0 f fd)(N:Nm mg)(zbz9:Def P w K mg base CX0 3 "battle_rows" ["battle"] zg7)(zby0:Def P w K mg base (CXR P w) 6 "look_battle" ["battle"] (zd2 zbw0))(zcb8:Def P w K mg base CX0 2 "text_of" ["rows"] zm4):FnOk P w K mg base (CXR P w) 7 f fd ["battle"] (zd3 zbw0):=by
 refine F.okR zad8 (fun vs H Q E h=>by unfold zd3 at h;obtain⟨_,rfl,_⟩:=h;rfl) (fun cdv A outer s H vs Q E hr hX h=>?_)
 unfold zd3 at h
 obtain⟨b,rfl,h⟩:=h
 refine⟨_,(za3 (zn1 (pD zby0 hr (passR hX) (za0 (pq 0) za1)))
   (za4 (za9 (pD zcb8 hr zc1 (za0 (pD zbz9 hr zc1 (za0 (pq 0) za1)) za1))))),?_⟩
 rcases h with ⟨l,ps,a,c,fs,B,O,T,q⟩|⟨k,B,q⟩
 ·have o2:=O.2
  refine zs8 B O (fun H1 s1=>?_)
  have B1:=toBx (B.same s1) O.1.1 O.1.2
  refine zaf8 B1 (by rw[zcd9];omega) (fun l' ps' H2 f2 s2 R2=>?_)
  refine zbb8 R2 (by rw[zo4,zcd9];omega) T (fun H3 s3=>?_)
  ac_nf
  exact q H3 ((s1.trans s2).trans s3)
 ·ac_nf
  refine zar1 B (fun d H1 f1 s1 h1=>?_)
  exact q d H1 f1 s1 h1
def RgR(r:Rw):Prop:=((r.1="hosts"∨r.1="more"∨r.1="lead")/\r.2.length=2)∨(r.1="table"/\1<=r.2.length)
def WT:List (Str×Int):=[("hosts",2),("more",2),("lead",2),("flow",4),("number",3)]
def hasW(w:Str)(m:Int):Bool:=if w="table" then decide (1<=m) else decide (zai6 WT w=.int m)
theorem zav6:∀ (kvs:List (Str×Int)) (x:Str),(∃ n,zai6 kvs x=.int n)∨zai6 kvs x=.non
 | [],_=>.inr rfl
 | (k,n) :: kvs,x=>by
  have e:zai6 ((k,n) :: kvs) x=if k=x then .int n else zai6 kvs x:=by
   unfold zai6 valV keyV
   rw[zcj4,zcl7]
   by_cases h:k=x
   ·rw[if_pos h,h];simp
   ·rw[if_neg h]
    simp[h]
  rw[e]
  split
  ·exact .inl ⟨n,rfl⟩
  ·exact zav6 kvs x
@[irreducible] def zh5:Sp:=fun vs H Q _=>∃ (w:Str) (m:Int),vs=[.str w,.int m]/\Q (.bl (hasW w m)) H
theorem zaj5{w:Str}{m:Int}(q:Q (.bl (hasW w m)) H):zh5 [.str w,.int m] H Q E:=by unfold zh5;exact⟨w,m,rfl,q⟩
theorem zaj1(F:Fun K "has_wanted" "has_wanted" zq5 f fd)(N:Nm mg)(T_WANTED:TabS w K mg "WANTED" [("hosts",2),("more",2),("lead",2),("flow",4),("number",3)]):FnOk P w K mg base CX0 1 f fd ["word","many"] zh5:=by
 refine F.ok zak7 (fun vs H Q E h=>by unfold zh5 at h;obtain⟨_,_,rfl,_⟩:=h;rfl) fun _ _ _ s H vs Q E hr h=>?_
 unfold zh5 at h
 obtain⟨w,m,rfl,q⟩:=h
 have hu:=hu40 hr
 refine⟨_,(za4 (za9 (peIf (ptC (oEqXK (K:=K) rfl (by exact hu)) (pq 0) zb4) (peC oGe (pq 1) za2) (peC (oEqXK (K:=K) rfl (by exact hu)) (peGetC T_WANTED (pq 0)) (pq 1))))),?_⟩
 refine ze8 (fun h1=>?_) (fun h1=>?_)
 ·unfold hasW at q
  rw[if_pos h1] at q
  ac_nf
  exact q
 ·unfold hasW at q
  rw[if_neg h1] at q
  show zba1 K (zai6 WT w) (.int m) H Q
  rcases zav6 WT w with ⟨n,e⟩|e
  ·rw[e] at q ⊢
   show Q (.bl (decide (n=m))) H
   rw[show decide (n=m)=decide (V.int n=V.int m) by rw[decide_eq_decide];exact⟨fun h=>by rw[h],fun h=>by cases h;rfl⟩]
   exact q
  ·rw[e] at q ⊢
   exact eqS_rd (d:=.none) (e:=.int m) .non (.int m) rfl rfl (by decide) q
def figL:List Nat->List Nat
 | 45 :: r=>r
 | cs=>cs
def numB(cs:List Nat):Bool:=(decide (1<=(figL cs).length)&&decide ((figL cs).length<=2000))&&(figL cs).all (fun c=>decide (48<=c/\c<=57))&&(decide ((figL cs).head?≠some 48) || decide (cs=[48]))
theorem zat6(x:Str):Txt.startswith x "-"=decide (x.cps.toList.head?=some 45):=by
 have h:=StrLaws.subAt_one x 45 0
 rw[zcl6,decide_eq_true_eq,List.head?_eq_getElem?,← h]
 unfold Txt.startswith
 rw[zci7,decide_eq_true_eq]
 exact Iff.rfl
theorem zbb7{cs:List Nat}(h:cs.head?=some 45):figL cs=cs.drop 1:=by
 cases cs with
 | nil=>cases h
 | cons c r=>cases h;rfl
theorem zai0{cs:List Nat}(h:¬ cs.head?=some 45):figL cs=cs:=by
 cases cs with
 | nil=>rfl
 | cons c r=>
  unfold figL
  split
  ·rename_i z;cases z;exact absurd rfl h
  ·rfl
theorem slice1{x:Str}(h:x.cps.toList.head?=some 45):(Txt.slice x (some 1) none).cps.toList=x.cps.toList.drop 1:=by
 have l:1<=x.length:=by
  show 1<=x.cps.size
  rw[← zcf7]
  cases e:x.cps.toList with
  | nil=>rw[e] at h;cases h
  | cons c r=>rw[zcf1];omega
 rw[PyProof.Rows.slice_from_eq (b:=x.length) (by decide) (by rfl') rfl]
 show List.take ((x.length:Int) - 1).toNat (List.drop (1:Int).toNat x.cps.toList)=_
 rw[zci8]
 ·rfl
 ·rw[zcl1,zcf7]
  show x.length - 1<=((x.length:Int) - 1).toNat
  omega
theorem zbq9(c:Nat):hasS "0123456789" ⟨#[c]⟩=decide (48<=c/\c<=57):=by
 unfold hasS
 rw[StrLaws.found_one,decide_eq_decide,show ("0123456789":Str).cps.toList=[48,49,50,51,52,53,54,55,56,57] by decide +kernel]
 simp only[zcf2,zcg2,or_false]
 omega
@[irreducible] def zi9:Sp:=fun vs H Q _=>∃ (x:Str),vs=[.str x]/\x.length<=1000000/\∀ H',Same H H'->Q (.bl (numB x.cps.toList)) H'
theorem zan1{x:Str}(h:x.length<=1000000)(q:∀ H',Same H H'->Q (.bl (numB x.cps.toList)) H'):zi9 [.str x] H Q E:=by unfold zi9;exact⟨x,rfl,h,q⟩
theorem zao3(F:Fun K "is_number" "is_number" zt9 f fd)(N:Nm mg){zcb5:Tok}(c_FIGURES:mg "FIGURES"=some (.str "0123456789" zcb5)){zbz3:Tok}(c_MOST_FIGURES:mg "MOST_FIGURES"=some (.int 2000 zbz3)):FnOk P w K mg base CX0 1 f fd ["word"] zi9:=by
 refine F.ok zz1 (fun vs H Q E h=>by unfold zi9 at h;obtain⟨_,rfl,_⟩:=h;rfl) fun _ _ _ s H vs Q E hr h=>?_
 unfold zi9 at h
 obtain⟨x,rfl,hx,q⟩:=h
 have hu:=hu40 hr
 refine⟨_,(za3 (zbc5 (psS (i:=1) zz1.nd (peIf (ptV (zaf6 (K:=K) rfl (pq 0) (za0 zb4 za1))) (ze6 (slZK (K:=K) rfl) (pq 0) (zk2 za2) zh8) (pq 0))))
   (za3 (zbc5 (psIf (ptW (pwOr (zm3 (zbs9 oLe oLe za2 (pB (zv7 (K:=K) rfl) N.len_ zn3 (za0 (pq 1) za1)) (zf8 (v:=.int 2000) rfl c_MOST_FIGURES ⟨_,rfl⟩))) (zy4 (zm3 (ptV (pB (cAllK (K:=K) rfl rfl) N.all_ zau8 (za0 (zk1 (N:=["sign"]) (ks:=[none]) (piStr (pq 1)) (fun _ _ _ _ _=>(zb0 (i:=0) nb_5 rfl (by eq_refl))) (fun _ _ _ _ _=>zf7) (fun _ _ _ _ _=>(peC (zbo2 (K:=K) rfl (by exact hu)) (pq 0) (zf8 (v:=.str "0123456789") rfl c_FIGURES ⟨_,rfl⟩))) (.skip .nil)) za1))))))) (za4 (za9 zt5)) zb8))
   (za4 (za9 (peOr (peC (oNeXK (K:=K) rfl (by exact hu)) (zb7 (K:=K) rfl (pq 1) za2) zb4) (zv4 (peC (oEqXK (K:=K) rfl (by exact hu)) (pq 0) zb4))))))),?_⟩
 refine zav0 (fun σ J=>∃ y:Str,σ=[some (.str x),some (.str y)]/\J=H/\y.cps.toList=figL x.cps.toList/\y.length<=1000000) ?_ ?_
 ·ac_nf
  rw[zat6]
  refine ze8 (fun h=>?_) (fun h=>?_)
  ·ac_nf
   refine⟨by rw[zcn5];omega,?_⟩
   ac_nf
   exact⟨_,rfl,rfl,by rw[slice1 h,zbb7 h],zci0 (Txt.slice_le _ _ _) hx⟩
  ·ac_nf
   exact⟨x,rfl,rfl,(zai0 h).symm,hx⟩
 rintro σ J ⟨y,rfl,rfl,ey,ly⟩
 have yl:y.length=(figL x.cps.toList).length:=by rw[← ey];exact zcf7.symm
 have fin:∀ b,numB x.cps.toList=b->∀ J',Same J J'->Q (.bl b) J':=fun b e J' sJ=>by rw[← e];exact q J' sJ
 ac_nf
 refine cut_id ?_
 ac_nf
 refine⟨by rw[zcn5];omega,?_⟩
 have bools:∀ n,n=y.cps.size->((List.range n).map fun j=>V.bl (decide (48<=y.cps.toList.getD j 0/\y.cps.toList.getD j 0<=57)))=(y.cps.toList.map fun c=>decide (48<=c/\c<=57)).map V.bl:=fun n hn=>by
  subst hn
  apply zcj2
  intro i
  rw[zce3,zce3,zce3]
  by_cases hi:i<y.cps.toList.length
  ·rw[zci1 (by rwa [zcf7] at hi),zce0 hi]
   show some (V.bl (decide (48<=y.cps.toList.getD i 0/\y.cps.toList.getD i 0<=57)))=_
   rw[zce9,zce0 hi]
   rfl
  ·rw[zcf9 (by rw[zcf8];rw[zcf7] at hi;omega),zcf9 (by rfl')]
   rfl
 refine ze8 (fun h1=>?_) (fun h1=>?_)
 rotate_left
 ·ac_nf
  refine br_T ?_
  refine br_T ?_
  ac_nf
  refine fin false ?_ J (Same.refl _)
  unfold numB
  rw[decide_eq_false (by rfl')]
  rfl
 refine zd4 (ze8 (fun h2=>?_) (fun h2=>?_))
 rotate_left
 ·ac_nf
  refine br_T ?_
  ac_nf
  refine fin false ?_ J (Same.refl _)
  unfold numB
  rw[decide_eq_false (show ¬ (figL x.cps.toList).length<=2000 by rfl'),Bool.and_false]
  rfl
 refine zbn6 ?_
 refine zp8 Wk.str (by rw[zcn5];show y.length<_;omega) (fun j=>.bl (decide (48<=y.cps.toList.getD j 0/\y.cps.toList.getD j 0<=57))) (fun _=>true) (fun j σ=>∃ t:Option V,σ=[t]) ⟨none,rfl⟩ ?_ ?_
 ·rintro j v σ J' R' S' hj sJ ⟨c,ec,rfl⟩ ⟨_,rfl⟩ kk _
  rw[show y.cps.toList.getD j 0=c by rw[zce9,zcg7,ec];rfl,← zbq9] at kk
  refine br_T ?_
  ac_nf
  exact kk rfl _ _ (Same.refl _) ⟨_,rfl⟩
 intro acc J1 g1 s1 k1
 rw[zl4,bools _ rfl,ey] at k1
 refine zaw2 k1 ?_
 rw[List.all_map]
 have ea:(figL x.cps.toList).all (id∘fun c=>decide (48<=c/\c<=57))=(figL x.cps.toList).all (fun c=>decide (48<=c/\c<=57)):=rfl
 rw[ea]
 have n1:decide (1<=(figL x.cps.toList).length)=true:=decide_eq_true (by rfl')
 have n2:decide ((figL x.cps.toList).length<=2000)=true:=decide_eq_true (by rfl')
 cases al:(figL x.cps.toList).all (fun c=>decide (48<=c/\c<=57))
 ·ac_nf
  first|refine zd4 (br_F ?_)|refine br_T ?_
  ac_nf
  refine fin false ?_ J1 s1
  unfold numB
  rw[al,Bool.and_false]
  rfl
 ac_nf
 first|refine zd4 (br_T ?_)|refine br_F ?_
 obtain⟨c,r,ec⟩:∃ c r,figL x.cps.toList=c :: r:=by
  cases e:figL x.cps.toList with
  | nil=>rw[e] at yl;exact absurd yl (by show ¬ y.length=0;omega)
  | cons c r=>exact⟨c,r,rfl⟩
 ac_nf
 refine⟨c,by rw[zcn5];omega,by rw[ey,ec];exact zn0 (j:=0) rfl,?_⟩
 have c0:decide ((⟨#[c]⟩:Str)="0")=decide (c=48):=by
  rw[decide_eq_decide]
  exact⟨fun h=>by have:=congrArg (fun s:Str=>s.cps.toList) h;rw[show ("0":Str).cps.toList=[48] by decide +kernel] at this;simpa using this,fun h=>by rw[h];rfl⟩
 have x0:decide (x="0")=decide (x.cps.toList=[48]):=by
  rw[decide_eq_decide]
  exact⟨fun h=>by rw[h];decide +kernel,fun h=>PyProof.Rows.ext_toList (h.trans (by decide +kernel))⟩
 have fb:numB x.cps.toList=(!decide (c=48) || decide (x.cps.toList=[48])):=by
  unfold numB
  rw[n1,n2,al,ec]
  show (true&&true&&true&&(decide ((some c:Option Nat)≠some 48) || _))=_
  rw[Bool.and_self,Bool.and_self,Bool.true_and]
  congr 1
  by_cases hc:c=48
  ·simp[hc]
  ·simp[hc]
 ac_nf
 rw[c0]
 by_cases hc:c=48
 ·rw[decide_eq_true hc]
  refine zd4 (br_T ?_)
  ac_nf
  rw[x0]
  exact fin _ (by rw[fb,decide_eq_true hc];rfl) J1 s1
 ·rw[decide_eq_false hc]
  refine zd4 (br_F ?_)
  ac_nf
  exact fin true (by rw[fb,decide_eq_false hc];rfl) J1 s1
theorem zbu1{n:Int}(h:SmI n):numB (numS n).cps.toList=true:=by
 have go:∀ (m:Nat) (cs:List Nat),figL cs=(zck2 10 m).map Char.toNat->((zck2 10 m).map Char.toNat).length<=52->(m=0->cs=[48])->numB cs=true:=fun m cs e l z=>by
  have ne:=zbf7 m
  have al:((zck2 10 m).map Char.toNat).all (fun c=>decide (48<=c/\c<=57))=true:=zcj7.mpr fun c hc=>decide_eq_true (zab1 m c hc)
  unfold numB
  rw[e,al,decide_eq_true (show 1<=((zck2 10 m).map Char.toNat).length from List.length_pos_iff.mpr ne),decide_eq_true (show ((zck2 10 m).map Char.toNat).length<=2000 by rfl')]
  show (true&&true&&true&&(_ || _))=true
  rw[Bool.and_self,Bool.and_self,Bool.true_and]
  by_cases hm:m=0
  ·rw[decide_eq_true (z hm),Bool.or_true]
  ·rw[decide_eq_true,Bool.true_or]
   intro hh
   cases ed:(zck2 10 m).map Char.toNat with
   | nil=>exact ne ed
   | cons c r=>
    rw[ed] at hh
    cases hh
    have:=zbl9 ed
    subst this
    have v:=PySem.W.KIN.val_back m
    rw[ed] at v
    exact hm (by rw[← v];rfl)
 have ln:∀ m:Int,(numS m).cps.toList.length=(numS m).length:=fun m=>zcf7
 have l:=zn4 h
 rcases Int.lt_or_le n 0 with hn|hn
 ·obtain⟨m,hm⟩:=zcl8 (show 0<=0 - n by rfl')
  have e:=zai4 hn
  rw[hm,zs0] at e
  have l2:=ln n
  rw[e,zcf1] at l2
  refine go m _ (by rw[e];rfl) (by rfl') (fun z=>by rfl')
 ·obtain⟨m,rfl⟩:=zcl8 hn
  have e:=zs0 m
  have l2:=ln m
  rw[e] at l2
  refine go m _ ?_ (by rfl') (fun z=>by rw[z];decide +kernel)
  rw[e]
  refine zai0 fun z=>?_
  cases ed:(zck2 10 m).map Char.toNat with
  | nil=>rw[ed] at z;cases z
  | cons c r=>
   have:=zab1 m c (by rw[ed];exact zcg1)
   rw[ed] at z
   cases z
   omega
theorem RgR.wanted{r:Rw}(h:RgR r):hasW r.1 (r.2.length:Int)=true:=by
 rcases h with ⟨h1,h2⟩|⟨h1,h2⟩
 ·rcases h1 with h1|h1|h1<;>rw[h1,h2]<;>decide +kernel
 ·rw[h1]
  unfold hasW
  rw[if_pos rfl]
  exact decide_eq_true (by rfl')
theorem RgR.free{r:Rw}(h:RgR r)(hc:c=32∨c=10):c ∉ r.1.cps.toList:=by
 rcases h with ⟨h1,_⟩|⟨h1,_⟩
 ·rcases h1 with h1|h1|h1<;>rw[h1]
  ·rw[show ("hosts":Str).cps.toList=[104,111,115,116,115] by decide +kernel]
   simp only[zcf2,zcg2,or_false]
   omega
  ·rw[show ("more":Str).cps.toList=[109,111,114,101] by decide +kernel]
   simp only[zcf2,zcg2,or_false]
   omega
  ·rw[show ("lead":Str).cps.toList=[108,101,97,100] by decide +kernel]
   simp only[zcf2,zcg2,or_false]
   omega
 ·rw[h1,show ("table":Str).cps.toList=[116,97,98,108,101] by decide +kernel]
  simp only[zcf2,zcg2,or_false]
  omega
theorem zag6{r:Rw}(h:RgR r)(hc:c=32∨c=10):∀ w∈r.1 :: r.2.map numS,c ∉ w.cps.toList:=fun w hw=>by
 rcases zcf2.mp hw with rfl|hw
 ·exact h.free hc
 ·obtain⟨n,_,rfl⟩:=zch1.mp hw
  exact zbg9 (by rfl')
theorem zaq4{r:Rw}(h:RgR r):Txt.split (zc5 r) " "=r.1 :: r.2.map numS:=zah2 (c:=32) (by simp) (zag6 h (.inl rfl))
theorem zay8{r:Rw}(h:RgR r):10 ∉ (zc5 r).cps.toList:=fun z=>by
 unfold zc5 at z
 rw[show Txt.join zu4 (r.1 :: r.2.map numS)=zu4.join _ from StrLaws.glued_eq_join _ _,PyProof.Rows.mem_join] at z
 rcases z with ⟨t,ht,hc⟩|⟨_,hc⟩
 ·exact zag6 h (.inr rfl) t ht hc
 ·rw[show zu4.cps.toList=[32] from rfl] at hc
  simp at hc
@[irreducible] def zl1:Sp:=fun vs H Q _=>∃ (r:Rw),vs=[.str (zc5 r)]/\RgR r/\OkR r/\∀ p H',H p=none->Same H H'->RwT H' p r->Q (.ref p) H'
theorem zar5{r:Rw}(h1:RgR r)(h2:OkR r)(q:∀ p H',H p=none->Same H H'->RwT H' p r->Q (.ref p) H'):zl1 [.str (zc5 r)] H Q E:=by unfold zl1;exact⟨r,rfl,h1,h2,q⟩
theorem zy1{α:Type}{f:α->V}{xs:List α}{d:α}{n:Nat}(hn:n=xs.length):((List.range n).map fun j=>f (xs.getD j d))=xs.map f:=by
 subst hn
 apply zcj2
 intro i
 rw[zce3,zce3]
 by_cases hi:i<xs.length
 ·rw[zci1 hi,zce0 hi]
  show some (f (xs.getD i d))=_
  rw[zce9,zce0 hi]
  rfl
 ·rw[zcf9 (by simpa using hi),zcf9 (by rfl')]
  rfl
theorem zaq6(F:Fun K "read_row" "read_row" zw2 f fd)(N:Nm mg)(zca3:Def P w K mg base CX0 1 "has_wanted" ["word","many"] zh5)(zca7:Def P w K mg base CX0 1 "is_number" ["word"] zi9):FnOk P w K mg base CX0 2 f fd ["piece"] zl1:=by
 refine F.ok zad3 (fun vs H Q E h=>by unfold zl1 at h;obtain⟨_,rfl,_⟩:=h;rfl) fun _ _ _ s H vs Q E hr h=>?_
 unfold zl1 at h
 obtain⟨r,rfl,hg,o,q⟩:=h
 have hu:=hu40 hr
 have o2:=o.l
 have ln:=zm7 o
 have wl:=zv9 o
 refine⟨_,(za3 (psS (i:=1) zad3.nd (zam3 (K:=K) rfl (pq 0) (za0 zb4 za1)))
   (za3 (psIf (ptW (pwOr (zm3 (ptV (pD zca3 hr zc1 (za0 (zb7 (K:=K) rfl (pq 1) za2) (za0 (za8 oSub (pB (zv7 (K:=K) rfl) N.len_ zn3 (za0 (pq 1) za1)) za2) za1))))) (zy4 (zm3 (ptV (pB (cAllK (K:=K) rfl rfl) N.all_ zau8 (za0 (zk1 (N:=["word"]) (ks:=[none]) (zf5 (K:=K) rfl (ze6 (slZK (K:=K) rfl) (pq 1) (zk2 za2) zh8)) (fun _ _ _ _ _=>(zb0 (i:=0) nb_6 rfl (by eq_refl))) (fun _ _ _ _ _=>zf7) (fun _ _ _ _ _=>(pD zca7 hr zc1 (za0 (pq 0) za1))) (.skip .nil)) za1))))))) (za4 (za9 zy6)) zb8)
   (za4 (za9 (pT (cTupK (K:=K) rfl) N.tuple_ zr6 (za0 (za8 oAdd (ze5 (za0 (zb7 (K:=K) rfl (pq 1) za2) za1)) (zk1 (N:=["word"]) (ks:=[none]) (zf5 (K:=K) rfl (ze6 (slZK (K:=K) rfl) (pq 1) (zk2 za2) zh8)) (fun _ _ _ _ _=>(zb0 (i:=0) nb_6 rfl (by eq_refl))) (fun _ _ _ _ _=>zf7) (fun _ _ _ _ _=>(pT cIntT N.int_ zan7 (za0 (pq 0) za1))) (.skip .nil))) za1)))))),?_⟩
 refine zav8 (by decide +kernel) (by rw[zcn5];omega) (fun l H1 g1 s1 k1=>?_)
 rw[zaq4 hg] at k1
 refine zp5 (v:=.str r.1) k1 (zn0 (j:=0) rfl) ?_
 refine zm9 k1 ?_
 rw[zcd9,zcf1,zcd9]
 refine zaj5 ?_
 rw[show ((r.2.length+1:Nat):Int) - 1=(r.2.length:Int) by rfl',hg.wanted]
 refine zd4 (br_T ?_)
 refine zan5 (SqL.of k1) (fun l2 H2 g2 s2 k2=>?_)
 rw[zr7 (by decide)] at k2
 have k2:H2 l2=some (.lst ((r.2.map numS).map V.str)):=k2
 refine zc7 k2 ?_
 refine zp8 (n:=((r.2.map numS).map V.str).length) (Wk.list (SqL.of k2)) (by rw[zcd9,zcd9,zcn5];omega) (fun _=>.bl true) (fun _=>true) (fun j σ=>∃ t:Option V,σ=[t]) ⟨none,rfl⟩ ?_ ?_
 ·rintro j v σ J' R' S' hj sJ hx ⟨_,rfl⟩ kk _
  rw[zce3,zce3] at hx
  obtain⟨n,en,rfl⟩:=zce7.mp (by rw[Option.map_map] at hx;exact hx)
  have sm:=o.n n (zce5 en)
  refine br_T ?_
  refine zan1 (by have:=zn4 sm;omega) (fun J1 t1=>?_)
  rw[zbu1 sm]
  ac_nf
  exact kk rfl _ _ t1 ⟨_,rfl⟩
 intro acc H3 g3 s3 k3
 have eb:∀ n,((List.range n).map fun _=>V.bl true)=((List.range n).map fun _=>true).map V.bl:=fun n=>by rw[zck4];rfl
 rw[zl4,eb] at k3
 refine zaw2 k3 ?_
 rw[show (((List.range ((r.2.map numS).map V.str).length).map fun _=>true).all id)=true by rw[zcj7];intro b hb;obtain⟨_,_,rfl⟩:=zch1.mp hb;rfl]
 ac_nf
 first|refine zd4 (br_T ?_)|refine br_F ?_
 have s13:=s2.trans s3
 refine zp5 (v:=.str r.1) (s13 _ _ k1) (zn0 (j:=0) rfl) ?_
 refine zb6 (fun l4 H4 g4 s4 k4=>?_)
 refine zan5 (SqL.of ((s13.trans s4) _ _ k1)) (fun l5 H5 g5 s5 k5=>?_)
 rw[zr7 (by decide)] at k5
 have k5:H5 l5=some (.lst ((r.2.map numS).map V.str)):=k5
 refine zc7 k5 ?_
 refine zp8 (n:=((r.2.map numS).map V.str).length) (Wk.list (SqL.of k5)) (by rw[zcd9,zcd9,zcn5];omega) (fun j=>.int (r.2.getD j 0)) (fun _=>true) (fun j σ=>∃ t:Option V,σ=[t]) ⟨none,rfl⟩ ?_ ?_
 ·rintro j v σ J' R' S' hj sJ hx ⟨_,rfl⟩ kk _
  rw[zce3,zce3] at hx
  obtain⟨n,en,rfl⟩:=zce7.mp (by rw[Option.map_map] at hx;exact hx)
  have sm:=o.n n (zce5 en)
  rw[show r.2.getD j 0=n by rw[zce9,en];rfl] at kk
  have nl:=zn4 sm
  refine br_T ?_
  refine zbr3 (zba7 (n:=n) (by rfl')) (show (numS n).length<=640 by rfl') ?_
  ac_nf
  exact kk rfl _ _ (Same.refl _) ⟨_,rfl⟩
 intro acc2 H6 g6 s6 k6
 rw[zl4,zy1 (f:=V.int) (xs:=r.2) (d:=0) (by rw[zcd9,zcd9])] at k6
 refine zg9 ((s5.trans s6) _ _ k4) k6 (by rw[zcd9,zcn5,zcf4];omega) (fun l7 H7 g7 s7 k7=>?_)
 refine zbh7 (SqL.of k7) (fun p H8 g8 s8 k8=>?_)
 ac_nf
 have s07:=((((s1.trans s13).trans s4).trans s5).trans s6).trans s7
 exact q p H8 (s07.free g8) (s07.trans s8) k8
def AhV(H:Hp)(v:V):Option Rw->Prop
 | none=>v=.non
 | some r=>∃ p,v=.ref p/\RwT H p r/\RgR r
theorem AhV.same{v:V}{a:Option Rw}(h:AhV H v a)(s:Same H H'):AhV H' v a:=by
 cases a with
 | none=>exact h
 | some r=>obtain⟨p,e,h1,h2⟩:=h;exact⟨p,e,s _ _ h1,h2⟩
def sbB:Option Rw->Rw->Bool
 | none,r=>decide (r.1="hosts")
 | some _,r=>inV (.str r.1) [.str "more",.str "lead",.str "table"]
@[irreducible] def zc4:Sp:=fun vs H Q _=>∃ (v:V) (p:Addr) (a:Option Rw) (r:Rw),vs=[v,.ref p]/\AhV H v a/\RwT H p r/\∀ H',Same H H'->Q (.bl (sbB a r)) H'
theorem zaz1{v:V}{p:Addr}{a:Option Rw}{r:Rw}(h1:AhV H v a)(h2:RwT H p r)(h3:RgR r)(q:∀ H',Same H H'->Q (.bl (sbB a r)) H'):zc4 [v,.ref p] H Q E:=by unfold zc4;exact⟨v,p,a,r,rfl,h1,h2,q⟩
theorem zu0(F:Fun K "stands_in_battle" "stands_in_battle" zj6 f fd)(N:Nm mg)(T_FIELD_WORDS:TupC K mg "FIELD_WORDS" [.str "more",.str "lead",.str "table"]):FnOk P w K mg base CX0 1 f fd ["ahead","row"] zc4:=by
 refine F.ok zu2 (fun vs H Q E h=>by unfold zc4 at h;obtain⟨_,_,_,_,rfl,_⟩:=h;rfl) fun _ _ _ s H vs Q E hr h=>?_
 unfold zc4 at h
 obtain⟨v,p,a,r,rfl,h1,h2,q⟩:=h
 have hu:=hu40 hr
 refine⟨_,(za4 (za9 (peIf (ptC oIsX (pq 0) zy6) (peC (oEqXK (K:=K) rfl (by exact hu)) (zb7 (K:=K) rfl (pq 1) za2) zb4) (peC (zbo2 (K:=K) rfl (by exact hu)) (zb7 (K:=K) rfl (pq 1) za2) (peTupC (K:=K) rfl T_FIELD_WORDS))))),?_⟩
 cases a with
 | none=>
  cases (show v=.non from h1)
  ac_nf
  first|refine br_T ?_|refine zq2 rfl ?_
  refine zb2 (v:=.str r.1) h2 (zn0 (j:=0) rfl) ?_
  ac_nf
  exact q H (Same.refl _)
 | some b=>
  obtain⟨pa,rfl,g1,g2⟩:=h1
  ac_nf
  first|refine br_F ?_|refine zp9 (fun z=>by cases z) ?_
  refine zb2 (v:=.str r.1) h2 (zn0 (j:=0) rfl) ?_
  ac_nf
  intro ta hta
  refine inT_rd (hta _) rfl rfl ?_
  exact q H (Same.refl _)
theorem zq0.ext{l:Addr}{qs:List Addr}{rs us:List Rw}(h:H l=some (.lst (ps.map V.ref++qs.map V.ref)))(l1:ps.length=rs.length)(l2:qs.length=us.length)(r1:∀ (i:Nat) p r,ps[i]?=some p->rs[i]?=some r->RwT H p r)(r2:∀ (i:Nat) p r,qs[i]?=some p->us[i]?=some r->RwT H p r):zq0 H l (ps++qs) (rs++us):=by
 refine⟨by rw[h,zch0],by rw[zce6,zce6,l1,l2],fun i p r e1 e2=>?_⟩
 by_cases hi:i<ps.length
 ·rw[zcg9 hi] at e1
  rw[zcg9 (by rfl')] at e2
  exact r1 i p r e1 e2
 ·rw[zch2 (by rfl')] at e1
  rw[zch2 (by rfl'),← l1] at e2
  exact r2 _ p r e1 e2
def zbh5(rs:List Rw)(i:Nat):Option Rw:=if i=0 then none else rs[i - 1]?
structure OkRs(rs:List Rw):Prop where
 l:rs.length<=400
 g:∀ r∈rs,RgR r
 o:∀ r∈rs,OkR r
 s:∀ (i:Nat) r,rs[i]?=some r->sbB (zbh5 rs i) r=true
theorem zbe8{rs:List Rw}(h:OkRs rs):(zad1 rs).length<=10000000:=by
 have h1:=zag8 ⟨#[]⟩ (rs.map fun r=>zc5 r++zi1)
 have h2:=zw0 (xs:=rs.map fun r=>zc5 r++zi1) (m:=20001) fun x hx=>by
  obtain⟨r,hr,rfl⟩:=zch1.mp hx
  have:=zm7 (h.o r hr)
  have e:=congrArg List.length (PySem.W.KT.app_list (zc5 r) zi1)
  rw[zce6,zcf7,zcf7,zcf7] at e
  show (zc5 r++zi1).cps.size<=20001
  have e1:zi1.cps.size=1:=rfl
  have e2:(zc5 r).cps.size<=20000:=this
  omega
 have l:=h.l
 rw[zcd9] at h1 h2
 unfold zad1
 have e0:(⟨#[]⟩:Str).length=0:=rfl
 rw[e0] at h1
 omega
theorem zas6{rs:List Rw}(h:OkRs rs):Txt.split (zad1 rs) "\n"=rs.map zc5++[⟨#[]⟩]:=by
 have e:zad1 rs=Txt.join ⟨#[]⟩ ((rs.map zc5).map fun x=>x++(⟨#[10]⟩:Str)):=by
  unfold zad1
  rw[zck4]
  rfl
 rw[e]
 exact zbb2 (c:=10) fun w hw=>by
  obtain⟨r,hr,rfl⟩:=zch1.mp hw
  exact zay8 (h.g r hr)
@[irreducible] def zi7(mg:Str->Option Value):Sp:=fun vs H Q _=>∃ (v:V) (rs:List Rw),vs=[.str (zad1 rs),v]/\isFn mg "stands_in_battle" v/\OkRs rs/\∀ l ps H',H l=none->Same H H'->zq0 H' l ps rs->Q (.ref l) H'
theorem zal2{mg:Str->Option Value}{v:V}{rs:List Rw}(h:isFn mg "stands_in_battle" v)(o:OkRs rs)(q:∀ l ps H',H l=none->Same H H'->zq0 H' l ps rs->Q (.ref l) H'):zi7 mg [.str (zad1 rs),v] H Q E:=by unfold zi7;exact⟨v,rs,rfl,h,o,q⟩
theorem zq0.snoc{l p:Addr}{rs:List Rw}{r:Rw}(R:zq0 H l ps rs)(c:Chg l H H')(h:H' l=some (.lst (ps.map V.ref++[.ref p])))(hp:RwT H' p r):zq0 H' l (ps++[p]) (rs++[r]):=by
 refine zq0.ext (qs:=[p]) (us:=[r]) (by rw[h];rfl) R.len rfl (fun i p' r' e1 e2=>?_) (fun i p' r' e1 e2=>?_)
 ·have:=R.row i p' r' e1 e2
  refine c _ _ (fun z=>?_) this
  unfold RwT at this
  rw[z,R.out] at this
  cases this
 ·cases i with
  | zero=>cases e1;cases e2;exact hp
  | succ i=>simp at e1
theorem zap9(F:Fun K "read_rows" "read_rows" zt4 f fd)(N:Nm mg)(zcb6:Def P w K mg base CX0 2 "read_row" ["piece"] zl1)(zbw9:Def P w K mg base CX0 1 "stands_in_battle" ["ahead","row"] zc4)(Z:Cz K mg base zbw2 zbw0 zbx0 zbx6 zbw3 zbx1 zbw6 zbw4 zbw5 zbx2 zbx3 zbx7 zbx4 zbw7 zbw8):FnOk P w K mg base CX0 3 f fd ["text","stands"] (zi7 mg):=by
 refine F.ok zf4 (fun vs H Q E h=>by unfold zi7 at h;obtain⟨_,_,rfl,_⟩:=h;rfl) fun _ _ _ s H vs Q E hr h=>?_
 unfold zi7 at h
 obtain⟨v,rs,rfl,hf,o,q⟩:=h
 have hu:=hu40 hr
 have ol:=o.l
 have tl:=zbe8 o
 refine⟨_,(za3 (psS (i:=2) zf4.nd (zam3 (K:=K) rfl (pq 0) (za0 zb4 za1)))
   (za3 (psS (i:=3) zf4.nd (ze5 za1))
   (za3 (psS (i:=4) zf4.nd zy6)
   (za3 (zt2 PassesOwn.never rfl (zbk1 (K:=K) rfl N.enumerate_ (za0 (ze6 (slZK (K:=K) rfl) (pq 2) zh8 (zk2 (zx1 uNeg za2))) za1)) (zad5 (K:=K) (n:=2) rfl rfl (zg8 (zb0 (i:=5) zf4.nd rfl (by eq_refl)) (zg8 (zb0 (i:=6) zf4.nd rfl (by eq_refl)) zac3))) (za3 (psS (i:=7) zf4.nd (pD zcb6 hr zc1 (za0 (pq 6) za1)))
   (za3 (psIf (ptW (pwOr (ptC oIsX (pq 7) zy6) (zy4 (zm3 (ptV (pDL (i:=1) zbw9 hr zc1 (za0 (pq 4) (za0 (pq 7) za1)))))))) (za4 zaj9) zb8)
   (za3 (zn1 (zo3 (pq 3) (za0 (pq 7) za1)))
   (za4 (psS (i:=4) zf4.nd (pq 7)))))))
   (za3 (psIf (ptC (oNeXK (K:=K) rfl (by exact hu)) (zb7 (K:=K) rfl (pq 2) (zx1 uNeg za2)) zb4) (za4 zaj9) zb8)
   (za4 (za9 (pq 3)))))))),?_⟩
 refine zav8 (by decide +kernel) (by rw[zcn5];omega) (fun pc H1 g1 s1 k1=>?_)
 rw[zas6 o] at k1
 have k1:H1 pc=some (.lst ((rs.map zc5).map V.str++[.str ⟨#[]⟩])):=by rw[k1,zch0];rfl
 refine zb6 (fun l H2 g2 s2 k2=>?_)
 have s02:=s1.trans s2
 have fl:H l=none:=s1.free g2
 refine zan5 (SqL.of (s2 _ _ k1)) (fun pi H3 g3 s3 k3=>?_)
 rw[zbn3,zce6,zcd9,zcd9,zcf4,Nat.add_sub_cancel,List.take_left' (by rw[zcd9,zcd9])] at k3
 have npl:pi≠l:=Ne.symm (za6 k2 g3)
 have ncl:pc≠l:=za6 k1 g2
 refine zat2 k3 ?_
 refine zaa2 (xs:=(rs.map zc5).map V.str) (fun i σ I=>∃ (va:V) (y5 y6 y7:Option V) (ps:List Addr),σ=[some (.str (zad1 rs)),some v,some (.ref pc),some (.ref l),some va,y5,y6,y7]/\Same H I/\I pc=some (.lst ((rs.map zc5).map V.str++[.str ⟨#[]⟩]))/\I pi=some (.lst ((rs.map zc5).map V.str))/\zq0 I l ps (rs.take i)/\AhV I va (zbh5 rs i)) ?_ ?_ ?_ ?_
 ·exact⟨_,_,_,_,[],rfl,s02.trans s3,(s2.trans s3) _ _ k1,k3,⟨s3 _ _ k2,rfl,fun i p r e=>by simp at e⟩,rfl⟩
 ·rintro i σ I _ ⟨_,_,_,_,_,_,_,_,h,_⟩
  exact SqL.of h
 ·rintro i y σ I e I' hy ⟨va,y5,y6,y7,ps,rfl,sI,hpc,hpi,R,Ah⟩ fe sE he
  rw[zce3,zce3] at hy
  obtain⟨r,er,rfl⟩:=zce7.mp (by rw[Option.map_map] at hy;exact hy)
  have hr':=zce5 er
  have hi:=(zce2.mp er).1
  have pl:=R.len
  rw[zck7] at pl
  refine zq3 he ?_
  refine zar5 (o.g r hr') (o.o r hr') (fun p J1 f1 t1 h1=>?_)
  have sJ:=sE.trans t1
  ac_nf
  first|refine br_F ?_|refine zp9 (fun z=>by cases z) ?_
  ac_nf
  refine⟨hf,?_⟩
  refine zaz1 (Ah.same sJ) h1 (o.g r hr') (fun J2 t2=>?_)
  rw[o.s i r er]
  have sJ2:=sJ.trans t2
  have nlp:p≠l:=Ne.symm (za6 (sE _ _ R.out) f1)
  ac_nf
  first|refine zd4 (br_T ?_)|refine br_F ?_
  refine zt0 (sJ2 _ _ R.out) ?_
  refine zam1 (sJ2 _ _ R.out) (by rw[zcd9,zcn5];omega) (fun J3 c3 k4=>?_)
  have hp3:RwT J3 p r:=c3 _ _ nlp (t2 _ _ h1)
  ac_nf
  refine⟨.ref p,_,_,_,ps++[p],rfl,fun b o z=>c3 _ _ (za6 z fl) ((sI.trans sJ2) _ _ z),c3 _ _ ncl (sJ2 _ _ hpc),c3 _ _ npl (sJ2 _ _ hpi),?_,?_⟩
  ·rw[List.take_succ,er]
   exact (R.same sJ2).snoc c3 k4 hp3
  ·unfold zbh5
   rw[if_neg (by rfl'),Nat.add_sub_cancel,er]
   exact⟨p,rfl,hp3,o.g r hr'⟩
 ·rintro σ I ⟨va,y5,y6,y7,ps,rfl,sI,hpc,hpi,R,Ah⟩
  rw[zcd9,zcd9,List.take_length] at R
  refine zp5 (v:=.str ⟨#[]⟩) hpc (zbs0 (n:=rs.length) (by rw[zce6,zcd9,zcd9];rfl) (by rw[zch2 (by rw[zcd9,zcd9];omega),zcd9,zcd9,Nat.sub_self];rfl)) ?_
  ac_nf
  first|refine br_F ?_|refine zd4 (zq2 (by decide +kernel) ?_)|refine zd4 (br_T ?_)
  ac_nf
  exact q l ps I fl sI R
theorem zbv5{K:zce1}{a:Addr}{xs:List V}(h:H a=some (.tup xs))(h2:2<=xs.length)(q:∀ p H',H p=none->Same H H'->H' p=some (.tup (xs.drop 1))->Q (.ref p) H'):rSlX K a (some 1) none H Q:=by
 unfold rSlX
 refine .inr ⟨xs,SqT.of h,fun z=>?_,?_⟩
 ·have e:HT.sIx xs.length 0 (some ((1:Nat):Int))=min 1 xs.length:=HT.sIx_nat _ _ _
  have z1:HT.sIx xs.length 0 (some ((1:Nat):Int))=0:=z.1
  rw[e] at z1
  omega
 ·rw[zr7 (by decide)];exact q
theorem zap8{m:Nat}:∀ {rows:List (List Int)}(i:Nat),(∀ r∈rows,r.length=m)->rows.flatten.drop (i*m)=(rows.drop i).flatten
 | rows,0,_=>by simp
 | [],i+1,_=>by simp
 | r :: rows,i+1,h=>by
  have h1:=h r zcg1
  rw[zci2,zcn2,Nat.add_comm,List.drop_append,List.drop_of_length_le (by rfl'),List.nil_append,show m+i*m - r.length=i*m by rfl',zap8 i fun x hx=>h x (zcf5 _ hx),List.drop_succ_cons]
theorem zq9{m:Nat}:∀ {rows:List (List Int)},(∀ r∈rows,r.length=m)->rows.flatten.length=rows.length*m
 | [],_=>by simp
 | r :: rows,h=>by
  have h1:=h r zcg1
  have h2:=zq9 (m:=m) (rows:=rows) fun x hx=>h x (zcf5 _ hx)
  rw[zci2,zce6,zcf1,zcn2]
  omega
theorem zbl4{rows:List (List Int)}{r:List Int}(h:∀ r∈rows,r.length=m)(e:rows[i]?=some r):cutV (rows.flatten.map V.int) (some ((i*m:Nat):Int)) (some (((i+1)*m:Nat):Int))=r.map V.int:=by
 have hi:=(zce2.mp e).1
 have l:=zq9 h
 have l1:(i+1)*m<=rows.length*m:=Nat.mul_le_mul_right m hi
 have l2:(i+1)*m=i*m+m:=zcn2 i m
 have rm:=h r (zce5 e)
 unfold cutV
 rw[HT.sIx_nat,HT.sIx_nat,zcd9,l,Nat.min_eq_left (by rfl'),Nat.min_eq_left (by rfl'),show (i+1)*m - i*m=m by rfl',← List.map_drop,← List.map_take,zap8 i h]
 congr 1
 rw[List.drop_eq_getElem_cons hi,(zce2.mp e).2,zci2,List.take_append_of_le_length (by rfl'),zci8 (by rfl')]
@[irreducible] def zg5:Sp:=fun vs H Q _=>∃ (l:Addr) (m:Nat) (rows:List (List Int)),vs=[.int (rows.length:Nat),.int m,.ref l]/\H l=some (.lst (rows.flatten.map V.int))/\(∀ r∈rows,r.length=m)/\rows.length<=100/\m<=100/\∀ t ts H',zy5 H H' t ts rows.length (fun j=>.lst ((rows.getD j []).map V.int))->Q (.ref t) H'
theorem zae7{l:Addr}{rows:List (List Int)}(h:H l=some (.lst (rows.flatten.map V.int)))(h1:∀ r∈rows,r.length=m)(h2:rows.length<=100)(h3:m<=100)(k:∀ t ts H',zy5 H H' t ts rows.length (fun j=>.lst ((rows.getD j []).map V.int))->Q (.ref t) H'):zg5 [.int (rows.length:Nat),.int m,.ref l] H Q E:=by
 unfold zg5;exact⟨l,m,rows,rfl,h,h1,h2,h3,k⟩
theorem zad9(F:Fun K "rows_parted" "rows_parted" zp2 f fd)(N:Nm mg):FnOk P w K mg base CX0 1 f fd ["many_rows","many_numbers","numbers"] zg5:=by
 refine F.ok zaf2 (fun vs H Q E h=>by unfold zg5 at h;obtain⟨_,_,_,rfl,_⟩:=h;rfl) fun _ _ _ s H vs Q E hr h=>?_
 unfold zg5 at h
 obtain⟨l,m,rows,rfl,h,h1,h2,h3,k⟩:=h
 have hu:=hu40 hr
 have fl:=zq9 h1
 refine⟨_,(za3 (psIf (ptC (oNeK (K:=K) rfl (by exact hu)) (pB (zv7 (K:=K) rfl) N.len_ zn3 (za0 (pq 2) za1)) (za8 oMul (pq 0) (pq 1))) (za4 (za9 zy6)) zb8)
   (za4 (za9 (zk1 (N:=["row","numbers","many_numbers"]) (ks:=[none,some 2,some 1]) (zah6 N.range_ (za0 (pq 0) za1)) (fun _ _ _ _ _=>(zb0 (i:=0) nb_7 rfl (by eq_refl))) (fun _ _ _ _ _=>zf7) (fun _ _ _ _ _=>(ze6 (slZK (K:=K) rfl) (pq 1) (zk2 (za8 oMul (pq 0) (pq 2))) (zk2 (za8 oMul (za8 oAdd (pq 0) za2) (pq 2))))) (.skip (.take rfl rfl (by eq_refl) (.take rfl rfl (by eq_refl) .nil))))))),?_⟩
 refine zm9 h ?_
 refine zab4 (by rfl') (by rfl') ?_
 ac_nf
 rw[zcd9,fl]
 refine zd4 (zq2 (by rw[Int.natCast_mul]) ?_)
 refine zs1 (by decide) (by decide) (by rfl') (by rfl') ?_
 rw[show ((rows.length:Int) - 0).toNat=rows.length by rfl']
 refine zbd8 (n:=rows.length) Wk.range (by rw[zcn5];omega) (fun j=>.lst ((rows.getD j []).map V.int)) (fun j σ=>∃ t:Option V,σ=[t,some (.ref l),some (.int m)]) ⟨none,rfl⟩ ?_ ?_
 ·rintro i x σ J R' S' hi sJ rfl ⟨_,rfl⟩ kk
  obtain⟨r,er⟩:∃ r,rows[i]?=some r:=⟨_,zce0 hi⟩
  rw[show rows.getD i []=r by rw[zce9,er];rfl] at kk
  refine br_T ?_
  refine zab4 (by rfl') (by rfl') ?_
  refine zab4 (by rfl') (by rfl') ?_
  refine zan5 (SqL.of (sJ _ _ h)) (fun p I f1 s1 k1=>?_)
  rw[show (0+(i:Int))*(m:Int)=((i*m:Nat):Int) by rw[Int.natCast_mul,Int.zero_add],show (0+(i:Int)+1)*(m:Int)=(((i+1)*m:Nat):Int) by rw[Int.natCast_mul,Int.natCast_add,Int.zero_add];rfl,zbl4 h1 er] at k1
  ac_nf
  exact kk _ p I f1 s1 k1 ⟨_,rfl⟩
 intro t ts J FL
 ac_nf
 exact k t ts J FL
@[irreducible] def zk9:Sp:=fun vs H Q _=>∃ (p:Addr) (a c:Nat) (f:Fd),vs=[.int a,.int c,.ref p]/\RwT H p (rowX (toFx a c f))/\a<=10/\c<=10/\∀ p' B H',Same H H'->(∀ z ys,H z=some (.lst ys)->FdAt (rm z H') p' a c f/\MkV (rm z H') 3 (.ref p') B)->B.Nodup->(∀ x∈B,H x=none)->Q (.ref p') H'
theorem zat7{p:Addr}{a:Nat}{f:Fd}(h:RwT H p (rowX (toFx a c f)))(ha:a<=10)(hc:c<=10)(k:∀ p' B H',Same H H'->(∀ z ys,H z=some (.lst ys)->FdAt (rm z H') p' a c f/\MkV (rm z H') 3 (.ref p') B)->B.Nodup->(∀ x∈B,H x=none)->Q (.ref p') H'):zk9 [.int a,.int c,.ref p] H Q E:=by
 unfold zk9;exact⟨p,a,c,f,rfl,h,ha,hc,k⟩
theorem zas9(F:Fun K "field_of" "field_of" zw8 f fd)(N:Nm mg)(zca0:Def P w K mg base CX0 1 "rows_parted" ["many_rows","many_numbers","numbers"] zg5):FnOk P w K mg base CX0 2 f fd ["first","second","row"] zk9:=by
 refine F.ok zaq7 (fun vs H Q E h=>by unfold zk9 at h;obtain⟨_,_,_,_,rfl,_⟩:=h;rfl) fun _ _ _ s H vs Q E hr h=>?_
 unfold zk9 at h
 obtain⟨p,a,c,f,rfl,h,ha,hc,k⟩:=h
 have hu:=hu40 hr
 refine⟨_,(za3 (psIf (ptC (oNeK (K:=K) rfl (by exact hu)) (zb7 (K:=K) rfl (pq 2) za2) zb4) (za4 (za9 (pq 2))) zb8)
   (za4 (za9 (zg1 (za0 zb4 (za0 (pD zca0 hr zc1 (za0 (za8 oAdd (pq 0) za2) (za0 (za8 oAdd (pq 1) za2) (za0 (pT (zab9 (K:=K) rfl) N.list_ zk6 (za0 (ze6 (slZK (K:=K) rfl) (pq 2) (zk2 za2) zh8) za1)) za1)))) za1)))))),?_⟩
 cases f with
 | more w t=>
  have h:H p=some (.tup [.str "more",.int w,.int t]):=h
  refine zb2 (v:=.str "more") h rfl ?_
  refine zd4 (zp9 (by decide) ?_)
  ac_nf
  refine k p [] H (Same.refl _) (fun z ys hz=>?_) zcm2 (fun x hx=>by cases hx)
  have hz':rm z H p=some (.tup [.str "more",.int w,.int t]):=zf9 (fun e=>by rw[e,hz] at h;cases h) h
  exact⟨hz',MkV.flats hz' (by simp) (fun x hx=>by simp only[zcf2,zcg2,or_false] at hx;rcases hx with rfl|rfl|rfl<;>exact⟨rfl,by first|rfl|decide⟩)⟩
 | lead w t=>
  have h:H p=some (.tup [.str "lead",.int w,.int t]):=h
  refine zb2 (v:=.str "lead") h rfl ?_
  refine zd4 (zp9 (by decide) ?_)
  ac_nf
  refine k p [] H (Same.refl _) (fun z ys hz=>?_) zcm2 (fun x hx=>by cases hx)
  have hz':rm z H p=some (.tup [.str "lead",.int w,.int t]):=zf9 (fun e=>by rw[e,hz] at h;cases h) h
  exact⟨hz',MkV.flats hz' (by simp) (fun x hx=>by simp only[zcf2,zcg2,or_false] at hx;rcases hx with rfl|rfl|rfl<;>exact⟨rfl,by first|rfl|decide⟩)⟩
 | tab g=>
  obtain⟨rows,erows⟩:∃ rows,rows=(List.range (a+1)).map fun x=>(List.range (c+1)).map (g x):=⟨_,rfl⟩
  have h:H p=some (.tup (.str "table" :: rows.flatten.map V.int)):=by rw[erows];exact h
  have rl:rows.length=a+1:=by rw[erows,zcd9,zcf8]
  have rm:∀ r∈rows,r.length=c+1:=fun r hr=>by
   rw[erows] at hr
   obtain⟨x,_,rfl⟩:=zch1.mp hr
   rw[zcd9,zcf8]
  have fl:=zq9 rm
  rw[rl] at fl
  have f1:1<=rows.flatten.length:=by
   rw[fl]
   exact Nat.mul_pos (by rfl') (by rfl')
  refine zb2 (v:=.str "table") h (zn0 (j:=0) rfl) ?_
  refine zd4 (zq2 rfl ?_)
  refine zbv5 h (by rw[zcf1,zcd9];omega) (fun p1 H1 g1 s1 k1=>?_)
  refine zau5 k1 (fun l2 H2 g2 s2 k2=>?_)
  ac_nf
  rw[show (a:Int)+1=((rows.length:Nat):Int) by rw[rl];rfl,show (c:Int)+1=((c+1:Nat):Int) by rfl']
  refine zae7 (rows:=rows) k2 rm (by rfl') (by rfl') (fun t ts H3 FL=>?_)
  refine zb5 (fun p4 H4 g4 s4 k4=>?_)
  ac_nf
  have s02:=s1.trans s2
  have key:∀ J:Hp,J p4=some (.tup [.str "table",.ref t])->J t=some (.lst (ts.map V.ref))->(∀ (i:Nat) q,ts[i]?=some q->J q=some (.lst ((rows.getD i []).map V.int)))->FdAt J p4 a c (.tab g)/\MkV J 3 (.ref p4) (t :: ts):=fun J j1 j2 j3=>by
   have G4:zs7 J t ts (a+1) (c+1) g:=by
    refine⟨j2,by rw[FL.len,rl],fun i q e=>?_⟩
    have hi:i<a+1:=by have:=(zce2.mp e).1;have:=FL.len;omega
    have:=j3 i q e
    rw[show rows.getD i []=(List.range (c+1)).map (g i) by rw[zce9,erows,zce3,zci1 hi];rfl] at this
    rw[this,zn2]
   refine⟨⟨t,ts,j1,G4⟩,?_⟩
   have:=MkV.tup (n:=2) (Bs:=[[],t :: ts]) j1 (by simp) rfl (fun i x B h1 h2=>by
    match i with
    | 0=>cases h1;cases h2;exact .flat rfl (by decide)
    | 1=>cases h1;cases h2;exact MkV.grid G4 (by rfl') (by rfl')
    | i+2=>simp at h1)
   simpa using this
  refine k p4 (t :: ts) H4 ((s02.trans FL.same).trans s4) (fun z ys hz=>?_) (zcj6.mpr ⟨FL.nin,FL.nd⟩) (fun x hx=>?_)
  ·have hz2:=s02 _ _ hz
   have ne:∀ {y:Addr},H2 y=none->y≠z:=fun {y} hy e=>by rw[e,hz2] at hy;cases hy
   exact key _ (zf9 (ne (FL.same.free g4)) k4) (zf9 (ne FL.facc) (s4 _ _ FL.out)) (fun i q e=>zf9 (ne (FL.row i q e).1) (s4 _ _ (FL.row i q e).2))
  ·rcases zcf2.mp hx with rfl|hx
   ·exact s02.free FL.facc
   ·exact s02.free (FL.free hx)
structure BatF(H H':Hp)(b l:Addr)(ps:List Addr)(a c:Nat)(fs:List Fd)(As:List Addr):Prop where
 bat:zh7 H' b l ps a c fs
 tr:MkV H' 5 (.ref b) As
 nd:As.Nodup
 fr:∀ x∈As,H x=none
@[irreducible] def zi6:Sp:=fun vs H Q _=>∃ (l:Addr) (ps:List Addr) (a c:Nat) (fs:List Fd),vs=[.ref l]/\zq0 H l ps (zj1 a c (fxs a c fs))/\a<=10/\c<=10/\fs.length<=100/\(∀ f∈fs,f.Ok)/\∀ b l' ps' As H',Same H H'->BatF H H' b l' ps' a c fs As->Q (.ref b) H'
theorem zaq2{l:Addr}{a:Nat}{fs:List Fd}(R:zq0 H l ps (zj1 a c (fxs a c fs)))(ha:a<=10)(hc:c<=10)(hl:fs.length<=100)(ok:∀ f∈fs,f.Ok)(k:∀ b l' ps' As H',Same H H'->BatF H H' b l' ps' a c fs As->Q (.ref b) H'):zi6 [.ref l] H Q E:=by
 unfold zi6;exact⟨l,ps,a,c,fs,rfl,R,ha,hc,hl,ok,k⟩
theorem zal4(F:Fun K "battle_of" "battle_of" zu3 f fd)(N:Nm mg)(zcb7:Def P w K mg base CX0 2 "field_of" ["first","second","row"] zk9):FnOk P w K mg base CX0 3 f fd ["rows"] zi6:=by
 refine F.ok zr3 (fun vs H Q E h=>by unfold zi6 at h;obtain⟨_,_,_,_,_,rfl,_⟩:=h;rfl) fun _ _ _ s H vs Q E hr h=>?_
 unfold zi6 at h
 obtain⟨l,ps,a,c,fs,rfl,R,ha,hc,hl,ok,k⟩:=h
 have hu:=hu40 hr
 have rl:=R.len
 rw[zo4] at rl
 have fl:(fxs a c fs).length=fs.length:=by unfold fxs;rw[zcd9]
 obtain⟨p0,ps',rfl⟩:∃ p0 ps',ps=p0 :: ps':=by
  cases ps with
  | nil=>simp at rl
  | cons x y=>exact⟨x,y,rfl⟩
 have h0:H p0=some (.tup [.str "hosts",.int a,.int c]):=R.row 0 p0 ("hosts",[(a:Int),(c:Int)]) rfl rfl
 have hrow:∀ (i:Nat) p f,ps'[i]?=some p->fs[i]?=some f->RwT H p (rowX (toFx a c f)):=fun i p f e1 e2=>R.row (i+1) p _ (by rw[zck0];exact e1) (by unfold zj1 fxs;rw[zck0,zce3,zce3,e2];rfl)
 refine⟨_,(za3 (psS (i:=1) zr3.nd (zb7 (K:=K) rfl (zb7 (K:=K) rfl (pq 0) za2) za2))
   (za3 (psS (i:=2) zr3.nd (zb7 (K:=K) rfl (zb7 (K:=K) rfl (pq 0) za2) za2))
   (za4 (za9 (zg1 (za0 (pq 1) (za0 (pq 2) (za0 (zk1 (N:=["row","first","second"]) (ks:=[none,some 1,some 2]) (zf5 (K:=K) rfl (ze6 (slZK (K:=K) rfl) (pq 0) (zk2 za2) zh8)) (fun _ _ _ _ _=>(zb0 (i:=0) nb_8 rfl (by eq_refl))) (fun _ _ _ _ _=>zf7) (fun _ _ _ _ _=>(pD zcb7 hr zc1 (za0 (pq 1) (za0 (pq 2) (za0 (pq 0) za1))))) (.skip (.take rfl rfl (by eq_refl) (.take rfl rfl (by eq_refl) .nil)))) za1)))))))),?_⟩
 refine zp5 (v:=.ref p0) R.out (zn0 (j:=0) rfl) ?_
 refine zb2 (v:=.int a) h0 rfl ?_
 refine zp5 (v:=.ref p0) R.out (zn0 (j:=0) rfl) ?_
 refine zb2 (v:=.int c) h0 rfl ?_
 refine zan5 (SqL.of R.out) (fun l1 H1 f1 s1 k1=>?_)
 rw[zr7 (by decide)] at k1
 have k1:H1 l1=some (.lst (ps'.map V.ref)):=k1
 refine zc7 k1 ?_
 refine zbp2 (Wk.list (SqL.of k1)) (by rw[zcd9,zcn5];rw[zcf1] at rl;omega) (fun acc i ys σ I=>∃ (t:Option V) (qs:List Addr) (Bs:List (List Addr)),σ=[t,some (.int a),some (.int c)]/\ys=qs.map V.ref/\qs.length=i/\Bs.length=i/\(∀ (j:Nat) p f,qs[j]?=some p->fs[j]?=some f->FdAt (rm acc I) p a c f)/\(∀ (j:Nat) p B,qs[j]?=some p->Bs[j]?=some B->MkV (rm acc I) 3 (.ref p) B)/\Bs.flatten.Nodup/\∀ x∈Bs.flatten,H1 x=none) ?_ ?_ ?_ ?_
 ·intro acc I f3 s3 h3
  exact⟨none,[],[],rfl,rfl,rfl,rfl,fun j p f e=>by simp at e,fun j p f e=>by simp at e,zcm2,fun x hx=>by cases hx⟩
 ·rintro acc i ys σ I J sJ ⟨t,qs,Bs,rfl,rfl,ql,bl,pf,pb,nd,fr⟩
  exact⟨t,qs,Bs,rfl,rfl,ql,bl,fun j p f e1 e2=>(pf j p f e1 e2).same (Same.rm sJ),fun j p B e1 e2=>(pb j p B e1 e2).same (Same.rm sJ),nd,fr⟩
 ·rintro acc i x ys σ I R' S' hi facc sI hacc hx ⟨t,qs,Bs,rfl,rfl,ql,bl,pf,pb,nd,fr⟩ kR _
  rw[zce3] at hx
  obtain⟨p,ep,rfl⟩:=zce7.mp hx
  obtain⟨f,ef⟩:∃ f,fs[i]?=some f:=⟨_,zce0 (by have:=(zce2.mp ep).1;rw[zcf1] at rl;omega)⟩
  refine br_T ?_
  refine zat7 (f:=f) ((s1.trans sI) _ _ (hrow i p f ep ef)) ha hc (fun p' B J sJ hfB ndB frB=>?_)
  ac_nf
  obtain⟨hf,hB⟩:=hfB acc _ hacc
  have dis:∀ x∈B,x ∉ Bs.flatten:=fun x hx hm=>by
   obtain⟨j,B',e1,e2⟩:=zu9 hm
   obtain⟨q,eq⟩:∃ q,qs[j]?=some q:=⟨_,zce0 (by have:=(zce2.mp e1).1;omega)⟩
   obtain⟨zs,e'⟩:=(pb j q B' eq e1).isl x e2
   have:=frB x hx
   rw[(zj0 e').2] at this
   cases this
  refine kR _ _ _ sJ (fun J2 c2=>⟨_,qs++[p'],Bs++[B],rfl,by rw[zch0];rfl,by rw[zce6,ql];rfl,by rw[zce6,bl];rfl,fun j p2 f2 e1 e2=>?_,fun j p2 B2 e1 e2=>?_,zba6 nd ndB dis,fun x hx=>?_⟩)
  ·rcases zh4 e1 with ⟨hj,e1⟩|⟨hj,rfl⟩
   ·exact (pf j p2 f2 e1 e2).same (fun b o e=>zf9 (zj0 e).1 (c2 _ _ (zj0 e).1 (sJ _ _ (zj0 e).2)))
   ·have:f=f2:=Option.some.inj (ef.symm.trans (by rw[show i=j by rfl'];exact e2))
    subst this
    exact hf.same (Chg.rm c2)
  ·rcases zh4 e1 with ⟨hj,e1⟩|⟨hj,rfl⟩
   ·rcases zh4 e2 with ⟨_,e2⟩|⟨hk,_⟩
    ·exact (pb j p2 B2 e1 e2).same (fun b o e=>zf9 (zj0 e).1 (c2 _ _ (zj0 e).1 (sJ _ _ (zj0 e).2)))
    ·omega
   ·rcases zh4 e2 with ⟨hk,_⟩|⟨_,rfl⟩
    ·omega
    ·exact hB.same (Chg.rm c2)
  ·rw[zck3,List.flatten_singleton] at hx
   rcases zch8.mp hx with hx|hx
   ·exact fr x hx
   ·exact sI.free (frB x hx)
 ·rintro acc ys σ I facc sI hacc ⟨t,qs,Bs,rfl,rfl,ql,bl,pf,pb,nd,fr⟩
  rw[zcd9] at ql bl
  rw[zcf1] at rl
  have na:acc ∉ Bs.flatten:=fun hm=>by
   obtain⟨j,B',e1,e2⟩:=zu9 hm
   obtain⟨q,eq⟩:∃ q,qs[j]?=some q:=⟨_,zce0 (by have:=(zce2.mp e1).1;omega)⟩
   obtain⟨ys',e'⟩:=(pb j q B' eq e1).isl acc e2
   exact (zj0 e').1 rfl
  refine zb5 (fun b H3 f3 s3 h3=>?_)
  ac_nf
  have F:FlN H3 acc qs a c fs (acc :: Bs.flatten):=by
   refine⟨s3 _ _ hacc,by rfl',fun i p f e1 e2=>(pf i p f e1 e2).same ((ze1 _ _).trans s3),MkV.lst (s3 _ _ hacc) (by rw[zcd9];omega) (by rw[zcd9,bl,ql]) (fun i x B h1 h2=>?_),zcj6.mpr ⟨na,nd⟩⟩
   rw[zce3] at h1
   obtain⟨p,ep,rfl⟩:=zce7.mp h1
   exact (pb i p B ep h2).same ((ze1 _ _).trans s3)
  have N:=F.bat h3 ok
  refine k b acc qs (acc :: Bs.flatten) H3 ((s1.trans sI).trans s3) ⟨N.bat,N.tr,N.nd,fun x hx=>?_⟩
  rcases zcf2.mp hx with rfl|hx
  ·exact s1.free facc
  ·exact s1.free (fr x hx)
theorem zbn9{a:Nat}{fs:List Fd}(T:OkT a c fs)(hl:fs.length<=5):OkRs (zj1 a c (fxs a c fs)):=by
 have rg:∀ f∈fs,RgR (rowX (toFx a c f))/\inV (.str (rowX (toFx a c f)).1) [.str "more",.str "lead",.str "table"]=true:=fun f _=>by
  cases f with
  | more w t=>exact⟨.inl ⟨.inr (.inl rfl),rfl⟩,by show inV (.str "more") [.str "more",.str "lead",.str "table"]=true;decide +kernel⟩
  | lead w t=>exact⟨.inl ⟨.inr (.inr rfl),rfl⟩,by show inV (.str "lead") [.str "more",.str "lead",.str "table"]=true;decide +kernel⟩
  | tab g=>
   refine⟨.inr ⟨rfl,?_⟩,by show inV (.str "table") [.str "more",.str "lead",.str "table"]=true;decide +kernel⟩
   show 1<=((List.range (a+1)).map fun x=>(List.range (c+1)).map (g x)).flatten.length
   rw[zq9 (m:=c+1) fun r hr=>by obtain⟨x,_,rfl⟩:=zch1.mp hr;rw[zcd9,zcf8]]
   rw[zcd9,zcf8]
   exact Nat.mul_pos (by rfl') (by rfl')
 refine⟨by rw[zo4];unfold fxs;rw[zcd9];omega,fun r hr=>?_,T,fun i r e=>?_⟩
 ·unfold zj1 fxs at hr
  rcases zcf2.mp hr with rfl|hr
  ·exact .inl ⟨.inl rfl,rfl⟩
  ·rw[zck4] at hr
   obtain⟨f,hf,rfl⟩:=zch1.mp hr
   exact (rg f hf).1
 ·cases i with
  | zero=>cases e;exact decide_eq_true (rfl:("hosts":Str)="hosts")
  | succ i=>
   unfold zj1 fxs at e ⊢
   rw[zck0,zck4,zce3] at e
   obtain⟨f,hf,rfl⟩:=zce7.mp e
   obtain⟨y,ey⟩:∃ y,zbh5 (("hosts",[(a:Int),(c:Int)]) :: (fs.map (toFx a c)).map rowX) (i+1)=some y:=by
    unfold zbh5
    rw[if_neg (by rfl'),Nat.add_sub_cancel]
    exact⟨_,zce0 (by have:=(zce2.mp hf).1;rw[zcf1,zcd9,zcd9];omega)⟩
   rw[ey]
   exact (rg f (zce5 hf)).2
@[irreducible] def zg2:Sp:=fun vs H Q _=>∃ (a c:Nat) (fs:List Fd),vs=[.str (batT a c fs)]/\OkB a c fs/\OkT a c fs/\(∀ f∈fs,f.Ok)/\∀ b l' ps' As H',Same H H'->BatF H H' b l' ps' a c fs As->Q (.ref b) H'
theorem zs6{a:Nat}{fs:List Fd}(O:OkB a c fs)(T:OkT a c fs)(ok:∀ f∈fs,f.Ok)(k:∀ b l' ps' As H',Same H H'->BatF H H' b l' ps' a c fs As->Q (.ref b) H'):zg2 [.str (batT a c fs)] H Q E:=by
 unfold zg2;exact⟨a,c,fs,rfl,O,T,ok,k⟩
theorem zag1(F:Fun K "read_battle" "read_battle" zp4 f fd)(N:Nm mg)(zca8:Def P w K mg base CX0 3 "battle_of" ["rows"] zi6)(zby0:Def P w K mg base (CXR P w) 6 "look_battle" ["battle"] (zd2 zbw0))(zca9:Def P w K mg base CX0 3 "read_rows" ["text","stands"] (zi7 mg))(zbw9:Def P w K mg base CX0 1 "stands_in_battle" ["ahead","row"] zc4)(Z:Cz K mg base zbw2 zbw0 zbx0 zbx6 zbw3 zbx1 zbw6 zbw4 zbw5 zbx2 zbx3 zbx7 zbx4 zbw7 zbw8):FnOk P w K mg base CX0 7 f fd ["text"] zg2:=by
 refine F.ok zn9 (fun vs H Q E h=>by unfold zg2 at h;obtain⟨_,_,_,rfl,_⟩:=h;rfl) fun _ _ _ s H vs Q E hr h=>?_
 unfold zg2 at h
 obtain⟨a,c,fs,rfl,O,T,ok,k⟩:=h
 have hu:=hu40 hr
 have o2:=O.2
 have rb:=zbn9 T o2.2
 refine⟨_,(za3 (psS (i:=1) zn9.nd (pD zca9 hr zc1 (za0 (pq 0) (za0 (peFn zbw9) za1))))
   (za3 (psIf (ptC (oEqK (K:=K) rfl (by exact hu)) (pB (zv7 (K:=K) rfl) N.len_ zn3 (za0 (pq 1) za1)) za2) (za4 zaj9) zb8)
   (za3 (psS (i:=2) zn9.nd (pD zca8 hr zc1 (za0 (pq 1) za1)))
   (za3 (psTryN (zbp3 (zbj6 zby0 hr (za0 (pq 2) za1))))
   (za4 (za9 (pq 2))))))),?_⟩
 refine fn_rd (fun v hv=>?_)
 refine zal2 hv rb (fun l ps H1 f1 s1 R1=>?_)
 have rl:=R1.len
 rw[zo4] at rl
 refine zm9 R1.out ?_
 rw[zcd9,rl]
 refine zp9 (by rfl') ?_
 refine zaq2 R1 O.1.1 O.1.2 (by rfl') ok (fun b l' ps' As H2 s2 B2=>?_)
 refine zs8 B2.bat O (fun H3 s3=>?_)
 ac_nf
 exact k b l' ps' As H3 ((s1.trans s2).trans s3) ⟨B2.bat.same s3,B2.tr.same s3,B2.nd,fun x hx=>s1.free (B2.fr x hx)⟩
theorem zag7(a b:Str)(r:List Str):(Txt.join zu4 (a :: b :: r)).cps.toList=a.cps.toList++32 :: (Txt.join zu4 (b :: r)).cps.toList:=by
 rw[show Txt.join zu4 (a :: b :: r)=zu4.join (a :: b :: r) from StrLaws.glued_eq_join _ _,show Txt.join zu4 (b :: r)=zu4.join (b :: r) from StrLaws.glued_eq_join _ _]
 exact ze7 32 a b r
theorem zah3(a:Str):(Txt.join zu4 [a]).cps.toList=a.cps.toList:=by
 rw[show Txt.join zu4 [a]=zu4.join [a] from StrLaws.glued_eq_join _ _,Str.join.eq_2]
theorem zbr7:("hosts ":Str).cps.toList=("hosts":Str).cps.toList++[32]:=by decide +kernel
theorem zbj4:(" ":Str).cps.toList=[32]:=by decide +kernel
theorem zbb1(a c:Int):("hosts ":Str)++numS a++(" ":Str)++numS c=zc5 ("hosts",[a,c]):=by
 refine PyProof.Rows.ext_toList ?_
 unfold zc5
 simp only[zcj4,List.map_nil,zag7,zah3,PySem.W.KT.app_list,zbr7,zbj4,List.append_assoc,List.singleton_append,List.cons_append,List.nil_append]
theorem zbm9(w:Str)(a c:Int):w++(" ":Str)++numS a++(" ":Str)++numS c=zc5 (w,[a,c]):=by
 refine PyProof.Rows.ext_toList ?_
 unfold zc5
 simp only[zcj4,List.map_nil,zag7,zah3,PySem.W.KT.app_list,zbj4,List.append_assoc,List.singleton_append,List.cons_append,List.nil_append]
theorem zq8(a b:Str):(a++b).length=a.length+b.length:=by
 have e:=congrArg List.length (PySem.W.KT.app_list a b)
 rw[zce6,zcf7,zcf7,zcf7] at e
 exact e
theorem lensB:(Str.ofString "hosts ").length=6/\(Str.ofString " ").length=1:=by decide +kernel
theorem zao0{n:Int}(h:SmI n)(q:Q (.str (numS n)) H):zbj9 (.int n) H Q:=zas5 (.int n) h.shows q
def txV(rs:List Rw):List V:=rs.map fun r=>.str (zc5 r)
theorem zaq8(rs:List Rw):(txV rs).length=rs.length:=by unfold txV;rw[zcd9]
@[irreducible] def ze0:Sp:=fun vs H Q _=>∃ (p:Addr) (a c:Nat) (f:Fd),vs=[.ref p]/\FdAt H p a c f/\a<=10/\c<=10/\OkR (rowX (toFx a c f))/\∀ H',Same H H'->Q (.str (zc5 (rowX (toFx a c f)))) H'
theorem zak1{p:Addr}{a:Nat}{f:Fd}(h:FdAt H p a c f)(ha:a<=10)(hc:c<=10)(o:OkR (rowX (toFx a c f)))(q:∀ H',Same H H'->Q (.str (zc5 (rowX (toFx a c f)))) H'):ze0 [.ref p] H Q E:=by
 unfold ze0;exact⟨p,a,c,f,rfl,h,ha,hc,o,q⟩
theorem zw4(F:Fun K "_law_field_row" "_law_field_row" zl7 f fd)(N:Nm mg):FnOk P w K mg base CX0 1 f fd ["_law_field"] ze0:=by
 refine F.ok zd0 (fun vs H Q E h=>by unfold ze0 at h;obtain⟨_,_,_,_,rfl,_⟩:=h;rfl) fun _ _ _ s H vs Q E hr h=>?_
 unfold ze0 at h
 obtain⟨p,a,c,f,rfl,h,ha,hc,o,q⟩:=h
 have hu:=hu40 hr
 obtain⟨c1,c2⟩:=lensB
 have two:(∃ (v:Str) (x y:Int),v≠"table"/\toFx a c f=.flat v [x,y]/\H p=some (.tup [.str v,.int x,.int y]))∨∃ g,f=.tab g:=by
  cases f with
  | more x y=>exact .inl ⟨"more",x,y,by decide,rfl,h⟩
  | lead x y=>exact .inl ⟨"lead",x,y,by decide,rfl,h⟩
  | tab g=>exact .inr ⟨g,rfl⟩
 rcases two with ⟨w,x,y,nt,ef,hp⟩|⟨g,rfl⟩
 ·rw[ef] at o q
  have wl:w.length<=10:=o.w
  have hx:=o.n x (by simp[rowX])
  have hy:=o.n y (by simp[rowX])
  have q:∀ H',Same H H'->Q (.str (zc5 (w,[x,y]))) H':=q
  have n1:=zn4 hx
  have n2:=zn4 hy
  refine⟨_,(za3 (psIf (ptC (oNeK (K:=K) rfl (by exact hu)) (zb7 (K:=K) rfl (pq 0) za2) zb4) (za4 (za9 (za8 oAdd (za8 oAdd (za8 oAdd (za8 oAdd (zb7 (K:=K) rfl (pq 0) za2) zb4) (pT (zai8 hr) N.str_ zv3 (za0 (zb7 (K:=K) rfl (pq 0) za2) za1))) zb4) (pT (zai8 hr) N.str_ zv3 (za0 (zb7 (K:=K) rfl (pq 0) za2) za1))))) zb8)
   (za3 (psS (i:=1) zd0.nd (ze5 (za0 zb4 za1)))
   (za3 (zt2 PassesOwn.never rfl (zf5 (K:=K) rfl (zb7 (K:=K) rfl (pq 0) za2)) (zb0 (i:=2) zd0.nd rfl (by eq_refl)) (za4 (psS (i:=1) zd0.nd (za8 oAdd (pq 1) (zk1 (N:=["_law_number"]) (ks:=[none]) (zf5 (K:=K) rfl (pq 2)) (fun _ _ _ _ _=>(zb0 (i:=0) nb_13 rfl (by eq_refl))) (fun _ _ _ _ _=>zf7) (fun _ _ _ _ _=>(pT (zai8 hr) N.str_ zv3 (za0 (pq 0) za1))) (.skip .nil))))))
   (za4 (za9 (zs3 (K:=K) rfl zb4 (za0 (pq 1) za1))))))),?_⟩
  refine zb2 (v:=.str w) hp rfl ?_
  refine zd4 (zp9 nt ?_)
  refine zb2 (v:=.str w) hp rfl ?_
  ac_nf
  refine⟨by simp only[zq8,zcn5];omega,?_⟩
  refine zb2 (v:=.int x) hp rfl ?_
  refine zao0 hx ?_
  ac_nf
  refine⟨by simp only[zq8,zcn5];omega,?_⟩
  ac_nf
  refine⟨by simp only[zq8,zcn5];omega,?_⟩
  refine zb2 (v:=.int y) hp rfl ?_
  refine zao0 hy ?_
  ac_nf
  refine⟨by simp only[zq8,zcn5];omega,?_⟩
  ac_nf
  rw[zbm9]
  exact q H (Same.refl _)
 ·obtain⟨rows,erows⟩:∃ rows,rows=(List.range (a+1)).map fun x=>(List.range (c+1)).map (g x):=⟨_,rfl⟩
  have er:toFx a c (.tab g)=.tab rows:=by rw[erows];rfl
  obtain⟨q0,ps,hp,G⟩:=h
  have R:=zaa7 G
  rw[← erows] at R
  rw[er] at o q
  have ol:rows.flatten.length<=200:=o.l
  have on:∀ n∈rows.flatten,SmI n:=o.n
  have rl:=R.len
  have rn:rows.length=a+1:=by rw[erows,zcd9,zcf8]
  have sub:∀ {i:Nat}{r:List Int},rows[i]?=some r->(rows.take i).flatten.length+r.length<=200:=fun {i r} e=>by
   have h1:(rows.take (i+1)).flatten.length<=rows.flatten.length:=by
    have:=congrArg (fun x:List (List Int)=>x.flatten.length) (List.take_append_drop (i+1) rows)
    simp only[zck3,zce6] at this
    omega
   rw[List.take_succ,e,zck3,zce6,show (some r:Option (List Int)).toList=[r] from rfl,List.flatten_singleton] at h1
   omega
  refine⟨_,(za3 (psIf (ptC (oNeK (K:=K) rfl (by exact hu)) (zb7 (K:=K) rfl (pq 0) za2) zb4) (za4 (za9 (za8 oAdd (za8 oAdd (za8 oAdd (za8 oAdd (zb7 (K:=K) rfl (pq 0) za2) zb4) (pT (zai8 hr) N.str_ zv3 (za0 (zb7 (K:=K) rfl (pq 0) za2) za1))) zb4) (pT (zai8 hr) N.str_ zv3 (za0 (zb7 (K:=K) rfl (pq 0) za2) za1))))) zb8)
   (za3 (psS (i:=1) zd0.nd (ze5 (za0 zb4 za1)))
   (za3 (zt2 PassesOwn.never rfl (zf5 (K:=K) rfl (zb7 (K:=K) rfl (pq 0) za2)) (zb0 (i:=2) zd0.nd rfl (by eq_refl)) (za4 (psS (i:=1) zd0.nd (za8 oAdd (pq 1) (zk1 (N:=["_law_number"]) (ks:=[none]) (zf5 (K:=K) rfl (pq 2)) (fun _ _ _ _ _=>(zb0 (i:=0) nb_13 rfl (by eq_refl))) (fun _ _ _ _ _=>zf7) (fun _ _ _ _ _=>(pT (zai8 hr) N.str_ zv3 (za0 (pq 0) za1))) (.skip .nil))))))
   (za4 (za9 (zs3 (K:=K) rfl zb4 (za0 (pq 1) za1))))))),?_⟩
  refine zb2 (v:=.str "table") hp rfl ?_
  refine zd4 (zq2 rfl ?_)
  refine zb6 (fun l H1 g1 s1 k1=>?_)
  refine zb2 (v:=.ref q0) (s1 _ _ hp) rfl ?_
  refine zc7 (s1 _ _ R.out) ?_
  refine zj9 (xs:=ps.map V.ref) (fun i σ I=>∃ (y:Option V) (l':Addr),σ=[some (.ref p),some (.ref l'),y]/\Same H I/\I l'=some (.lst ((("table":Str) :: (rows.take i).flatten.map numS).map V.str))) ?_ ?_ ?_ ?_
  ·exact⟨_,l,rfl,s1,k1⟩
  ·rintro i σ I _ ⟨_,_,_,sI,_⟩
   exact SqL.of (sI _ _ R.out)
  ·rintro i y σ I hy ⟨y2,l',rfl,sI,kI⟩
   obtain⟨p1,r,rfl,ep,er',hp1⟩:=(R.same sI).elt hy
   have sb:=sub er'
   refine zc7 hp1 ?_
   refine zp8 (n:=(r.map V.int).length) (Wk.list (SqL.of hp1)) (by rw[zcd9,zcn5];omega) (fun j=>.str ((r.map numS).getD j ⟨#[]⟩)) (fun _=>true) (fun j σ=>∃ t:Option V,σ=[t]) ⟨none,rfl⟩ ?_ ?_
   ·rintro j x σ J R' S' hj sJ hx ⟨_,rfl⟩ kk _
    rw[zce3] at hx
    obtain⟨n,en,rfl⟩:=zce7.mp hx
    rw[show (r.map numS).getD j ⟨#[]⟩=numS n by rw[zce9,zce3,en];rfl] at kk
    refine br_T ?_
    refine zao0 (on n (zcm0.mpr ⟨r,zce5 er',zce5 en⟩)) ?_
    ac_nf
    exact kk rfl _ _ (Same.refl _) ⟨_,rfl⟩
   intro acc J f1 s1' h1
   rw[zl4,zy1 (f:=V.str) (xs:=r.map numS) (d:=⟨#[]⟩) (by rw[zcd9,zcd9])] at h1
   refine zg9 (s1' _ _ kI) h1 (by simp only[zcd9,zcf1,zcn5];omega) (fun l2 J2 f2 s2 h2=>?_)
   ac_nf
   refine⟨_,l2,rfl,(sI.trans s1').trans s2,?_⟩
   rw[h2,List.take_succ,er',zck3,zch0,← zch0]
   simp
  ·rintro σ I ⟨y,l',rfl,sI,kI⟩
   rw[zcd9,zci8 (by rfl')] at kI
   refine zac2 kI ?_ ?_
   ·have h2:=zw0 (zv9 o)
    have h2:((("table":Str) :: rows.flatten.map numS).map (·.length)).sum<=(("table":Str) :: rows.flatten.map numS).length*52:=h2
    rw[zcf1,zcd9] at h2 ⊢
    show _+(rows.flatten.length+1)*1<=_
    omega
   ac_nf
   exact q I sI
@[irreducible] def zf3:Sp:=fun vs H Q _=>∃ (b l:Addr) (ps:List Addr) (a c:Nat) (fs:List Fd),vs=[.ref b]/\zh7 H b l ps a c fs/\OkB a c fs/\OkT a c fs/\∀ l' H',H l'=none->Same H H'->H' l'=some (.lst (txV (zj1 a c (fxs a c fs))))->Q (.ref l') H'
theorem zah5{b l:Addr}{a:Nat}{fs:List Fd}(B:zh7 H b l ps a c fs)(O:OkB a c fs)(T:OkT a c fs)(q:∀ l' H',H l'=none->Same H H'->H' l'=some (.lst (txV (zj1 a c (fxs a c fs))))->Q (.ref l') H'):zf3 [.ref b] H Q E:=by
 unfold zf3;exact⟨b,l,ps,a,c,fs,rfl,B,O,T,q⟩
theorem zaa5(F:Fun K "_law_rows_of" "_law_rows_of" zo0 f fd)(N:Nm mg)(zby7:Def P w K mg base CX0 1 "_law_field_row" ["_law_field"] ze0):FnOk P w K mg base CX0 2 f fd ["_law_battle"] zf3:=by
 refine F.ok zj8 (fun vs H Q E h=>by unfold zf3 at h;obtain⟨_,_,_,_,_,_,rfl,_⟩:=h;rfl) fun _ _ _ s H vs Q E hr h=>?_
 unfold zf3 at h
 obtain⟨b,l,ps,a,c,fs,rfl,B,O,T,q⟩:=h
 have hu:=hu40 hr
 obtain⟨c1,c2⟩:=lensB
 have o1:=O.1
 have o2:=O.2
 have bl:=B.len
 have ma:SmI (a:Int):=by unfold SmI;omega
 have mc:SmI (c:Int):=by unfold SmI;omega
 have n1:=zn4 ma
 have n2:=zn4 mc
 refine⟨_,(za3 (zy9 (pq 0) (zad5 (K:=K) (n:=3) rfl rfl (zg8 (zb0 (i:=1) zj8.nd rfl (by eq_refl)) (zg8 (zb0 (i:=2) zj8.nd rfl (by eq_refl)) (zg8 (zb0 (i:=3) zj8.nd rfl (by eq_refl)) zac3)))))
   (za4 (za9 (za8 oAdd (ze5 (za0 (za8 oAdd (za8 oAdd (za8 oAdd zb4 (pT (zai8 hr) N.str_ zv3 (za0 (pq 1) za1))) zb4) (pT (zai8 hr) N.str_ zv3 (za0 (pq 2) za1))) za1)) (zk1 (N:=["_law_field"]) (ks:=[none]) (zf5 (K:=K) rfl (pq 3)) (fun _ _ _ _ _=>(zb0 (i:=0) nb_14 rfl (by eq_refl))) (fun _ _ _ _ _=>zf7) (fun _ _ _ _ _=>(pD zby7 hr zc1 (za0 (pq 0) za1))) (.skip .nil)))))),?_⟩
 refine zq3 B.out ?_
 refine zao0 ma ?_
 ac_nf
 refine⟨by simp only[zq8,zcn5];omega,?_⟩
 ac_nf
 refine⟨by simp only[zq8,zcn5];omega,?_⟩
 refine zao0 mc ?_
 ac_nf
 refine⟨by simp only[zq8,zcn5];omega,?_⟩
 refine zb6 (fun l1 H1 f1 s1 k1=>?_)
 rw[zbb1] at k1
 have B1:=B.same s1
 refine zc7 B1.lst ?_
 refine zp8 (n:=(ps.map V.ref).length) (Wk.list (SqL.of B1.lst)) (by rw[zcd9,zcn5];omega) (fun j=>.str (((fxs a c fs).map fun f=>zc5 (rowX f)).getD j ⟨#[]⟩)) (fun _=>true) (fun j σ=>∃ t:Option V,σ=[t]) ⟨none,rfl⟩ ?_ ?_
 ·rintro j x σ J R' S' hj sJ hx ⟨_,rfl⟩ kk _
  obtain⟨p,f,rfl,ep,ef,hf,_⟩:=(B1.same sJ).elt hx
  rw[show ((fxs a c fs).map fun f=>zc5 (rowX f)).getD j ⟨#[]⟩=zc5 (rowX (toFx a c f)) by unfold fxs;rw[zce9,zce3,zce3,ef];rfl] at kk
  refine br_T ?_
  refine zak1 hf o1.1 o1.2 (T _ (by unfold zj1 fxs;exact zcf5 _ (zch1.mpr ⟨_,zch1.mpr ⟨f,zce5 ef,rfl⟩,rfl⟩))) (fun J1 s1'=>?_)
  ac_nf
  exact kk rfl _ _ s1' ⟨_,rfl⟩
 intro acc H2 f2 s2 k2
 rw[zl4,zy1 (f:=V.str) (xs:=(fxs a c fs).map fun f=>zc5 (rowX f)) (d:=⟨#[]⟩) (by unfold fxs;simp only[zcd9];exact bl)] at k2
 refine zg9 (s2 _ _ k1) k2 (by unfold fxs;simp only[zcd9,zcf4,zcn5];omega) (fun l3 H3 f3 s3 k3=>?_)
 ac_nf
 have s03:=s1.trans s2
 refine q l3 H3 (s03.free f3) (s03.trans s3) ?_
 rw[k3]
 unfold txV zj1
 rw[zck4,zcj4,zck4]
 rfl
def ExT(H:Hp)(e D:Addr):Prop:=H e=some (excO e (.ref D) none)∨∃ d fs,H e=some (excO e (.ref D) (some d))/\H d=some (.xd fs)
theorem ExT.same{e D:Addr}(x:ExT H e D)(s:Same H H'):ExT H' e D:=by
 rcases x with x|⟨d,fs,x,y⟩
 ·exact .inl (s _ _ x)
 ·exact .inr ⟨d,fs,s _ _ x,s _ _ y⟩
theorem zj3{K:zce1}{e D C:Addr}{b:Bool}(x:ExT H e D)(h2:ExcK K D)(h3:(zcg8 K D).isSome=true)(k:zce8 K (.ref D) (.ref C)=some b)(q:Q (.bl b) H):zae0 K (.ref e) (.ref C) H Q:=by
 rcases x with x|⟨d,fs,x,y⟩
 ·exact zbi5 (zbr5 x h2 h3 k q)
 ·exact zbk7 x y h2 h3 k q
theorem zbn0{K:zce1}{e D:Addr}{n:String}{b:Bool}(x:ExT H e D)(h2:ExcK K D)(h3:(zcg8 K D).isSome=true)(k:zce8 K (.ref D) (.type n)=some b)(q:Q (.bl b) H):zae0 K (.ref e) (.ty n) H Q:=by
 rcases x with x|⟨d,fs,x,y⟩
 ·exact zbi5 (zbn2 x h2 h3 k q)
 ·exact zbm2 x y h2 h3 k q
@[irreducible] def zf0(zbw0:Addr):Sp:=fun vs H Q _=>∃ (e D:Addr) (name:Str),vs=[.ref e]/\ExT H e D/\((D=zbw0/\name="battle"))/\∀ H',Same H H'->Q (.str name) H'
theorem zz4{e:Addr}(h:ExT H e zbw0)(q:∀ H',Same H H'->Q (.str "battle") H'):zf0 zbw0 [.ref e] H Q E:=by unfold zf0;exact⟨e,zbw0,"battle",rfl,h,⟨rfl,rfl⟩,q⟩
theorem zad6(F:Fun K "_law_kind_of" "_law_kind_of" zn6 f fd)(N:Nm mg)(Z:Cz K mg base zbw2 zbw0 zbx0 zbx6 zbw3 zbx1 zbw6 zbw4 zbw5 zbx2 zbx3 zbx7 zbx4 zbw7 zbw8):FnOk P w K mg base CX0 1 f fd ["_law_caught"] (zf0 zbw0):=by
 refine F.ok ze3 (fun vs H Q E h=>by unfold zf0 at h;obtain⟨_,_,_,rfl,_⟩:=h;rfl) fun _ _ _ s H vs Q E hr h=>?_
 unfold zf0 at h
 obtain⟨e,D,name,rfl,he,hD,q⟩:=h
 have hu:=hu40 hr
 obtain⟨b0,b1,b2,b3,b4,b5,b6,b7,b8,b9,b10,b11,b12,kK,kC,kH,kV,k0,k1,k2,k3,k4,k5,k6,k7,k8,k9,k10,k11,k12,hv⟩:∃ b0 b1 b2 b3 b4 b5 b6 b7 b8 b9 b10 b11 b12:Bool,ExcK K D/\(zcg8 K D).isSome=true/\zce8 K (.ref D) (.ref zbw2)=some true/\zce8 K (.ref D) (.type "ValueError")=some true/\zce8 K (.ref D) (.ref zbw0)=some b0/\zce8 K (.ref D) (.ref zbx0)=some b1/\zce8 K (.ref D) (.ref zbx6)=some b2/\zce8 K (.ref D) (.ref zbw3)=some b3/\zce8 K (.ref D) (.ref zbx1)=some b4/\zce8 K (.ref D) (.ref zbw6)=some b5/\zce8 K (.ref D) (.ref zbw4)=some b6/\zce8 K (.ref D) (.ref zbw5)=some b7/\zce8 K (.ref D) (.ref zbx2)=some b8/\zce8 K (.ref D) (.ref zbx3)=some b9/\zce8 K (.ref D) (.ref zbx7)=some b10/\zce8 K (.ref D) (.ref zbx4)=some b11/\zce8 K (.ref D) (.ref zbw7)=some b12/\(([b0,b1,b2,b3,b4,b5,b6,b7,b8,b9,b10,b11,b12]=[true,false,false,false,false,false,false,false,false,false,false,false,false]/\name="battle")):=by
  obtain⟨rfl,rfl⟩:=hD
  ·exact⟨_,_,_,_,_,_,_,_,_,_,_,_,_,Z.k_NoBattle,Z.c_NoBattle,Z.i_NoBattle_HostError,Z.v_NoBattle,Z.i_NoBattle_NoBattle,Z.i_NoBattle_NoPlan,Z.i_NoBattle_NoMix,Z.i_NoBattle_NoStream,Z.i_NoBattle_NoSide,Z.i_NoBattle_NoAlike,Z.i_NoBattle_NoNumber,Z.i_NoBattle_TooGreat,Z.i_NoBattle_NoEven,Z.i_NoBattle_NoText,Z.i_NoBattle_NoRow,Z.i_NoBattle_NoName,Z.i_NoBattle_NoPlace,⟨rfl,rfl⟩⟩
 refine⟨_,(pssTo (zl5 (psOf (psS (i:=1) ze3.nd (ze5 (za0 (pB (zu6 (K:=K) rfl) N.isinstance_ za7 (za0 (pq 0) (za0 (zf8 (v:=.ref zbw0) rfl Z.g_NoBattle rfl) za1))) (za0 (pB (zu6 (K:=K) rfl) N.isinstance_ za7 (za0 (pq 0) (za0 (zf8 (v:=.ref zbx0) rfl Z.g_NoPlan rfl) za1))) (za0 (pB (zu6 (K:=K) rfl) N.isinstance_ za7 (za0 (pq 0) (za0 (zf8 (v:=.ref zbx6) rfl Z.g_NoMix rfl) za1))) za1))))))
   (zl5 (psOf (psS (i:=1) ze3.nd (za8 oAdd (pq 1) (ze5 (za0 (pB (zu6 (K:=K) rfl) N.isinstance_ za7 (za0 (pq 0) (za0 (zf8 (v:=.ref zbw3) rfl Z.g_NoStream rfl) za1))) (za0 (pB (zu6 (K:=K) rfl) N.isinstance_ za7 (za0 (pq 0) (za0 (zf8 (v:=.ref zbx1) rfl Z.g_NoSide rfl) za1))) (za0 (pB (zu6 (K:=K) rfl) N.isinstance_ za7 (za0 (pq 0) (za0 (zf8 (v:=.ref zbw6) rfl Z.g_NoAlike rfl) za1))) za1)))))))
   (zl5 (psOf (psS (i:=1) ze3.nd (za8 oAdd (pq 1) (ze5 (za0 (pB (zu6 (K:=K) rfl) N.isinstance_ za7 (za0 (pq 0) (za0 (zf8 (v:=.ref zbw4) rfl Z.g_NoNumber rfl) za1))) (za0 (pB (zu6 (K:=K) rfl) N.isinstance_ za7 (za0 (pq 0) (za0 (zf8 (v:=.ref zbw5) rfl Z.g_TooGreat rfl) za1))) (za0 (pB (zu6 (K:=K) rfl) N.isinstance_ za7 (za0 (pq 0) (za0 (zf8 (v:=.ref zbx2) rfl Z.g_NoEven rfl) za1))) za1)))))))
   (zl5 (psOf (psS (i:=1) ze3.nd (za8 oAdd (pq 1) (ze5 (za0 (pB (zu6 (K:=K) rfl) N.isinstance_ za7 (za0 (pq 0) (za0 (zf8 (v:=.ref zbx3) rfl Z.g_NoText rfl) za1))) (za0 (pB (zu6 (K:=K) rfl) N.isinstance_ za7 (za0 (pq 0) (za0 (zf8 (v:=.ref zbx7) rfl Z.g_NoRow rfl) za1))) (za0 (pB (zu6 (K:=K) rfl) N.isinstance_ za7 (za0 (pq 0) (za0 (zf8 (v:=.ref zbx4) rfl Z.g_NoName rfl) za1))) za1)))))))
   (zl5 (psOf (psS (i:=1) ze3.nd (za8 oAdd (pq 1) (ze5 (za0 (pB (zu6 (K:=K) rfl) N.isinstance_ za7 (za0 (pq 0) (za0 (zf8 (v:=.ref zbw7) rfl Z.g_NoPlace rfl) za1))) za1)))))
   (zl5 (psIS (i:=2) ze3.nd (peILst (zi0 zm2 (zi0 zm2 (zi0 zm2 (zi0 zm2 (zi0 zm2 (zi0 zm2 (zi0 zm2 (zi0 zm2 (zi0 zm2 (zi0 zm2 (zi0 zm2 (zi0 zm2 zbq8))))))))))))))
   (zl5 (psOf (psIf (ptC oIs (pq 0) zy6) (za4 (za9 zb4)) zb8))
   (zl5 (psOf (psIf (ptW (pwOr (zm3 (ptV (pB (zu6 (K:=K) rfl) N.isinstance_ za7 (za0 (pq 0) (za0 (zf8 (v:=.ref zbw2) rfl Z.g_HostError rfl) za1))))) (pwOr (zm3 (ptV (pB (zu6 (K:=K) rfl) N.isinstance_ za7 (za0 (pq 0) (za0 (pTy N.ValueError_ zak2) za1))))) (zy4 (ptC (oNeK (K:=K) rfl (by exact hu)) (zbk2 (K:=K) rfl (pq 1) (za0 zt5 za1)) za2))))) (za4 (za9 zb4)) zb8))
   (zbl3 (psOf (za9 (zb7 (K:=K) rfl (za8 oAdd (pq 2) (ze5 (za0 zb4 za1))) (zbf9 (K:=K) rfl (pq 1) (za0 zt5 za1))))))))))))))),?_⟩
 refine zj3 he kK kC k0 ?_
 refine zj3 he kK kC k1 ?_
 refine zj3 he kK kC k2 ?_
 refine zb6 (fun p1 H1 f1 s1 h1=>?_)
 have he1:=he.same s1
 refine zj3 he1 kK kC k3 ?_
 refine zj3 he1 kK kC k4 ?_
 refine zj3 he1 kK kC k5 ?_
 refine zb6 (fun p2 H2 f2 s2 h2=>?_)
 refine zg9 (s2 _ _ h1) h2 (by rw[zcn5];simp) (fun p3 H3 f3 s3 h3=>?_)
 have he3:=(he1.same s2).same s3
 refine zj3 he3 kK kC k6 ?_
 refine zj3 he3 kK kC k7 ?_
 refine zj3 he3 kK kC k8 ?_
 refine zb6 (fun p4 H4 f4 s4 h4=>?_)
 refine zg9 (s4 _ _ h3) h4 (by rw[zcn5];simp) (fun p5 H5 f5 s5 h5=>?_)
 have he5:=(he3.same s4).same s5
 refine zj3 he5 kK kC k9 ?_
 refine zj3 he5 kK kC k10 ?_
 refine zj3 he5 kK kC k11 ?_
 refine zb6 (fun p6 H6 f6 s6 h6=>?_)
 refine zg9 (s6 _ _ h5) h6 (by rw[zcn5];simp) (fun p7 H7 f7 s7 h7=>?_)
 have he7:=(he5.same s6).same s7
 refine zj3 he7 kK kC k12 ?_
 refine zb6 (fun p8 H8 f8 s8 h8=>?_)
 refine zg9 (s8 _ _ h7) h8 (by rw[zcn5];simp) (fun p9 H9 f9 s9 h9=>?_)
 have h9:H9 p9=some (.lst ([b0,b1,b2,b3,b4,b5,b6,b7,b8,b9,b10,b11,b12].map V.bl)):=h9
 refine zb6 (fun pa Ha fa sa ha=>?_)
 have s09:Same H Ha:=((((((((s1.trans s2).trans s3).trans s4).trans s5).trans s6).trans s7).trans s8).trans s9).trans sa
 have he9:=he.same s09
 refine br_F ?_
 refine zj3 he9 kK kC kH ?_
 refine zd4 (br_T ?_)
 refine zbn0 he9 kK kC kV ?_
 refine zd4 (br_T ?_)
 have h9a:=sa _ _ h9
 generalize [b0,b1,b2,b3,b4,b5,b6,b7,b8,b9,b10,b11,b12]=bs at h9a hv
 refine zt0 h9a ?_
 refine cnt_rd h9a rfl (by rcases hv with ⟨rfl,rfl⟩<;>rfl) ?_
 rw[show ((bs.map V.bl).countP fun y=>eqV y (.bl true))=1 by rcases hv with ⟨rfl,rfl⟩<;>rfl]
 refine zd4 (zq2 rfl ?_)
 refine zb6 (fun pb Hb fb sb hb=>?_)
 refine zg9 (sb _ _ ha) hb (by rw[zcn5];simp) (fun pc Hc fc sc hc=>?_)
 have sac:=sb.trans sc
 refine zt0 (sac _ _ h9a) ?_
 ac_nf
 obtain⟨rfl,rfl⟩:=hv
 refine idx_rd 0 (sac _ _ h9a) rfl rfl ⟨_,rfl,rfl⟩ ?_ ?_
 ·intro m y hm hy
  omega
 refine zp5 (v:=.str "battle") hc (by rfl) ?_
 ac_nf
 exact q _ (s09.trans sac)
@[irreducible] def zh6:Sp:=fun vs H Q _=>∃ (b l:Addr) (ps:List Addr) (a c:Nat) (fs:List Fd),vs=[.ref b]/\zh7 H b l ps a c fs/\OkB a c fs/\∀ H',Same H H'->Q (.bl true) H'
theorem zbk5{b l:Addr}{a:Nat}{fs:List Fd}(B:zh7 H b l ps a c fs)(O:OkB a c fs)(q:∀ H',Same H H'->Q (.bl true) H'):zh6 [.ref b] H Q E:=by
 unfold zh6;exact⟨b,l,ps,a,c,fs,rfl,B,O,q⟩
theorem zaj2(F:Fun K "_law_kinds" "_law_kinds" zr1 f fd)(N:Nm mg):FnOk P w K mg base CX0 1 f fd ["_law_battle"] zh6:=by
 refine F.ok zh3 (fun vs H Q E h=>by unfold zh6 at h;obtain⟨_,_,_,_,_,_,rfl,_⟩:=h;rfl) fun _ _ _ s H vs Q E hr h=>?_
 unfold zh6 at h
 obtain⟨b,l,ps,a,c,fs,rfl,B,O,q⟩:=h
 have hu:=hu40 hr
 have o1:=O.1
 have o2:=O.2
 have bl:=B.len
 refine⟨_,(za3 (psS (i:=1) zh3.nd (ze5 (za0 (zb7 (K:=K) rfl (pq 0) za2) (za0 (zb7 (K:=K) rfl (pq 0) za2) za1))))
   (za3 (zt2 PassesOwn.never rfl (zf5 (K:=K) rfl (zb7 (K:=K) rfl (pq 0) za2)) (zb0 (i:=2) zh3.nd rfl (by eq_refl)) (za4 (psIf (ptC (oEqK (K:=K) rfl (by exact hu)) (zb7 (K:=K) rfl (pq 2) za2) zb4) (za4 (zt2 PassesOwn.never rfl (zf5 (K:=K) rfl (zb7 (K:=K) rfl (pq 2) za2)) (zb0 (i:=3) zh3.nd rfl (by eq_refl)) (za4 (psS (i:=1) zh3.nd (za8 oAdd (pq 1) (pq 3)))))) (za4 (psS (i:=1) zh3.nd (za8 oAdd (pq 1) (ze5 (za0 (zb7 (K:=K) rfl (pq 2) za2) (za0 (zb7 (K:=K) rfl (pq 2) za2) za1)))))))))
   (za4 (za9 (peC (oEqK (K:=K) rfl (by exact hu)) (zk1 (N:=["_law_one"]) (ks:=[none]) (zf5 (K:=K) rfl (pq 1)) (fun _ _ _ _ _=>(zb0 (i:=0) nb_15 rfl (by eq_refl))) (fun _ _ _ _ _=>(zbu6 (ptW (pwOr (zm3 (ptV (pB (zae5 (K:=K) rfl) N.isinstance_ za7 (za0 (pq 0) (za0 (pTy N.int_ zan7) za1))))) (zy4 (ptV (pB (zae5 (K:=K) rfl) N.isinstance_ za7 (za0 (pq 0) (za0 (pTy N.bool_ zbi8) za1))))))))) (fun _ _ _ _ _=>(pq 0)) (.skip .nil)) (ze5 za1)))))),?_⟩
 refine zb2 (v:=.int a) B.out rfl ?_
 refine zb2 (v:=.int c) B.out rfl ?_
 refine zb6 (fun l1 H1 f1 s1 k1=>?_)
 refine zb2 (v:=.ref l) (s1 _ _ B.out) rfl ?_
 refine zc7 (s1 _ _ B.lst) ?_
 refine zj9 (xs:=ps.map V.ref) (fun i σ I=>∃ (y2 y3:Option V) (l':Addr) (zs:List Int),σ=[some (.ref b),some (.ref l'),y2,y3]/\Same H I/\I l'=some (.lst (zs.map V.int))/\zs.length<=2+200*i) ?_ ?_ ?_ ?_
 ·exact⟨_,_,l1,[(a:Int),(c:Int)],rfl,s1,k1,by simp⟩
 ·rintro i σ I _ ⟨_,_,_,_,_,sI,_⟩
  exact SqL.of (sI _ _ B.lst)
 ·rintro i y σ I hy ⟨y2,y3,l',zs,rfl,sI,kI,zl⟩
  have hi:=(zce2.mp hy).1
  rw[zcd9] at hi
  obtain⟨p,f,rfl,ep,ef,hf,_⟩:=(B.same sI).elt hy
  have two:(∃ (v:Str) (x y:Int),v≠"table"/\I p=some (.tup [.str v,.int x,.int y]))∨∃ g,f=.tab g:=by
   cases f with
   | more x y=>exact .inl ⟨"more",x,y,by decide,hf⟩
   | lead x y=>exact .inl ⟨"lead",x,y,by decide,hf⟩
   | tab g=>exact .inr ⟨g,rfl⟩
  rcases two with ⟨v,x,y,nt,hp⟩|⟨g,rfl⟩
  ·ac_nf
   refine zb2 (v:=.str v) hp rfl ?_
   refine zp9 nt ?_
   refine zb2 (v:=.int x) hp rfl ?_
   refine zb2 (v:=.int y) hp rfl ?_
   refine zb6 (fun l2 H2 f2 s2 k2=>?_)
   refine zg9 (s2 _ _ kI) k2 (by rw[zcd9,zcn5];simp only[zcf1,zci4];omega) (fun l3 H3 f3 s3 k3=>?_)
   ac_nf
   exact⟨_,_,l3,zs++[x,y],rfl,(sI.trans s2).trans s3,by rw[k3,zch0];rfl,by rw[zce6];simp only[zcf1,zci4];omega⟩
  ·obtain⟨q0,rs,hp,G⟩:=hf
   have R:=zaa7 G
   obtain⟨rows,erows⟩:∃ rows,rows=(List.range (a+1)).map fun x=>(List.range (c+1)).map (g x):=⟨_,rfl⟩
   rw[← erows] at R
   have rn:rows.length=a+1:=by rw[erows,zcd9,zcf8]
   have rm:∀ r∈rows,r.length<=11:=fun r hr=>by
    rw[erows] at hr
    obtain⟨x,_,rfl⟩:=zch1.mp hr
    rw[zcd9,zcf8];omega
   have rl:=R.len
   refine zb2 (v:=.str "table") hp rfl ?_
   refine zq2 rfl ?_
   refine zb2 (v:=.ref q0) hp rfl ?_
   refine zc7 R.out ?_
   refine zj9 (xs:=rs.map V.ref) (fun j σ J=>∃ (y3:Option V) (l':Addr) (ys:List Int),σ=[some (.ref b),some (.ref l'),some (.ref p),y3]/\Same I J/\J l'=some (.lst (ys.map V.int))/\ys.length<=zs.length+11*j) ?_ ?_ ?_ ?_
   ·exact⟨_,l',zs,rfl,Same.refl _,kI,by rfl'⟩
   ·rintro j σ J _ ⟨_,_,_,_,sJ,_⟩
    exact SqL.of (sJ _ _ R.out)
   ·rintro j y σ J hy ⟨y3',l2,ys,rfl,sJ,kJ,yl⟩
    have hj:=(zce2.mp hy).1
    rw[zcd9] at hj
    obtain⟨p1,r,rfl,ep',er',hp1⟩:=(R.same sJ).elt hy
    have r11:=rm r (zce5 er')
    refine zg9 kJ hp1 (by rw[zcd9,zcd9,zcn5];omega) (fun l3 H3 f3 s3 k3=>?_)
    ac_nf
    exact⟨_,l3,ys++r,rfl,sJ.trans s3,by rw[k3,zch0],by rw[zce6];omega⟩
   ·rintro σ J ⟨y3',l2,ys,rfl,sJ,kJ,yl⟩
    rw[zcd9] at yl
    ac_nf
    exact⟨_,_,l2,ys,rfl,sI.trans sJ,kJ,by rfl'⟩
 ·rintro σ I ⟨y2,y3,l',zs,rfl,sI,kI,zl⟩
  rw[zcd9] at zl
  refine zc7 kI ?_
  refine zp8 (n:=(zs.map V.int).length) (Wk.list (SqL.of kI)) (by rw[zcd9,zcn5];omega) (fun _=>.non) (fun _=>false) (fun j σ=>∃ t:Option V,σ=[t]) ⟨none,rfl⟩ ?_ ?_
  ·rintro j x σ J R' S' hj sJ hx ⟨_,rfl⟩ _ kk
   rw[zce3] at hx
   obtain⟨z,_,rfl⟩:=zce7.mp hx
   refine zau0 ?_
   refine zd4 (br_T ?_)
   refine zau0 ?_
   refine br_F ?_
   ac_nf
   exact kk rfl _ _ (Same.refl _) ⟨_,rfl⟩
  intro acc J f1 s1' h1
  rw[show (List.range (zs.map V.int).length).filter (fun _=>false)=[] by rw[List.filter_eq_nil_iff];intro x _;simp] at h1
  refine zb6 (fun l4 H4 f4 s4 h4=>?_)
  refine zav2 (EqR.allT (n:=1) (SqL.of (s4 _ _ h1)) (SqL.of h4) rfl fun i u v hu _=>by simp at hu) ?_
  ac_nf
  exact q H4 ((sI.trans s1').trans s4)
@[irreducible] def zd8:Sp:=fun vs H Q _=>∃ (b:Addr) (j:Int),vs=[.ref b]/\BadB H b j/\∀ t H',H t=none->Same H H'->H' t=some (.tup [.str "battle",.int j])->Q (.ref t) H'
theorem zak6{b:Addr}{j:Int}(B:BadB H b j)(q:∀ t H',H t=none->Same H H'->H' t=some (.tup [.str "battle",.int j])->Q (.ref t) H'):zd8 [.ref b] H Q E:=by unfold zd8;exact⟨b,j,rfl,B,q⟩
theorem zw7(F:Fun K "_law_caught_by" "_law_caught_by" zm0 f fd)(N:Nm mg)(zby5:Def P w K mg base CX0 1 "_law_kind_of" ["_law_caught"] (zf0 zbw0))(zbx5:Def P w K mg base (CXR P w) 7 "battle_text" ["battle"] (zd3 zbw0))(Z:Cz K mg base zbw2 zbw0 zbx0 zbx6 zbw3 zbx1 zbw6 zbw4 zbw5 zbx2 zbx3 zbx7 zbx4 zbw7 zbw8):FnOk P w K mg base CX0 8 f fd ["_law_battle"] zd8:=by
 refine F.ok zk8 (fun vs H Q E h=>by unfold zd8 at h;obtain⟨_,_,rfl,_⟩:=h;rfl) fun _ _ _ s H vs Q E hr h=>?_
 unfold zd8 at h
 obtain⟨b,j,rfl,B,q⟩:=h
 have hu:=hu40 hr
 refine⟨_,(za3 (psS (i:=1) zk8.nd zy6)
   (za3 (psTry (K:=K) (ke:=2) (ky:=1) rfl zk8.nd Z.g_HostError (zbp3 (zbj6 zbx5 hr (za0 (pq 0) za1))))
   (za3 (psIf (ptC (oEqK (K:=K) rfl (by exact hu)) (pD zby5 hr zc1 (za0 (pq 1) za1)) zb4) (za4 (za9 (zg1 (za0 zb4 (za0 (peFldE (K:=K) rfl (pq 1)) za1))))) zb8)
   (za4 (za9 (zg1 (za0 (pD zby5 hr zc1 (za0 (pq 1) za1)) (za0 zy6 za1)))))))),?_⟩
 refine zv2 B (fun d H0 f0 s0 h0=>zbn7 Z.m_NoBattle (fun ea H1 f1 s1 h1=>?_))
 have h01:=s1 _ _ h0
 refine zz4 (.inr ⟨d,_,h1,h01⟩) (fun H2 s2=>?_)
 refine zq2 rfl ?_
 refine zbr1 (v:=.int j) (s2 _ _ h1) (s2 _ _ h01) rfl Z.k_NoBattle Z.hd_NoBattle Z.z_NoBattle.nf ?_
 refine zb5 (fun t H3 f3 s3 h3=>?_)
 ac_nf
 have s02:=(s0.trans s1).trans s2
 exact q t H3 (s02.free f3) (s02.trans s3) h3
theorem ofFx{p:Addr}{a:Nat}{f:Fd}(F:FxAt H p (toFx a c f)):FdAt H p a c f:=by
 cases f with
 | more w t=>exact F
 | lead w l=>exact F
 | tab g=>
  obtain⟨q,ps,h1,R⟩:=F
  refine⟨q,ps,h1,R.out,by have:=R.len;rwa [zcd9,zcf8] at this,fun i p' e=>?_⟩
  have hi:i<a+1:=by have:=(zce2.mp e).1;have:=R.len;rw[zcd9,zcf8] at this;omega
  have:=R.row i p' _ e (by rw[zce3,zci1 hi];rfl)
  rw[zn2];exact this
structure FlX(z:Addr)(H:Hp)(l:Addr)(ps:List Addr)(fs:List Fx):Prop where
 lst:H l=some (.lst (ps.map V.ref))
 len:ps.length=fs.length
 fld:∀ (i:Nat) p f,ps[i]?=some p->fs[i]?=some f->FxAt (rm z (rm l H)) p f/\f.Gd
theorem FlX.same{z:Addr}{H H':Hp}{l:Addr}{ps:List Addr}{fs:List Fx}(F:FlX z H l ps fs)(s:Same H H'):FlX z H' l ps fs:=⟨s _ _ F.lst,F.len,fun i p f h1 h2=>⟨(F.fld i p f h1 h2).1.same (Same.rm (Same.rm s)),(F.fld i p f h1 h2).2⟩⟩
theorem FlX.rev{z:Addr}{l:Addr}{fs:List Fx}(F:FlX z H l ps fs)(c:Chg l H H')(h:H' l=some (.lst (ps.map V.ref).reverse)):FlX z H' l ps.reverse fs.reverse:=by
 refine⟨by rw[h,zcn0],by rw[zci6,zci6,F.len],fun i p f h1 h2=>?_⟩
 have hi:i<ps.length:=by have:=(zce2.mp h1).1;rwa [zci6] at this
 rw[zck9 hi] at h1
 rw[zck9 (by rw[← F.len];exact hi),← F.len] at h2
 have:=F.fld _ p f h1 h2
 exact⟨this.1.same (Same.rm (Chg.rm c)),this.2⟩
@[irreducible] def zg3:Sp:=fun vs H Q _=>∃ (z b l:Addr) (ps:List Addr) (a c:Int) (fs:List Fx),vs=[.ref b]/\(∃ o,H z=some o)/\BxAt (rm z H) b l ps a c fs/\fs.length<=100/\∀ b' l' ps' H',Same H H'->H l'=none->H b'=none->H' b'=some (.tup [.int a,.int c,.ref l'])->FlX z H' l' ps' fs->Q (.ref b') H'
theorem zbg7{z b l:Addr}{a c:Int}{fs:List Fx}(hz:∃ o,H z=some o)(B:BxAt (rm z H) b l ps a c fs)(hl:fs.length<=100)(q:∀ b' l' ps' H',Same H H'->H l'=none->H b'=none->H' b'=some (.tup [.int a,.int c,.ref l'])->FlX z H' l' ps' fs->Q (.ref b') H'):zg3 [.ref b] H Q E:=by unfold zg3;exact⟨z,b,l,ps,a,c,fs,rfl,hz,B,hl,q⟩
theorem zaf0(F:Fun K "_law_copied" "_law_copied" zo8 f fd)(N:Nm mg):FnOk P w K mg base CX0 1 f fd ["_law_battle"] zg3:=by
 refine F.ok zg6 (fun vs H Q E h=>by unfold zg3 at h;obtain⟨_,_,_,_,_,_,_,rfl,_⟩:=h;rfl) fun _ _ _ s H vs Q E hr h=>?_
 unfold zg3 at h
 obtain⟨zz,b,l,ps,a,c,fs,rfl,⟨oz,ez⟩,B,hl,q⟩:=h
 have hu:=hu40 hr
 have bl:=B.len
 refine⟨_,(za3 (zy9 (pq 0) (zad5 (K:=K) (n:=3) rfl rfl (zg8 (zb0 (i:=1) zg6.nd rfl (by eq_refl)) (zg8 (zb0 (i:=2) zg6.nd rfl (by eq_refl)) (zg8 (zb0 (i:=3) zg6.nd rfl (by eq_refl)) zac3)))))
   (za3 (psS (i:=4) zg6.nd (ze5 za1))
   (za3 (zt2 PassesOwn.never rfl (zf5 (K:=K) rfl (pq 3)) (zb0 (i:=5) zg6.nd rfl (by eq_refl)) (za4 (psIf (ptC (oEqK (K:=K) rfl (by exact hu)) (zb7 (K:=K) rfl (pq 5) za2) zb4) (za4 (zn1 (zo3 (pq 4) (za0 (zg1 (za0 zb4 (za0 (zk1 (N:=["_law_row"]) (ks:=[none]) (zf5 (K:=K) rfl (zb7 (K:=K) rfl (pq 5) za2)) (fun _ _ _ _ _=>(zb0 (i:=0) nb_11 rfl (by eq_refl))) (fun _ _ _ _ _=>zf7) (fun _ _ _ _ _=>(pT (zab9 (K:=K) rfl) N.list_ zk6 (za0 (pq 0) za1))) (.skip .nil)) za1))) za1)))) (za4 (zn1 (zo3 (pq 4) (za0 (pq 5) za1)))))))
   (za4 (za9 (zg1 (za0 (pq 1) (za0 (pq 2) (za0 (pq 4) za1))))))))),?_⟩
 refine zq3 (ze1 _ _ _ _ B.out) ?_
 refine zb6 (fun l' H1 f1 s1 h1=>?_)
 refine zc7 (s1 _ _ (ze1 _ _ _ _ B.lst)) ?_
 refine zj9 (xs:=ps.map V.ref) (fun i σ H2=>∃ (t:Option V) (qs:List Addr),σ=[some (.ref b),some (.int a),some (.int c),some (.ref l),some (.ref l'),t]/\Same H H2/\H2 l'=some (.lst (qs.map V.ref))/\qs.length=i/\∀ (k:Nat) p f,qs[k]?=some p->fs[k]?=some f->FxAt (rm zz (rm l' H2)) p f) ?_ ?_ ?_ ?_
 ·exact⟨_,[],rfl,s1,h1,rfl,fun k p f e=>by simp at e⟩
 ·rintro i σ H2 _ ⟨_,_,_,s2,_⟩
  exact SqL.of (s2 _ _ (ze1 _ _ _ _ B.lst))
 ·rintro i v σ H2 hx ⟨t,qs,rfl,s2,h2,ql,pf⟩
  have hi:=(zce2.mp hx).1
  rw[zcd9] at hi
  obtain⟨p,f,rfl,ep,ef,hf,gd⟩:=(B.same (Same.rm s2)).elt hx
  have fin:∀ (p':Addr) (H3:Hp),Same H2 H3->FxAt (rm zz (rm l' H3)) p' f->∀ H4,Chg l' H3 H4->H4 l'=some (.lst (qs.map V.ref++[.ref p']))->∃ (t:Option V) (qs:List Addr),[some (.ref b),some (.int a),some (.int c),some (.ref l),some (.ref l'),some (.ref p)]=[some (V.ref b),some (V.int a),some (V.int c),some (V.ref l),some (V.ref l'),t]/\Same H H4/\H4 l'=some (.lst (qs.map V.ref))/\qs.length=i+1/\∀ (k:Nat) p f,qs[k]?=some p->fs[k]?=some f->FxAt (rm zz (rm l' H4)) p f:=fun p' H3 s3 hp' H4 c4 h4=>by
   refine⟨_,qs++[p'],rfl,(s2.trans s3).chg f1 c4,by rw[h4,zch0];rfl,by rw[zce6,ql];rfl,fun k p2 f2 g1 g2=>?_⟩
   rcases zh4 g1 with ⟨hk,g1⟩|⟨hk,rfl⟩
   ·exact (pf k p2 f2 g1 g2).same (Same.rm (fun b o e=>zf9 (zj0 e).1 (c4 _ _ (zj0 e).1 (s3 _ _ (zj0 e).2))))
   ·have:f=f2:=Option.some.inj (ef.symm.trans (by rw[show i=k by rfl'];exact g2))
    subst this
    exact hp'.same (Same.rm (Chg.rm c4))
  have nl:∀ b xs,H2 b=some (.tup xs)->b≠l':=fun b xs e z=>by rw[z,h2] at e;cases e
  cases f with
  | flat w zs=>
   have nz:=(zj0 (show rm zz H2 p=some (.tup (.str w :: zs.map V.int)) from hf)).1
   have hf:H2 p=some (.tup (.str w :: zs.map V.int)):=(zj0 (show rm zz H2 p=some (.tup (.str w :: zs.map V.int)) from hf)).2
   refine zb2 (v:=.str w) hf (by unfold atI ixN;simp) ?_
   refine zp9 gd.1 ?_
   refine zt0 h2 ?_
   refine zam1 h2 (by rw[zcd9,zcn5];omega) (fun H4 c4 h4=>?_)
   ac_nf
   exact fin p H2 (Same.refl _) (zf9 nz (zf9 (nl _ _ hf) hf)) H4 c4 h4
  | tab rows=>
   obtain⟨q0,rs,hp,R⟩:=hf
   have hp:=ze1 _ _ _ _ hp
   have R:=R.same (ze1 _ _)
   have nzz:∀ {x:Addr},H2 x=none->x≠zz:=fun hx z=>by rw[z,s2 _ _ ez] at hx;cases hx
   obtain⟨g1,g2⟩:rows.length<=100/\∀ r∈rows,r.length<=100:=gd
   have rl:=R.len
   refine zb2 (v:=.str "table") hp rfl ?_
   refine zq2 rfl ?_
   refine zt0 h2 ?_
   refine zb2 (v:=.ref q0) hp rfl ?_
   refine zc7 R.out ?_
   refine zbd8 (n:=(rs.map V.ref).length) (Wk.list (SqL.of R.out)) (by rw[zcd9,zcn5];omega) (fun i=>.lst ((rows.getD i []).map V.int)) (fun j σ=>∃ t:Option V,σ=[t]) ⟨none,rfl⟩ ?_ ?_
   ·rintro j v σ H3 R' S hj s3 hx ⟨t,rfl⟩ k
    obtain⟨p1,r1,rfl,e1,e2,hp1⟩:=(R.same s3).elt hx
    have eg:rows.getD j []=r1:=by rw[zce9,e2];rfl
    rw[eg] at k
    refine br_T ?_
    refine zr8 (SqL.of hp1) (fun q2 H4 f4 s4 h4=>?_)
    ac_nf
    exact k _ _ _ f4 s4 h4 ⟨_,rfl⟩
   ·intro acc qs2 H3 F3
    rw[zcd9,rl] at F3
    refine zb5 (fun p3 H4 f4 s4 h4=>?_)
    have s24:=F3.same.trans s4
    refine zam1 (s24 _ _ h2) (by rw[zcd9,zcn5];omega) (fun H5 c5 h5=>?_)
    ac_nf
    have na:acc≠l':=Ne.symm (za6 h2 F3.facc)
    refine fin p3 H4 s24 ⟨acc,qs2,zf9 (nzz (F3.same.free f4)) (zf9 (Ne.symm (za6 (F3.same _ _ h2) f4)) h4),zf9 (nzz F3.facc) (zf9 na (s4 _ _ F3.out)),F3.len,fun k p' r' k1 k2=>?_⟩ H5 c5 h5
    have rr:=F3.row k p' k1
    have eg:rows.getD k []=r':=by rw[zce9,k2];rfl
    rw[eg] at rr
    exact zf9 (nzz rr.1) (zf9 (Ne.symm (za6 h2 rr.1)) (s4 _ _ rr.2))
 ·rintro σ H2 ⟨t,qs,rfl,s2,h2,ql,pf⟩
  rw[zcd9] at ql
  refine zb5 (fun b' H3 f3 s3 h3=>?_)
  ac_nf
  refine q b' l' qs H3 (s2.trans s3) f1 (s2.free f3) h3 ⟨s3 _ _ h2,by rfl',fun i p f e1 e2=>⟨(pf i p f e1 e2).same (Same.rm (Same.rm s3)),?_⟩⟩
  obtain⟨p0,ep0⟩:∃ p0,ps[i]?=some p0:=⟨_,zce0 (by have:=(zce2.mp e2).1;omega)⟩
  exact (B.fld i p0 f ep0 e2).2
theorem FlX.bat{z:Addr}{b l:Addr}{a:Nat}{fs:List Fd}(F:FlX z H l ps (fs.map (toFx a c)))(hb:H b=some (.tup [.int a,.int c,.ref l]))(ok:∀ f∈fs,f.Ok):zh7 H b l ps a c fs:=by
 refine⟨hb,F.lst,by have:=F.len;rwa [zcd9] at this,fun i p f h1 h2=>⟨?_,ok f (zce5 h2)⟩⟩
 have:=(F.fld i p (toFx a c f) h1 (by rw[zce3,h2];rfl)).1
 exact ofFx (this.same (fun b o e=>(zj0 (zj0 e).2).2))
theorem zh7.oks{b l:Addr}{a:Nat}{fs:List Fd}(B:zh7 H b l ps a c fs):∀ f∈fs,f.Ok:=fun f hf=>by
 obtain⟨i,ei⟩:=zcl3 hf
 obtain⟨p,ep⟩:∃ p,ps[i]?=some p:=⟨_,zce0 (by have:=(zce2.mp ei).1;have:=B.len;omega)⟩
 exact (B.fld i p f ep ei).2
theorem FdAt.eq{K:zce1}{p p':Addr}{a:Nat}{f:Fd}(F:FdAt H p a c f)(F':FdAt H p' a c f):EqR K H 3 (.ref p) (.ref p') true:=by
 have flat:∀ v:V,zh1 v=true->EqR K H 2 v v true:=fun v hv=>by
  have:=EqR.flat (K:=K) (H:=H) (n:=2) (x:=v) (y:=v) hv hv
  rwa [zz9 hv] at this
 cases f with
 | more w t=>
  exact EqR.tup (K:=K) (H:=H) (n:=2) (fun _=>true) (SqT.of F) (SqT.of F') (fun j x y hx hy=>by
   match j with
   | 0=>cases hx;cases hy;exact flat _ rfl
   | 1=>cases hx;cases hy;exact flat _ rfl
   | 2=>cases hx;cases hy;exact flat _ rfl
   | j+3=>simp at hx)
 | lead w l=>
  exact EqR.tup (K:=K) (H:=H) (n:=2) (fun _=>true) (SqT.of F) (SqT.of F') (fun j x y hx hy=>by
   match j with
   | 0=>cases hx;cases hy;exact flat _ rfl
   | 1=>cases hx;cases hy;exact flat _ rfl
   | 2=>cases hx;cases hy;exact flat _ rfl
   | j+3=>simp at hx)
 | tab g=>
  obtain⟨q,ps,F,G⟩:=F
  obtain⟨q',ps',F',G'⟩:=F'
  exact EqR.tup (K:=K) (H:=H) (n:=2) (fun _=>true) (SqT.of F) (SqT.of F') (fun j x y hx hy=>by
   match j with
   | 0=>cases hx;cases hy;exact flat _ rfl
   | 1=>
    cases hx;cases hy
    exact EqR.rows (SqL.of G.out) (SqL.of G'.out) (by rw[G.len,G'.len]) fun i r r' e1 e2=>⟨_,by have:=G.row i r e1;rw[zn2] at this;exact SqL.of this,by have:=G'.row i r' e2;rw[zn2] at this;exact SqL.of this⟩
   | j+2=>simp at hx)
theorem zh7.eq{K:zce1}{H:Hp}{b l b' l':Addr}{ps ps':List Addr}{a c:Nat}{fs:List Fd}(B:zh7 H b l ps a c fs)(B':zh7 H b' l' ps' a c fs):EqR K H 5 (.ref b) (.ref b') true:=by
 have flat:∀ v:V,zh1 v=true->EqR K H 4 v v true:=fun v hv=>by
  have:=EqR.flat (K:=K) (H:=H) (n:=4) (x:=v) (y:=v) hv hv
  rwa [zz9 hv] at this
 exact EqR.tup (K:=K) (H:=H) (n:=4) (fun _=>true) (SqT.of B.out) (SqT.of B'.out) (fun j x y hx hy=>by
  match j with
  | 0=>cases hx;cases hy;exact flat _ rfl
  | 1=>cases hx;cases hy;exact flat _ rfl
  | 2=>
   cases hx;cases hy
   refine EqR.allT (SqL.of B.lst) (SqL.of B'.lst) (by rw[zcd9,zcd9,B.len,B'.len]) fun i u v hu hv=>?_
   obtain⟨r,f,rfl,er,ef,hf,_⟩:=B.elt hu
   rw[zce3] at hv
   obtain⟨r',er',rfl⟩:=zce7.mp hv
   exact hf.eq (B'.fld i r' f er' ef).1
  | j+3=>simp at hx)
abbrev RwB:=List (Addr×List Int)
def refs(zs:RwB):List V:=zs.map fun z=>V.ref z.1
theorem zl3(zs:RwB):(refs zs).length=zs.length:=by unfold refs;rw[zcd9]
theorem zbi9(zs:RwB)(k:Int)(h:0<=k):cutV (refs zs) none (some k)=refs (zs.take k.toNat):=by rw[zq1 h];unfold refs;rw[List.map_take]
theorem zbh0(zs:RwB)(k:Int)(h:0<=k):cutV (refs zs) (some k) none=refs (zs.drop k.toNat):=by rw[zr7 h];unfold refs;rw[List.map_drop]
theorem zs2(zs ys:RwB):refs zs++refs ys=refs (zs++ys):=by unfold refs;rw[zch0]
theorem zas4{zs:RwB}{k:Int}{z:Addr×List Int}(h:0<=k)(e:zs[k.toNat]?=some z):atI (refs zs) k=some (.ref z.1):=by
 have:(refs zs)[k.toNat]?=some (.ref z.1):=by unfold refs;rw[zce3,e];rfl
 have:=zn0 this
 rwa [show ((k.toNat:Nat):Int)=k by rfl'] at this
theorem zbr6{zs:RwB}(h:H q=some (.lst (refs zs)))(k:∀ z∈zs,H z.1=some (.lst (z.2.map V.int))):zp7 H q (zs.map (·.1)) (zs.map (·.2)):=by
 refine⟨by rw[h];unfold refs;rw[zck4];rfl,by rw[zcd9,zcd9],fun i p r e1 e2=>?_⟩
 rw[zce3] at e1 e2
 obtain⟨z,ez,rfl⟩:=zce7.mp e1
 rw[ez] at e2
 cases e2
 exact k z (zce5 ez)
theorem zak4{a c:Int}{rows:List (List Int)}(h:(rows.length:Int)≠a+1):isF a c (.tab rows)=false:=by
 show (decide _&&_)=false
 rw[decide_eq_false h,Bool.false_and]
theorem zbf0{a c:Int}{rows:List (List Int)}{r:List Int}(h:r∈rows)(hr:(r.length:Int)≠c+1):isF a c (.tab rows)=false:=by
 show (decide _&&List.all _ _)=false
 rw[Bool.and_eq_false_iff]
 right
 rw[List.all_eq_false]
 exact⟨r,h,by rw[decide_eq_false hr];exact zcf0⟩
@[irreducible] def zd9:Sp:=fun vs H Q _=>∃ (a p:Addr) (b:Int) (n m:Nat) (f:Fd),vs=[.ref a,.ref p,.int n,.int m]/\zc0 H a b/\b<=100000/\FdAt (rm a H) p n m f/\f.Ok/\n<=10/\m<=10/\∀ q f' H',Chg a H H'->zc0 H' a (b+100)->FxAt (nw H H') q f'->f'.Gd->isF n m f'=false->Q (.ref q) H'
theorem zal1{a p:Addr}{b:Int}{n:Nat}{f:Fd}(L:zc0 H a b)(hb:b<=100000)(F:FdAt (rm a H) p n m f)(O:f.Ok)(h1:n<=10)(h2:m<=10)(q:∀ q f' H',Chg a H H'->zc0 H' a (b+100)->FxAt (nw H H') q f'->f'.Gd->isF n m f'=false->Q (.ref q) H'):zd9 [.ref a,.ref p,.int n,.int m] H Q E:=by unfold zd9;exact⟨a,p,b,n,m,f,rfl,L,hb,F,O,h1,h2,q⟩
theorem zax0{n:Nat}{w:Str}{x y:Int}(hw:w="more"∨w="lead")(h:x<1):isF n m (.flat w [x,y])=false:=by
 show (if w="more" then decide (1<=x/\-x<=y/\y<=x) else if w="lead" then decide (1<=x) else false)=false
 by_cases e:w="more"
 ·rw[if_pos e,decide_eq_false (by rfl')]
 ·rw[if_neg e]
  rcases hw with hw|hw
  ·exact absurd hw e
  ·rw[if_pos hw,decide_eq_false (by rfl')]
theorem zah8{n:Nat}{w:Str}{x y:Int}(h1:w≠"more")(h2:w≠"lead"):isF n m (.flat w [x,y])=false:=by
 show (if w="more" then decide (1<=x/\-x<=y/\y<=x) else if w="lead" then decide (1<=x) else false)=false
 rw[if_neg h1,if_neg h2]
theorem zx2(F:Fun K "_law_bad_field" "_law_bad_field" zm1 f fd)(N:Nm mg)(zbw1:Def P w K mg base CX0 2 "_law_draw" ["_law_left","_law_base"] zd7):FnOk P w K mg base CX0 3 f fd ["_law_left","_law_field","_law_first","_law_second"] zd9:=by
 refine F.ok zb1 (fun vs H Q E h=>by unfold zd9 at h;obtain⟨_,_,_,_,_,_,rfl,_⟩:=h;rfl) fun _ _ _ s H vs Q E hr h=>?_
 unfold zd9 at h
 obtain⟨a,p,b,n,m,f,rfl,L,hb,F,O,h1,h2,q⟩:=h
 have hu:=hu40 hr
 refine⟨_,(za3 (psS (i:=4) zb1.nd (pD zbw1 hr zc1 (za0 (pq 0) (za0 za2 za1))))
   (za3 (psS (i:=5) zb1.nd (pD zbw1 hr zc1 (za0 (pq 0) (za0 (za8 oPow za2 za2) za1))))
   (za3 (zbc5 (psIf (ptW (zbb4 (ptC (oEqK (K:=K) rfl (by exact hu)) (zb7 (K:=K) rfl (pq 1) za2) zb4) (zw3 (ptC oLt (pq 4) za2)))) (za3 (psC (i:=6) (N:=["_law_row"]) (ks:=[none]) zb1.nd (zf5 (K:=K) rfl (zb7 (K:=K) rfl (pq 1) za2)) (fun _ _ _ _ _=>(zb0 (i:=0) nb_12 rfl (by eq_refl))) (fun _ _ _ _ _=>zf7) (fun _ _ _ _ _=>(pT (zab9 (K:=K) rfl) N.list_ zk6 (za0 (pq 0) za1))) (.skip .nil))
   (za3 (psS (i:=7) zb1.nd (pD zbw1 hr zc1 (za0 (pq 0) (za0 (pB (zv7 (K:=K) rfl) N.len_ zn3 (za0 (pq 6) za1)) za1))))
   (za3 (psS (i:=8) zb1.nd (ze5 (za0 (za8 oAdd (ze6 (slK (K:=K) rfl) (pq 6) zh8 (zk2 (pq 7))) (ze6 (slK (K:=K) rfl) (pq 6) (zk2 (za8 oAdd (pq 7) za2)) zh8)) (za0 (za8 oAdd (pq 6) (ze5 (za0 (zb7 (K:=K) rfl (pq 6) (pq 7)) za1))) (za0 (za8 oAdd (za8 oAdd (ze6 (slK (K:=K) rfl) (pq 6) zh8 (zk2 (pq 7))) (ze5 (za0 (ze6 (slK (K:=K) rfl) (zb7 (K:=K) rfl (pq 6) (pq 7)) (zk2 za2) zh8) za1))) (ze6 (slK (K:=K) rfl) (pq 6) (zk2 (za8 oAdd (pq 7) za2)) zh8)) za1)))))
   (za3 (psS (i:=8) zb1.nd (za8 oAdd (pq 8) (ze5 (za0 (za8 oAdd (za8 oAdd (ze6 (slK (K:=K) rfl) (pq 6) zh8 (zk2 (pq 7))) (ze5 (za0 (za8 oAdd (zb7 (K:=K) rfl (pq 6) (pq 7)) (ze5 (za0 za2 za1))) za1))) (ze6 (slK (K:=K) rfl) (pq 6) (zk2 (za8 oAdd (pq 7) za2)) zh8)) (za0 (ze5 za1) za1)))))
   (za4 (za9 (zg1 (za0 zb4 (za0 (zb7 (K:=K) rfl (pq 8) (pq 4)) za1))))))))) zb8))
   (za3 (zbc5 (psIf (ptC (oEqK (K:=K) rfl (by exact hu)) (zb7 (K:=K) rfl (pq 1) za2) zb4) (za4 (psS (i:=1) zb1.nd (zg1 (za0 zb4 (za0 za2 (za0 za2 za1)))))) zb8))
   (za3 (zy9 (pq 1) (zad5 (K:=K) (n:=3) rfl rfl (zg8 (zb0 (i:=9) zb1.nd rfl (by eq_refl)) (zg8 (zb0 (i:=10) zb1.nd rfl (by eq_refl)) (zg8 (zb0 (i:=11) zb1.nd rfl (by eq_refl)) zac3)))))
   (za3 (psS (i:=8) zb1.nd (ze5 (za0 (zg1 (za0 (pq 9) (za0 za2 (za0 (pq 11) za1)))) (za0 (zg1 (za0 (pq 9) (za0 (za8 oSub (zx1 uNeg za2) (pq 5)) (za0 (pq 11) za1)))) (za0 (zg1 (za0 (pq 9) (za0 (pq 10) za1))) (za0 (zg1 (za0 (pq 9) (za0 (pq 10) (za0 (pq 11) (za0 za2 za1))))) (za0 (zg1 (za0 (pq 9) za1)) za1)))))))
   (za3 (psS (i:=8) zb1.nd (za8 oAdd (pq 8) (ze5 (za0 (zg1 (za0 zb4 (za0 (pq 10) (za0 (za8 oAdd (za8 oAdd (pq 10) za2) (pq 5)) za1)))) (za0 (zg1 (za0 zb4 (za0 (pq 10) (za0 (za8 oSub (za8 oSub (zx1 uNeg za2) (pq 10)) (pq 5)) za1)))) (za0 (zg1 (za0 zb4 (za0 (pq 10) (za0 (pq 11) za1)))) za1))))))
   (za4 (za9 (zb7 (K:=K) rfl (za8 oAdd (pq 8) (ze5 (za0 (zg1 (za0 (zb7 (K:=K) rfl (ze5 (za0 zb4 (za0 zb4 (za0 zb4 za1)))) (pD zbw1 hr zc1 (za0 (pq 0) (za0 za2 za1)))) (za0 (pq 10) (za0 (pq 11) za1)))) za1))) (pq 4))))))))))),?_⟩
 refine zd6 L (by rfl') (by rfl') (by rfl') (fun kd H1 kd0 kd1 c1 L1=>?_)
 walk_at "st"
 refine zd6 L1 (by rfl') (by rfl') (by rfl') (fun far H2 far0 far1 c2 L2=>?_)
 have c02:=c1.trans c2
 have F2:=F.same (Chg.rm c02)
 have fresh:∀ {Hk:Hp}{x:Addr}{bb:Int},Chg a H Hk->zc0 Hk a bb->Hk x=none->H x=none:=fun c L f=>Chg.free' c f (L.ne f)
 refine zav0 (fun σ H3=>σ=[some (.ref a),some (.ref p),some (.int n),some (.int m),some (.int kd),some (.int far),none,none,none,none,none,none]/\H3=H2) ?_ ?_
 rotate_left
 ·rintro σ H3 ⟨rfl,rfl⟩
  have flat:∃ (w:Str) (xs:List V),H3 p=some (.tup (.str w :: xs))/\(w="table"∨∃ wt mo:Int,xs=[.int wt,.int mo]/\(w="more"∨w="lead")):=by
   cases f with
   | more wt t=>exact⟨_,_,ze1 a H3 _ _ F2,.inr ⟨wt,t,rfl,.inl rfl⟩⟩
   | lead wt t=>exact⟨_,_,ze1 a H3 _ _ F2,.inr ⟨wt,t,rfl,.inr rfl⟩⟩
   | tab g=>
    obtain⟨q0,rs,Fp,G⟩:=F2
    exact⟨_,_,ze1 a H3 _ _ Fp,.inl rfl⟩
  obtain⟨w0,xs0,hp,hw⟩:=flat
  refine zav0 (fun σ H4=>∃ (pF:Addr) (w:Str) (wt mo:Int),σ=[some (.ref a),some (.ref pF),some (.int n),some (.int m),some (.int kd),some (.int far),none,none,none,none,none,none]/\Same H3 H4/\H4 pF=some (.tup [.str w,.int wt,.int mo])/\(w="more"∨w="lead")) ?_ ?_
  ·ac_nf
   refine zb2 (v:=.str w0) hp (by unfold atI ixN;simp) ?_
   refine ze8 (fun e=>?_) (fun e=>?_)
   ·ac_nf
    refine zb5 (fun pF H4 f4 s4 h4=>?_)
    ac_nf
    exact⟨pF,"more",3,1,rfl,s4,h4,.inl rfl⟩
   ·ac_nf
    rcases hw with hw|⟨wt,mo,rfl,hw⟩
    ·exact absurd hw e
    ·exact⟨p,w0,wt,mo,rfl,Same.refl _,hp,hw⟩
  ·rintro σ H4 ⟨pF,w,wt,mo,rfl,s4,h4,hw⟩
   have L4:=L2.same s4
   have c04:=c02.same s4
   refine zq3 h4 ?_
   refine zb5 (fun p5 H5 f5 s5 h5=>?_)
   refine zb5 (fun p6 H6 f6 s6 h6=>?_)
   refine zb5 (fun p7 H7 f7 s7 h7=>?_)
   refine zb5 (fun p8 H8 f8 s8 h8=>?_)
   refine zb5 (fun p9 H9 f9 s9 h9=>?_)
   refine zb6 (fun p10 H10 f10 s10 h10=>?_)
   refine zb5 (fun p11 H11 f11 s11 h11=>?_)
   refine zb5 (fun p12 H12 f12 s12 h12=>?_)
   refine zb5 (fun p13 H13 f13 s13 h13=>?_)
   refine zb6 (fun p14 H14 f14 s14 h14=>?_)
   have s1014:=((s11.trans s12).trans s13).trans s14
   refine zg9 (s1014 _ _ h10) h14 (by rw[zcn5];simp) (fun p15 H15 f15 s15 h15=>?_)
   have h15:H15 p15=some (.lst [.ref p5,.ref p6,.ref p7,.ref p8,.ref p9,.ref p11,.ref p12,.ref p13]):=h15
   have s415:Same H4 H15:=((((((s5.trans s6).trans s7).trans s8).trans s9).trans s10).trans s1014).trans s15
   refine zb6 (fun p16 H16 f16 s16 h16=>?_)
   have L16:=(L4.same s415).same s16
   refine zd6 L16 (by rfl') (by rfl') (by rfl') (fun d3 H17 d30 d31 c17 L17=>?_)
   have h16':=c17 _ _ (((L4.same s415)).ne f16) h16
   refine zl2 h16' (by rfl') (by simp only[zcf1,zci4];omega) ?_
   intro v hv
   obtain⟨w3,rfl,w31,w32,w33⟩:∃ w3:Str,v=.str w3/\w3≠"more"/\w3≠"lead"/\w3≠"table":=by
    simp only[zcf2,zcg2,or_false] at hv
    rcases hv with rfl|rfl|rfl<;>exact⟨_,rfl,by decide,by decide,by decide⟩
   clear hv
   refine zb5 (fun p18 H18 f18 s18 h18=>?_)
   refine zb6 (fun p19 H19 f19 s19 h19=>?_)
   have na15:p15≠a:=((L4.same ((((((s5.trans s6).trans s7).trans s8).trans s9).trans s10).trans s1014))).ne f15
   have h1518:=c17 _ _ na15 (s16 _ _ h15)
   refine zg9 (s19 _ _ (s18 _ _ h1518)) h19 (by rw[zcn5];simp) (fun p20 H20 f20 s20 h20=>?_)
   have h20:H20 p20=some (.lst [.ref p5,.ref p6,.ref p7,.ref p8,.ref p9,.ref p11,.ref p12,.ref p13,.ref p18]):=h20
   refine zl2 h20 (by rfl') (by simp only[zcf1,zci4];omega) ?_
   intro v hv
   have s1720:=(s18.trans s19).trans s20
   have c0:Chg a H H20:=((((c04.same s415).same s16).trans c17).same s1720)
   have L20:zc0 H20 a (b+100):=(L17.same s1720).up (by rfl')
   have fin:∀ (x:Addr) (Hk Hk':Hp) (w:Str) (zs:List Int),Same H4 Hk->Hk x=none->Same Hk Hk'->Same Hk' H16->Hk' x=some (.tup (.str w :: zs.map V.int))->w≠"table"->zs.length<=10->isF n m (.flat w zs)=false->Q (.ref x) H20:=fun x Hk Hk' w zs sk fx sk' sx hx nt zl bad=>by
    have nx:x≠a:=(L4.same sk).ne fx
    have e:H20 x=some (.tup (.str w :: zs.map V.int)):=s1720 _ _ (c17 _ _ nx (sx _ _ hx))
    exact q x (.flat w zs) H20 c0 L20 (zae1 (fresh (c04.same sk) (L4.same sk) fx) e) ⟨nt,zl⟩ bad
   have wt':w≠"table":=by rcases hw with rfl|rfl<;>decide
   have t9:Same H9 H16:=((s10.trans s1014).trans s15).trans s16
   have t11:Same H11 H16:=(((s12.trans s13).trans s14).trans s15).trans s16
   simp only[zcf2,zcg2,or_false] at hv
   ac_nf
   rcases hv with rfl|rfl|rfl|rfl|rfl|rfl|rfl|rfl|rfl
   ·exact fin p5 H4 H5 w [0,mo] (Same.refl _) f5 s5 ((((s6.trans s7).trans s8).trans s9).trans t9) h5 wt' (by simp) (zax0 hw (by decide))
   ·exact fin p6 H5 H6 w [-1 - far,mo] s5 f6 s6 (((s7.trans s8).trans s9).trans t9) h6 wt' (by simp) (zax0 hw (by rfl'))
   ·exact fin p7 H6 H7 w [wt] (s5.trans s6) f7 s7 ((s8.trans s9).trans t9) h7 wt' (by simp) (zaj7 (by simp))
   ·exact fin p8 H7 H8 w [wt,mo,0] ((s5.trans s6).trans s7) f8 s8 (s9.trans t9) h8 wt' (by simp) (zaj7 (by simp))
   ·exact fin p9 H8 H9 w [] (((s5.trans s6).trans s7).trans s8) f9 s9 t9 h9 wt' (by simp) (zaj7 (by simp))
   ·have s410:=((((s5.trans s6).trans s7).trans s8).trans s9).trans s10
    exact fin p11 H10 H11 "more" [wt,wt+1+far] s410 f11 s11 t11 h11 (by decide) (by simp) (decide_eq_false (by rfl'))
   ·have s410:=((((s5.trans s6).trans s7).trans s8).trans s9).trans s10
    exact fin p12 H11 H12 "more" [wt,-1 - wt - far] (s410.trans s11) f12 s12 (((s13.trans s14).trans s15).trans s16) h12 (by decide) (by simp) (decide_eq_false (by rfl'))
   ·have s410:=((((s5.trans s6).trans s7).trans s8).trans s9).trans s10
    exact fin p13 H12 H13 "Lead" [wt,mo] ((s410.trans s11).trans s12) f13 s13 ((s14.trans s15).trans s16) h13 (by decide) (by simp) (zah8 (by decide) (by decide))
   ·have n18:p18≠a:=L17.ne f18
    have c17':Chg a H H17:=(((c04.same s415).same s16).trans c17)
    exact q p18 (.flat w3 [wt,mo]) H20 c0 L20 (zae1 (fresh c17' L17 f18) ((s19.trans s20) _ _ h18)) ⟨w33,by simp⟩ (zah8 w31 w32)
 cases f with
 | tab g=>
  obtain⟨q0,rs,Fp,G⟩:=F2
  have G':=G.same (ze1 a H2)
  have Fp':H2 p=some (.tup [.str "table",.ref q0]):=ze1 a H2 _ _ Fp
  have gl:=G.len
  refine zb2 (v:=.str "table") Fp' rfl ?_
  refine zq2 rfl ?_
  refine ze8 (fun k5=>?_) (fun k5=>?_)
  ·ac_nf
   refine zb2 (v:=.ref q0) Fp' rfl ?_
   refine zc7 G'.out ?_
   refine zbd8 (n:=(rs.map V.ref).length) (Wk.list (SqL.of G'.out)) (by rw[zcd9,zcn5];omega) (fun i=>.lst (rowV (m+1) (g i))) (fun j σ=>∃ t:Option V,σ=[t]) ⟨none,rfl⟩ ?_ ?_
   ·rintro j v σ H3 R' S hj s3 hx ⟨t,rfl⟩ k
    rw[zce3] at hx
    obtain⟨p1,e1,rfl⟩:=zce7.mp hx
    refine br_T ?_
    refine zr8 (SqL.of (s3 _ _ (G'.row j p1 e1))) (fun q2 H4 f4 s4 h4=>?_)
    ac_nf
    exact k _ _ _ f4 s4 h4 ⟨_,rfl⟩
   ·intro acc qs H3 F3
    rw[zcd9,gl] at F3
    have L3:=L2.same F3.same
    obtain⟨oa,ea⟩:=L2.some
    refine zm9 F3.out ?_
    rw[zcd9,F3.len]
    refine zd6 L3 (by rfl') (by rfl') (by rfl') (fun at' H4 at0 at1 c4 L4=>?_)
    have c04:Chg a H H4:=(c02.same F3.same).trans c4
    have nacc:acc≠a:=Ne.symm (za6 ea F3.facc)
    obtain⟨zs,ezs⟩:∃ zs:RwB,zs=(List.range (n+1)).map fun i=>(qs.getD i 0,(List.range (m+1)).map (g i)):=⟨_,rfl⟩
    have zl:zs.length=n+1:=by rw[ezs,zcd9,zcf8]
    have zat:∀ (i:Nat),i<n+1->∃ p',qs[i]?=some p'/\zs[i]?=some (p',(List.range (m+1)).map (g i)):=fun i hi=>by
     obtain⟨p',hp'⟩:∃ p',qs[i]?=some p':=⟨_,zce0 (by rw[F3.len];exact hi)⟩
     refine⟨p',hp',?_⟩
     rw[ezs,zce3,zci1 hi]
     show some (qs.getD i 0,_)=_
     rw[zce9,hp'];rfl
    have zmem:∀ z∈zs,H z.1=none/\H4 z.1=some (.lst (z.2.map V.int))/\z.2.length=m+1:=fun z hz=>by
     obtain⟨i,hi,ei⟩:=zcl4.mp hz
     obtain⟨p',hp',e'⟩:=zat i (by rfl')
     rw[zce0 hi,ei] at e'
     cases e'
     have rr:=F3.row i p' hp'
     refine⟨Chg.free' c02 rr.1 (Ne.symm (za6 ea rr.1)),?_,by rw[zcd9,zcf8]⟩
     have:=c4 _ _ (Ne.symm (za6 ea rr.1)) rr.2
     rw[zn2] at this
     exact this
    have hq4:H4 acc=some (.lst (refs zs)):=by
     have:=c4 _ _ nacc F3.out
     rw[this]
     congr 2
     apply zcj2
     intro i
     by_cases hi:i<n+1
     ·obtain⟨p',hp',e'⟩:=zat i hi
      unfold refs
      rw[zce3,zce3,hp',e']
      rfl
     ·rw[zcf9 (by rw[zcd9,F3.len];omega),zcf9 (by rw[zl3,zl];omega)]
    obtain⟨k,ek⟩:∃ k:Nat,at'=k:=⟨at'.toNat,by rfl'⟩
    subst ek
    have hk:k<n+1:=by rfl'
    obtain⟨pk,hpk,ez⟩:=zat k hk
    have zk:=zmem _ (zce5 ez)
    have ez0:zs[((k:Nat):Int).toNat]?=some (pk,(List.range (m+1)).map (g k)):=by rw[show ((k:Nat):Int).toNat=k by rfl'];exact ez
    clear ezs zat
    obtain⟨T,eT⟩:∃ T,zs.take k=T:=⟨_,rfl⟩
    obtain⟨U,eU⟩:∃ U,zs.drop (k+1)=U:=⟨_,rfl⟩
    have tl:T.length=k:=by rw[← eT,zck7];omega
    have ul:U.length=n - k:=by rw[← eU,zcl1];omega
    have tm:∀ z∈T,z∈zs:=fun z hz=>zcl5 (eT▸hz)
    have um:∀ z∈U,z∈zs:=fun z hz=>List.mem_of_mem_drop (eU▸hz)
    have tk:cutV (refs zs) none (some ((k:Nat):Int))=refs T:=by rw[zbi9 _ _ (by rfl'),show ((k:Nat):Int).toNat=k by rfl',eT]
    have dk:cutV (refs zs) (some ((k:Nat)+1:Int)) none=refs U:=by rw[zbh0 _ _ (by rfl'),show ((k:Nat)+1:Int).toNat=k+1 by rfl',eU]
    have sz:∀ x:Nat,x<=100->x<=sizeLine:=fun x hx=>by rw[zcn5];omega
    have rl:(((List.range (m+1)).map (g k)).map V.int).length=m+1:=by rw[zcd9,zcd9,zcf8]
    refine zaf1 (SqL.of hq4) (fun p5 H5 f5 s5 h5=>?_)
    rw[tk] at h5
    refine zaf1 (SqL.of (s5 _ _ hq4)) (fun p6 H6 f6 s6 h6=>?_)
    rw[dk] at h6
    refine zg9 (s6 _ _ h5) h6 (sz _ (by rw[zl3,zl3];omega)) (fun p7 H7 f7 s7 h7=>?_)
    rw[zs2] at h7
    have s47:=(s5.trans s6).trans s7
    refine zp5 (v:=.ref pk) (s47 _ _ hq4) (zas4 (by rfl') ez0) ?_
    refine zb6 (fun p8 H8 f8 s8 h8=>?_)
    refine zg9 (s8 _ _ (s47 _ _ hq4)) h8 (sz _ (by rw[zl3,zcf4];omega)) (fun p9 H9 f9 s9 h9=>?_)
    have h9:H9 p9=some (.lst (refs (zs++[(pk,(List.range (m+1)).map (g k))]))):=by rw[h9,← zs2];rfl
    have s49:=(s47.trans s8).trans s9
    refine zaf1 (SqL.of (s49 _ _ hq4)) (fun p10 H10 f10 s10 h10=>?_)
    rw[tk] at h10
    refine zp5 (v:=.ref pk) (s10 _ _ (s49 _ _ hq4)) (zas4 (by rfl') ez0) ?_
    refine zaf1 (SqL.of (s10 _ _ (s49 _ _ zk.2.1))) (fun p11 H11 f11 s11 h11=>?_)
    have h11:H11 p11=some (.lst ((((List.range (m+1)).map (g k)).drop 1).map V.int)):=by rw[h11,zr7 (by decide),List.map_drop];rfl
    refine zb6 (fun p12 H12 f12 s12 h12=>?_)
    refine zg9 (s12 _ _ (s11 _ _ h10)) h12 (sz _ (by rw[zl3,zcf4];omega)) (fun p13 H13 f13 s13 h13=>?_)
    have h13:H13 p13=some (.lst (refs (T++[(p11,((List.range (m+1)).map (g k)).drop 1)]))):=by rw[h13,← zs2];rfl
    have s4d:=(((s49.trans s10).trans s11).trans s12).trans s13
    refine zaf1 (SqL.of (s4d _ _ hq4)) (fun p14 H14 f14 s14 h14=>?_)
    rw[dk] at h14
    refine zg9 (s14 _ _ h13) h14 (sz _ (by rw[zl3,zl3,zce6,zcf4];omega)) (fun p15 H15 f15 s15 h15=>?_)
    rw[zs2] at h15
    refine zb6 (fun p16 H16 f16 s16 h16=>?_)
    have s4g:=((s4d.trans s14).trans s15).trans s16
    refine zaf1 (SqL.of (s4g _ _ hq4)) (fun p17 H17 f17 s17 h17=>?_)
    rw[tk] at h17
    refine zp5 (v:=.ref pk) (s17 _ _ (s4g _ _ hq4)) (zas4 (by rfl') ez0) ?_
    refine zb6 (fun p18 H18 f18 s18 h18=>?_)
    refine zg9 (s18 _ _ (s17 _ _ (s4g _ _ zk.2.1))) h18 (sz _ (by rw[rl,zcf4];omega)) (fun p19 H19 f19 s19 h19=>?_)
    have h19:H19 p19=some (.lst ((((List.range (m+1)).map (g k))++[0]).map V.int)):=by rw[h19,zch0];rfl
    refine zb6 (fun p20 H20 f20 s20 h20=>?_)
    have s17b:=((s18.trans s19).trans s20)
    refine zg9 (s17b _ _ h17) h20 (sz _ (by rw[zl3,zcf4];omega)) (fun p21 H21 f21 s21 h21=>?_)
    have h21:H21 p21=some (.lst (refs (T++[(p19,((List.range (m+1)).map (g k))++[0])]))):=by rw[h21,← zs2];rfl
    have s4l:=((s4g.trans s17).trans s17b).trans s21
    refine zaf1 (SqL.of (s4l _ _ hq4)) (fun p22 H22 f22 s22 h22=>?_)
    rw[dk] at h22
    refine zg9 (s22 _ _ h21) h22 (sz _ (by rw[zl3,zl3,zce6,zcf4];omega)) (fun p23 H23 f23 s23 h23=>?_)
    rw[zs2] at h23
    refine zb6 (fun p24 H24 f24 s24 h24=>?_)
    refine zb6 (fun p25 H25 f25 s25 h25=>?_)
    have s16p:Same H16 H25:=(((((s17.trans s17b).trans s21).trans s22).trans s23).trans s24).trans s25
    refine zg9 (s16p _ _ h16) h25 (sz _ (by simp)) (fun p26 H26 f26 s26 h26=>?_)
    have h26:H26 p26=some (.lst [.ref p7,.ref p9,.ref p15,.ref p23,.ref p24]):=h26
    have s4q:Same H4 H26:=((s4g.trans s16p).trans s26)
    refine zl2 h26 (by rfl') (by simp only[zcf1,zci4];omega) ?_
    intro v hv
    have keepT:∀ {x:Addr}{o:HO},H4 x=some o->H26 x=some o:=fun e=>s4q _ _ e
    have s726:Same H7 H26:=(((((((((s8.trans s9).trans s10).trans s11).trans s12).trans s13).trans s14).trans s15).trans s16).trans s16p).trans s26
    have s926:Same H9 H26:=(((((((s10.trans s11).trans s12).trans s13).trans s14).trans s15).trans s16).trans s16p).trans s26
    have s1126:Same H11 H26:=(((((s12.trans s13).trans s14).trans s15).trans s16).trans s16p).trans s26
    have s1526:Same H15 H26:=(s16.trans s16p).trans s26
    have s1926:Same H19 H26:=(((((s20.trans s21).trans s22).trans s23).trans s24).trans s25).trans s26
    have s2326:Same H23 H26:=(s24.trans s25).trans s26
    have c0:∀ {Hk:Hp},Same H4 Hk->Chg a H Hk:=fun s=>c04.same s
    have fr:∀ {Hk:Hp}{x:Addr},Same H4 Hk->Hk x=none->H x=none:=fun s f=>fresh (c0 s) (L4.same s) f
    have fin:∀ (zz:RwB) (v:Addr),(∀ z∈zz,H z.1=none/\H26 z.1=some (.lst (z.2.map V.int))/\z.2.length<=100)->zz.length<=100->H v=none->H26 v=some (.lst (refs zz))->isF n m (.tab (zz.map (·.2)))=false->∀ (p27:Addr) (H27:Hp),H26 p27=none->Same H26 H27->H27 p27=some (.tup [.str "table",.ref v])->Q (.ref p27) H27:=fun zz v hz zl hv0 hv1 bad p27 H27 f27 s27 h27=>by
     refine q p27 (.tab (zz.map (·.2))) H27 (c0 (s4q.trans s27)) ((L4.same (s4q.trans s27)).up (by rfl')) ⟨v,zz.map (·.1),zae1 (fr s4q f27) h27,zbr6 (zae1 hv0 (s27 _ _ hv1)) fun z hzz=>zae1 (hz z hzz).1 (s27 _ _ (hz z hzz).2.1)⟩ ⟨by rw[zcd9];exact zl,fun r hr=>?_⟩ bad
     obtain⟨z,hzz,rfl⟩:=zch1.mp hr
     exact (hz z hzz).2.2
    have zz0:∀ z∈zs,H z.1=none/\H26 z.1=some (.lst (z.2.map V.int))/\z.2.length<=100:=fun z hz=>⟨(zmem z hz).1,keepT (zmem z hz).2.1,by rw[(zmem z hz).2.2];omega⟩
    simp only[zcf2,zcg2,or_false] at hv
    rcases hv with rfl|rfl|rfl|rfl|rfl
    ·ac_nf
     refine zb5 (fun p27 H27 f27 s27 h27=>?_)
     ac_nf
     refine fin (T++U) p7 (fun z hz=>?_) (by rw[zce6];omega) (fr (s5.trans s6) f7) (s726 _ _ h7) (zak4 (by rw[zcd9,zce6];omega)) p27 H27 f27 s27 h27
     rcases zch8.mp hz with hz|hz
     ·exact zz0 z (tm z hz)
     ·exact zz0 z (um z hz)
    ·ac_nf
     refine zb5 (fun p27 H27 f27 s27 h27=>?_)
     ac_nf
     refine fin _ p9 (fun z hz=>?_) (by rw[zce6,zcf4];omega) (fr (s47.trans s8) f9) (s926 _ _ h9) (zak4 (by rw[zcd9,zce6,zcf4];omega)) p27 H27 f27 s27 h27
     rcases zch8.mp hz with hz|hz
     ·exact zz0 z hz
     ·rw[zcj5.mp hz];exact zz0 _ (zce5 ez)
    ·ac_nf
     refine zb5 (fun p27 H27 f27 s27 h27=>?_)
     ac_nf
     refine fin ((T++[(p11,((List.range (m+1)).map (g k)).drop 1)])++U) p15 (fun z hz=>?_) (by rw[zce6,zce6,zcf4];omega) (fr (s4d.trans s14) f15) (s1526 _ _ h15) (zbf0 (r:=((List.range (m+1)).map (g k)).drop 1) (by simp) (by rw[zcl1,zcd9,zcf8];omega)) p27 H27 f27 s27 h27
     rcases zch8.mp hz with hz|hz
     ·rcases zch8.mp hz with hz|hz
      ·exact zz0 z (tm z hz)
      ·rw[zcj5.mp hz]
       exact⟨fr (s49.trans s10) f11,s1126 _ _ h11,by rw[zcl1,zcd9,zcf8];omega⟩
     ·exact zz0 z (um z hz)
    ·ac_nf
     refine zb5 (fun p27 H27 f27 s27 h27=>?_)
     ac_nf
     refine fin ((T++[(p19,((List.range (m+1)).map (g k))++[0])])++U) p23 (fun z hz=>?_) (by rw[zce6,zce6,zcf4];omega) (fr (s4l.trans s22) f23) (s2326 _ _ h23) (zbf0 (r:=((List.range (m+1)).map (g k))++[0]) (by simp) (by rw[zce6,zcd9,zcf8,zcf4];omega)) p27 H27 f27 s27 h27
     rcases zch8.mp hz with hz|hz
     ·rcases zch8.mp hz with hz|hz
      ·exact zz0 z (tm z hz)
      ·rw[zcj5.mp hz]
       exact⟨fr ((s4g.trans s17).trans s18) f19,s1926 _ _ h19,by rw[zce6,zcd9,zcf8,zcf4];omega⟩
     ·exact zz0 z (um z hz)
    ·ac_nf
     refine zb5 (fun p27 H27 f27 s27 h27=>?_)
     ac_nf
     refine fin [] p24 (fun z hz=>by cases hz) (by simp) (fr ((s4l.trans s22).trans s23) f24) ((s25.trans s26) _ _ h24) (zak4 (by simp;omega)) p27 H27 f27 s27 h27
  ·ac_nf
   exact⟨rfl,rfl⟩
 | more wt t=>
  have F2:H2 p=some (.tup [.str "more",.int wt,.int t]):=ze1 a H2 _ _ F2
  refine zb2 (v:=.str "more") F2 rfl ?_
  refine zp9 (by decide) ?_
  refine br_F ?_
  ac_nf
  exact⟨rfl,rfl⟩
 | lead wt t=>
  have F2:H2 p=some (.tup [.str "lead",.int wt,.int t]):=ze1 a H2 _ _ F2
  refine zb2 (v:=.str "lead") F2 rfl ?_
  refine zp9 (by decide) ?_
  refine br_F ?_
  ac_nf
  exact⟨rfl,rfl⟩
@[irreducible] def ze4:Sp:=fun vs H Q _=>∃ (a bt l:Addr) (ps:List Addr) (b:Int) (n m:Nat) (fs:List Fd),vs=[.ref a,.ref bt]/\zc0 H a b/\b<=50000/\zh7 (rm a H) bt l ps n m fs/\OkB n m fs/\∀ t bad k H',Chg a H H'->zc0 H' a (b+1000)->t≠a->H' t=some (.tup [.ref bad,.int k])->BadB (rm a H') bad k->Q (.ref t) H'
theorem zar0{a bt l:Addr}{b:Int}{n:Nat}{fs:List Fd}(L:zc0 H a b)(hb:b<=50000)(B:zh7 (rm a H) bt l ps n m fs)(O:OkB n m fs)(q:∀ t bad k H',Chg a H H'->zc0 H' a (b+1000)->t≠a->H' t=some (.tup [.ref bad,.int k])->BadB (rm a H') bad k->Q (.ref t) H'):ze4 [.ref a,.ref bt] H Q E:=by unfold ze4;exact⟨a,bt,l,ps,b,n,m,fs,rfl,L,hb,B,O,q⟩
theorem bx_new{H:Hp}{a l l' b':Addr}{ps':List Addr}{n:Nat}{x y:Int}{fs:List Fd}(F:∀ (i:Nat) p f,ps[i]?=some p->fs[i]?=some f->FdAt H' p n m f)(hl:ps.length=fs.length)(hn:n<=10)(hm:m<=10)(hb:H' b'=some (.tup [.int x,.int y,.ref l']))(h':H' l'=some (.lst (ps.map V.ref))):BxAt H' b' l' ps x y (fs.map (toFx n m)):=by
 refine⟨hb,h',by rw[hl,zcd9],fun i p f h1 h2=>?_⟩
 rw[zce3] at h2
 obtain⟨f',e,rfl⟩:=zce7.mp h2
 exact zai2 (F i p f' h1 e) hn hm
theorem zy8{α:Type}(k:Nat)(xs:List α):((List.replicate k xs).flatten).length=k*xs.length:=by
 induction k with
 | zero=>simp
 | succ k ih=>rw[zcj1,zci2,zce6,ih,zcn2];omega
theorem zbr9{α:Type}(k:Nat)(x:α):(List.replicate k [x]).flatten=List.replicate k x:=by
 induction k with
 | zero=>rfl
 | succ k ih=>rw[zcj1,zci2,ih,zcj1];rfl
theorem zz3(F:Fun K "_law_bent_one" "_law_bent_one" zm5 f fd)(N:Nm mg)(zby8:Def P w K mg base CX0 3 "_law_bad_field" ["_law_left","_law_field","_law_first","_law_second"] zd9)(zbw1:Def P w K mg base CX0 2 "_law_draw" ["_law_left","_law_base"] zd7):FnOk P w K mg base CX0 4 f fd ["_law_left","_law_battle"] ze4:=by
 refine F.ok zb9 (fun vs H Q E h=>by unfold ze4 at h;obtain⟨_,_,_,_,_,_,_,_,rfl,_⟩:=h;rfl) fun _ _ _ s H vs Q E hr h=>?_
 unfold ze4 at h
 obtain⟨a,bt,l,ps,b,n,m,fs,rfl,L,hb,B,O,q⟩:=h
 have hu:=hu40 hr
 obtain⟨⟨on,om⟩,o1,o2⟩:=O
 have pl:=B.len
 refine⟨_,(za3 (zy9 (pq 1) (zad5 (K:=K) (n:=3) rfl rfl (zg8 (zb0 (i:=2) zb9.nd rfl (by eq_refl)) (zg8 (zb0 (i:=3) zb9.nd rfl (by eq_refl)) (zg8 (zb0 (i:=4) zb9.nd rfl (by eq_refl)) zac3)))))
   (za3 (psS (i:=5) zb9.nd (pD zbw1 hr zc1 (za0 (pq 0) (za0 za2 za1))))
   (za3 (psS (i:=6) zb9.nd (pD zbw1 hr zc1 (za0 (pq 0) (za0 (za8 oPow za2 za2) za1))))
   (za3 (psIf (ptC oLt (pq 5) za2) (za3 (psS (i:=7) zb9.nd (zb7 (K:=K) rfl (ze5 (za0 (zx1 uNeg za2) (za0 za2 (za0 (za8 oSub (zx1 uNeg za2) (pq 6)) (za0 (za8 oAdd za2 (pq 6)) za1))))) (pD zbw1 hr zc1 (za0 (pq 0) (za0 za2 za1)))))
   (za3 (psS (i:=8) zb9.nd (zb7 (K:=K) rfl (ze5 (za0 (zg1 (za0 (pq 7) (za0 (pq 3) za1))) (za0 (zg1 (za0 (pq 2) (za0 (pq 7) za1))) (za0 (zg1 (za0 (pq 7) (za0 (pq 7) za1))) (za0 (zg1 (za0 (pq 7) (za0 (pq 3) za1))) za1))))) (pq 5)))
   (za4 (za9 (zg1 (za0 (zg1 (za0 (zb7 (K:=K) rfl (pq 8) za2) (za0 (zb7 (K:=K) rfl (pq 8) za2) (za0 (pT (zab9 (K:=K) rfl) N.list_ zk6 (za0 (pq 4) za1)) za1)))) (za0 (zx1 uNeg za2) za1))))))) zb8)
   (za3 (psIf (ptC (oEqK (K:=K) rfl (by exact hu)) (pq 5) za2) (za4 (za9 (zg1 (za0 (zg1 (za0 (pq 2) (za0 (pq 3) (za0 (ze5 za1) za1)))) (za0 (zx1 uNeg za2) za1))))) zb8)
   (za3 (psIf (ptC (oEqK (K:=K) rfl (by exact hu)) (pq 5) za2) (za4 (za9 (zg1 (za0 (zg1 (za0 (pq 2) (za0 (pq 3) (za0 (ze6 (slK (K:=K) rfl) (za8 oMul (pT (zab9 (K:=K) rfl) N.list_ zk6 (za0 (pq 4) za1)) za2) zh8 (zk2 za2)) za1)))) (za0 (zx1 uNeg za2) za1))))) zb8)
   (za3 (psS (i:=9) zb9.nd (pD zbw1 hr zc1 (za0 (pq 0) (za0 (pB (zv7 (K:=K) rfl) N.len_ zn3 (za0 (pq 4) za1)) za1))))
   (za3 (psS (i:=10) zb9.nd (pT (zab9 (K:=K) rfl) N.list_ zk6 (za0 (pq 4) za1)))
   (za3 (zt2 PassesOwn.never rfl (zf5 (K:=K) rfl (za8 oAdd (ze5 (za0 (pq 9) za1)) (za8 oMul (ze5 (za0 (za8 oAdd (za8 oAdd (pq 9) za2) (pD zbw1 hr zc1 (za0 (pq 0) (za0 za2 za1)))) za1)) (pT cInt N.int_ zan7 (za0 (peC (oEqK (K:=K) rfl (by exact hu)) (pq 5) za2) za1))))) (zb0 (i:=11) zb9.nd rfl (by eq_refl)) (za4 (psIf (ptC oLt (pq 11) (pB (zv7 (K:=K) rfl) N.len_ zn3 (za0 (pq 10) za1))) (za4 (zy9 (pD zby8 hr zc1 (za0 (pq 0) (za0 (zb7 (K:=K) rfl (pq 10) (pq 11)) (za0 (pq 2) (za0 (pq 3) za1))))) (zbi0 (pq 10) (pq 11) setM))) zb8)))
   (za4 (za9 (zg1 (za0 (zg1 (za0 (pq 2) (za0 (pq 3) (za0 (pq 10) za1)))) (za0 (pq 9) za1)))))))))))))),?_⟩
 refine zq3 (ze1 a H _ _ B.out) ?_
 refine zd6 L (by rfl') (by rfl') (by rfl') (fun kd H1 kd0 kd1 c1 L1=>?_)
 walk_at "st"
 refine zd6 L1 (by rfl') (by rfl') (by rfl') (fun far H2 far0 far1 c2 L2=>?_)
 have c02:=c1.trans c2
 have B2:=B.same (Chg.rm c02)
 have l2:=ze1 a H2 _ _ B2.lst
 have nla:l≠a:=(zj0 B2.lst).1
 have fresh:∀ {Hk:Hp}{x:Addr}{bb:Int},Chg a H Hk->zc0 Hk a bb->Hk x=none->H x=none:=fun c L f=>Chg.free' c f (L.ne f)
 have fd:∀ {Hk:Hp},Chg a H2 Hk->∀ (i:Nat) p f,ps[i]?=some p->fs[i]?=some f->FdAt (rm a Hk) p n m f:=fun c i p f h1 h2=>(B2.fld i p f h1 h2).1.same (Chg.rm c)
 refine ze8 (fun k4=>?_) (fun k4=>?_)
 ·ac_nf
  refine zb6 (fun p3 H3 f3 s3 h3=>?_)
  refine zd6 (L2.same s3) (by rfl') (by rfl') (by rfl') (fun d4 H4 d40 d41 c4 L4=>?_)
  have h34:=c4 _ _ (L2.ne f3) h3
  refine zl2 h34 (by rfl') (by simp only[zcf1,zci4];omega) ?_
  intro v hv
  obtain⟨wr,rfl,hwr⟩:∃ wr:Int,v=.int wr/\(wr<0∨10<wr):=by
   simp only[zcf2,zcg2,or_false] at hv
   rcases hv with rfl|rfl|rfl|rfl<;>exact⟨_,rfl,by rfl'⟩
  clear hv
  refine zb5 (fun p5 H5 f5 s5 h5=>?_)
  refine zb5 (fun p6 H6 f6 s6 h6=>?_)
  refine zb5 (fun p7 H7 f7 s7 h7=>?_)
  refine zb5 (fun p8 H8 f8 s8 h8=>?_)
  refine zb6 (fun p9 H9 f9 s9 h9=>?_)
  refine zl2 h9 (by rfl') (by simp only[zcf1,zci4];omega) ?_
  intro v hv
  obtain⟨ps9,x,y,rfl,hxy,bad⟩:∃ (p:Addr) (x y:Int),v=.ref p/\H9 p=some (.tup [.int x,.int y])/\¬ ((0<=x/\x<=10)/\0<=y/\y<=10):=by
   simp only[zcf2,zcg2,or_false] at hv
   rcases hv with rfl|rfl|rfl|rfl
   ·exact⟨p5,_,_,rfl,(((s6.trans s7).trans s8).trans s9) _ _ h5,by rfl'⟩
   ·exact⟨p6,_,_,rfl,((s7.trans s8).trans s9) _ _ h6,by rfl'⟩
   ·exact⟨p7,_,_,rfl,(s8.trans s9) _ _ h7,by rfl'⟩
   ·exact⟨p8,_,_,rfl,s9 _ _ h8,by rfl'⟩
  clear hv
  have s49:=(((s5.trans s6).trans s7).trans s8).trans s9
  have c29:Chg a H2 H9:=(((s3.toChg).trans c4).same s49)
  refine zb2 (v:=.int x) hxy rfl ?_
  refine zb2 (v:=.int y) hxy rfl ?_
  refine zr8 (SqL.of (c29 _ _ nla l2)) (fun l' H10 f10 s10 h10=>?_)
  refine zb5 (fun b' H11 f11 s11 h11=>?_)
  refine zb5 (fun t H12 f12 s12 h12=>?_)
  ac_nf
  have L9:=L4.same s49
  have c2c:Chg a H2 H12:=((c29.same s10).same s11).same s12
  have n10:l'≠a:=L9.ne f10
  have n11:b'≠a:=(L9.same s10).ne f11
  have n12:t≠a:=((L9.same s10).same s11).ne f12
  have X:=bx_new (H:=H) (a:=a) (l:=l) (ps':=ps) (fd c2c) pl on om (zf9 n11 (s12 _ _ h11)) (zf9 n10 ((s11.trans s12) _ _ h10))
  exact q t b' (-1) H12 (c02.trans c2c) ((((L9.same s10).same s11).same s12).up (by rfl')) n12 h12 ⟨l',ps,x,y,_,X,by rw[zcd9];omega,.inl ⟨fun z=>bad z.1,rfl⟩⟩
 refine ze8 (fun e4=>?_) (fun e4=>?_)
 ·ac_nf
  refine zb6 (fun l' H10 f10 s10 h10=>?_)
  refine zb5 (fun b' H11 f11 s11 h11=>?_)
  refine zb5 (fun t H12 f12 s12 h12=>?_)
  ac_nf
  have n10:l'≠a:=L2.ne f10
  have n11:b'≠a:=(L2.same s10).ne f11
  have n12:t≠a:=((L2.same s10).same s11).ne f12
  have s2c:=(s10.trans s11).trans s12
  exact q t b' (-1) H12 (c02.same s2c) ((L2.same s2c).up (by rfl')) n12 h12 ⟨l',[],n,m,[],⟨zf9 n11 (s12 _ _ h11),zf9 n10 ((s11.trans s12) _ _ h10),rfl,fun i p f e=>by simp at e⟩,by simp,.inl ⟨fun z=>by have:=z.2.1;simp at this,rfl⟩⟩
 refine ze8 (fun e5=>?_) (fun e5=>?_)
 ·ac_nf
  refine zr8 (SqL.of l2) (fun p9 H9 f9 s9 h9=>?_)
  refine zbf2 h9 (by decide) (by decide) (by rw[zcd9,zcn5];show ps.length*6<=_;omega) (fun p10 H10 f10 s10 h10=>?_)
  refine zaf1 (SqL.of h10) (fun l' H11 f11 s11 h11=>?_)
  refine zb5 (fun b' H12 f12 s12 h12=>?_)
  refine zb5 (fun t H13 f13 s13 h13=>?_)
  ac_nf
  have s210:=s9.trans s10
  have n11:l'≠a:=(L2.same s210).ne f11
  have n12:b'≠a:=((L2.same s210).same s11).ne f12
  have n13:t≠a:=(((L2.same s210).same s11).same s12).ne f13
  have s2d:=((s210.trans s11).trans s12).trans s13
  have e6:(6:Int).toNat=6:=rfl
  obtain⟨zs,ezs⟩:∃ zs:List (Addr×Fd),zs=((List.replicate 6 (ps.zip fs)).flatten).take 6:=⟨_,rfl⟩
  have zl:zs.length=6:=by
   rw[ezs,zck7,zy8,List.length_zip]
   omega
  have zm:∀ z∈zs,z∈ps.zip fs:=fun z hz=>by
   rw[ezs] at hz
   obtain⟨ys,hy,hx⟩:=zcm0.mp (zcl5 hz)
   rw[zcj0 hy] at hx
   exact hx
  have el:cutV (List.replicate (6:Int).toNat (ps.map V.ref)).flatten none (some 6)=(zs.map (·.1)).map V.ref:=by
   rw[zq1 (by decide),ezs,List.map_take,List.map_take,List.map_flatten,List.map_flatten,List.map_replicate,List.map_replicate,List.map_fst_zip (by rfl')]
   rfl
  rw[el] at h11
  refine q t b' (-1) H13 (c02.same s2d) ((L2.same s2d).up (by rfl')) n13 h13 ⟨l',zs.map (·.1),n,m,zs.map fun z=>toFx n m z.2,⟨zf9 n12 (s13 _ _ h12),zf9 n11 ((s12.trans s13) _ _ h11),by rw[zcd9,zcd9],fun i p f h1 h2=>?_⟩,by rw[zcd9,zl];decide,.inl ⟨fun z=>by have:=z.2.2;rw[zcd9,zl] at this;omega,rfl⟩⟩
  rw[zce3] at h1 h2
  obtain⟨z,ez,rfl⟩:=zce7.mp h1
  rw[ez] at h2
  cases h2
  have hz:=zm z (zce5 ez)
  obtain⟨j,hj,ej⟩:=zcl4.mp hz
  rw[List.getElem_zip] at ej
  rw[List.length_zip] at hj
  have ej1:ps[j]?=some z.1:=by rw[zce0 (by rfl'),← ej]
  have ej2:fs[j]?=some z.2:=by rw[zce0 (by rfl'),← ej]
  exact zai2 (fd s2d.toChg j z.1 z.2 ej1 ej2) on om
 refine zm9 l2 ?_
 rw[zcd9,pl]
 refine zd6 L2 (by rfl') (by rfl') (by rfl') (fun at' H3 at0 at1 c3 L3=>?_)
 obtain⟨k,ek⟩:∃ k:Nat,at'=k:=⟨at'.toNat,by rfl'⟩
 subst ek
 have hk:k<fs.length:=by rfl'
 refine zr8 (SqL.of (c3 _ _ nla l2)) (fun fo H4 f4 s4 h4=>?_)
 have L4:=L3.same s4
 have nfo:fo≠a:=L3.ne f4
 have c24:Chg a H2 H4:=c3.same s4
 refine zb6 (fun p5 H5 f5 s5 h5=>?_)
 refine zd6 (L4.same s5) (by rfl') (by rfl') (by rfl') (fun d6 H6 d60 d61 c6 L6=>?_)
 have h56:=c6 _ _ (L4.ne f5) h5
 refine zb6 (fun p7 H7 f7 s7 h7=>?_)
 obtain⟨kk,ekk,kk0,kk1⟩:∃ kk:Int,(if decide (kd=6)=true then (1:Int) else 0)=kk/\0<=kk/\kk<=1:=⟨_,rfl,by split<;>omega,by split<;>omega⟩
 ac_nf
 rw[ekk]
 refine zbf2 h7 (by rfl') (by rfl') (by rw[zcn5,zcf4];omega) (fun p8 H8 f8 s8 h8=>?_)
 refine zg9 (s8 _ _ (s7 _ _ h56)) h8 (by rw[zcn5,zy8,zcf4,zcf4];omega) (fun p9 H9 f9 s9 h9=>?_)
 obtain⟨xs,exs⟩:∃ xs:List Int,xs=(k:Int) :: (List.replicate kk.toNat ((k:Int)+1+d6)):=⟨_,rfl⟩
 have h9:H9 p9=some (.lst (xs.map V.int)):=by
  rw[h9,exs,zcj4,List.map_replicate,zbr9]
  rfl
 have x0:xs[0]?=some (k:Int):=by rw[exs];rfl
 have xi:∀ (i:Nat) x,xs[i]?=some x->i≠0->x=(k:Int)+1+d6:=fun i x hx hi=>by
  rw[exs] at hx
  obtain⟨j,rfl⟩:∃ j,i=j+1:=⟨i - 1,by rfl'⟩
  exact zcj0 (zce5 (show (List.replicate kk.toNat ((k:Int)+1+d6))[j]?=some x from hx))
 have xl:xs.length<=2:=by rw[exs,zcf1,zcj8];omega
 have x1:1<=xs.length:=by rw[exs,zcf1];omega
 have n9:p9≠a:=((L6.same s7).same s8).ne f9
 have s69:=(s7.trans s8).trans s9
 have h4':H9 fo=some (.lst (ps.map V.ref)):=s69 _ _ (c6 _ _ nfo (s5 _ _ h4))
 have n9f:p9≠fo:=Ne.symm (za6 ((s7.trans s8) _ _ (c6 _ _ nfo (s5 _ _ h4))) f9)
 have ff2:H2 fo=none:=Chg.free' c3 f4 nfo
 have c29:Chg a H2 H9:=((c24.same s5).trans c6).same s69
 refine zc7 h9 ?_
 refine zj9 (xs:=xs.map V.int) (fun i σ Hi=>∃ (t:Option V) (ps':List Addr) (fs':List Fx),σ=[some (.ref a),some (.ref bt),some (.int n),some (.int m),some (.ref l),some (.int kd),some (.int far),none,none,some (.int k),some (.ref fo),t]/\zc0 Hi a (b+20+100*i)/\Chg a H2 Hi/\Hi p9=some (.lst (xs.map V.int))/\Hi fo=some (.lst (ps'.map V.ref))/\ps'.length=fs.length/\fs'.length=fs.length /\
   (∀ (j:Nat) p f,ps'[j]?=some p->fs'[j]?=some f->FxAt (rm fo (rm a Hi)) p f/\f.Gd)/\(∀ (j:Nat) p f,ps[j]?=some p->fs[j]?=some f->FdAt (rm fo (rm a Hi)) p n m f)/\(∀ j,j<k->fs'[j]?=(fs.map (toFx n m))[j]?)/\(i=0->ps'=ps)/\(i=1->∀ j,k<j->ps'[j]?=ps[j]?)/\(1<=i->∃ f,fs'[k]?=some f/\isF n m f=false)) ?_ ?_ ?_ ?_
 ·have fd0:∀ (j:Nat) p f,ps[j]?=some p->fs[j]?=some f->FdAt (rm fo (rm a H9)) p n m f:=fun j p f g1 g2=>((B2.fld j p f g1 g2).1).same (fun x o e=>zf9 (fun z=>by have:=(zj0 e).2;rw[z,ff2] at this;cases this) (Chg.rm c29 _ _ e))
  refine⟨_,ps,fs.map (toFx n m),rfl,(L6.same s69).up (by rfl'),c29,h9,h4',pl,by rw[zcd9],fun j p f g1 g2=>?_,fd0,fun j _=>rfl,fun _=>rfl,fun z=>by rfl',fun z=>by rfl'⟩
  rw[zce3] at g2
  obtain⟨f',e,rfl⟩:=zce7.mp g2
  exact zai2 (fd0 j p f' g1 e) on om
 ·rintro i σ Hi _ ⟨_,_,_,_,_,_,h,_⟩
  exact SqL.of h
 ·rintro i v σ Hi hx ⟨t,ps',fs',rfl,Li,ci,hp9,hfo,pl',fl',px,pd,lo,i0,i1,ib⟩
  have hi:=(zce2.mp hx).1
  rw[zcd9] at hi
  rw[zce3] at hx
  obtain⟨x,ex,rfl⟩:=zce7.mp hx
  have hx:(i=0/\x=k)∨(i=1/\x=(k:Int)+1+d6):=by
   by_cases hi0:i=0
   ·subst hi0
    rw[x0] at ex
    exact .inl ⟨rfl,(Option.some.inj ex).symm⟩
   ·exact .inr ⟨by rfl',xi i x ex hi0⟩
  refine zm9 hfo ?_
  rw[zcd9,pl']
  refine ze8 (fun lt=>?_) (fun lt=>?_)
  ·obtain⟨j,ej⟩:∃ j:Nat,x=j:=⟨x.toNat,by rfl'⟩
   subst ej
   have hj:j<fs.length:=by rfl'
   have same:ps'[j]?=ps[j]?:=by
    rcases hx with ⟨h0,h1⟩|⟨h0,h1⟩
    ·rw[i0 h0]
    ·exact i1 h0 j (by rfl')
   obtain⟨pj,epj⟩:∃ pj,ps[j]?=some pj:=⟨_,zce0 (by rfl')⟩
   obtain⟨fj,efj⟩:∃ fj,fs[j]?=some fj:=⟨_,zce0 hj⟩
   refine zp5 (v:=.ref pj) hfo (zn0 (by rw[zce3,same,epj];rfl)) ?_
   refine zal1 Li (by rfl') ((pd j pj fj epj efj).same (ze1 _ _)) (B2.fld j pj fj epj efj).2 on om (fun qn fx Hj cj Lj Fx gd bad=>?_)
   refine zbf6 (cj _ _ nfo hfo) (ixN_in (by rfl') (by rw[zcd9,pl'];omega)) (fun Hk ck hk'=>?_)
   rw[show ((j:Nat):Int).toNat=j by rfl'] at hk'
   have ek:(ps'.map V.ref).set j (.ref qn)=(ps'.set j qn).map V.ref:=by rw[List.map_set]
   rw[ek] at hk'
   have up:∀ x o,rm fo (rm a Hi) x=some o->rm fo (rm a Hk) x=some o:=fun x o e=>by
    have e1:=zj0 e
    have e2:=zj0 e1.2
    exact zf9 e1.1 (zf9 e2.1 (ck _ _ e1.1 (cj _ _ e2.1 e2.2)))
   obtain⟨oa,ea⟩:=Li.some
   have upn:∀ x o,nw Hi Hj x=some o->rm fo (rm a Hk) x=some o:=fun x o e=>by
    have e1:=nw_of e
    have nx:x≠fo:=fun z=>by rw[z,hfo] at e1;cases e1.1
    exact zf9 nx (zf9 (fun z=>by rw[z,ea] at e1;cases e1.1) (ck _ _ nx e1.2))
   refine⟨_,ps'.set j qn,fs'.set j fx,rfl,(Lj.chg ck (Ne.symm nfo)).up (by rfl'),fun x o z1 e=>ck _ _ (za6 e ff2) (cj _ _ z1 (ci _ _ z1 e)),ck _ _ n9f (cj _ _ n9 hp9),hk',by rw[zcm4,pl'],by rw[zcm4,fl'],fun j' p f g1 g2=>?_,fun j' p f g1 g2=>(pd j' p f g1 g2).same up,fun j' hj'=>?_,fun z=>by rfl',fun z j' hj'=>?_,fun _=>?_⟩
   ·by_cases e:j=j'
    ·subst e
     rw[zcj3 (by rfl')] at g1 g2
     cases g1
     cases g2
     exact⟨Fx.same upn,gd⟩
    ·rw[zck1 e] at g1 g2
     exact⟨(px j' p f g1 g2).1.same up,(px j' p f g1 g2).2⟩
   ·rw[zck1 (by rfl')]
    exact lo j' hj'
   ·have h0:i=0:=by rfl'
    rw[zck1 (by rfl'),i0 h0]
   ·rcases hx with ⟨h0,h1⟩|⟨h0,h1⟩
    ·have:j=k:=by rfl'
     subst this
     exact⟨fx,by rw[zcj3 (by rfl')],bad⟩
    ·rw[zck1 (by rfl')]
     exact ib (by rfl')
  ·have h1:i=1:=by rfl'
   ac_nf
   exact⟨_,ps',fs',rfl,Li.up (by rfl'),ci,hp9,hfo,pl',fl',px,pd,lo,fun z=>by rfl',fun z=>by rfl',fun _=>ib (by rfl')⟩
 ·rintro σ Hi ⟨t,ps',fs',rfl,Li,ci,hp9,hfo,pl',fl',px,pd,lo,i0,i1,ib⟩
  rw[zcd9] at Li ib
  obtain⟨fb,efb,bad⟩:=ib x1
  refine zb5 (fun b' H11 f11 s11 h11=>?_)
  refine zb5 (fun t H12 f12 s12 h12=>?_)
  ac_nf
  have n11:b'≠a:=Li.ne f11
  have n12:t≠a:=(Li.same s11).ne f12
  have s12':=s11.trans s12
  refine q t b' k H12 (c02.trans (ci.same s12')) ((Li.same s12').up (by rfl')) n12 h12 ⟨fo,ps',n,m,fs',⟨zf9 n11 (s12 _ _ h11),zf9 nfo (s12' _ _ hfo),by rfl',fun j p f g1 g2=>⟨(px j p f g1 g2).1.same (fun x o e=>?_),(px j p f g1 g2).2⟩⟩,by rfl',.inr ⟨by rw[fl'];exact⟨⟨⟨by rfl',by rfl'⟩,by rfl',by rfl'⟩,o1,o2⟩,k,fb,rfl,efb,bad,fun j g hj hg=>?_⟩⟩
  ·have e1:=zj0 (zj0 e).2
   exact zf9 e1.1 (s12' _ _ e1.2)
  ·rw[lo j hj,zce3] at hg
   obtain⟨f',e,rfl⟩:=zce7.mp hg
   obtain⟨pj,epj⟩:∃ pj,ps[j]?=some pj:=⟨_,zce0 (by rfl')⟩
   exact zbd9 (B2.fld j pj f' epj e).2
theorem zbo9{rs:List Rw}(o:∀ r∈rs,OkR r)(hl:rs.length<=400):((rs.map fun r=>zc5 r++zi1).map (·.length)).sum+(rs.map fun r=>zc5 r++zi1).length*(0:Nat)<=16777216:=by
 have h:=zw0 (xs:=rs.map fun r=>zc5 r++zi1) (m:=20001) fun x hx=>by
  obtain⟨r,hr,rfl⟩:=zch1.mp hx
  have:=zm7 (o r hr)
  show (zc5 r++zi1).length<=20001
  rw[zq8]
  show (zc5 r).length+1<=20001
  omega
 rw[zcd9] at h ⊢
 have:rs.length*20001<=400*20001:=Nat.mul_le_mul_right _ hl
 omega
theorem zbi4(rs:List Rw):(((List.range (txV rs).length).filter fun _=>true).map fun j=>V.str ((rs.map fun r=>zc5 r++zi1).getD j ⟨#[]⟩))=(rs.map fun r=>zc5 r++zi1).map V.str:=by
 rw[zl4,zaq8]
 apply zcj2
 intro i
 rw[zce3,zce3]
 by_cases hi:i<rs.length
 ·rw[zci1 hi,zce3,zce0 hi]
  show some (V.str ((rs.map fun r=>zc5 r++zi1).getD i ⟨#[]⟩))=_
  rw[zce9,zce3,zce0 hi]
  rfl
 ·rw[zcf9 (by simpa using hi),zcf9 (by simpa using hi)]
  rfl
def spLaw(K:zce1):Sp:=fun vs H Q _=>∃ (a:Addr) (ns:List Int),vs=[.ref a]/\SqL K H a (ns.map V.int)/\ns.length<=63/\∀ H',Q (.bl true) H'
theorem zal9{ns:List Int}(h:ns.length<=63):[V.int 3].length+(cutV (ns.map V.int) none (some 20)).length<=sizeLine:=by
 rw[zq1 (by decide),zck7,zcd9,zcn5,zcf4];omega
theorem zap5{ns:List Int}{x:V}(h:([V.int 3]++cutV (ns.map V.int) none (some 20))[i]?=some x):∃ z,x=.int z:=by
 rw[zq1 (by decide)] at h
 rcases zch8.mp (zce5 h) with h|h
 ·exact⟨3,by simpa using h⟩
 ·obtain⟨z,_,rfl⟩:=zch1.mp (zcl5 h)
  exact⟨z,rfl⟩
theorem eqT2{K:zce1}{p:Addr}{x y:V}(hp:H p=some (.tup [x,y]))(hq:H q=some (.tup [x,y]))(fx:zh1 x=true)(fy:zh1 y=true):EqR K H 1 (.ref p) (.ref q) true:=by
 have flat:∀ v:V,zh1 v=true->EqR K H 0 v v true:=fun v hv=>by
  have:=EqR.flat (K:=K) (H:=H) (n:=0) (x:=v) (y:=v) hv hv
  rwa [zz9 hv] at this
 exact EqR.tup (K:=K) (H:=H) (n:=0) (fun _=>true) (SqT.of hp) (SqT.of hq) (fun j x y hx hy=>by
  match j with
  | 0=>cases hx;cases hy;exact flat _ fx
  | 1=>cases hx;cases hy;exact flat _ fy
  | j+2=>simp at hx)
def gB:Nat->Nat->Int:=fun x y=>if x=0 then y else y+3
theorem zbs2:(Str.ofString "hosts 1 2\nmore 3 -1\ntable 0 1 2 3 4 5\n")=batT 1 2 [.more 3 (-1),.tab gB]:=by decide +kernel
theorem zbm1:OkB 1 2 [.more 3 (-1),.tab gB]:=⟨⟨by decide,by decide⟩,by simp,by simp⟩
theorem zay3:∀ f∈[Fd.more 3 (-1),.tab gB],f.Ok:=fun f hf=>by
 simp only[zcf2,zcg2,or_false] at hf
 rcases hf with rfl|rfl
 ·exact⟨by decide,by decide,by decide⟩
 ·trivial
theorem zbl6:OkT 1 2 [.more 3 (-1),.tab gB]:=zbo6 (by decide) (by decide) zay3 fun f hf=>by
 simp only[zcf2,zcg2,or_false] at hf
 rcases hf with rfl|rfl
 ·show (3:Int)<=2*10 ^ 28;decide
 ·intro x y hx hy
  show -(2*10 ^ 28)<=(if x=0 then (y:Int) else y+3)/\(if x=0 then (y:Int) else y+3)<=2*10 ^ 28
  split<;>omega
theorem zh7.rev{b l b' l':Addr}{a:Nat}{fs:List Fd}(B:zh7 H b l ps a c fs)(s:Same H H')(hl:H' l'=some (.lst (ps.map V.ref).reverse))(hb:H' b'=some (.tup [.int a,.int c,.ref l'])):zh7 H' b' l' ps.reverse a c fs.reverse:=by
 refine⟨hb,by rw[hl,zcn0],by rw[zci6,zci6,B.len],fun i p f h1 h2=>?_⟩
 have hi:i<ps.length:=by have:=(zce2.mp h1).1;rwa [zci6] at this
 rw[zck9 hi] at h1
 rw[zck9 (by rw[← B.len];exact hi),← B.len] at h2
 have:=B.fld _ p f h1 h2
 exact⟨this.1.same s,this.2⟩
theorem ok_law(F:Fun K "law" "law" zas3 f fd)(N:Nm mg)(zbz4:Def P w K mg base CX0 4 "_law_bent_one" ["_law_left","_law_battle"] ze4)(zby9:Def P w K mg base CX0 8 "_law_caught_by" ["_law_battle"] zd8)(zca1:Def P w K mg base CX0 1 "_law_copied" ["_law_battle"] zg3)(zby1:Def P w K mg base CX0 5 "_law_drawn_battle" ["_law_left","_law_most","_law_many"] zc8)(zca4:Def P w K mg base CX0 1 "_law_kinds" ["_law_battle"] zh6)(zby2:Def P w K mg base CX0 7 "_law_marked" ["_law_thing"] zh9)(zbz1:Def P w K mg base CX0 7 "_law_once" ["_law_thing"] zl6)(zca2:Def P w K mg base CX0 1 "_law_opened" ["_law_cell"] zg4)(zby6:Def P w K mg base CX0 2 "_law_rows_of" ["_law_battle"] zf3)(zbx5:Def P w K mg base (CXR P w) 7 "battle_text" ["battle"] (zd3 zbw0))(zbz0:Def P w K mg base CX0 7 "read_battle" ["text"] zg2):FnOk P w K mg base CX0 9 f fd ["_law_script"] (spLaw K):=by
 refine F.ok zp6 (fun vs H Q E h=>by obtain⟨n,k,rfl,_⟩:=h;rfl) fun _ _ _ s H vs Q E hr h=>?_
 obtain⟨a,ns0,rfl,hS,hlen,k⟩:=h
 have hu:=hu40 hr
 refine⟨_,(za3 (zt2 PassesOwn.never rfl (zf5 (K:=K) rfl (za8 oAdd (ze5 (za0 za2 za1)) (ze6 (slK (K:=K) rfl) (pq 0) zh8 (zk2 za2)))) (zb0 (i:=1) zp6.nd rfl (by eq_refl)) (za3 (psS (i:=2) zp6.nd (pD zca2 hr zc1 (za0 (pq 1) za1)))
   (za3 (psS (i:=3) zp6.nd (pD zby1 hr zc1 (za0 (pq 2) (za0 za2 (za0 za2 za1)))))
   (za3 (psS (i:=4) zp6.nd (pD zca1 hr zc1 (za0 (pq 3) za1)))
   (za3 (psS (i:=5) zp6.nd (zs3 (K:=K) rfl zb4 (za0 (zk1 (N:=["_law_row"]) (ks:=[none]) (zf5 (K:=K) rfl (pD zby6 hr zc1 (za0 (pq 3) za1))) (fun _ _ _ _ _=>(zb0 (i:=0) nb_16 rfl (by eq_refl))) (fun _ _ _ _ _=>zf7) (fun _ _ _ _ _=>(za8 oAdd (pq 0) zb4)) (.skip .nil)) za1)))
   (za3 (zt2 PassesOwn.never rfl (zah6 N.range_ (za0 za2 za1)) (zb0 (i:=6) zp6.nd rfl (by eq_refl)) (za3 (psS (i:=7) zp6.nd (pD zbx5 hr zbp5 (za0 (pq 4) za1)))
   (za3 (psIf (ptW (pwOr (ptC (oNeK (K:=K) rfl (by exact hu)) (pq 7) (pq 5)) (zy4 (ptC (oNeK (K:=K) rfl (by exact hu)) (pq 4) (pq 3))))) (za4 (za9 zt5)) zb8)
   (za3 (psS (i:=8) zp6.nd (pD zbz0 hr zc1 (za0 (pq 7) za1)))
   (za3 (zn1 (pD zbz0 hr zc1 (za0 zb4 za1)))
   (za3 (psIf (ptW (pwOr (zm3 (ptV (pB (zae5 (K:=K) rfl) N.isinstance_ za7 (za0 (pq 8) (za0 (pTy N.tuple_ zr6) za1))))) (pwOr (ptC (oNeK (K:=K) rfl (by exact hu)) (pq 8) (pq 3)) (zy4 (zm3 (ptV (pD zca4 hr zc1 (za0 (pq 8) za1)))))))) (za4 (za9 zt5)) zb8)
   (za3 (zn1 (pD zby2 hr zc1 (za0 (pq 8) za1)))
   (za4 (psIf (zm3 (ptV (pD zbz1 hr zc1 (za0 (pq 8) za1)))) (za4 (za9 zt5)) zb8)))))))))
   (za3 (zn1 (zar3 (K:=K) rfl (zb7 (K:=K) rfl (pq 4) za2)))
   (za3 (psS (i:=5) zp6.nd (zs3 (K:=K) rfl zb4 (za0 (zk1 (N:=["_law_row"]) (ks:=[none]) (zf5 (K:=K) rfl (pD zby6 hr zc1 (za0 (zg1 (za0 (zb7 (K:=K) rfl (pq 3) za2) (za0 (zb7 (K:=K) rfl (pq 3) za2) (za0 (peRv (K:=K) rfl (zb7 (K:=K) rfl (pq 3) za2)) za1)))) za1))) (fun _ _ _ _ _=>(zb0 (i:=0) nb_16 rfl (by eq_refl))) (fun _ _ _ _ _=>zf7) (fun _ _ _ _ _=>(za8 oAdd (pq 0) zb4)) (.skip .nil)) za1)))
   (za3 (psIf (ptC (oNeK (K:=K) rfl (by exact hu)) (pD zbx5 hr zbp5 (za0 (pq 4) za1)) (pq 5)) (za4 (za9 zt5)) zb8)
   (za3 (zy9 (pD zbz4 hr zc1 (za0 (pq 2) (za0 (pq 3) za1))) (zad5 (K:=K) (n:=2) rfl rfl (zg8 (zb0 (i:=9) zp6.nd rfl (by eq_refl)) (zg8 (zb0 (i:=10) zp6.nd rfl (by eq_refl)) zac3))))
   (za4 (psIf (ptC (oNeK (K:=K) rfl (by exact hu)) (pD zby9 hr zc1 (za0 (pq 9) za1)) (zg1 (za0 zb4 (za0 (pq 10) za1)))) (za4 (za9 zt5)) zb8))))))))))))
   (za4 (za9 zt5))),?_⟩
 refine zb6 (fun p1 H1 hf1 hs1 ha1=>?_)
 refine zaf1 (hs1.seq hS) (fun p2 H2 hf2 hs2 ha2=>?_)
 refine zg9 (hs2 _ _ ha1) ha2 (zal9 hlen) (fun p3 H3 hf3 hs3 ha3=>?_)
 refine zc7 ha3 ?_
 refine zj9 (xs:=[V.int 3]++cutV (ns0.map V.int) none (some 20)) (fun i σ H4=>∃ x1 x2 x3 x4 x5 x6 x7 x8 x9 x10:Option V,σ=[some (.ref a),x1,x2,x3,x4,x5,x6,x7,x8,x9,x10]/\Same H3 H4) ?_ ?_ ?_ ?_
 ·exact⟨_,_,_,_,_,_,_,_,_,_,rfl,Same.refl _⟩
 ·rintro i σ H4 _ ⟨_,_,_,_,_,_,_,_,_,_,_,h⟩
  exact SqL.of (h _ _ ha3)
 ·rintro i x σ H4 hi ⟨x1,x2,x3,x4,x5,x6,x7,x8,x9,x10,rfl,s4⟩
  obtain⟨z,rfl⟩:=zap5 hi
  refine zbd7 (fun pl H5 f5 s5 L5=>?_)
  have fpl:H3 pl=none:=s4.free f5
  have s35:Same H3 H5:=s4.trans s5
  refine zac1 L5 (by rfl') (fun bt l ps n m fs H6 c6 L6 B6 O D=>?_)
  have s36:=s35.chg fpl c6
  have o1:=O.1
  have o2:=O.2
  refine zbg7 L6.some (toBx B6 o1.1 o1.2) (by rw[zcd9];omega) (fun b2 l2 ps2 H10 s7 fl2 fb2 hb10 X10=>?_)
  have s310:=s36.trans s7
  have nl2:l2≠pl:=L6.ne fl2
  have nb2:b2≠pl:=L6.ne fb2
  have f3l2:H3 l2=none:=s36.free fl2
  have B10:zh7 (rm pl H10) bt l ps n m fs:=B6.same (Same.rm s7)
  have L10:=L6.same s7
  have B:=B10.same (ze1 pl H10)
  have oks:=B.oks
  have T:=zbo6 o1.1 o1.2 oks D
  have rn:(zj1 n m (fxs n m fs)).length<=400:=by rw[zo4];unfold fxs;rw[zcd9];omega
  refine zah5 B O T (fun la H11 f11 s11 h11=>?_)
  refine zc7 h11 ?_
  refine zp8 (n:=(txV (zj1 n m (fxs n m fs))).length) (Wk.list (SqL.of h11)) (by rw[zaq8,zcn5];omega) (fun j=>.str (((zj1 n m (fxs n m fs)).map fun r=>zc5 r++zi1).getD j ⟨#[]⟩)) (fun _=>true) (fun j σ=>∃ t:Option V,σ=[t]) ⟨none,rfl⟩ ?_ ?_
  ·rintro j x σ J R' S' hj sJ hx ⟨_,rfl⟩ kk _
   unfold txV at hx
   rw[zce3] at hx
   obtain⟨r,er,rfl⟩:=zce7.mp hx
   have ln:=zm7 (T r (zce5 er))
   rw[show ((zj1 n m (fxs n m fs)).map fun r=>zc5 r++zi1).getD j ⟨#[]⟩=zc5 r++zi1 by rw[zce9,zce3,er];rfl] at kk
   refine br_T ?_
   ac_nf
   refine⟨by show (zc5 r).length+1<=sizeLine;rw[zcn5];omega,?_⟩
   ac_nf
   exact kk rfl _ _ (Same.refl _) ⟨_,rfl⟩
  intro la2 H12 g12 s12 h12
  rw[zbi4] at h12
  refine zac2 h12 (zbo9 T rn) ?_
  rw[show Txt.join (Str.ofString "") ((zj1 n m (fxs n m fs)).map fun r=>zc5 r++zi1)=batT n m fs from rfl]
  have s1012:=s11.trans s12
  obtain⟨opl,epl⟩:=L10.some
  have el2:=X10.lst
  have B12:zh7 (rm pl H12) bt l ps n m fs:=B10.same (Same.rm s1012)
  have X12:=X10.same s1012
  have hb12:=s1012 _ _ hb10
  have L12:=L10.same s1012
  have s312:=s310.trans s1012
  clear B10 X10 hb10 L5 L6 L10 h11 h12
  refine zs1 (by decide) (by decide) (by decide) (by decide) ?_
  refine zx4 (fun i σ H13=>∃ x6 x7 x8:Option V,σ=[some (.ref a),some (.int z),some (.ref pl),some (.ref bt),some (.ref b2),some (.str (batT n m fs)),x6,x7,x8,x9,x10]/\Same H12 H13) ?_ ?_ ?_
  ·exact⟨_,_,_,rfl,Same.refl _⟩
  ·rintro j σ H13 hj ⟨y6,y7,y8,rfl,s13⟩
   refine zs9 ((X12.same s13).bat (s13 _ _ hb12) oks) O T (fun H14 s14=>?_)
   have s1214:=s13.trans s14
   ac_nf
   rw[decide_eq_true (rfl:batT n m fs=batT n m fs)]
   refine br_F ?_
   refine zav2 (((X12.same s1214).bat (s1214 _ _ hb12) oks).eq ((B12.same (ze1 pl H12)).same s1214)) ?_
   refine br_F ?_
   refine zs6 O T oks (fun b' l' ps' As H15 s15 N15=>?_)
   ac_nf
   rw[zbs2]
   refine zs6 zbm1 zbl6 zay3 (fun b'' l'' ps'' As' H16 s16 N16=>?_)
   have T16:=N15.bat.same s16
   have s1216:=(s1214.trans s15).trans s16
   refine zx8 T16.out ?_
   refine br_F ?_
   refine zav2 (T16.eq ((B12.same (ze1 pl H12)).same s1216)) ?_
   refine br_F ?_
   refine zbk5 T16 O (fun H17 s17=>?_)
   refine zd4 (br_T ?_)
   have tr:=(N15.tr.same s16).same s17
   refine zbi7 tr N15.nd (fun H23 m23=>?_)
   refine zbv3 tr m23 (fun H24 s24=>?_)
   refine zd4 (br_T ?_)
   ac_nf
   exact⟨_,_,_,rfl,s1214.trans ((Same.chgS ((s15.trans s16).trans s17) N15.fr m23.1).trans s24)⟩
  rintro σ H13 ⟨y6,y7,y8,rfl,s13⟩
  have B13:zh7 (rm pl H13) bt l ps n m fs:=B12.same (Same.rm s13)
  have X13:=X12.same s13
  have hb13:=s13 _ _ hb12
  have L13:=L12.same s13
  have s313:=s312.trans s13
  clear X12 hb12 L12
  refine zb2 (v:=.ref l2) hb13 rfl ?_
  refine zt0 X13.lst ?_
  refine rev_rd X13.lst (fun H23 c23 h23=>?_)
  have X23:=X13.rev c23 h23
  rw[← zcn0] at X23
  have nb2l:b2≠l2:=ne_of hb13 X13.lst (by intro w;cases w)
  have hb23:=c23 _ _ nb2l hb13
  have Or:OkB n m fs.reverse:=⟨o1,by rw[zci6];exact o2⟩
  have okr:∀ f∈fs.reverse,f.Ok:=fun f hf=>oks f (List.mem_reverse.mp hf)
  have s323:Same H3 H23:=s313.chg f3l2 c23
  have B23:zh7 (rm pl H23) bt l ps n m fs:=B6.same (fun b o e=>by
   have e1:=zj0 e
   exact zf9 e1.1 (c23 _ _ (za6 e1.2 fl2) (s13 _ _ (s1012 _ _ (s7 _ _ e1.2)))))
  have L23:zc0 H23 pl 20000:=(L13.chg c23 (Ne.symm nl2)).up (by rfl')
  have U23:=B23.same (ze1 pl H23)
  refine zb2 (v:=.int n) U23.out rfl ?_
  refine zb2 (v:=.int m) U23.out rfl ?_
  refine zb2 (v:=.ref l) U23.out rfl ?_
  refine rv_rd (SqL.of U23.lst) (fun lr H25 f25 s25 h25=>?_)
  refine zb5 (fun tr H26 f26 s26 h26=>?_)
  have V26:=U23.rev (s25.trans s26) (s26 _ _ h25) h26
  have Tr:=T.rev
  have rnr:(zj1 n m (fxs n m fs.reverse)).length<=400:=by rw[zo4];unfold fxs;rw[zcd9,zci6];omega
  refine zah5 V26 Or Tr (fun lb H27 f27 s27 h27=>?_)
  refine zc7 h27 ?_
  refine zp8 (n:=(txV (zj1 n m (fxs n m fs.reverse))).length) (Wk.list (SqL.of h27)) (by rw[zaq8,zcn5];omega) (fun j=>.str (((zj1 n m (fxs n m fs.reverse)).map fun r=>zc5 r++zi1).getD j ⟨#[]⟩)) (fun _=>true) (fun j σ=>∃ t:Option V,σ=[t]) ⟨none,rfl⟩ ?_ ?_
  ·rintro j x σ J R' S' hj sJ hx ⟨_,rfl⟩ kk _
   unfold txV at hx
   rw[zce3] at hx
   obtain⟨r,er,rfl⟩:=zce7.mp hx
   have ln:=zm7 (Tr r (zce5 er))
   rw[show ((zj1 n m (fxs n m fs.reverse)).map fun r=>zc5 r++zi1).getD j ⟨#[]⟩=zc5 r++zi1 by rw[zce9,zce3,er];rfl] at kk
   refine br_T ?_
   ac_nf
   refine⟨by show (zc5 r).length+1<=sizeLine;rw[zcn5];omega,?_⟩
   ac_nf
   exact kk rfl _ _ (Same.refl _) ⟨_,rfl⟩
  intro lb2 H28 g28 s28 h28
  rw[zbi4] at h28
  refine zac2 h28 (zbo9 Tr rnr) ?_
  rw[show Txt.join (Str.ofString "") ((zj1 n m (fxs n m fs.reverse)).map fun r=>zc5 r++zi1)=batT n m fs.reverse from rfl]
  have s2328:=((s25.trans s26).trans s27).trans s28
  have X28:=X23.same s2328
  refine zs9 (X28.bat (s2328 _ _ hb23) okr) Or Tr (fun H29 s29=>?_)
  ac_nf
  rw[decide_eq_true (rfl:batT n m fs.reverse=batT n m fs.reverse)]
  refine br_F ?_
  have s2329:=s2328.trans s29
  refine zar0 (L23.same s2329) (by rfl') (B23.same (Same.rm s2329)) O (fun t bad kb H30 c30 L30 nt ht Bad=>?_)
  have s330:=(s323.trans s2329).chg fpl c30
  refine zq3 ht ?_
  refine zak6 (Bad.same (ze1 _ _)) (fun t29 H31 f31 s31 h31=>?_)
  refine zb5 (fun t30 H32 f32 s32 h32=>?_)
  refine zav2 (eqT2 (s32 _ _ h31) h32 rfl rfl) ?_
  refine br_F ?_
  ac_nf
  exact⟨_,_,_,_,_,_,_,_,_,_,rfl,(s330.trans s31).trans s32⟩
 ·rintro σ H4 ⟨_,_,_,_,_,_,_,_,_,_,rfl,_⟩
  exact k H4
end
abbrev FA(K:zce1)(x:Str)(st:Stmt):Prop:=∃ (f:Addr) (od an:Option Addr) (sl:Array (Option Value)) (oc kV dc pm cd ct:Value),zcg5 K zcn9 x=some (some (.ref f))/\K.lookup f=some ⟨oc,od,.func (zck8 x x (zo2 st) (zl8 st) (za5 st) .none kV dc pm an cd ct),sl⟩/\zcm8 K cd x=true/\zck5 K (.ref f)=true
theorem FA.of{K:zce1}{x:Str}{st:Stmt}{od an:Option Addr}{sl:Array (Option Value)}{oc kV dc pm cd ct:Value}(a:zcg5 K zcn9 x=some (some (.ref f)))(l:K.lookup f=some ⟨oc,od,.func (zck8 x x (zo2 st) (zl8 st) (za5 st) .none kV dc pm an cd ct),sl⟩)(c:zcm8 K cd x=true)(k:zck5 K (.ref f)=true):FA K x st:=⟨_,_,_,_,_,_,_,_,_,_,a,l,c,k⟩
structure Ev(P:Program)(w:World)(K:zce1)(mg:Str->Option Value)(base h:Heap):Prop where
 x:K.In h
 g:h.Ns zcn9 mg
local macro_rules | `(tactic| walk_at "bd")=>`(tactic| (intro _ _ _ _ _ _ us hl;rcases us with _|⟨_,_|⟨_,_|⟨_,_|⟨_,_|⟨_,_|⟨_,_|⟨_,_⟩⟩⟩⟩⟩⟩⟩<;>first|rfl|exact Nat.noConfusion hl|cases hl))
section
variable {P:Program}{w:World}{K:zce1}{mg:Str->Option Value}{base h:Heap}{CX:CXT}{k:Nat}{x:Str}{ps:List Str}{sp:Sp}{st:Stmt}
theorem Ev.r(E:Ev P w K mg base h)(A:FA K x st)(ok:∀ {f:Addr}{fd:FuncData},Fun K x x st f fd->mg x=some (.ref f)->zck5 K (.ref f)=true->zz5 K fd ps []->FnOk P w K mg base CX k f fd ps sp)(b:∀ (kV doc pm:Value) (an:Option Addr) (cdv ct:Value) (us:List Value),us.length=ps.length->bindArgs (zck8 x x (zo2 st) (zl8 st) (za5 st) .none kV doc pm an cdv ct) ⟨us,[]⟩=pure (ps.zip us):=by walk_at "bd"):Def P w K mg base CX k x ps sp:=by
 obtain⟨f,od,an,sl,oc,kV,dc,pm,cd,ct,a,l,c,k⟩:=A
 have F:=zax7 (st:=st) l c k
 have a:=zch3 E.x E.g a
 exact⟨⟨_,_,ok F a k (F.binds b),a,k,F.binds b⟩⟩
theorem Ev.d(E:Ev P w K mg base h)(A:FA K x st)(ok:∀ {f:Addr}{fd:FuncData},Fun K x x st f fd->FnOk P w K mg base CX k f fd ps sp)(b:∀ (kV doc pm:Value) (an:Option Addr) (cdv ct:Value) (us:List Value),us.length=ps.length->bindArgs (zck8 x x (zo2 st) (zl8 st) (za5 st) .none kV doc pm an cdv ct) ⟨us,[]⟩=pure (ps.zip us):=by walk_at "bd"):Def P w K mg base CX k x ps sp:=E.r A (fun F _ _ _=>ok F) b
end
theorem all_mk{l:PySem.W.OpenLaw}{w:World}{K:zce1}{h:Heap}{mg:Str->Option Value}{fa:Addr}(X:K.In h)(G:h.Ns zcn9 mg)(hfa:mg "law"=some (.ref fa)){zbz8:Tok}{zbz6:Tok}{zcb5:Tok}{zbz3:Tok}{zcc0 ep_WANTED:Nat}{t0_WANTED u0_WANTED t1_WANTED u1_WANTED t2_WANTED u2_WANTED t3_WANTED u3_WANTED t4_WANTED u4_WANTED:Tok}{zcb0 ep_FIELD_WORDS:Nat}{t0_FIELD_WORDS t1_FIELD_WORDS t2_FIELD_WORDS:Tok}{zbw2:Addr}{zcc2:ClassData}{zcc4:ClassData}{zbx0:Addr}{zcd1:ClassData}{zbx6:Addr}{zcd7:ClassData}{zbw3:Addr}{zcc5:ClassData}{zbx1:Addr}{zcd2:ClassData}{zbw6:Addr}{zcc8:ClassData}{zbw4:Addr}{zcc6:ClassData}{zbw5:Addr}{zcc7:ClassData}{zbx2:Addr}{zcd3:ClassData}{zbx3:Addr}{zcd4:ClassData}{zbx7:Addr}{zcd8:ClassData}{zbx4:Addr}{zcd5:ClassData}{zbw7:Addr}{zcc9:ClassData}{nm_NoBattle qn_NoBattle:Str}{N_NoBattle:Addr}{bs_NoBattle:List Value}{sn_NoBattle:List Str}{sub_NoBattle:List Value}{ab_NoBattle:Bool}{col_NoBattle:Option Bool}{dd_NoBattle:Option Addr}{k0_NoBattle k1_NoBattle k2_NoBattle k3_NoBattle k5_NoBattle:Option Value}{zbw8:Addr}{iod_NoBattle ian_NoBattle:Option Addr}{isl_NoBattle:Array (Option Value)}{ioc_NoBattle ikV_NoBattle idc_NoBattle ipm_NoBattle icd_NoBattle ict_NoBattle:Value}(e_MOST_HOSTS:zcg5 K zcn9 "MOST_HOSTS"=some (some (.int 10 zbz8)))(e_MOST_FIELDS:zcg5 K zcn9 "MOST_FIELDS"=some (some (.int 5 zbz6)))(e_FIGURES:zcg5 K zcn9 "FIGURES"=some (some (.str "0123456789" zcb5)))(e_MOST_FIGURES:zcg5 K zcn9 "MOST_FIGURES"=some (some (.int 2000 zbz3)))(e_WANTED:zcg5 K zcn9 "WANTED"=some (some (.ref zcc0)))(l_WANTED:K.lookup zcc0=some { cls:=.type "dict",data:=.dict #[⟨PyData.keyHash w.params "hosts",.str "hosts" t0_WANTED,.int 2 u0_WANTED⟩,⟨PyData.keyHash w.params "more",.str "more" t1_WANTED,.int 2 u1_WANTED⟩,⟨PyData.keyHash w.params "lead",.str "lead" t2_WANTED,.int 2 u2_WANTED⟩,⟨PyData.keyHash w.params "flow",.str "flow" t3_WANTED,.int 4 u3_WANTED⟩,⟨PyData.keyHash w.params "number",.str "number" t4_WANTED,.int 3 u4_WANTED⟩] ep_WANTED })(r_WANTED:(zcc0==sysModules)=false)(e_FIELD_WORDS:zcg5 K zcn9 "FIELD_WORDS"=some (some (.ref zcb0)))(l_FIELD_WORDS:K.lookup zcb0=some { cls:=.type "tuple",data:=.seq #[.str "more" t0_FIELD_WORDS,.str "lead" t1_FIELD_WORDS,.str "table" t2_FIELD_WORDS] ep_FIELD_WORDS })(A_0:FA K "_law_marked" zp1)(A_1:FA K "_law_once" zt7)(A_2:FA K "is_whole" zx3)(A_3:FA K "is_from" zac7)(A_4:FA K "is_between" zr4)(A_5:FA K "are_hosts" zu8)(A_6:FA K "has_size" zx7)(A_7:FA K "is_table_row" zn7)(A_8:FA K "is_table" zy2)(A_9:FA K "is_field" zw9)(A_10:FA K "look_battle" zo7)(A_11:FA K "flat" zbe1)(A_12:FA K "row_text" zx0)(A_13:FA K "text_of" zac8)(A_14:FA K "field_row" zt8)(A_15:FA K "battle_rows" zo9)(A_16:FA K "battle_text" zp0)(A_17:FA K "has_wanted" zq5)(A_18:FA K "is_number" zt9)(A_19:FA K "read_row" zw2)(A_20:FA K "stands_in_battle" zj6)(A_21:FA K "read_rows" zt4)(A_22:FA K "rows_parted" zp2)(A_23:FA K "field_of" zw8)(A_24:FA K "battle_of" zu3)(A_25:FA K "read_battle" zp4)(A_26:FA K "_law_stirred" zo1)(A_27:FA K "_law_opened" zp3)(A_28:FA K "_law_draw" zt1)(A_29:FA K "_law_drawn_worth" zj4)(A_30:FA K "_law_drawn_field" zj2)(A_31:FA K "_law_drawn_battle" zi2)(A_32:FA K "_law_copied" zo8)(A_33:FA K "_law_bad_field" zm1)(A_34:FA K "_law_bent_one" zm5)(A_35:FA K "_law_field_row" zl7)(A_36:FA K "_law_rows_of" zo0)(A_37:FA K "_law_kinds" zr1)(A_38:FA K "_law_kind_of" zn6)(A_39:FA K "_law_caught_by" zm0)(A_40:FA K "law" zas3)(z_ValueError:zcg5 K zcn9 "ValueError"=some none)(z_all:zcg5 K zcn9 "all"=some none)(z_bool:zcg5 K zcn9 "bool"=some none)(z_enumerate:zcg5 K zcn9 "enumerate"=some none)(z_int:zcg5 K zcn9 "int"=some none)(z_isinstance:zcg5 K zcn9 "isinstance"=some none)(z_len:zcg5 K zcn9 "len"=some none)(z_list:zcg5 K zcn9 "list"=some none)(z_range:zcg5 K zcn9 "range"=some none)(z_str:zcg5 K zcn9 "str"=some none)(z_tuple:zcg5 K zcn9 "tuple"=some none)(e_HostError:zcg5 K zcn9 "HostError"=some (some (.ref zbw2)))(kk_HostError:zcg8 K zbw2=some zcc2)(tt_HostError:zch5 K (.ref zbw2)=some (.type "type"))(nn_HostError:zcg4 K (.type "NoneType") (.ref zbw2)=some false)(e_NoBattle:zcg5 K zcn9 "NoBattle"=some (some (.ref zbw0)))(kk_NoBattle:zcg8 K zbw0=some zcc4)(tt_NoBattle:zch5 K (.ref zbw0)=some (.type "type"))(nn_NoBattle:zcg4 K (.type "NoneType") (.ref zbw0)=some false)(e_NoPlan:zcg5 K zcn9 "NoPlan"=some (some (.ref zbx0)))(kk_NoPlan:zcg8 K zbx0=some zcd1)(tt_NoPlan:zch5 K (.ref zbx0)=some (.type "type"))(nn_NoPlan:zcg4 K (.type "NoneType") (.ref zbx0)=some false)(e_NoMix:zcg5 K zcn9 "NoMix"=some (some (.ref zbx6)))(kk_NoMix:zcg8 K zbx6=some zcd7)(tt_NoMix:zch5 K (.ref zbx6)=some (.type "type"))(nn_NoMix:zcg4 K (.type "NoneType") (.ref zbx6)=some false)(e_NoStream:zcg5 K zcn9 "NoStream"=some (some (.ref zbw3)))(kk_NoStream:zcg8 K zbw3=some zcc5)(tt_NoStream:zch5 K (.ref zbw3)=some (.type "type"))(nn_NoStream:zcg4 K (.type "NoneType") (.ref zbw3)=some false)(e_NoSide:zcg5 K zcn9 "NoSide"=some (some (.ref zbx1)))(kk_NoSide:zcg8 K zbx1=some zcd2)(tt_NoSide:zch5 K (.ref zbx1)=some (.type "type"))(nn_NoSide:zcg4 K (.type "NoneType") (.ref zbx1)=some false)(e_NoAlike:zcg5 K zcn9 "NoAlike"=some (some (.ref zbw6)))(kk_NoAlike:zcg8 K zbw6=some zcc8)(tt_NoAlike:zch5 K (.ref zbw6)=some (.type "type"))(nn_NoAlike:zcg4 K (.type "NoneType") (.ref zbw6)=some false)(e_NoNumber:zcg5 K zcn9 "NoNumber"=some (some (.ref zbw4)))(kk_NoNumber:zcg8 K zbw4=some zcc6)(tt_NoNumber:zch5 K (.ref zbw4)=some (.type "type"))(nn_NoNumber:zcg4 K (.type "NoneType") (.ref zbw4)=some false)(e_TooGreat:zcg5 K zcn9 "TooGreat"=some (some (.ref zbw5)))(kk_TooGreat:zcg8 K zbw5=some zcc7)(tt_TooGreat:zch5 K (.ref zbw5)=some (.type "type"))(nn_TooGreat:zcg4 K (.type "NoneType") (.ref zbw5)=some false)(e_NoEven:zcg5 K zcn9 "NoEven"=some (some (.ref zbx2)))(kk_NoEven:zcg8 K zbx2=some zcd3)(tt_NoEven:zch5 K (.ref zbx2)=some (.type "type"))(nn_NoEven:zcg4 K (.type "NoneType") (.ref zbx2)=some false)(e_NoText:zcg5 K zcn9 "NoText"=some (some (.ref zbx3)))(kk_NoText:zcg8 K zbx3=some zcd4)(tt_NoText:zch5 K (.ref zbx3)=some (.type "type"))(nn_NoText:zcg4 K (.type "NoneType") (.ref zbx3)=some false)(e_NoRow:zcg5 K zcn9 "NoRow"=some (some (.ref zbx7)))(kk_NoRow:zcg8 K zbx7=some zcd8)(tt_NoRow:zch5 K (.ref zbx7)=some (.type "type"))(nn_NoRow:zcg4 K (.type "NoneType") (.ref zbx7)=some false)(e_NoName:zcg5 K zcn9 "NoName"=some (some (.ref zbx4)))(kk_NoName:zcg8 K zbx4=some zcd5)(tt_NoName:zch5 K (.ref zbx4)=some (.type "type"))(nn_NoName:zcg4 K (.type "NoneType") (.ref zbx4)=some false)(e_NoPlace:zcg5 K zcn9 "NoPlace"=some (some (.ref zbw7)))(kk_NoPlace:zcg8 K zbw7=some zcc9)(tt_NoPlace:zch5 K (.ref zbw7)=some (.type "type"))(nn_NoPlace:zcg4 K (.type "NoneType") (.ref zbw7)=some false)(bb_HostError:zcg4 K (.ref zbw2) (.type "BaseException")=some true)(x_HostError:PySem.W.excIn K zbw2 bmV newV=true)(ob_NoBattle:K.lookup zbw0=some (excClassObj nm_NoBattle qn_NoBattle zbw0 N_NoBattle bs_NoBattle (.ref zbw2 :: bmV) true sn_NoBattle sub_NoBattle ab_NoBattle col_NoBattle dd_NoBattle k0_NoBattle k1_NoBattle k2_NoBattle k3_NoBattle k5_NoBattle newV))(in_NoBattle:zch4 K (.ref zbw0) "__init__"=some (some (.ref zbw8)))(ty_NoBattle:zch5 K (.ref zbw8)=some (.type "function"))(sa_NoBattle:zch4 K (.ref zbw0) "__setattr__"=some (some (.builtin "object.__setattr__")))(nf_NoBattle:zch4 K (.ref zbw0) "field"=some none)(hd_NoBattle:zcm5 K zbw0=true)(li_NoBattle:K.lookup zbw8=some ⟨ioc_NoBattle,iod_NoBattle,.func (zck8 "__init__" "NoBattle.__init__" (zo2 zi3) (zl8 zi3) (za5 zi3) .none ikV_NoBattle idc_NoBattle ipm_NoBattle ian_NoBattle icd_NoBattle ict_NoBattle),isl_NoBattle⟩)(ci_NoBattle:zcm8 K icd_NoBattle "NoBattle.__init__"=true)(ki_NoBattle:zck5 K (.ref zbw8)=true)(f1_NoBattle:zch4 K (.ref zbw0) "__getattribute__"=some (some (.builtin "BaseException.__getattribute__")))(f2_NoBattle:zch4 K (.ref zbw0) "__getattr__"=some none)(f3_NoBattle:zch4 K (.ref zbw0) "__class__"=some (some (.builtin "object.__class__")))(f4_NoBattle:zcg4 K (.ref zbw0) (.type "BaseException")=some true)(f5_NoBattle:PySem.W.mroIn K zbw0 (.type "object")=some true)(f6_NoBattle:zcg4 K (.ref zbw0) (.type "ValueError")=some true)(s_NoBattle_HostError:zcg4 K (.ref zbw0) (.ref zbw2)=some true)(s_NoBattle_NoBattle:zcg4 K (.ref zbw0) (.ref zbw0)=some true)(s_NoBattle_NoPlan:zcg4 K (.ref zbw0) (.ref zbx0)=some false)(s_NoBattle_NoMix:zcg4 K (.ref zbw0) (.ref zbx6)=some false)(s_NoBattle_NoStream:zcg4 K (.ref zbw0) (.ref zbw3)=some false)(s_NoBattle_NoSide:zcg4 K (.ref zbw0) (.ref zbx1)=some false)(s_NoBattle_NoAlike:zcg4 K (.ref zbw0) (.ref zbw6)=some false)(s_NoBattle_NoNumber:zcg4 K (.ref zbw0) (.ref zbw4)=some false)(s_NoBattle_TooGreat:zcg4 K (.ref zbw0) (.ref zbw5)=some false)(s_NoBattle_NoEven:zcg4 K (.ref zbw0) (.ref zbx2)=some false)(s_NoBattle_NoText:zcg4 K (.ref zbw0) (.ref zbx3)=some false)(s_NoBattle_NoRow:zcg4 K (.ref zbw0) (.ref zbx7)=some false)(s_NoBattle_NoName:zcg4 K (.ref zbw0) (.ref zbx4)=some false)(s_NoBattle_NoPlace:zcg4 K (.ref zbw0) (.ref zbw7)=some false) :
  ∃ fd:FuncData,(∀ (s:Shared) (v:Value),BindsTo s fd ⟨[v],[]⟩ [("_law_script",v)])/\∀ base:Heap,K.In base->base.Ns zcn9 mg->FnOk l.prog w K mg base CX0 9 fa fd ["_law_script"] (spLaw K):=by
 obtain⟨_,_,an,_,_,kV,dc,pm,cd,ct,aL,lL,cL,kL⟩:=A_40
 have e:=hfa.symm.trans (zch3 X G aL)
 cases e
 have N:Nm mg:=⟨zci5 X G z_ValueError,zci5 X G z_all,zci5 X G z_bool,zci5 X G z_enumerate,zci5 X G z_int,zci5 X G z_isinstance,zci5 X G z_len,zci5 X G z_list,zci5 X G z_range,zci5 X G z_str,zci5 X G z_tuple⟩
 have zcc3:=zch3 X G e_MOST_HOSTS
 have zcc1:=zch3 X G e_MOST_FIELDS
 have zcd6:=zch3 X G e_FIGURES
 have zcb9:=zch3 X G e_MOST_FIGURES
 have T_FIELD_WORDS:TupC K mg "FIELD_WORDS" [.str "more",.str "lead",.str "table"]:=zbv8 (es:=[("more",t0_FIELD_WORDS),("lead",t1_FIELD_WORDS),("table",t2_FIELD_WORDS)]) X G e_FIELD_WORDS l_FIELD_WORDS (show 3<=100 by decide)
 have T_WANTED:TabS w K mg "WANTED" [("hosts",2),("more",2),("lead",2),("flow",4),("number",3)]:=zbq7 (es:=[("hosts",2,t0_WANTED,u0_WANTED),("more",2,t1_WANTED,u1_WANTED),("lead",2,t2_WANTED,u2_WANTED),("flow",4,t3_WANTED,u3_WANTED),("number",3,t4_WANTED,u4_WANTED)]) X G e_WANTED r_WANTED l_WANTED (show (["hosts","more","lead","flow","number"]:List Str).Nodup by decide +kernel)
 refine⟨zck8 "law" "law" (zo2 zas3) (zl8 zas3) (za5 zas3) .none kV dc pm an cd ct,fun s v=>.of_eq rfl,fun base XB GB=>?_⟩
 have E:Ev l.prog w K mg base h:=⟨X,G⟩
 have Z:Cz K mg base zbw2 zbw0 zbx0 zbx6 zbw3 zbx1 zbw6 zbw4 zbw5 zbx2 zbx3 zbx7 zbx4 zbw7 zbw8:=⟨zch3 X G e_HostError,zch3 X G e_NoBattle,zch3 X G e_NoPlan,zch3 X G e_NoMix,zch3 X G e_NoStream,zch3 X G e_NoSide,zch3 X G e_NoAlike,zch3 X G e_NoNumber,zch3 X G e_TooGreat,zch3 X G e_NoEven,zch3 X G e_NoText,zch3 X G e_NoRow,zch3 X G e_NoName,zch3 X G e_NoPlace,⟨⟨_,_,_,_,_,_,_,_,_,_,_,_,_,_,ob_NoBattle⟩,fun h X=>zbh3 X x_HostError,in_NoBattle,ty_NoBattle,sa_NoBattle,nf_NoBattle⟩,⟨_,zax7 (st:=zi3) li_NoBattle ci_NoBattle ki_NoBattle,(zax7 (st:=zi3) li_NoBattle ci_NoBattle ki_NoBattle).binds fun _ _ _ _ _ _ us hl=>match us,hl with | [_,_],_=>rfl⟩,hd_NoBattle,⟨f1_NoBattle,f2_NoBattle,f3_NoBattle,f4_NoBattle,f5_NoBattle⟩,by rw[kk_NoBattle];rfl,zbs3 bb_HostError kk_HostError tt_HostError s_NoBattle_HostError,zaf3 f6_NoBattle,zj7 kk_HostError tt_HostError s_NoBattle_HostError s_NoBattle_NoBattle,zj7 kk_NoBattle tt_NoBattle s_NoBattle_NoBattle s_NoBattle_NoBattle,zj7 kk_NoPlan tt_NoPlan s_NoBattle_NoPlan s_NoBattle_NoBattle,zj7 kk_NoMix tt_NoMix s_NoBattle_NoMix s_NoBattle_NoBattle,zj7 kk_NoStream tt_NoStream s_NoBattle_NoStream s_NoBattle_NoBattle,zj7 kk_NoSide tt_NoSide s_NoBattle_NoSide s_NoBattle_NoBattle,zj7 kk_NoAlike tt_NoAlike s_NoBattle_NoAlike s_NoBattle_NoBattle,zj7 kk_NoNumber tt_NoNumber s_NoBattle_NoNumber s_NoBattle_NoBattle,zj7 kk_TooGreat tt_TooGreat s_NoBattle_TooGreat s_NoBattle_NoBattle,zj7 kk_NoEven tt_NoEven s_NoBattle_NoEven s_NoBattle_NoBattle,zj7 kk_NoText tt_NoText s_NoBattle_NoText s_NoBattle_NoBattle,zj7 kk_NoRow tt_NoRow s_NoBattle_NoRow s_NoBattle_NoBattle,zj7 kk_NoName tt_NoName s_NoBattle_NoName s_NoBattle_NoBattle,zj7 kk_NoPlace tt_NoPlace s_NoBattle_NoPlace s_NoBattle_NoBattle,zh0 kk_HostError tt_HostError nn_HostError,zh0 kk_NoBattle tt_NoBattle nn_NoBattle,zh0 kk_NoPlan tt_NoPlan nn_NoPlan,zh0 kk_NoMix tt_NoMix nn_NoMix,zh0 kk_NoStream tt_NoStream nn_NoStream,zh0 kk_NoSide tt_NoSide nn_NoSide,zh0 kk_NoAlike tt_NoAlike nn_NoAlike,zh0 kk_NoNumber tt_NoNumber nn_NoNumber,zh0 kk_TooGreat tt_TooGreat nn_TooGreat,zh0 kk_NoEven tt_NoEven nn_NoEven,zh0 kk_NoText tt_NoText nn_NoText,zh0 kk_NoRow tt_NoRow nn_NoRow,zh0 kk_NoName tt_NoName nn_NoName,zh0 kk_NoPlace tt_NoPlace nn_NoPlace⟩
 have zby2:=E.r A_0 fun F a b c=>zaf7 F N a b c
 have zbz1:=E.r A_1 fun F a b c=>zap0 F N a b c
 have zbx9:=E.d A_2 fun F=>zaq5 F N
 have zbz2:=E.d A_3 fun F=>zba2 F N zbx9
 have zbx8:=E.d A_4 fun F=>zai1 F N zbz2
 have zca5:=E.d A_5 fun F=>zan4 F N zcc3 zbx8
 have zcb2:=E.d A_6 fun F=>zat4 F N zcc1 zca5
 have zbz5:=E.d A_7 fun F=>zac4 F N zbx9
 have zcb1:=E.d A_8 fun F=>zas7 F N zbz5
 have zcb3:=E.d A_9 fun F=>zar9 F N zbx8 zbz2 zcb1 zbx9
 have zby0:=E.d A_10 fun F=>zag0 F N zcb2 zcb3 Z
 have zcd0:=E.d A_11 fun F=>zbv6 F N
 have zcb4:=E.d A_12 fun F=>zar7 F N
 have zcb8:=E.d A_13 fun F=>zaz3 F N zcb4
 have zca6:=E.d A_14 fun F=>zap6 F N zcd0
 have zbz9:=E.d A_15 fun F=>zaf4 F N zca6
 have zbx5:=E.d A_16 fun F=>zae6 F N zbz9 zby0 zcb8
 have zca3:=E.d A_17 fun F=>zaj1 F N T_WANTED
 have zca7:=E.d A_18 fun F=>zao3 F N zcd6 zcb9
 have zcb6:=E.d A_19 fun F=>zaq6 F N zca3 zca7
 have zbw9:=E.d A_20 fun F=>zu0 F N T_FIELD_WORDS
 have zca9:=E.d A_21 fun F=>zap9 F N zcb6 zbw9 Z
 have zca0:=E.d A_22 fun F=>zad9 F N
 have zcb7:=E.d A_23 fun F=>zas9 F N zca0
 have zca8:=E.d A_24 fun F=>zal4 F N zcb7
 have zbz0:=E.d A_25 fun F=>zag1 F N zca8 zby0 zca9 zbw9 Z
 have zbz7:=E.d A_26 fun F=>zaa9 F N
 have zca2:=E.d A_27 fun F=>zaf9 F N
 have zbw1:=E.d A_28 fun F=>zap2 F N zbz7
 have zby3:=E.d A_29 fun F=>zu7 F N zbw1
 have zby4:=E.d A_30 fun F=>zu5 F N zbw1 zby3
 have zby1:=E.d A_31 fun F=>zs5 F N zbw1 zby4
 have zca1:=E.d A_32 fun F=>zaf0 F N
 have zby8:=E.d A_33 fun F=>zx2 F N zbw1
 have zbz4:=E.d A_34 fun F=>zz3 F N zby8 zbw1
 have zby7:=E.d A_35 fun F=>zw4 F N
 have zby6:=E.d A_36 fun F=>zaa5 F N zby7
 have zca4:=E.d A_37 fun F=>zaj2 F N
 have zby5:=E.d A_38 fun F=>zad6 F N Z
 have zby9:=E.d A_39 fun F=>zw7 F N zby5 zbx5 Z
 exact ok_law (P:=l.prog) (w:=w) (base:=base) (zax7 (st:=zas3) lL cL kL) N zbz4 zby9 zca1 zby1 zca4 zby2 zbz1 zca2 zby6 zbx5 zbz0
theorem walk{l:PySem.W.OpenLaw}{q:Program}{loose:List Str}{XP:(Str->Option Value)->Heap->Prop}{YP:World->Heap->Prop}{d:DefRec}{K:Params->zce1}(hn:l.most=some 63)(hdf:d.params.defaults=[])(hY:∀ (w:World) (h:Heap),YP w h->(K w.params).In h)(F:∀ (w:World) (mg:Str->Option Value) (fa:Addr) (h:Heap),(K w.params).In h->h.Ns zcn9 mg->mg d.name=some (.ref fa) ->
   ∃ fd:FuncData,(∀ (s:Shared) (u:Value),BindsTo s fd ⟨[u],[]⟩ [("_law_script",u)])/\∀ base:Heap,(K w.params).In base->base.Ns zcn9 mg->FnOk l.prog w (K w.params) mg base CX0 9 fa fd ["_law_script"] (spLaw (K w.params))) :
  PySem.W.WalkO q loose XP YP l.row.toRowW d [] (fun f vs=>PySem.call f vs):=
 L2.walk_of (n:=63) (k:=9) (x:="_law_script") (CX:=fun _=>CX0) (sp:=fun w=>spLaw (K w.params)) hn (by decide) hdf ⟨rfl,by decide,by decide,rfl⟩ hY F (fun _ _ a ns hl _ hS=>⟨a,ns,rfl,hS,hl,fun _=>rfl⟩) fun _ _ _ _ _ z=>z
end G
namespace PySem.W.Fast
theorem tw15382024369556722219:True:=⟨⟩
theorem tw3445768007464311487:True:=⟨⟩
theorem tw4260658663342334907:True:=⟨⟩
theorem tw9498831798977117167:True:=⟨⟩
theorem tw17463581450065790960:True:=⟨⟩
theorem tw15812576292310729928:True:=⟨⟩
theorem tw7198181373308322532:True:=⟨⟩
theorem tw12124813677042480314:True:=⟨⟩
theorem tw6285289314595038080:True:=⟨⟩
theorem tw2503582240717410970:True:=⟨⟩
theorem tw2726287708653063016:True:=⟨⟩
theorem tw9421265124854743030:True:=⟨⟩
theorem tw12891678799899202996:True:=⟨⟩
theorem tw3157459263409067335:True:=⟨⟩
theorem tw744960243234802038:True:=⟨⟩
theorem tw1650613677882664372:True:=⟨⟩
theorem tw7908916127937886189:True:=⟨⟩
theorem tw1181869106856810052:True:=⟨⟩
theorem tw14830798335146456151:True:=⟨⟩
theorem tw6837735991487479128:True:=⟨⟩
theorem tw8563985529587758844:True:=⟨⟩
theorem tw1495157935264460143:True:=⟨⟩
theorem tw3483401408496837881:True:=⟨⟩
theorem tw3976507081055792431:True:=⟨⟩
theorem tw9268427689644674312:True:=⟨⟩
theorem tw4751794534632080690:True:=⟨⟩
theorem tw7043206715324041369:True:=⟨⟩
theorem tw2742041290940628610:True:=⟨⟩
theorem tw393903527020393358:True:=⟨⟩
theorem tw11542614726242494997:True:=⟨⟩
theorem tw16778241059300200592:True:=⟨⟩
theorem tw13740825100178998070:True:=⟨⟩
theorem tw7083368528177119901:True:=⟨⟩
theorem tw16518291136605576169:True:=⟨⟩
theorem tw10005817983643778904:True:=⟨⟩
theorem tw3870775747267166282:True:=⟨⟩
theorem tw930811823387851912:True:=⟨⟩
theorem tw10378417070969567864:True:=⟨⟩
theorem tw3820251976035321313:True:=⟨⟩
theorem tw8115631968917579898:True:=⟨⟩
theorem tw8463130566393240355:True:=⟨⟩
theorem tw17613351977259010302:True:=⟨⟩
theorem tw2442323421335193741:True:=⟨⟩
theorem tw10188424182632949485:True:=⟨⟩
theorem tw5490849880474556740:True:=⟨⟩
theorem tw14434576530098676261:True:=⟨⟩
theorem tw13755916847315405637:True:=⟨⟩
theorem tw5276697849077637779:True:=⟨⟩
theorem tw9550457961599387355:True:=⟨⟩
theorem tw7832038543469420971:True:=⟨⟩
theorem tw3476536445245493654:True:=⟨⟩
theorem tw17556092995102517134:True:=⟨⟩
theorem tw3401623465754174056:True:=⟨⟩
theorem tw8453821389296248953:True:=⟨⟩
theorem tw3691481750466404964:True:=⟨⟩
theorem tw3081456768122917879:True:=⟨⟩
theorem tw4240435225453870512:True:=⟨⟩
theorem tw5076545650718987774:True:=⟨⟩
theorem tw5236819093246283780:True:=⟨⟩
theorem tw409549328764072951:True:=⟨⟩
theorem tw671927076409475971:True:=⟨⟩
theorem tw13394153889730043433:True:=⟨⟩
theorem tw8008175841660850841:True:=⟨⟩
theorem tw12148985595973772177:True:=⟨⟩
theorem tw886404226759194683:True:=⟨⟩
theorem tw2337953314256936246:True:=⟨⟩
theorem tw9238359676487191779:True:=⟨⟩
theorem tw1625383252689722169:True:=⟨⟩
theorem tw11682417592034394668:True:=⟨⟩
theorem tw15258784941006263050:True:=⟨⟩
theorem tw1662490911146382973:True:=⟨⟩
theorem tw2076879679684139257:True:=⟨⟩
theorem tw384529222177176743:True:=⟨⟩
theorem tw12567446881774852774:True:=⟨⟩
theorem tw1757106075228748015:True:=⟨⟩
theorem tw7293390824971030542:True:=⟨⟩
theorem tw697332738574495970:True:=⟨⟩
theorem tw11893834405696352541:True:=⟨⟩
theorem tw4460672040186720300:True:=⟨⟩
theorem tw112960671263937671:True:=⟨⟩
theorem tw11476830095694983621:True:=⟨⟩
theorem tw86808490534658625:True:=⟨⟩
theorem tw13922533248722858602:True:=⟨⟩
theorem tw4307097591714942998:True:=⟨⟩
theorem tw12591951998642608962:True:=⟨⟩
theorem tw9867560645292439448:True:=⟨⟩
theorem tw8559718992673956519:True:=⟨⟩
theorem tw12496382281782441652:True:=⟨⟩
theorem tw3897498895535131936:True:=⟨⟩
theorem tw8076656647206123092:True:=⟨⟩
theorem tw12295405903933230699:True:=⟨⟩
theorem tw15604046136881098465:True:=⟨⟩
theorem tw2491448533588016703:True:=⟨⟩
theorem tw13733823950604593734:True:=⟨⟩
theorem tw10729414869163541553:True:=⟨⟩
theorem tw12629118028400925850:True:=⟨⟩
theorem tw17261218062179618464:True:=⟨⟩
theorem tw4151819555974507363:True:=⟨⟩
theorem tw8939077688348278533:True:=⟨⟩
theorem tw7017728534317450745:True:=⟨⟩
theorem tw8763801711911135278:True:=⟨⟩
theorem tw11127576359096741138:True:=⟨⟩
theorem tw14709420266454830801:True:=⟨⟩
theorem tw11809187031158076381:True:=⟨⟩
theorem tw8962990507233260459:True:=⟨⟩
theorem tw8524356853072846812:True:=⟨⟩
theorem tw6205811504634925239:True:=⟨⟩
theorem tw13427283880557909600:True:=⟨⟩
theorem tw14790269912011928109:True:=⟨⟩
theorem tw5734382088192233570:True:=⟨⟩
theorem tw11108761869595576280:True:=⟨⟩
theorem tw69622817148973807:True:=⟨⟩
theorem tw16476665127332081909:True:=⟨⟩
theorem tw12461327795446394097:True:=⟨⟩
theorem tw12430443514974678570:True:=⟨⟩
theorem tw4512443897167329319:True:=⟨⟩
theorem tw1003248311026324566:True:=⟨⟩
theorem tw3422209875582174469:True:=⟨⟩
theorem tw5087127655807473323:True:=⟨⟩
theorem tw2587628732761055078:True:=⟨⟩
theorem tw18223722078862703499:True:=⟨⟩
theorem tw7597250233177338692:True:=⟨⟩
theorem tw2104385003792908102:True:=⟨⟩
theorem tw2811794206095886109:True:=⟨⟩
theorem tw15019885007825373214:True:=⟨⟩
theorem tw8376319750438588086:True:=⟨⟩
theorem tw2563436361353201619:True:=⟨⟩
theorem tw10206737244434196823:True:=⟨⟩
theorem tw18183924555615267741:True:=⟨⟩
theorem tw3693135135936626167:True:=⟨⟩
theorem tw15230631538188038740:True:=⟨⟩
theorem tw11503882966556902406:True:=⟨⟩
theorem tw7924725441820842417:True:=⟨⟩
theorem tw7815669797983785873:True:=⟨⟩
theorem tw3897646707729613684:True:=⟨⟩
theorem tw2660359237837164431:True:=⟨⟩
theorem tw823972807748313888:True:=⟨⟩
theorem tw12632267962186417001:True:=⟨⟩
theorem tw5833209546018004028:True:=⟨⟩
theorem tw870067530596370832:True:=⟨⟩
theorem tw15432041319977469982:True:=⟨⟩
theorem tw16942805804304802358:True:=⟨⟩
theorem tw5564162878256751774:True:=⟨⟩
theorem tw2085399000203181815:True:=⟨⟩
theorem tw11423448265147062779:True:=⟨⟩
theorem tw8917068945133113311:True:=⟨⟩
theorem tw1630480169289178175:True:=⟨⟩
theorem tw11213045156104727462:True:=⟨⟩
theorem tw10504362640492880328:True:=⟨⟩
theorem tw10308989881670553109:True:=⟨⟩
theorem tw4302402219921655719:True:=⟨⟩
theorem tw6809139823080455830:True:=⟨⟩
theorem tw6721422864852534518:True:=⟨⟩
theorem tw8036945842789443494:True:=⟨⟩
theorem tw11339297750626499225:True:=⟨⟩
theorem tw13881614897704825284:True:=⟨⟩
theorem tw11822225539923410604:True:=⟨⟩
theorem tw12799391671918549422:True:=⟨⟩
theorem tw5745624821793148866:True:=⟨⟩
theorem tw2605985694285393007:True:=⟨⟩
theorem tw7305814137790779805:True:=⟨⟩
theorem tw18284984713290646146:True:=⟨⟩
theorem tw15811467531529856317:True:=⟨⟩
theorem tw3883360082232744407:True:=⟨⟩
theorem tw12288215656163499879:True:=⟨⟩
theorem tw10322054978166954703:True:=⟨⟩
theorem tw10346493908921954153:True:=⟨⟩
theorem tw10269957829017467255:True:=⟨⟩
theorem tw10872891485220618481:True:=⟨⟩
theorem tw7300422254363470071:True:=⟨⟩
theorem tw4779099321205518:True:=⟨⟩
theorem tw3114250234071140085:True:=⟨⟩
theorem tw12915618344585387342:True:=⟨⟩
theorem tw8746402174203902672:True:=⟨⟩
theorem tw3983034250397843173:True:=⟨⟩
theorem tw3927626598107448451:True:=⟨⟩
theorem tw12301171587489447710:True:=⟨⟩
theorem tw14615635781062105279:True:=⟨⟩
theorem tw10123802022892661762:True:=⟨⟩
theorem tw3878154379452710771:True:=⟨⟩
theorem tw16349812363249256534:True:=⟨⟩
theorem tw17030643991468885495:True:=⟨⟩
theorem tw18031896706355935860:True:=⟨⟩
theorem tw3437683204147652853:True:=⟨⟩
theorem tw18080665230895390942:True:=⟨⟩
theorem tw12239156960692614596:True:=⟨⟩
theorem tw16681197468188741000:True:=⟨⟩
theorem tw11832868439425957132:True:=⟨⟩
theorem tw17746031013196887191:True:=⟨⟩
theorem tw3979789045586274926:True:=⟨⟩
theorem tw18236647572900719330:True:=⟨⟩
theorem tw9987377403911887523:True:=⟨⟩
theorem tw17813521689832864404:True:=⟨⟩
theorem tw7162856800943774923:True:=⟨⟩
theorem tw5648671669307576543:True:=⟨⟩
theorem tw11345025299887371678:True:=⟨⟩
theorem tw2501911387234861312:True:=⟨⟩
theorem tw8732673647852275019:True:=⟨⟩
theorem tw1819893875598799920:True:=⟨⟩
theorem tw1122819083425195213:True:=⟨⟩
theorem tw14320312651392982998:True:=⟨⟩
theorem tw1396652513444534022:True:=⟨⟩
theorem tw9220674916264984376:True:=⟨⟩
theorem tw14569173496999786759:True:=⟨⟩
theorem tw11672357965474093568:True:=⟨⟩
theorem tw15019656774755775323:True:=⟨⟩
theorem tw9111853424457432255:True:=⟨⟩
theorem tw3014994856173635846:True:=⟨⟩
theorem tw9326717234615673213:True:=⟨⟩
theorem tw10072711253133384288:True:=⟨⟩
theorem tw8950027870450023085:True:=⟨⟩
theorem tw10859226324577714628:True:=⟨⟩
theorem tw2080009973738761952:True:=⟨⟩
theorem tw14068647629075486123:True:=⟨⟩
theorem tw13309899546749404821:True:=⟨⟩
theorem tw9886569465514699310:True:=⟨⟩
theorem tw11834913016484323806:True:=⟨⟩
theorem tw13421380562986887096:True:=⟨⟩
theorem tw11867032601894100549:True:=⟨⟩
theorem tw16246539917100966130:True:=⟨⟩
theorem tw3463122503795349746:True:=⟨⟩
theorem tw16004839335740633523:True:=⟨⟩
theorem tw13848028974265154824:True:=⟨⟩
theorem tw9042758565072870018:True:=⟨⟩
theorem tw7339361684774612376:True:=⟨⟩
theorem tw9456892706166969862:True:=⟨⟩
theorem tw15218398848340569449:True:=⟨⟩
theorem tw11003393266450892410:True:=⟨⟩
theorem tw4798212453598996942:True:=⟨⟩
theorem tw3427749431437789862:True:=⟨⟩
theorem tw10087467342917097620:True:=⟨⟩
theorem tw8924330122433026804:True:=⟨⟩
theorem tw13488491990870951303:True:=⟨⟩
theorem tw10122371711501296417:True:=⟨⟩
theorem tw17877337278397277543:True:=⟨⟩
theorem tw2793875185987917540:True:=⟨⟩
theorem tw15097051083704039932:True:=⟨⟩
theorem tw17978566566856108669:True:=⟨⟩
theorem tw17407701730289160027:True:=⟨⟩
theorem tw12524508464172348831:True:=⟨⟩
theorem tw14931862791150883645:True:=⟨⟩
theorem tw12108531610632594296:True:=⟨⟩
theorem tw15066038154497801430:True:=⟨⟩
theorem tw17218631425544940182:True:=⟨⟩
theorem tw11989352202725768475:True:=⟨⟩
theorem tw3052007448299654856:True:=⟨⟩
theorem tw4293604625787792194:True:=⟨⟩
theorem tw13552137704085957601:True:=⟨⟩
theorem tw8248695944461917003:True:=⟨⟩
theorem tw2582191923478393898:True:=⟨⟩
theorem tw10767798374684153297:True:=⟨⟩
theorem tw13640483471371427159:True:=⟨⟩
theorem tw2868165858079782463:True:=⟨⟩
theorem tw3385396155137338955:True:=⟨⟩
theorem tw11582309281513904140:True:=⟨⟩
theorem tw3716851801277409730:True:=⟨⟩
theorem tw5948313471263684323:True:=⟨⟩
theorem tw15106431710046408970:True:=⟨⟩
theorem tw1291116364212948496:True:=⟨⟩
theorem tw11945258321997466870:True:=⟨⟩
theorem tw5998653986751672863:True:=⟨⟩
theorem tw13423919171205811781:True:=⟨⟩
theorem tw7655448731593800335:True:=⟨⟩
theorem tw7328920453801634779:True:=⟨⟩
theorem tw5175972323682007491:True:=⟨⟩
theorem tw17524153434230653383:True:=⟨⟩
theorem tw13136737296417427724:True:=⟨⟩
theorem tw5106476951263666166:True:=⟨⟩
theorem tw14048529301776449735:True:=⟨⟩
theorem tw11353358829910243240:True:=⟨⟩
end PySem.W.Fast
open PySem PySem.W PyProof.Rows
set_option maxRecDepth 100000 in
theorem PySem.Challenge.cw_hostfields_k76_battles_written_holds : PySem.Challenge.rw_hostfields_k76_battles_written.Holds := by
 w_on;o_law;k_head;(case hw=>w_witness2)
 k_fill
 first|refine G.walk (l:=PySem.Challenge.rw_hostfields_k76_battles_written) rfl rfl (fun w h Y=>PySem.W.kIn_of Y) ?F|refine G.walk (l:=PySem.Challenge.rw_hostfields_k76_battles_written) rfl rfl (fun w h Y=>PySem.W.km_in_of Y) ?F
 case F=>
  intro w mg fa h KX GG hmg
  refine' G.all_mk KX GG hmg ?e_MOST_HOSTS ?e_MOST_FIELDS ?e_FIGURES ?e_MOST_FIGURES ?e_WANTED ?l_WANTED ?r_WANTED ?e_FIELD_WORDS ?l_FIELD_WORDS ?_ ?_ ?_ ?_ ?_ ?_ ?_ ?_ ?_ ?_ ?_ ?_ ?_ ?_ ?_ ?_ ?_ ?_ ?_ ?_ ?_ ?_ ?_ ?_ ?_ ?_ ?_ ?_ ?_ ?_ ?_ ?_ ?_ ?_ ?_ ?_ ?_ ?_ ?_ ?_ ?_ ?z_ValueError ?z_all ?z_bool ?z_enumerate ?z_int ?z_isinstance ?z_len ?z_list ?z_range ?z_str ?z_tuple ?e_HostError ?kk_HostError ?tt_HostError ?nn_HostError ?e_NoBattle ?kk_NoBattle ?tt_NoBattle ?nn_NoBattle ?e_NoPlan ?kk_NoPlan ?tt_NoPlan ?nn_NoPlan ?e_NoMix ?kk_NoMix ?tt_NoMix ?nn_NoMix ?e_NoStream ?kk_NoStream ?tt_NoStream ?nn_NoStream ?e_NoSide ?kk_NoSide ?tt_NoSide ?nn_NoSide ?e_NoAlike ?kk_NoAlike ?tt_NoAlike ?nn_NoAlike ?e_NoNumber ?kk_NoNumber ?tt_NoNumber ?nn_NoNumber ?e_TooGreat ?kk_TooGreat ?tt_TooGreat ?nn_TooGreat ?e_NoEven ?kk_NoEven ?tt_NoEven ?nn_NoEven ?e_NoText ?kk_NoText ?tt_NoText ?nn_NoText ?e_NoRow ?kk_NoRow ?tt_NoRow ?nn_NoRow ?e_NoName ?kk_NoName ?tt_NoName ?nn_NoName ?e_NoPlace ?kk_NoPlace ?tt_NoPlace ?nn_NoPlace ?bb_HostError ?x_HostError ?ob_NoBattle ?in_NoBattle ?ty_NoBattle ?sa_NoBattle ?nf_NoBattle ?hd_NoBattle ?li_NoBattle ?ci_NoBattle ?ki_NoBattle ?f1_NoBattle ?f2_NoBattle ?f3_NoBattle ?f4_NoBattle ?f5_NoBattle ?f6_NoBattle ?s_NoBattle_HostError ?s_NoBattle_NoBattle ?s_NoBattle_NoPlan ?s_NoBattle_NoMix ?s_NoBattle_NoStream ?s_NoBattle_NoSide ?s_NoBattle_NoAlike ?s_NoBattle_NoNumber ?s_NoBattle_TooGreat ?s_NoBattle_NoEven ?s_NoBattle_NoText ?s_NoBattle_NoRow ?s_NoBattle_NoName ?s_NoBattle_NoPlace
  (case e_MOST_HOSTS=>k_is)
  (case e_MOST_FIELDS=>k_is)
  (case e_FIGURES=>k_is)
  (case e_MOST_FIGURES=>k_is)
  (case e_WANTED=>k_is)
  (case l_WANTED=>k_is)
  (case r_WANTED=>rfl)
  (case e_FIELD_WORDS=>k_is)
  (case l_FIELD_WORDS=>k_is)
  (case z_ValueError=>k_is)
  (case z_all=>k_is)
  (case z_bool=>k_is)
  (case z_enumerate=>k_is)
  (case z_int=>k_is)
  (case z_isinstance=>k_is)
  (case z_len=>k_is)
  (case z_list=>k_is)
  (case z_range=>k_is)
  (case z_str=>k_is)
  (case z_tuple=>k_is)
  (case e_HostError=>k_is)
  (case kk_HostError=>k_is)
  (case tt_HostError=>k_is)
  (case nn_HostError=>k_is)
  (case e_NoBattle=>k_is)
  (case kk_NoBattle=>k_is)
  (case tt_NoBattle=>k_is)
  (case nn_NoBattle=>k_is)
  (case e_NoPlan=>k_is)
  (case kk_NoPlan=>k_is)
  (case tt_NoPlan=>k_is)
  (case nn_NoPlan=>k_is)
  (case e_NoMix=>k_is)
  (case kk_NoMix=>k_is)
  (case tt_NoMix=>k_is)
  (case nn_NoMix=>k_is)
  (case e_NoStream=>k_is)
  (case kk_NoStream=>k_is)
  (case tt_NoStream=>k_is)
  (case nn_NoStream=>k_is)
  (case e_NoSide=>k_is)
  (case kk_NoSide=>k_is)
  (case tt_NoSide=>k_is)
  (case nn_NoSide=>k_is)
  (case e_NoAlike=>k_is)
  (case kk_NoAlike=>k_is)
  (case tt_NoAlike=>k_is)
  (case nn_NoAlike=>k_is)
  (case e_NoNumber=>k_is)
  (case kk_NoNumber=>k_is)
  (case tt_NoNumber=>k_is)
  (case nn_NoNumber=>k_is)
  (case e_TooGreat=>k_is)
  (case kk_TooGreat=>k_is)
  (case tt_TooGreat=>k_is)
  (case nn_TooGreat=>k_is)
  (case e_NoEven=>k_is)
  (case kk_NoEven=>k_is)
  (case tt_NoEven=>k_is)
  (case nn_NoEven=>k_is)
  (case e_NoText=>k_is)
  (case kk_NoText=>k_is)
  (case tt_NoText=>k_is)
  (case nn_NoText=>k_is)
  (case e_NoRow=>k_is)
  (case kk_NoRow=>k_is)
  (case tt_NoRow=>k_is)
  (case nn_NoRow=>k_is)
  (case e_NoName=>k_is)
  (case kk_NoName=>k_is)
  (case tt_NoName=>k_is)
  (case nn_NoName=>k_is)
  (case e_NoPlace=>k_is)
  (case kk_NoPlace=>k_is)
  (case tt_NoPlace=>k_is)
  (case nn_NoPlace=>k_is)
  (case bb_HostError=>k_is)
  (case x_HostError=>k_exc)
  (case ob_NoBattle=>k_is)
  (case in_NoBattle=>k_is)
  (case ty_NoBattle=>k_is)
  (case sa_NoBattle=>k_is)
  (case nf_NoBattle=>k_is)
  (case hd_NoBattle=>k_is)
  (case li_NoBattle=>k_is)
  (case ci_NoBattle=>k_is)
  (case ki_NoBattle=>k_is)
  (case f1_NoBattle=>k_is)
  (case f2_NoBattle=>k_is)
  (case f3_NoBattle=>k_is)
  (case f4_NoBattle=>k_is)
  (case f5_NoBattle=>k_is)
  (case f6_NoBattle=>k_is)
  (case s_NoBattle_HostError=>k_is)
  (case s_NoBattle_NoBattle=>k_is)
  (case s_NoBattle_NoPlan=>k_is)
  (case s_NoBattle_NoMix=>k_is)
  (case s_NoBattle_NoStream=>k_is)
  (case s_NoBattle_NoSide=>k_is)
  (case s_NoBattle_NoAlike=>k_is)
  (case s_NoBattle_NoNumber=>k_is)
  (case s_NoBattle_TooGreat=>k_is)
  (case s_NoBattle_NoEven=>k_is)
  (case s_NoBattle_NoText=>k_is)
  (case s_NoBattle_NoRow=>k_is)
  (case s_NoBattle_NoName=>k_is)
  (case s_NoBattle_NoPlace=>k_is)
  all_goals (apply G.FA.of;k_is;k_is;k_is;k_is)
