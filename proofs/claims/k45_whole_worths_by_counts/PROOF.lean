import PyProof.Rows.All
import Wide.All
import OpenK.AllK
import Wide.FinOn
import Lean
import PyProof.EqAt
import PyProof.EqKinds
import PyProof.TupleCall
import PyProof.NeKinds
import PyProof.CompFree
import PyProof.EnumMake
import KE.KTryMore
import PyProof.ExcArgsOwn
import PyProof.ZipIter
import PyProof.ListRange
import KE.KIsAll
import PyProof.InstStoreFacts
import PyProof.ExcInit
import PyProof.ReprRoads
import PyProof.CallStr
import KE.KEqDict
import PyProof.EqLayable
import KE.KRevIter
import PyProof.CollectIter
import PyProof.Rows.SetFrom
import PyProof.TupleKey
import PyProof.SetScanFacts
import KE.KSortKey
import PyProof.StrBlock2
import KE.KLam
import KE.KMinKey
import KE.KItemsList
import PyProof.AttrMiss
import KE.KDictOf
import PyProof.StrLawsRepr
import PySem.Challenge.RW_hostfields_k45_whole_worths_by_counts
set_option bootstrap.genMatcherCode false
set_option genSizeOf false
noncomputable section
open List renaming getElem?_eq_getElem->zcv9,length_map->zcw0,getElem?_eq_some_iff->zcw2,getElem?_map->zcw3,mem_of_getElem?->zcw6,getD_eq_getElem?_getD->zcw7,size_toArray->zcw8,length_append->zcw9,mem_cons->zcx2,getElem?_append_left->zcx4,getElem?_append_right->zcx6,not_mem_nil->zcx8,map_append->zcx9,length_cons->zcy0,length_singleton->zcy1,getElem?_eq_none->zcy2,getElem?_of_mem->zcy5,length_replicate->zcy9,mem_cons_of_mem->zcz1,mem_append_right->zcz2,mem_map->zcz7,lookup_cons->zcz8,map_cons->zcz9,mem_range->zda0,mem_append->zda5,drop_eq_getElem_cons->zdb1,length_nil->zdb7,map_congr_left->zdb8,getElem?_range->zdb9,ext_getElem?->zdc1,mem_cons_self->zdc3,append_nil->zdc8,nodup_cons->zdc9,length_set->zdd0,find?_cons->zdd1,length_drop->zdd2,all_eq_true->zdd4,mem_singleton->zdd5,getElem?_set->zdd8,forIn_cons->zdd9,getElem?_replicate->zde0,replicate_succ->zde1,length_take->zde3,sum_cons->zde4,range_succ->zde6,map_nil->zde9,map_map->zdf0
open PySem.W renaming Frag->zcw1,mg_none_of->zcy6,nsIn->zcz0,findIn->zda6,kia_one->zdb2,emptyDict->zdb4,keepIn->zdb6,fnOf->zdc0,instObj->zdc7,mg_of->zde5,tabIn->zdf1,kitOne->zdf2,codeIn->zdf3
open Nat renaming le_refl->zcw4,lt_of_lt_of_le->zcx5,ne_of_lt->zcy4,le_trans->zcy7,zero_le->zcz6,mul_le_mul_right->zdb0,mul_le_mul->zdc2,lt_irrefl->zde2,le_of_lt->zde7,le_add_right->zdf4
open PySem.Heap renaming get?_push_of_some->zcw5,lt_size->zcx3,get?_push_size->zcx7
open Option renaming map_eq_some_iff->zcx0
open Bool renaming false_ne_true->zcx1,false_eq_true->zda7,and_eq_true->zdd3
open Int renaming mul_le_mul_of_nonneg_right->zcy3,mul_left_comm->zcz3,toNat_natCast->zcz4,le_of_lt->zcz5,mul_nonneg->zda2,mul_nonpos_of_nonneg_of_nonpos->zda3,gcd_eq_natAbs_gcd_natAbs->zda4,mul_right_comm->zda8,mul_assoc->zda9,natAbs_mul->zdb3,le_refl->zdb5,mul_zero->zdc4,mul_comm->zdc5,neg_mul->zdc6,one_mul->zdd6,mul_pos->zdd7,mul_one->zdf5,zero_mul->zdf6
open Array renaming getElem?_toList->zcy8,length_toList->zda1,mem_toList_iff->zde8
open PySem renaming wpAny_bind->zdf7,wpAny_pure->zdf8,sizeLine_eq->zdf9,wpAny_ite_false->zdg0,tupleKeyHash->zdg1,wpAny_holding->zdg2,mainGlobals->zdg3
set_option Elab.async false
set_option linter.all false
set_option maxRecDepth 100000
namespace L2
open PySem PySem.Spec PyProof.Rows
noncomputable abbrev Key:=Sum Int Str
variable {h:Heap}{i:Nat}{E Q:Value->Shared->Prop}{u:Value}{e tg:Expr}{s:Shared}{pins:List (Addr×Obj)}{us:List Value}{C:Addr}
noncomputable def zbo9:Key->Value->Bool
 | .inl k,v=>Value.isInt k v
 | .inr x,v=>Value.isStrOf x v
noncomputable def keyH(w:World):Key->Int
 | .inl k=>hashInt k
 | .inr x=>hashStr w x
theorem zg4:∀ {k:Key}{v:Value},zbo9 k v=true->(∃ i t,k=Sum.inl i/\v=Value.int i t)∨(∃ x t,k=Sum.inr x/\v=Value.str x t)
 | .inl i,v,h=>by
  obtain⟨t,e⟩:=Value.isInt_shape (k:=i) (v:=v) h
  exact .inl ⟨i,t,rfl,e⟩
 | .inr x,v,h=>by
  obtain⟨t,e⟩:=Value.isStrOf_shape (x:=x) (v:=v) h
  exact .inr ⟨x,t,rfl,e⟩
theorem zbw8(i:Int)(t:Tok):zbo9 (.inl i) (.int i t)=true:=by simp[zbo9,Value.isInt]
theorem zbt2(x:Str)(t:Tok):zbo9 (.inr x) (.str x t)=true:=by simp[zbo9,Value.isStrOf]
theorem key_ll(a b:Int):decide ((Sum.inl a:Key)=Sum.inl b)=(a==b):=by
 by_cases e:a=b
 ·subst e;simp
 ·have h:¬ (Sum.inl a:Key)=Sum.inl b:=fun q=>e (Sum.inl.inj q)
  rw[decide_eq_false h]
  exact (beq_eq_false_iff_ne.mpr e).symm
theorem key_rr(a b:Str):decide ((Sum.inr a:Key)=Sum.inr b)=decide (a=b):=by
 by_cases e:a=b
 ·subst e;simp
 ·have h:¬ (Sum.inr a:Key)=Sum.inr b:=fun q=>e (Sum.inr.inj q)
  rw[decide_eq_false h,decide_eq_false e]
theorem key_lr(a:Int)(b:Str):decide ((Sum.inl a:Key)=Sum.inr b)=false:=decide_eq_false (fun q=>nomatch q)
theorem key_rl(a:Str)(b:Int):decide ((Sum.inr a:Key)=Sum.inl b)=false:=decide_eq_false (fun q=>nomatch q)
noncomputable def zk3(prog:Program)(w:World):PySem.KeyKind prog w Key where
 is:=zbo9
 hash:=keyH w
 inj:=fun v a b ha hb=>by
  rcases zg4 ha with ⟨i,t,rfl,rfl⟩|⟨x,t,rfl,rfl⟩
  ·rcases zg4 hb with ⟨j,u,rfl,e⟩|⟨y,u,rfl,e⟩
   ·injection e with e1 _;rw[e1]
   ·exact nomatch e
  ·rcases zg4 hb with ⟨j,u,rfl,e⟩|⟨y,u,rfl,e⟩
   ·exact nomatch e
   ·injection e with e1 _;rw[e1]
 byValue:=fun k v h=>by
  rcases zg4 h with ⟨i,t,rfl,rfl⟩|⟨x,t,rfl,rfl⟩<;>rfl
 pyHash:=fun hv h=>by
  rcases zg4 hv with ⟨i,t,rfl,rfl⟩|⟨x,t,rfl,rfl⟩
  ·exact wpAny_pyHash_int h
  ·exact wpAny_pyHash_str h
 eqBool:=fun hu hv h=>by
  rcases zg4 hu with ⟨i,t,rfl,rfl⟩|⟨x,t,rfl,rfl⟩
  ·rcases zg4 hv with ⟨j,u,rfl,rfl⟩|⟨y,u,rfl,rfl⟩
   ·rw[key_ll] at h;exact wpAny_eqBool_int h
   ·rw[key_lr] at h;exact SeqAt.EqAt.int_str i t y u _ _ _ _ h
  ·rcases zg4 hv with ⟨j,u,rfl,rfl⟩|⟨y,u,rfl,rfl⟩
   ·rw[key_rl] at h;exact SeqAt.EqAt.str_int x t j u _ _ _ _ h
   ·rw[key_rr] at h;exact wpAny_eqBool_str h
 «strs»:=fun k x t v h=>by
  rcases zg4 h with ⟨i,u,rfl,e⟩|⟨y,u,rfl,e⟩
  ·exact nomatch e
  ·injection e with e1 _
   subst e1
   cases v<;>rfl
theorem zbf4(prog:Program)(w:World)(i:Int)(t:Tok):(zk3 prog w).is (.inl i) (.int i t)=true:=zbw8 i t
theorem zbe5(prog:Program)(w:World)(x:Str)(t:Tok):(zk3 prog w).is (.inr x) (.str x t)=true:=zbt2 x t
inductive V where
 | non | bl (b:Bool) | int (i:Int) | str (x:Str) | byt (b:Array UInt8) | flt (b:UInt64) | ref (a:Addr) | ty (n:String)
 deriving DecidableEq
noncomputable def RelV:V->Value->Prop
 | .non,u=>u=Value.none
 | .bl b,u=>u=Value.bool b
 | .int i,u=>∃ t,u=Value.int i t
 | .str x,u=>∃ t,u=Value.str x t
 | .byt b,u=>∃ t,u=Value.bytes b t
 | .flt b,u=>∃ t,u=Value.float b t
 | .ref a,u=>u=Value.ref a
 | .ty n,u=>u=Value.type n
noncomputable abbrev Vals:List V->List Value->Prop:=Paired RelV
theorem Vals.length{xs:List V}{us:List Value}(r:Vals xs us):xs.length=us.length:=Paired.length r
theorem Vals.get:∀ {xs:List V}{us:List Value}{i:Nat}{x:V},Vals xs us->xs[i]?=some x->∃ u,us[i]?=some u/\RelV x u
 | _,_,_,_,.nil,e=>by simp at e
 | _,_,0,_,.cons r _,e=>by simp at e;subst e;exact⟨_,rfl,r⟩
 | _,_,i+1,x,.cons _ t,e=>by
  obtain⟨u,h1,h2⟩:=Vals.get (i:=i) (x:=x) t (by simpa using e)
  exact⟨u,by simpa using h1,h2⟩
theorem Vals.set{x:V}{u:Value}(r:RelV x u):∀ {xs:List V}{us:List Value}(i:Nat),Vals xs us->Vals (xs.set i x) (us.set i u)
 | _,_,_,.nil=>.nil
 | _,_,0,.cons _ t=>.cons r t
 | _,_,i+1,.cons q t=>.cons q (Vals.set r i t)
theorem Vals.append:∀ {xs ys:List V}{us ws:List Value},Vals xs us->Vals ys ws->Vals (xs++ys) (us++ws)
 | _,_,_,_,.nil,s=>s
 | _,_,_,_,.cons r t,s=>.cons r (Vals.append t s)
theorem Vals.take:∀ {xs:List V}{us:List Value}(n:Nat),Vals xs us->Vals (xs.take n) (us.take n)
 | _,_,0,_=>.nil
 | _,_,_+1,.nil=>.nil
 | _,_,n+1,.cons r t=>.cons r (Vals.take n t)
theorem Vals.drop:∀ {xs:List V}{us:List Value}(n:Nat),Vals xs us->Vals (xs.drop n) (us.drop n)
 | _,_,0,r=>r
 | _,_,_+1,.nil=>.nil
 | _,_,n+1,.cons _ t=>Vals.drop n t
noncomputable def RelO:Option V->Option Value->Prop
 | some v,some u=>RelV v u
 | none,none=>True
 | _,_=>False
noncomputable def KV{κ:Type}:List (κ×V)->List (κ×Value)->Prop:=Paired fun (p:κ×V) (q:κ×Value)=>p.1=q.1/\RelV p.2 q.2
noncomputable def kV:Key->V
 | .inl i=>.int i
 | .inr x=>.str x
inductive HO where
 | lst (xs:List V)
 | tup (xs:List V)
 | dK (kvs:List (Key×V)) | dT (kvs:List (List Key×V))
 | set (S:Int->Bool) (n:Nat)
 | ins (C dx:Addr) (fs:List (Str×V))
 | own (x:Addr)
 | xd (fs:List (Str×V))
 | met (f x:Addr)
 | rng (lo hi:Int)
 | frz (o:Obj) (u:HO)
 | tbl (ps:Array Value)
 | ext (φ:Heap->Prop)
variable {o:HO}
noncomputable abbrev Hp:=Addr->Option HO
variable {H:Hp}
noncomputable def upd(H:Hp)(a:Addr)(o:HO):Hp:=fun b=>if b=a then some o else H b
theorem zc0{a:Addr}:upd H a o a=some o:=by unfold upd;rw[if_pos rfl]
theorem zb9{a b:Addr}(h:b≠a):upd H a o b=H b:=by unfold upd;rw[if_neg h]
theorem zcm6{a:Addr}{u:HO}:upd (upd H a o) a u=upd H a u:=by
 funext b;unfold upd;split<;>rfl
theorem ne_of{a b:Addr}{u:HO}(h:H a=some o)(h':H b=some u)(d:o≠u):a≠b:=by
 intro e;subst e;rw[h] at h';exact d (Option.some.inj h')
theorem za4{a b:Addr}(h:H a=some o)(h':H b=none):a≠b:=by
 intro e;subst e;rw[h] at h';cases h'
section
variable (P:Program) (w:World)
noncomputable def zk5(H:Hp)(h:Heap)(a:Addr):HO->Prop
 | .lst xs=>xs.length<=sizeLine/\∃ (its:List Value) (n:Nat),Vals xs its/\h.get? a=some { cls:=.type "list",data:=.seq its.toArray n }
 | .tup xs=>xs.length<=sizeLine/\∃ its:List Value,Vals xs its/\IsTup h a its.toArray
 | .dK kvs=>kvs.length<=sizeLine/\(a==sysModules)=false/\∃ vs,KV kvs vs/\h.DictOf (zk3 P w) a vs
 | .dT kvs=>kvs.length<=sizeLine/\(a==sysModules)=false/\∃ xs:List (List Key×Addr×Value),
   Paired (fun (p:List Key×V) (q:List Key×Addr×Value)=>p.1=q.1/\H q.2.1=some (.tup (p.1.map kV))/\RelV p.2 q.2.2) kvs xs /\
   ∃ o es ep,h.get? a=some o/\o.ExactDict/\o.data=.dict es ep/\es.toList=xs.map (entryOfKey (tupleKind (zk3 P w)))/\(xs.map (·.1)).Nodup
 | .set S n=>h.SetOf (intKind P w) a S n
 | .ins C dx fs=>H dx=some (.own a)/\fs.length<=1000/\dx≠a/\h.get? a=some (zdc7 C dx) /\
   ∃ mA,h.Ns1 dx mA/\(∀ f,RelO (fs.lookup f) (mA f))/\PySem.Within mA (fs.map (·.1))
 | .own _=>∃ o,h.get? a=some o
 | .xd fs=>∃ mA,h.Ns1 a mA/\∀ f,RelO (fs.lookup f) (mA f)
 | .rng lo hi=>∃ t u v,h.get? a=some { cls:=.type "range",data:=.fields #[.int lo t,.int hi u,.int 1 v] }
 | .frz o u=>h.get? a=some o/\zk5 H h a u
 | .tbl ps=>h.get? a=some { cls:=.none,data:=.fields ps }
 | .met f x=>h.get? a=some (PySem.W.methodObj (.ref f) (.ref x))
 | .ext φ=>φ h/\(∃ o,h.get? a=some o)/\∀ h1 h2:Heap,φ h1->(∀ o,h1.get? a=some o->h2.get? a=some o)->φ h2
noncomputable def HOk(H:Hp)(h:Heap):Prop:=∀ a o,H a=some o->zk5 P w H h a o
end
section
variable {P:Program}{w:World}{H H':Hp}{h h':Heap}{a:Addr}{o:HO}
theorem zk5.lt(x:zk5 P w H h a o):a<h.objs.size:=by
 cases o with
 | lst xs=>obtain⟨_,_,_,_,e⟩:=x;exact zcx3 e
 | tup xs=>obtain⟨_,_,_,p⟩:=x;exact p.lt
 | dK kvs=>obtain⟨_,_,_,_,o,_,_,e,_⟩:=x;exact zcx3 e
 | dT kvs=>obtain⟨_,_,_,_,o,_,_,e,_⟩:=x;exact zcx3 e
 | set S n=>obtain⟨o,_,_,_,e,_⟩:=x;exact zcx3 e
 | ins C dx fs=>obtain⟨_,_,_,e,_⟩:=x;exact zcx3 e
 | own y=>obtain⟨_,e⟩:=x;exact zcx3 e
 | xd fs=>obtain⟨_,⟨_,_,_,e,_⟩,_⟩:=x;exact zcx3 e
 | rng lo hi=>obtain⟨_,_,_,e⟩:=x;exact zcx3 e
 | frz ob u=>obtain⟨e,_⟩:=x;exact zcx3 e
 | tbl ps=>exact zcx3 (show h.get? a=some _ from x)
 | met f y=>exact zcx3 (show h.get? a=some _ from x)
 | ext φ=>obtain⟨_,⟨_,e⟩,_⟩:=x;exact zcx3 e
theorem Paired.mapP{α β:Type}{F G:α->β->Prop}:∀ {l₁:List α}{l₂:List β},Paired F l₁ l₂->(∀ a b,F a b->G a b)->Paired G l₁ l₂
 | _,_,.nil,_=>.nil
 | _,_,.cons r t,f=>.cons (f _ _ r) (Paired.mapP t f)
theorem zk5.stay(x:zk5 P w H h a o)(k:∀ b u,(b=a∨H b=some (.own a))->h.get? b=some u->h'.get? b=some u)(ho:∀ b,H b=some (.own a)->H' b=some (.own a))(ht:∀ b xs,H b=some (.tup xs)->H' b=some (.tup xs)):zk5 P w H' h' a o:=by
 induction o with
 | lst xs=>obtain⟨z,its,n,r,e⟩:=x;exact⟨z,its,n,r,k _ _ (.inl rfl) e⟩
 | tup xs=>obtain⟨z,its,r,ob,e,c⟩:=x;exact⟨z,its,r,ob,k _ _ (.inl rfl) e,c⟩
 | dK kvs=>obtain⟨z,y,vs,r,ob,es,ep,e,c⟩:=x;exact⟨z,y,vs,r,ob,es,ep,k _ _ (.inl rfl) e,c⟩
 | dT kvs=>
  obtain⟨z,y,xs,r,ob,es,ep,e,c⟩:=x
  exact⟨z,y,xs,Paired.mapP r fun p q z=>⟨z.1,ht _ _ z.2.1,z.2.2⟩,ob,es,ep,k _ _ (.inl rfl) e,c⟩
 | set S n=>obtain⟨ob,es,ep,t,e,c⟩:=x;exact⟨ob,es,ep,t,k _ _ (.inl rfl) e,c⟩
 | ins C dx fs=>
  obtain⟨d,z,ne,e,mA,⟨od,es,ep,e2,c⟩,r⟩:=x
  exact⟨ho _ d,z,ne,k _ _ (.inl rfl) e,mA,⟨od,es,ep,k _ _ (.inr d) e2,c⟩,r⟩
 | own y=>obtain⟨ob,e⟩:=x;exact⟨ob,k _ _ (.inl rfl) e⟩
 | xd fs=>obtain⟨mA,⟨od,es,ep,e,c⟩,r⟩:=x;exact⟨mA,⟨od,es,ep,k _ _ (.inl rfl) e,c⟩,r⟩
 | rng lo hi=>obtain⟨t,u,v,e⟩:=x;exact⟨t,u,v,k _ _ (.inl rfl) e⟩
 | frz ob u ih=>obtain⟨e,q⟩:=x;exact⟨k _ _ (.inl rfl) e,ih q⟩
 | tbl ps=>
  have e:h.get? a=some { cls:=.none,data:=.fields ps }:=x
  show h'.get? a=some { cls:=.none,data:=.fields ps }
  exact k a _ (.inl rfl) e
 | met f y=>
  have e:h.get? a=some (PySem.W.methodObj (.ref f) (.ref y)):=x
  show h'.get? a=some (PySem.W.methodObj (.ref f) (.ref y))
  exact k a _ (.inl rfl) e
 | ext φ=>obtain⟨p,⟨o,e⟩,st⟩:=x;exact⟨st _ _ p fun o q=>k _ _ (.inl rfl) q,⟨o,k _ _ (.inl rfl) e⟩,st⟩
theorem HOk.lt(x:HOk P w H h)(e:H a=some o):a<h.objs.size:=(x a o e).lt
theorem HOk.fresh(x:HOk P w H h)(e:h.objs.size<=a):H a=none:=by
 cases q:H a with
 | none=>rfl
 | some u=>exact absurd (zcx5 (x.lt q) e) (zde2 _)
theorem HOk.kept(x:HOk P w H h)(k:∀ b u,h.get? b=some u->h'.get? b=some u):HOk P w H h':=fun a o e=>
 (x a o e).stay (fun b u _ q=>k b u q) (fun _ q=>q) fun _ _ q=>q
theorem HOk.laid(x:HOk P w H h)(k:∀ b u,h.get? b=some u->h'.get? b=some u)(hp:h.objs.size<=a)(new:zk5 P w (upd H a o) h' a o):HOk P w (upd H a o) h':=fun b u e=>by
 have hn:=x.fresh hp
 by_cases hb:b=a
 ·subst hb;rw[zc0] at e;cases e;exact new
 ·rw[zb9 hb] at e
  exact (x b u e).stay (fun c v _ q=>k c v q) (fun c q=>by rw[zb9 (za4 q hn)];exact q) fun c xs q=>by rw[zb9 (za4 q hn)];exact q
end
noncomputable def Rd(H:Hp)(a:Addr)(u:HO):Prop:=H a=some u∨∃ o,H a=some (.frz o u)
theorem Rd.of{a:Addr}{u:HO}(h:H a=some u):Rd H a u:=.inl h
theorem Rd.ok{P:Program}{w:World}{a:Addr}{u:HO}(r:Rd H a u)(x:HOk P w H h):zk5 P w H h a u:=by
 rcases r with r|⟨o,r⟩
 ·exact x a u r
 ·obtain⟨_,q⟩:=x a _ r
  exact q
noncomputable def Mut:Option HO->Prop
 | some (.lst _)=>True
 | some (.dK _)=>True
 | some (.dT _)=>True
 | some (.set _ _)=>True
 | some (.ins _ _ _)=>True
 | some (.ext _)=>True
 | _=>False
section
variable {P:Program}{w:World}{H:Hp}{h h':Heap}{x e:Addr}{o':HO}
theorem HOk.write(ok:HOk P w H h)(mu:Mut (H x))(he:e=x∨H e=some (.own x))(k:∀ b u,b≠e->h.get? b=some u->h'.get? b=some u)(heo:∃ u,h'.get? e=some u)(new:zk5 P w (upd H x o') h' x o'):HOk P w (upd H x o') h':=fun b u q=>by
 have nown:∀ c y,H c=some (.own y)->c≠x:=fun c y r z=>by subst z;rw[r] at mu;exact mu
 have ntup:∀ c xs,H c=some (.tup xs)->c≠x:=fun c xs r z=>by subst z;rw[r] at mu;exact mu
 by_cases hb:b=x
 ·subst hb;rw[zc0] at q;cases q;exact new
 ·rw[zb9 hb] at q
  by_cases hbe:b=e
  ·have q':H b=some (.own x):=by
    rcases he with z|z
    ·exact absurd (hbe.trans z) hb
    ·rw[hbe];exact z
   rw[q] at q';cases q'
   obtain⟨v,hv⟩:=heo
   exact⟨v,by rw[hbe];exact hv⟩
  ·refine (ok b u q).stay (fun c v hc r=>k c v ?_ r) (fun c r=>by rw[zb9 (nown c b r)];exact r) fun c xs r=>by rw[zb9 (ntup c xs r)];exact r
   rcases hc with rfl|hc
   ·exact hbe
   ·rintro rfl
    rcases he with z|z
    ·exact nown c b hc z
    ·rw[hc] at z;cases z;exact hb rfl
end
structure Un(fs ex:List Addr)(H H':Hp)(h h':Heap):Prop where
 keep:∀ b o,h.get? b=some o->H b=none->b ∉ fs->b ∉ ex->h'.get? b=some o
 slot:∀ b o,h.get? b=some o->H b=none->b∈fs->b ∉ ex->∃ sl,h'.get? b=some { o with slots:=sl }
 free:∀ b o,h.get? b=some o->H b=none->b ∉ ex->H' b=none
 there:∀ b o,h.get? b=some o->b ∉ ex->∃ o',h'.get? b=some o'
 tups:∀ b xs,H b=some (.tup xs)->H' b=some (.tup xs)
 frzs:∀ b o u,H b=some (.frz o u)->H' b=some (.frz o u)
 tbls:∀ b ps,H b=some (.tbl ps)->∃ more,H' b=some (.tbl (ps++more))
section
variable {fs fs' ex ex':List Addr}{H H1 H2:Hp}{h h1 h2 h':Heap}{a x e:Addr}{o:HO}
theorem Un.any(u:Un fs ex H H1 h h1){b:Addr}{ob:Obj}(q:h.get? b=some ob)(n:H b=none)(hx:b ∉ ex):∃ sl,h1.get? b=some { ob with slots:=sl }:=by
 by_cases hb:b∈fs
 ·exact u.slot b ob q n hb hx
 ·exact⟨ob.slots,u.keep b ob q n hb hx⟩
theorem Un.trans(a:Un fs ex H H1 h h1)(b:Un fs ex H1 H2 h1 h2):Un fs ex H H2 h h2 where
 keep:=fun c ob q n hc hx=>b.keep c ob (a.keep c ob q n hc hx) (a.free c ob q n hx) hc hx
 slot:=fun c ob q n hc hx=>by
  obtain⟨sl,e1⟩:=a.slot c ob q n hc hx
  obtain⟨sl',e2⟩:=b.slot c _ e1 (a.free c ob q n hx) hc hx
  exact⟨sl',e2⟩
 free:=fun c ob q n hx=>by
  obtain⟨o',e1⟩:=a.there c ob q hx
  exact b.free c o' e1 (a.free c ob q n hx) hx
 there:=fun c ob q hx=>by
  obtain⟨o',e1⟩:=a.there c ob q hx
  exact b.there c o' e1 hx
 tups:=fun c xs q=>b.tups c xs (a.tups c xs q)
 frzs:=fun c ob xs q=>b.frzs c ob xs (a.frzs c ob xs q)
 tbls:=fun c ps q=>by
  obtain⟨m1,e1⟩:=a.tbls c ps q
  obtain⟨m2,e2⟩:=b.tbls c _ e1
  exact⟨m1++m2,by rw[e2,Array.append_assoc]⟩
theorem Un.kept(k:∀ b u,h.get? b=some u->h'.get? b=some u):Un fs ex H H h h':=
 ⟨fun b ob q _ _ _=>k b ob q,fun b ob q _ _ _=>⟨ob.slots,k b ob q⟩,fun _ _ _ n _=>n,fun b ob q _=>⟨ob,k b ob q⟩,fun _ _ q=>q,fun _ _ _ q=>q,fun _ ps q=>⟨#[],by rw[q];simp⟩⟩
theorem Un.refl:Un fs ex H H h h:=Un.kept fun _ _ q=>q
theorem Un.laid(k:∀ b u,h.get? b=some u->h'.get? b=some u)(hp:h.objs.size<=a)(hn:H a=none):Un fs ex H (upd H a o) h h' where
 keep:=fun b u q _ _ _=>k b u q
 slot:=fun b u q _ _ _=>⟨u.slots,k b u q⟩
 free:=fun b u q n _=>by rw[zb9 (zcy4 (zcx5 (zcx3 q) hp))];exact n
 there:=fun b u q _=>⟨u,k b u q⟩
 tups:=fun b xs q=>by rw[zb9 (za4 q hn)];exact q
 frzs:=fun b u xs q=>by rw[zb9 (za4 q hn)];exact q
 tbls:=fun b ps q=>⟨#[],by rw[zb9 (za4 q hn),q];simp⟩
theorem Un.write(mu:Mut (H x))(he:e=x∨H e=some (.own x))(k:∀ b u,b≠e->h.get? b=some u->h'.get? b=some u)(heo:∃ u,h'.get? e=some u):Un fs ex H (upd H x o) h h':=by
 have hx:∀ b,H b=none->b≠x:=fun b n z=>by subst z;rw[n] at mu;exact mu
 have hb:∀ b,H b=none->b≠e:=fun b n z=>by
  subst z
  rcases he with r|r
  ·exact hx b n r
  ·rw[n] at r;cases r
 have hm:∀ b u,H b=some u->¬ Mut (some u)->b≠x:=fun b u q nm z=>by subst z;rw[q] at mu;exact nm mu
 refine⟨fun b u q n _ _=>k b u (hb b n) q,fun b u q n _ _=>⟨u.slots,k b u (hb b n) q⟩,fun b u q n _=>by rw[zb9 (hx b n)];exact n,fun b u q _=>?_,
  fun b xs q=>by rw[zb9 (hm b _ q fun z=>z)];exact q,fun b u xs q=>by rw[zb9 (hm b _ q fun z=>z)];exact q,fun b ps q=>⟨#[],by rw[zb9 (hm b _ q fun z=>z),q];simp⟩⟩
 by_cases hbe:b=e
 ·subst hbe;exact heo
 ·exact⟨u,k b u hbe q⟩
theorem Un.mono(u:Un fs ex H H1 h h1)(hs:∀ b∈fs,b∈fs')(hx:∀ b∈ex,b∈ex'):Un fs' ex' H H1 h h1:=
 ⟨fun b ob q n hb he=>u.keep b ob q n (fun z=>hb (hs b z)) fun z=>he (hx b z),fun _ _ q n _ he=>u.any q n fun z=>he (hx _ z),fun b ob q n he=>u.free b ob q n fun z=>he (hx b z),fun b ob q he=>u.there b ob q fun z=>he (hx b z),u.tups,u.frzs,u.tbls⟩
end
noncomputable def trk(h:Heap)(H:Hp):List Addr:=(List.range h.objs.size).filter fun a=>(H a).isSome
noncomputable def hidT(h:Heap)(H:Hp):Heap:=PySem.W.hideAll h (trk h H)
theorem zbr2(h:Heap)(H:Hp):(hidT h H).objs.size=h.objs.size:=PySem.W.hideAll_size _ _
theorem zca4{b:Addr}{o:Obj}(e:h.get? b=some o)(n:H b=none):(hidT h H).get? b=some o:=
 PySem.W.hideAll_get _ e fun hm=>by
  have q:(H b).isSome=true:=(List.mem_filter.mp hm).2
  rw[n] at q;simp at q
theorem zcp0{b:Addr}{o:Obj}(e:(hidT h H).get? b=some o):h.get? b=some o/\H b=none:=by
 have e':h.get? b=some o:=PySem.W.of_hideAll (trk h H) e
 refine⟨e',?_⟩
 cases q:H b with
 | none=>rfl
 | some x=>
  have hm:b∈trk h H:=List.mem_filter.mpr ⟨zda0.mpr (zcx3 e'),by simp[q]⟩
  have z:(hidT h H).get? b=none:=PySem.W.hideAll_none (trk h H) hm
  rw[z] at e;cases e
noncomputable def zco4(g h:Heap)(L:Addr):List (Addr×Obj):=(List.range h.objs.size).filterMap fun a=>if a=L∨(g.get? a).isSome=true then none else (h.get? a).map fun o=>(a,o)
noncomputable def rest(g h:Heap)(L d:Addr):List (Addr×Obj):=(zco4 g h L).filter fun p=>decide (p.1≠d)
structure Mod(K:zcw1)(mg:Str->Option Value)(base:Heap):Prop where
 kin:K.In base
 glob:base.Ns zdg3 mg
 blt:∃ mb,base.Ns builtinsNs mb/\∀ x:Str,x≠"__name__"->mb x=bootBuiltins x
 nolimit:base.NoLimit
structure Cx where
 prog:Program
 w:World
 K:zcw1
 mg:Str->Option Value
 base:Heap
 A:Around
 N:List Str
 s₀:Shared
 H₀:Hp
 env:Env
 outer:List Env
 stack:List Env
 ex:List Addr
 fn:Str->Bool
 calm:Bool
 pn:List (Addr×Obj)
 xe:Value->Shared->Prop
noncomputable def frs(l:List Env):List Addr:=l.filterMap (·.frame)
noncomputable abbrev Cx.fs(X:Cx):List Addr:=frs X.outer
noncomputable def Vis(sc:Scope)(x:Str):Prop:=sc.names.lookup x=some .local∨sc.names.lookup x=some .cell∨sc.names.lookup x=some .free
noncomputable def Loc(sc:Scope)(x:Str):Prop:=sc.names.lookup x=some .local∨sc.names.lookup x=some .cell
noncomputable def Look(env:Env)(h:Heap)(m:Str->Option Value)(x:Str)(u:Value):Prop:=
 (env.kindOf x=some .local/\m x=some u)∨((env.kindOf x=some .cell∨env.kindOf x=some .free)/\∃ c,env.cells.lookup x=some c/\h.IsCell c (some u))
structure Cx.Ok(X:Cx):Prop where
 mod:Mod X.K X.mg X.base
 kind:X.env.scope.kind=.function
 glob:X.env.globals=zdg3
 blt:X.env.builtins=builtinsNs
 above:X.s₀.heap.objs.size<=X.env.locals
 inj:∀ x y c,X.env.cells.lookup x=some c->X.env.cells.lookup y=some c->x=y
 has:∀ x,(X.env.kindOf x=some .cell∨X.env.kindOf x=some .free)->∃ c,X.env.cells.lookup x=some c
 cab:∀ x c,X.fn x=true->X.env.cells.lookup x=some c->X.s₀.heap.objs.size<=c
 hd:X.calm=true->X.A.handled=none
 frames:X.A.frames=some X.stack
 stk:X.stack=X.outer∨(X.stack=X.env :: X.outer/\X.env.frame=some X.env.locals)
 exf:∀ b∈X.ex,b≠X.env.locals/\∀ x c,X.env.cells.lookup x=some c->c≠b
 bs:∀ b o,X.base.get? b=some o->X.s₀.heap.get? b=some o/\X.H₀ b=none
 bsz:X.base.objs.size<=X.s₀.heap.objs.size
 noex:∀ b o,X.base.get? b=some o->b ∉ X.ex
 exfs:∀ b∈X.ex,b ∉ X.fs
 funs:X.s₀.heap.FunFrames X.base X.outer
 frf:∀ b∈X.fs,X.H₀ b=none
structure Inv(X:Cx)(pins:List (Addr×Obj))(σ:List (Option V))(H:Hp)(s:Shared):Prop where
 ok:X.Ok
 os:s.os=X.s₀.os
 bare:AllBare s.gens
 base:Un X.fs X.ex X.H₀ H X.s₀.heap s.heap
 loc:∃ m,s.heap.Ns X.env.locals m/\∀ (i:Nat) (x:Str) (v:V),X.N[i]?=some x->σ[i]?=some (some v)->Vis X.env.scope x->∃ u,RelV v u/\Look X.env s.heap m x u
 cell:∀ x c,X.env.cells.lookup x=some c->∃ v,s.heap.IsCell c v
 free:H X.env.locals=none
 freeC:∀ x c,X.env.cells.lookup x=some c->H c=none
 pin:∀ p∈X.pn++pins,s.heap.get? p.1=some p.2/\H p.1=none/\p.1≠X.env.locals/\p.1 ∉ X.fs/\∀ v,p.2.data≠.cell v
 hok:HOk X.prog X.w H s.heap
 len:σ.length=X.N.length
section
variable {X:Cx}{pins:List (Addr×Obj)}{σ:List (Option V)}{H H':Hp}{s:Shared}{h':Heap}
theorem Cx.Ok.nofr(ok:X.Ok){b:Addr}{o:Obj}(e:X.base.get? b=some o):b ∉ X.fs:=fun hb=>by
 have:=(ok.funs.mem hb).1
 rw[e] at this;cases this
theorem Inv.bs(I:Inv X pins σ H s):∀ b o,X.base.get? b=some o->s.heap.get? b=some o/\H b=none:=fun b o e=>
 ⟨I.base.keep b o (I.ok.bs b o e).1 (I.ok.bs b o e).2 (I.ok.nofr e) (I.ok.noex b o e),I.base.free b o (I.ok.bs b o e).1 (I.ok.bs b o e).2 (I.ok.noex b o e)⟩
theorem Inv.bk(I:Inv X pins σ H s):∀ b o,X.base.get? b=some o->s.heap.get? b=some o:=fun b o e=>(I.bs b o e).1
theorem Inv.mod(I:Inv X pins σ H s):Mod X.K X.mg X.base:=I.ok.mod
theorem Inv.kIn(I:Inv X pins σ H s):X.K.In s.heap:=I.ok.mod.kin.keeps I.bk
theorem Inv.lt(I:Inv X pins σ H s):X.env.locals<s.heap.objs.size:=let ⟨_,hn,_⟩:=I.loc;hn.lt
theorem Inv.sz(I:Inv X pins σ H s):X.s₀.heap.objs.size<=s.heap.objs.size:=zcy7 I.ok.above (zde7 I.lt)
theorem Inv.nofs(I:Inv X pins σ H s){a:Addr}(h:s.heap.objs.size<=a):a ∉ X.fs:=fun hb=>by
 obtain⟨_,o,ho,_⟩:=I.ok.funs.mem hb
 exact absurd (zcx5 (zcx3 ho) (zcy7 I.sz h)) (zde2 _)
theorem Inv.cne(I:Inv X pins σ H s):∀ x c,X.env.cells.lookup x=some c->c≠X.env.locals:=fun x c e z=>by
 obtain⟨v,o,ho,hd⟩:=I.cell x c e
 obtain⟨m,⟨o',es,ep,ho',hd',_⟩,_⟩:=I.loc
 rw[z,ho'] at ho;cases ho;rw[hd'] at hd;cases hd
theorem Inv.funs(I:Inv X pins σ H s):s.heap.FunFrames X.base X.outer:=by
 have all:∀ (l:List Env),(∀ b∈frs l,b∈X.fs)->X.s₀.heap.FunFrames X.base l->s.heap.FunFrames X.base l:=by
  intro l
  induction l with
  | nil=>intro _ _;trivial
  | cons env r ih=>
   intro hs hl
   obtain⟨hk,⟨L,o,hf,hn,ho,hd⟩,hr⟩:=hl
   have hL:L∈X.fs:=hs L (by unfold frs;rw[List.filterMap_cons,hf];exact zdc3)
   obtain⟨sl,e⟩:=I.base.slot L o ho (I.ok.frf L hL) hL fun z=>I.ok.exfs L z hL
   exact⟨hk,⟨L,_,hf,hn,e,hd⟩,ih (fun b hb=>hs b (by unfold frs;rw[List.filterMap_cons,hf];exact zcz1 _ hb)) hr⟩
 exact all X.outer (fun _ hb=>hb) I.ok.funs
theorem Inv.stack(I:Inv X pins σ H s):s.heap.FunFrames X.base X.stack:=by
 rcases I.ok.stk with e|⟨e,hf⟩
 ·rw[e];exact I.funs
 ·rw[e]
  obtain⟨m,hn,_⟩:=I.loc
  refine .cons (by rw[I.ok.kind];decide) hf hn ?_ I.funs
  exact Heap.get?_none_of_le (zcy7 I.ok.bsz I.ok.above)
theorem Inv.stkSub(I:Inv X pins σ H s):∀ b∈frs X.stack,b∈X.env.locals :: X.fs:=fun b hb=>by
 rcases I.ok.stk with e|⟨e,hf⟩
 ·rw[e] at hb;exact zcz1 _ hb
 ·rw[e] at hb
  unfold frs at hb
  rw[List.filterMap_cons,hf] at hb
  exact hb
theorem Inv.stkFree(I:Inv X pins σ H s):∀ b∈frs X.stack,H b=none:=fun b hb=>by
 rcases zcx2.mp (I.stkSub b hb) with e|hb
 ·rw[e];exact I.free
 ·obtain⟨_,o,ho,_⟩:=I.ok.funs.mem hb
  exact I.base.free b o ho (I.ok.frf b hb) fun z=>I.ok.exfs b z hb
theorem Inv.step{g':Array GenState}{t':Nat}{d':Drawn}{ch:List Addr}(I:Inv X pins σ H s)(hch:∀ b∈ch,(b∈X.ex∨X.s₀.heap.objs.size<=b)/\b≠X.env.locals/\(∀ x c,X.env.cells.lookup x=some c->c≠b)/\∀ p∈X.pn++pins,p.1≠b)(keep:∀ b o,b≠X.env.locals->b ∉ X.fs->b ∉ ch->s.heap.get? b=some o->H b=none->h'.get? b=some o)(slot:∀ b o,b≠X.env.locals->b∈X.fs->b ∉ ch->s.heap.get? b=some o->H b=none->∃ sl,h'.get? b=some { o with slots:=sl })(free:∀ b o,b ∉ ch->s.heap.get? b=some o->H b=none->H' b=none)(there:∀ b o,b ∉ ch->s.heap.get? b=some o->∃ o',h'.get? b=some o')(tups:∀ b xs,H b=some (.tup xs)->H' b=some (.tup xs))(frzs:∀ b o u,H b=some (.frz o u)->H' b=some (.frz o u))(tbls:∀ b ps,H b=some (.tbl ps)->∃ more,H' b=some (.tbl (ps++more)))(ns:∀ m,s.heap.Ns X.env.locals m->h'.Ns X.env.locals m)(hok:HOk X.prog X.w H' h')(hg:AllBare g') :
  Inv X pins σ H' { s with heap:=h',gens:=g',drawn:=d',toks:=t' }:=by
 have neL:∀ b o,X.s₀.heap.get? b=some o->b≠X.env.locals:=fun b o e=>zcy4 (zcx5 (zcx3 e) I.ok.above)
 have neC:∀ b o,X.s₀.heap.get? b=some o->b ∉ X.ex->b ∉ ch:=fun b o e hx hb=>by
  rcases (hch b hb).1 with z|z
  ·exact hx z
  ·exact absurd (zcx5 (zcx3 e) z) (zde2 _)
 have cellK:∀ x c,X.env.cells.lookup x=some c->∀ v,s.heap.IsCell c v->h'.IsCell c v:=fun x c e v ⟨o,ho,hd⟩=>by
  have nch:c ∉ ch:=fun z=>(hch c z).2.2.1 x c e rfl
  by_cases hc:c∈X.fs
  ·obtain⟨sl,q⟩:=slot c o (I.cne x c e) hc nch ho (I.freeC x c e)
   exact⟨_,q,hd⟩
  ·exact⟨o,keep c o (I.cne x c e) hc nch ho (I.freeC x c e),hd⟩
 refine⟨I.ok,I.os,hg,⟨fun b o e n hb hx=>?_,fun b o e n hb hx=>?_,fun b o e n hx=>?_,fun b o e hx=>?_,fun b xs e=>tups b xs (I.base.tups b xs e),fun b o xs e=>frzs b o xs (I.base.frzs b o xs e),fun b ps e=>?_⟩,?_,fun x c e=>?_,?_,fun x c e=>?_,fun p hp=>?_,hok,I.len⟩
 ·exact keep b o (neL b o e) hb (neC b o e hx) (I.base.keep b o e n hb hx) (I.base.free b o e n hx)
 ·obtain⟨sl,e1⟩:=I.base.slot b o e n hb hx
  obtain⟨sl',e2⟩:=slot b _ (neL b o e) hb (neC b o e hx) e1 (I.base.free b o e n hx)
  exact⟨sl',e2⟩
 ·obtain⟨o',e1⟩:=I.base.there b o e hx
  exact free b o' (neC b o e hx) e1 (I.base.free b o e n hx)
 ·obtain⟨o',e1⟩:=I.base.there b o e hx
  exact there b o' (neC b o e hx) e1
 ·obtain⟨m1,e1⟩:=I.base.tbls b ps e
  obtain⟨m2,e2⟩:=tbls b _ e1
  exact⟨m1++m2,by rw[e2,Array.append_assoc]⟩
 ·obtain⟨m,hn,hl⟩:=I.loc
  refine⟨m,ns m hn,fun i x v e1 e2 e3=>?_⟩
  obtain⟨u,r,l⟩:=hl i x v e1 e2 e3
  refine⟨u,r,?_⟩
  rcases l with l|⟨k,c,e,z⟩
  ·exact .inl l
  ·exact .inr ⟨k,c,e,cellK x c e _ z⟩
 ·obtain⟨v,z⟩:=I.cell x c e
  exact⟨v,cellK x c e v z⟩
 ·obtain⟨m,⟨o,_,_,ho,_⟩,_⟩:=I.loc
  exact free _ o (fun z=>(hch _ z).2.1 rfl) ho I.free
 ·obtain⟨v,o,ho,hd⟩:=I.cell x c e
  exact free c o (fun z=>(hch c z).2.2.1 x c e rfl) ho (I.freeC x c e)
 ·obtain⟨e,n,ne,nf,d⟩:=I.pin p hp
  have nch:p.1 ∉ ch:=fun z=>(hch p.1 z).2.2.2 p hp rfl
  exact⟨keep p.1 p.2 ne nf nch e n,free p.1 p.2 nch e n,ne,nf,d⟩
theorem Inv.un{t':Nat}(I:Inv X pins σ H s)(u:Un X.fs [] H H' s.heap h')(hok:HOk X.prog X.w H' h'):Inv X pins σ H' { s with heap:=h',toks:=t' }:=by
 obtain⟨m,⟨o,es,ep,ho,r⟩,_⟩:=id I.loc
 obtain⟨sl,hL⟩:=u.any ho I.free (by simp)
 exact I.step (g':=s.gens) (d':=s.drawn) (ch:=[]) (fun _ z=>nomatch z) (fun b o _ hb _ e n=>u.keep b o e n hb (by simp)) (fun b o _ hb _ e n=>u.slot b o e n hb (by simp)) (fun b o _ e n=>u.free b o e n (by simp)) (fun b o _ e=>u.there b o e (by simp)) u.tups u.frzs u.tbls (fun m' hm=>by
  obtain⟨o',es',ep',ho',r'⟩:=hm
  rw[ho] at ho';cases ho'
  exact⟨_,es',ep',hL,r'⟩) hok I.bare
theorem Inv.call{g':Array GenState}{t':Nat}{d':Drawn}{ch:List Addr}(I:Inv X pins σ H s)(u:Un (frs X.stack) ch H H' s.heap h')(hok:HOk X.prog X.w H' h')(hg:AllBare g')(hch:∀ b∈ch,(b∈X.ex∨X.s₀.heap.objs.size<=b)/\b≠X.env.locals/\(∀ x c,X.env.cells.lookup x=some c->c≠b)/\∀ p∈X.pn++pins,p.1≠b) :
  Inv X pins σ H' { s with heap:=h',gens:=g',drawn:=d',toks:=t' }:=by
 obtain⟨m,⟨o,es,ep,ho,r⟩,_⟩:=id I.loc
 obtain⟨sl,hL⟩:=u.any ho I.free fun z=>(hch _ z).2.1 rfl
 exact I.step (ch:=ch) hch (fun b o hL hb hc e n=>u.keep b o e n (fun z=>(zcx2.mp (I.stkSub b z)).elim hL hb) hc) (fun b o _ _ hc e n=>u.any e n hc) (fun b o hc e n=>u.free b o e n hc) (fun b o hc e=>u.there b o e hc) u.tups u.frzs u.tbls (fun m' hm=>by
  obtain⟨o',es',ep',ho',r'⟩:=hm
  rw[ho] at ho';cases ho'
  exact⟨_,es',ep',hL,r'⟩) hok hg
theorem Inv.turned{t':Nat}{it:Addr}(I:Inv X pins σ H s)(k:∀ b o,b≠it->s.heap.get? b=some o->h'.get? b=some o)(hn:H it=none)(hL:it≠X.env.locals)(h1:it∈X.ex∨X.s₀.heap.objs.size<=it)(h2:∀ x c,X.env.cells.lookup x=some c->c≠it)(h3:∀ p∈X.pn++pins,p.1≠it):Inv X pins σ H { s with heap:=h',toks:=t' }:=by
 have nit:∀ b u,H b=some u->b≠it:=fun b u e z=>by rw[z,hn] at e;cases e
 refine I.step (g':=s.gens) (d':=s.drawn) (ch:=[it]) (fun b hb=>?_) (fun b o _ _ hc e _=>k b o (fun z=>hc (by simp[z])) e) (fun b o _ _ hc e _=>⟨o.slots,k b o (fun z=>hc (by simp[z])) e⟩) (fun _ _ _ _ n=>n)
  (fun b o hc e=>⟨o,k b o (fun z=>hc (by simp[z])) e⟩) (fun _ _ e=>e) (fun _ _ _ e=>e) (fun b ps e=>⟨#[],by rw[e];simp⟩) (fun m hm=>?_) (fun b u e=>?_) I.bare
 ·have e:b=it:=by simpa using hb
  subst e
  exact⟨h1,hL,h2,h3⟩
 ·obtain⟨o,es,ep,ho,r⟩:=hm
  exact⟨o,es,ep,k _ o (Ne.symm hL) ho,r⟩
 ·refine (I.hok b u e).stay (fun c v hc q=>k c v ?_ q) (fun _ q=>q) fun _ _ q=>q
  rcases hc with z|z
  ·rw[z];exact nit b u e
  ·exact nit c _ z
theorem Inv.tok(I:Inv X pins σ H s)(t:Nat):Inv X pins σ H { s with toks:=t }:=I.un (h':=s.heap) (t':=t) Un.refl I.hok
theorem Inv.kept{t':Nat}(I:Inv X pins σ H s)(k:∀ b u,s.heap.get? b=some u->h'.get? b=some u):Inv X pins σ H { s with heap:=h',toks:=t' }:=I.un (Un.kept k) (I.hok.kept k)
theorem Inv.laid{a:Addr}{o:HO}{t':Nat}(I:Inv X pins σ H s)(k:∀ b u,s.heap.get? b=some u->h'.get? b=some u)(hp:s.heap.objs.size<=a)(new:zk5 X.prog X.w (upd H a o) h' a o) :
  Inv X pins σ (upd H a o) { s with heap:=h',toks:=t' }:=I.un (Un.laid k hp (I.hok.fresh hp)) (I.hok.laid k hp new)
theorem Inv.write{x e:Addr}{o:HO}{t':Nat}(I:Inv X pins σ H s)(mu:Mut (H x))(he:e=x∨H e=some (.own x))(k:∀ b u,b≠e->s.heap.get? b=some u->h'.get? b=some u)(heo:∃ u,h'.get? e=some u)(new:zk5 X.prog X.w (upd H x o) h' x o):Inv X pins σ (upd H x o) { s with heap:=h',toks:=t' }:=I.un (Un.write mu he k heo) (I.hok.write mu he k heo new)
theorem Inv.pins_of{pins':List (Addr×Obj)}(I:Inv X pins σ H s)(h:∀ p∈pins',s.heap.get? p.1=some p.2/\H p.1=none/\p.1≠X.env.locals/\p.1 ∉ X.fs/\∀ v,p.2.data≠.cell v):Inv X pins' σ H s:=
 ⟨I.ok,I.os,I.bare,I.base,I.loc,I.cell,I.free,I.freeC,fun p hp=>(zda5.mp hp).elim (fun z=>I.pin p (List.mem_append_left _ z)) (h p),I.hok,I.len⟩
theorem zbk0{N:List Str}(hN:N.Nodup){j:Nat}{x:Str}(a:N[i]?=some x)(b:N[j]?=some x):i=j:=by
 obtain⟨h1,e1⟩:=zcw2.mp a
 obtain⟨h2,e2⟩:=zcw2.mp b
 exact (List.getElem_inj hN).mp (e1.trans e2.symm)
theorem zbc3{M:Model}{A:Around}{x:Str}{v:V}{Q:Unit->Shared->Prop}(I:Inv X pins σ H s)(hN:X.N.Nodup)(hi:X.N[i]?=some x)(hx:Loc X.env.scope x)(r:RelV v u)(h:∀ s',Inv X pins (σ.set i (some v)) H s'->(∃ a,Heap.SameBut a s.heap s'.heap/\(a=X.env.locals∨X.env.cells.lookup x=some a))->Q () s')(hf:X.fn x=true∨X.env.scope.names.lookup x=some .local:=by first|exact .inl rfl|exact .inr rfl|assumption):wpAny M A (storeName X.env x u) Q E s:=by
 obtain⟨m,hn,hl⟩:=id I.loc
 have hcls:(X.env.scope.kind==.class || (X.env.scope.kind==.module&&X.env.locals != X.env.globals))=false:=by rw[I.ok.kind];rfl
 have hiσ:i<σ.length:=by rw[I.len];exact (zcw2.mp hi).1
 have cne:=I.cne
 have tracked:∀ {a:Addr}{h':Heap},(∃ o,s.heap.get? a=some o/\H a=none)->Heap.SameBut a s.heap h'->HOk X.prog X.w H h':=fun {a h'} ha hs b ob e=>by
  obtain⟨_,_,hfree⟩:=ha
  refine (I.hok b ob e).stay (fun c w' hc q=>(hs.2 c ?_).trans q) (fun _ q=>q) fun _ _ q=>q
  rintro rfl
  rcases hc with rfl|hc
  ·rw[hfree] at e;cases e
  ·rw[hfree] at hc;cases hc
 rcases hx with hk|hk
 ·refine wpAny_storeName_local hk hn (fun h' hn' hs=>?_) hcls
  obtain⟨oL,_,_,hoL,_⟩:=id hn
  refine h _ ⟨I.ok,I.os,I.bare,⟨fun b o e n hb hx=>?_,fun b o e n hb hx=>?_,I.base.free,fun b o e hx=>?_,I.base.tups,I.base.frzs,I.base.tbls⟩,⟨_,hn',fun j y v' e1 e2 e3=>?_⟩,fun y c e=>?_,I.free,I.freeC,fun p hp=>?_,tracked ⟨oL,hoL,I.free⟩ hs,by simpa using I.len⟩ ⟨_,hs,.inl rfl⟩
  ·exact (hs.2 b (zcy4 (zcx5 (zcx3 e) I.ok.above))).trans (I.base.keep b o e n hb hx)
  ·obtain⟨sl,e1⟩:=I.base.slot b o e n hb hx
   exact⟨sl,(hs.2 b (zcy4 (zcx5 (zcx3 e) I.ok.above))).trans e1⟩
  ·obtain⟨o',e1⟩:=I.base.there b o e hx
   exact⟨o',(hs.2 b (zcy4 (zcx5 (zcx3 e) I.ok.above))).trans e1⟩
  ·by_cases hj:j=i
   ·subst hj
    rw[hi] at e1;cases e1
    rw[List.getElem?_set_self hiσ] at e2
    cases e2
    exact⟨u,r,.inl ⟨hk,by simp⟩⟩
   ·rw[List.getElem?_set_ne (Ne.symm hj)] at e2
    obtain⟨u',r',q⟩:=hl j y v' e1 e2 e3
    refine⟨u',r',?_⟩
    rcases q with ⟨k,e⟩|⟨k,c,e,z⟩
    ·refine .inl ⟨k,?_⟩
     have:y≠x:=fun e=>hj (zbk0 hN e1 (e▸hi))
     simp[this,e]
    ·exact .inr ⟨k,c,e,z.sameBut hs (cne y c e)⟩
  ·obtain⟨w',z⟩:=I.cell y c e
   exact⟨w',z.sameBut hs (cne y c e)⟩
  ·obtain⟨e,n,ne,nf,d⟩:=I.pin p hp
   exact⟨(hs.2 p.1 ne).trans e,n,ne,nf,d⟩
 ·have hfn:X.fn x=true:=by
   rcases hf with z|z
   ·exact z
   ·rw[z] at hk;cases hk
  obtain⟨c,hc⟩:=I.ok.has x (.inl hk)
  obtain⟨w',z⟩:=I.cell x c hc
  refine wpAny_storeName_cell I.ok.kind hk hc z (fun h' hc' hs=>?_)
  obtain⟨oc,hoc,hocd⟩:=id z
  refine h { s with heap:=h' } ⟨I.ok,I.os,I.bare,⟨fun b o e n hb hx=>?_,fun b o e n hb hx=>?_,I.base.free,fun b o e hx=>?_,I.base.tups,I.base.frzs,I.base.tbls⟩,⟨m,hn.sameBut hs (Ne.symm (cne x c hc)),fun j y v' e1 e2 e3=>?_⟩,fun y c' e=>?_,I.free,I.freeC,fun p hp=>?_,tracked ⟨oc,hoc,I.freeC x c hc⟩ hs,by simpa using I.len⟩ ⟨c,hs,.inr hc⟩
  ·exact (hs.2 b (zcy4 (zcx5 (zcx3 e) (I.ok.cab x c hfn hc)))).trans (I.base.keep b o e n hb hx)
  ·obtain⟨sl,e1⟩:=I.base.slot b o e n hb hx
   exact⟨sl,(hs.2 b (zcy4 (zcx5 (zcx3 e) (I.ok.cab x c hfn hc)))).trans e1⟩
  ·obtain⟨o',e1⟩:=I.base.there b o e hx
   exact⟨o',(hs.2 b (zcy4 (zcx5 (zcx3 e) (I.ok.cab x c hfn hc)))).trans e1⟩
  ·by_cases hj:j=i
   ·subst hj
    rw[hi] at e1;cases e1
    rw[List.getElem?_set_self hiσ] at e2
    cases e2
    exact⟨u,r,.inr ⟨.inl hk,c,hc,hc'⟩⟩
   ·rw[List.getElem?_set_ne (Ne.symm hj)] at e2
    obtain⟨u',r',q⟩:=hl j y v' e1 e2 e3
    refine⟨u',r',?_⟩
    rcases q with q|⟨k,c',e,z'⟩
    ·exact .inl q
    ·refine .inr ⟨k,c',e,z'.sameBut hs ?_⟩
     rintro rfl
     exact hj (zbk0 hN e1 (I.ok.inj _ _ _ e hc▸hi))
  ·by_cases hcc:c'=c
   ·subst hcc;exact⟨_,hc'⟩
   ·obtain⟨w2,z2⟩:=I.cell y c' e
    exact⟨w2,z2.sameBut hs hcc⟩
  ·obtain⟨e,n,ne,nf,d⟩:=I.pin p hp
   refine⟨(hs.2 p.1 ?_).trans e,n,ne,nf,d⟩
   intro q
   rw[q,hoc] at e
   have q':oc=p.2:=Option.some.inj e
   exact d w' (by rw[← q'];exact hocd)
theorem zab3{M:Model}{A:Around}{x:Str}{v:V}{Q:Unit->Shared->Prop}(I:Inv X pins σ H s)(hN:X.N.Nodup)(hi:X.N[i]?=some x)(hx:Loc X.env.scope x)(r:RelV v u)(h:∀ s',Inv X pins (σ.set i (some v)) H s'->Q () s')(hf:X.fn x=true∨X.env.scope.names.lookup x=some .local:=by first|exact .inl rfl|exact .inr rfl|assumption):wpAny M A (storeName X.env x u) Q E s:=
 zbc3 I hN hi hx r (fun s' I' _=>h s' I') hf
end
noncomputable abbrev XK:=Value->Option Addr->Hp->Prop
noncomputable abbrev St:=List (Option V)
variable {σ:St}
noncomputable abbrev VK:=V->Hp->Prop
noncomputable abbrev TE:=St->Hp->VK->Prop
noncomputable abbrev TT:=St->Hp->(Bool->Hp->Prop)->Prop
noncomputable abbrev TA:=St->Hp->(List V->Hp->Prop)->Prop
structure Ends where
 nx:St->Hp->Prop
 rt:VK
 bk:St->Hp->Prop:=fun _ _=>False
 ct:St->Hp->Prop:=fun _ _=>False
noncomputable abbrev TS:=Ends->St->Hp->Prop
noncomputable def EP(X:Cx)(pins:List (Addr×Obj))(σ:St)(Q:VK)(u:Value)(s':Shared):Prop:=∃ v H',Inv X pins σ H' s'/\RelV v u/\Q v H'
noncomputable def TP(X:Cx)(pins:List (Addr×Obj))(σ:St)(Q:Bool->Hp->Prop)(b:Bool)(s':Shared):Prop:=∃ H',Inv X pins σ H' s'/\Q b H'
noncomputable def AP(X:Cx)(pins:List (Addr×Obj))(σ:St)(Q:List V->Hp->Prop)(us:List Value)(s':Shared):Prop:=∃ vs H',Inv X pins σ H' s'/\Vals vs us/\Q vs H'
noncomputable def SP(X:Cx)(pins:List (Addr×Obj))(D:Ends)(f:Flow)(s':Shared):Prop:=
 match f with
 | .next=>∃ σ' H',Inv X pins σ' H' s'/\D.nx σ' H'
 | .brk=>∃ σ' H',Inv X pins σ' H' s'/\D.bk σ' H'
 | .cont=>∃ σ' H',Inv X pins σ' H' s'/\D.ct σ' H'
 | .ret u=>∃ v σ' H',Inv X pins σ' H' s'/\RelV v u/\D.rt v H'
noncomputable def PE(X:Cx)(e:Expr)(t:TE):Prop:=
 ∀ (pins:List (Addr×Obj)) (s:Shared) (σ:St) (H:Hp) (Q:VK),Inv X pins σ H s->t σ H Q->wpAny (model X.prog X.w) X.A (eval e X.env) (EP X pins σ Q) X.xe s
noncomputable def PT(X:Cx)(e:Expr)(t:TT):Prop:=
 ∀ (pins:List (Addr×Obj)) (s:Shared) (σ:St) (H:Hp) (Q:Bool->Hp->Prop),Inv X pins σ H s->t σ H Q->wpAny (model X.prog X.w) X.A (isTrue e X.env (eval e X.env)) (TP X pins σ Q) X.xe s
noncomputable def PW(X:Cx)(e:Expr)(t:TT):Prop:=
 ∀ (whole:Sem Value) (pins:List (Addr×Obj)) (s:Shared) (σ:St) (H:Hp) (Q:Bool->Hp->Prop),Inv X pins σ H s->t σ H Q->wpAny (model X.prog X.w) X.A (isTrue e X.env whole) (TP X pins σ Q) X.xe s
theorem PW.pt{X:Cx}{t:TT}(h:PW X e t):PT X e t:=h _
noncomputable def PA(X:Cx)(es:List Expr)(t:TA):Prop:=
 ∀ (pos:Pos) (pins:List (Addr×Obj)) (s:Shared) (σ:St) (H:Hp) (Q:List V->Hp->Prop),Inv X pins σ H s->t σ H Q->wpAny (model X.prog X.w) X.A (spliced (backTo pos (starEach es X.env))) (AP X pins σ Q) X.xe s
noncomputable def PS(X:Cx)(st:Stmt)(t:TS):Prop:=
 ∀ (pins:List (Addr×Obj)) (s:Shared) (σ:St) (H:Hp) (D:Ends),Inv X pins σ H s->t D σ H->wpAny (model X.prog X.w) X.A (exec st X.env) (SP X pins D) X.xe s
noncomputable def PSs(X:Cx)(st:List Stmt)(t:TS):Prop:=
 ∀ (pins:List (Addr×Obj)) (s:Shared) (σ:St) (H:Hp) (D:Ends),Inv X pins σ H s->t D σ H->wpAny (model X.prog X.w) X.A (execs st X.env) (SP X pins D) X.xe s
theorem thn{α:Type}{t:Sem α}{Q Q':α->Shared->Prop}{M:Model}{A:Around}(h:wpAny M A t Q E s)(hQ:∀ a s,Q a s->Q' a s):wpAny M A t Q' E s:=wpAny_mono h hQ fun _ _ x=>x
section
variable {X:Cx}
theorem bin{a b:Expr}{ta tb:TE}(ha:PE X a ta)(hb:PE X b tb){R:V->V->Hp->Prop}(I:Inv X pins σ H s)(h:ta σ H fun x H1=>tb σ H1 fun y H2=>R x y H2){α:Type}{Q:α->Shared->Prop}{f:Value->Value->Sem α}(hf:∀ v u s2 x y H2,Inv X pins σ H2 s2->RelV x v->RelV y u->R x y H2->wpAny (model X.prog X.w) X.A (f v u) Q X.xe s2) :
  wpAny (model X.prog X.w) X.A (eval a X.env) (fun v s₁=>wpAny (model X.prog X.w) X.A (eval b X.env) (fun u s₂=>wpAny (model X.prog X.w) X.A (f v u) Q X.xe s₂) X.xe s₁) X.xe s:=by
 refine thn (ha pins s σ H _ I h) fun v s1 ⟨x,H1,I1,r1,q1⟩=>?_
 refine thn (hb pins s1 σ H1 _ I1 q1) fun u s2 ⟨y,H2,I2,r2,q2⟩=>?_
 exact hf v u s2 x y H2 I2 r1 r2 q2
noncomputable def tVar(i:Nat):TE:=fun σ H Q=>∃ v,σ[i]?=some (some v)/\Q v H
noncomputable def tC(v:V):TE:=fun _ H Q=>Q v H
theorem pe_var{x:Str}{pos:Pos}(hN:X.N[i]?=some x)(hv:Vis X.env.scope x)(hd:(x==("__debug__":Str))=false:=by decide)(hcd:(x==("__classdict__":Str))=false:=by decide):PE X (.Name x pos) (tVar i):=by
 intro pins s σ H Q I h
 obtain⟨v,e,h⟩:=h
 obtain⟨m,hn,hl⟩:=I.loc
 obtain⟨u,r,l⟩:=hl i x v hN e hv
 have fin:EP X pins σ Q u s:=⟨v,H,I,r,h⟩
 rcases l with ⟨hk,hm⟩|⟨hk,c,hc,hcell⟩
 ·exact wpAny_Name (wpAny_loadName_local I.ok.kind hk hn hm fin) hd
 ·rcases hk with hk|hk
  ·exact wpAny_Name (wpAny_loadName_cell I.ok.kind hk hc hcell fin) hd
  ·exact wpAny_Name (wpAny_loadName_free I.ok.kind hk hc hcell fin hcd) hd
theorem za3{i j pos}:PE X (.Constant (.int i) j pos) (tC (.int i)):=fun _ _ _ H _ I h=>wpAny_Constant_int ⟨.int i,H,I.tok _,⟨_,rfl⟩,h⟩
theorem zt2{b j pos}:PE X (.Constant (.bool b) j pos) (tC (.bl b)):=fun _ _ _ H _ I h=>Constant_bool ⟨.bl b,H,I,rfl,h⟩
theorem zbl1{j pos}:PE X (.Constant .none j pos) (tC .non):=fun _ _ _ H _ I h=>Constant_none ⟨.non,H,I,rfl,h⟩
theorem zp3{x j pos}:PE X (.Constant (.str x) j pos) (tC (.str x)):=fun _ _ _ H _ I h=>Calls.Constant_str ⟨.str x,H,I.tok _,⟨_,rfl⟩,h⟩
noncomputable def Gl(X:Cx)(x:Str):Prop:=X.env.kindOf x=some .globalImplicit
theorem zbi1{x:Str}{pos:Pos}(I:Inv X pins σ H s)(hg:Gl X x)(hm:X.mg x=some u)(h:Q u s)(hd:(x==("__debug__":Str))=false:=by decide):wpAny (model X.prog X.w) X.A (eval (.Name x pos) X.env) Q E s:=
 Calls.Name_function_global I.ok.kind hg (Calls.loadGlobal_global (by rw[I.ok.glob];exact I.mod.glob.keeps I.bk) hm h) hd
theorem zw5{x:Str}{pos:Pos}(I:Inv X pins σ H s)(hg:Gl X x)(hm:X.mg x=none)(hv:bootBuiltins x=some u)(h:Q u s)(hn:x≠"__name__":=by decide)(hd:(x==("__debug__":Str))=false:=by decide):wpAny (model X.prog X.w) X.A (eval (.Name x pos) X.env) Q E s:=by
 obtain⟨mb,h1,h2⟩:=I.mod.blt
 exact Calls.Name_function_global I.ok.kind hg (Calls.loadGlobal_builtin (by rw[I.ok.glob];exact I.mod.glob.keeps I.bk) hm (by rw[I.ok.blt];exact h1.keeps I.bk) ((h2 x hn).trans hv) h) hd
theorem zam4{x:Str}{v:V}{pos:Pos}(hg:Gl X x)(hm:X.mg x=some u)(r:RelV v u)(hd:(x==("__debug__":Str))=false:=by decide):PE X (.Name x pos) (tC v):=
 fun _ _ _ H _ I h=>zbi1 I hg hm ⟨v,H,I,r,h⟩ hd
theorem zcl7{x:Str}{v:V}{pos:Pos}(hg:Gl X x)(hm:X.mg x=none)(hv:bootBuiltins x=some u)(r:RelV v u)(hn:x≠"__name__":=by decide)(hd:(x==("__debug__":Str))=false:=by decide):PE X (.Name x pos) (tC v):=
 fun _ _ _ H _ I h=>zw5 I hg hm hv ⟨v,H,I,r,h⟩ hn hd
variable {a b:Expr}{ta tb:TE}{pos:Pos}
variable {tA tB':TT}{rest:List Expr}
noncomputable def tAnd(t u:TT):TT:=fun σ H Q=>t σ H fun c H1=>if c=true then u σ H1 Q else Q false H1
noncomputable def tOr(t u:TT):TT:=fun σ H Q=>t σ H fun c H1=>if c=true then Q true H1 else u σ H1 Q
noncomputable def tNot(t:TT):TT:=fun σ H Q=>t σ H fun c H1=>Q (!c) H1
theorem zat5(ha:PT X a tA):PW X (.BoolOp .And [a] pos) tA:=by
 intro wh pins s σ H Q I h
 refine isTrue_and (thn (ha pins s σ H Q I h) fun c s1 e=>?_)
 cases c with
 | true=>exact isTrue_and_nil e
 | false=>exact e
theorem zz3(ha:PT X a tA):PW X (.BoolOp .Or [a] pos) tA:=by
 intro wh pins s σ H Q I h
 refine isTrue_or (thn (ha pins s σ H Q I h) fun c s1 e=>?_)
 cases c with
 | false=>exact isTrue_or_nil e
 | true=>exact e
theorem pw_and(ha:PT X a tA)(hb:PW X (.BoolOp .And (b :: rest) pos) tB'):PW X (.BoolOp .And (a :: b :: rest) pos) (tAnd tA tB'):=by
 intro wh pins s σ H Q I h
 refine isTrue_and (thn (ha pins s σ H _ I h) fun c s1 ⟨H1,I1,q1⟩=>?_)
 cases c with
 | true=>exact hb wh pins s1 σ H1 Q I1 q1
 | false=>exact⟨H1,I1,q1⟩
theorem pw_or(ha:PT X a tA)(hb:PW X (.BoolOp .Or (b :: rest) pos) tB'):PW X (.BoolOp .Or (a :: b :: rest) pos) (tOr tA tB'):=by
 intro wh pins s σ H Q I h
 refine isTrue_or (thn (ha pins s σ H _ I h) fun c s1 ⟨H1,I1,q1⟩=>?_)
 cases c with
 | true=>exact⟨H1,I1,q1⟩
 | false=>exact hb wh pins s1 σ H1 Q I1 q1
theorem zl3(ha:PT X a tA):PT X (.UnaryOp .Not a pos) (tNot tA):=by
 intro pins s σ H Q I h
 exact isTrue_not (ha pins s σ H (fun c H1=>Q (!c) H1) I h)
theorem zq6{op}{t:TE}(h:PE X a t):PE X (.BoolOp op [a] pos) t:=fun pins s σ H Q I hw=>BoolOp_one (h pins s σ H Q I hw)
noncomputable def tIf(t:TT)(ta tb:TE):TE:=fun σ H Q=>t σ H fun c H1=>if c=true then ta σ H1 Q else tb σ H1 Q
theorem zcd1{c:Expr}(hc:PT X c tA)(ha:PE X a ta)(hb:PE X b tb):PE X (.IfExp c a b pos) (tIf tA ta tb):=by
 intro pins s σ H Q I h
 refine wpAny_IfExp (thn (hc pins s σ H _ I h) fun d s1 ⟨H1,I1,q1⟩=>?_)
 cases d with
 | true=>exact ha pins s1 σ H1 Q I1 q1
 | false=>exact hb pins s1 σ H1 Q I1 q1
end
noncomputable def SqL(K:zcw1)(H:Hp)(a:Addr)(xs:List V):Prop:=
 Rd H a (.lst xs) ∨
  ∃ (o:Obj) (its:Array Value) (n:Nat),K.lookup a=some o/\o.cls=.type "list"/\o.dict=none/\o.data=.seq its n/\its.size<=sizeLine/\Vals xs its.toList
noncomputable def SqT(K:zcw1)(H:Hp)(a:Addr)(xs:List V):Prop:=
 Rd H a (.tup xs) ∨
  ∃ (o:Obj) (its:Array Value) (n:Nat),K.lookup a=some o/\o.cls=.type "tuple"/\o.data=.seq its n/\its.size<=sizeLine/\Vals xs its.toList
noncomputable def absV:Value->Option V
 | .none=>some .non
 | .bool b=>some (.bl b)
 | .int i _=>some (.int i)
 | .str x _=>some (.str x)
 | .bytes b _=>some (.byt b)
 | .float b _=>some (.flt b)
 | .ref a=>some (.ref a)
 | .type n=>some (.ty n)
 | _=>none
theorem RelV.abs{x:V}(r:RelV x u):absV u=some x:=by
 cases x with
 | non=>cases r;rfl
 | bl _=>cases r;rfl
 | int _=>obtain⟨t,rfl⟩:=r;rfl
 | str _=>obtain⟨t,rfl⟩:=r;rfl
 | byt _=>obtain⟨t,rfl⟩:=r;rfl
 | flt _=>obtain⟨t,rfl⟩:=r;rfl
 | ref _=>cases r;rfl
 | ty _=>cases r;rfl
theorem RelV.inj{x y:V}{u:Value}(r:RelV x u)(q:RelV y u):x=y:=Option.some.inj (r.abs.symm.trans q.abs)
theorem Vals.inj:∀ {xs ys:List V}{us:List Value},Vals xs us->Vals ys us->xs=ys
 | _,_,_,.nil,.nil=>rfl
 | _,_,_,.cons r t,.cons r' t'=>by rw[r.inj r',Vals.inj t t']
section
variable {X:Cx}{pins:List (Addr×Obj)}{σ:St}{H:Hp}{s:Shared}{a:Addr}{xs ys:List V}
theorem SqL.of{K:zcw1}(h:H a=some (.lst xs)):SqL K H a xs:=.inl (.inl h)
theorem SqT.of{K:zcw1}(h:H a=some (.tup xs)):SqT K H a xs:=.inl (.inl h)
theorem Inv.list(I:Inv X pins σ H s)(h:SqL X.K H a xs):∃ its:List Value,Vals xs its/\PlainL s.heap a its.toArray/\xs.length<=sizeLine:=by
 rcases h with h|⟨o,its,n,hk,hc,hd,hs,hz,r⟩
 ·obtain⟨z,its,n,r,e⟩:=h.ok I.hok
  exact⟨its,r,⟨_,n,e,rfl,rfl,rfl⟩,z⟩
 ·refine⟨its.toList,r,⟨o,n,I.kIn a o hk,hc,hd,by simpa using hs⟩,?_⟩
  have e:=r.length
  simp only[zda1] at e
  omega
theorem Inv.tuple(I:Inv X pins σ H s)(h:SqT X.K H a xs):∃ its:List Value,Vals xs its/\IsTup s.heap a its.toArray/\xs.length<=sizeLine:=by
 rcases h with h|⟨o,its,n,hk,hc,hs,hz,r⟩
 ·obtain⟨z,its,r,p⟩:=h.ok I.hok
  exact⟨its,r,p,z⟩
 ·refine⟨its.toList,r,⟨o,I.kIn a o hk,hc,n,by simpa using hs⟩,?_⟩
  have e:=r.length
  simp only[zda1] at e
  omega
theorem Inv.list_inj(I:Inv X pins σ H s)(h:SqL X.K H a xs)(h':SqL X.K H a ys):xs=ys:=by
 obtain⟨its,r,⟨o,n,e,_,_,d⟩,_⟩:=I.list h
 obtain⟨its',r',⟨o',n',e',_,_,d'⟩,_⟩:=I.list h'
 rw[e] at e';cases e'
 rw[d] at d'
 injection d' with d1 _
 have:its=its':=by simpa using congrArg Array.toList d1
 subst this
 exact r.inj r'
theorem Inv.tuple_inj(I:Inv X pins σ H s)(h:SqT X.K H a xs)(h':SqT X.K H a ys):xs=ys:=by
 obtain⟨its,r,⟨o,e,_,n,d⟩,_⟩:=I.tuple h
 obtain⟨its',r',⟨o',e',_,n',d'⟩,_⟩:=I.tuple h'
 rw[e] at e';cases e'
 rw[d] at d'
 injection d' with d1 _
 have:its=its':=by simpa using congrArg Array.toList d1
 subst this
 exact r.inj r'
end
noncomputable abbrev Cx.wish(X:Cx)(E:Value->Shared->Prop):Cx:={ X with xe:=E }
noncomputable abbrev Cx.nox(X:Cx):Cx:=X.wish fun _ _=>False
theorem Cx.Ok.wish{X:Cx}(ok:X.Ok)(E:Value->Shared->Prop):(X.wish E).Ok:=
 ⟨ok.mod,ok.kind,ok.glob,ok.blt,ok.above,ok.inj,ok.has,ok.cab,ok.hd,ok.frames,ok.stk,ok.exf,ok.bs,ok.bsz,ok.noex,ok.exfs,ok.funs,ok.frf⟩
theorem Cx.Ok.unwish{X:Cx}(ok:(X.wish E).Ok):X.Ok:=
 ⟨ok.mod,ok.kind,ok.glob,ok.blt,ok.above,ok.inj,ok.has,ok.cab,ok.hd,ok.frames,ok.stk,ok.exf,ok.bs,ok.bsz,ok.noex,ok.exfs,ok.funs,ok.frf⟩
section
variable {X:Cx}{pins:List (Addr×Obj)}{σ:St}{H:Hp}{s:Shared}{E:Value->Shared->Prop}
theorem Inv.wish(I:Inv X pins σ H s)(E:Value->Shared->Prop):Inv (X.wish E) pins σ H s:=⟨I.ok.wish E,I.os,I.bare,I.base,I.loc,I.cell,I.free,I.freeC,I.pin,I.hok,I.len⟩
theorem Inv.unwish(I:Inv (X.wish E) pins σ H s):Inv X pins σ H s:=⟨I.ok.unwish,I.os,I.bare,I.base,I.loc,I.cell,I.free,I.freeC,I.pin,I.hok,I.len⟩
theorem SP.unwish{D:Ends}{f:Flow}{s':Shared}(h:SP (X.wish E) pins D f s'):SP X pins D f s':=by
 cases f with
 | next=>obtain⟨σ',H',I,q⟩:=h;exact⟨σ',H',I.unwish,q⟩
 | brk=>obtain⟨σ',H',I,q⟩:=h;exact⟨σ',H',I.unwish,q⟩
 | cont=>obtain⟨σ',H',I,q⟩:=h;exact⟨σ',H',I.unwish,q⟩
 | ret u=>obtain⟨v,σ',H',I,r,q⟩:=h;exact⟨v,σ',H',I.unwish,r,q⟩
theorem PSs.nox{st:List Stmt}{t:TS}(h:PSs X.nox st t):PSs X st t:=fun pins s σ H D I hw=>
 wpAny_mono (h pins s σ H D (I.wish _) hw) (fun _ _ q=>q.unwish) fun _ _ z=>False.elim z
end
section
variable {X:Cx}{st:Stmt}{rest:List Stmt}{t u:TS}{e:Expr}{te:TE}{pos:Pos}
noncomputable def tNext:TS:=fun D σ H=>D.nx σ H
noncomputable def tSeq(t u:TS):TS:=fun D σ H=>t { D with nx:=u D } σ H
theorem zb8:PSs X [] tNext:=fun _ _ σ H _ I h=>wpAny_execs_nil ⟨σ,H,I,h⟩
theorem za2(h1:PS X st t)(h2:PSs X rest u):PSs X (st :: rest) (tSeq t u):=by
 intro pins s σ H D I h
 refine wpAny_execs_cons (thn (h1 pins s σ H { D with nx:=u D } I h) fun f s1 q=>?_)
 cases f with
 | next=>
  obtain⟨σ',H',I',q⟩:=q
  exact h2 pins s1 σ' H' D I' q
 | ret v=>exact q
 | brk=>exact q
 | cont=>exact q
theorem za5(h1:PS X st t):PSs X [st] t:=by
 intro pins s σ H D I h
 refine wpAny_execs_cons (thn (h1 pins s σ H D I h) fun f s1 q=>?_)
 cases f with
 | next=>exact wpAny_execs_nil q
 | ret v=>exact q
 | brk=>exact q
 | cont=>exact q
theorem Inv.quiet(I:Inv X pins σ H s):interactive X.env=false:=by simp[interactive,I.ok.kind]
noncomputable def tDrop(te:TE):TS:=fun D σ H=>te σ H fun _ H1=>D.nx σ H1
theorem zl8(he:PE X e te)(hs:swapsWith e none pos.line X.env=pure false:=by rfl):PS X (.Expr e pos) (tDrop te):=by
 intro pins s σ H D I h
 exact wpAny_Expr_any (thn (he pins s σ H _ I h) fun v s1 ⟨x,H1,I1,r1,q1⟩=>⟨σ,H1,I1,q1⟩) I.quiet hs
noncomputable def tRet(te:TE):TS:=fun D σ H=>te σ H D.rt
theorem zb1(he:PE X e te):PS X (.Return (some e) pos) (tRet te):=by
 intro pins s σ H D I h
 exact wpAny_Return_some (thn (he pins s σ H _ I h) fun v s1 ⟨x,H1,I1,r1,q1⟩=>⟨x,σ,H1,I1,r1,q1⟩)
noncomputable def tIfS(c:TT)(t u:TS):TS:=fun D σ H=>c σ H fun b H1=>if b=true then t D σ H1 else u D σ H1
theorem ps_if{c:Expr}{a b:List Stmt}{tc:TT}(hc:PT X c tc)(ha:PSs X a t)(hb:PSs X b u):PS X (.If c a b pos) (tIfS tc t u):=by
 intro pins s σ H D I h
 refine wpAny_If (thn (hc pins s σ H _ I h) fun d s1 ⟨H1,I1,q1⟩=>?_)
 cases d with
 | true=>exact ha pins s1 σ H1 D I1 q1
 | false=>exact hb pins s1 σ H1 D I1 q1
noncomputable def tNever:TS:=fun _ _ _=>False
theorem zy7:PS X st tNever:=fun _ _ _ _ _ _ h=>h.elim
end
noncomputable abbrev TG:=V->St->Hp->(St->Hp->Prop)->Prop
noncomputable abbrev TGs:=List V->St->Hp->(St->Hp->Prop)->Prop
noncomputable def PG(X:Cx)(target:Expr)(t:TG):Prop:=
 ∀ (pins:List (Addr×Obj)) (s:Shared) (σ:St) (H:Hp) (v:V) (u:Value) (Q:St->Hp->Prop),Inv X pins σ H s->RelV v u->t v σ H Q ->
  wpAny (model X.prog X.w) X.A (assign target X.env u) (fun _ s'=>∃ σ' H',Inv X pins σ' H' s'/\Q σ' H') X.xe s
noncomputable def PGs(X:Cx)(ts:List Expr)(t:TGs):Prop:=
 ∀ (pins:List (Addr×Obj)) (s:Shared) (σ:St) (H:Hp) (vs:List V) (us:List Value) (Q:St->Hp->Prop),Inv X pins σ H s->Vals vs us->t vs σ H Q ->
  wpAny (model X.prog X.w) X.A (assignInOrder ((assignEach ts X.env).map (·.2)) us) (fun _ s'=>∃ σ' H',Inv X pins σ' H' s'/\Q σ' H') X.xe s
noncomputable abbrev TSet:=V->V->V->Hp->(Hp->Prop)->Prop
noncomputable def PSet(X:Cx)(t:TSet):Prop:=
 ∀ (pins:List (Addr×Obj)) (s:Shared) (σ:St) (H:Hp) (o i v:V) (ov iv u:Value) (Q:Hp->Prop),Inv X pins σ H s->RelV o ov->RelV i iv->RelV v u->t o i v H Q ->
  wpAny (model X.prog X.w) X.A (setItem ov iv u) (fun _ s'=>∃ H',Inv X pins σ H' s'/\Q H') X.xe s
noncomputable abbrev TIp:=V->V->Hp->VK->Prop
noncomputable def PIp(X:Cx)(op:Operator)(t:TIp):Prop:=
 ∀ (pins:List (Addr×Obj)) (s:Shared) (σ:St) (H:Hp) (x y:V) (v u:Value) (Q:VK),Inv X pins σ H s->RelV x v->RelV y u->t x y H Q ->
  wpAny (model X.prog X.w) X.A (inplaceOp op v u) (EP X pins σ Q) X.xe s
section
variable {X:Cx}{pos:Pos}
noncomputable def gName(i:Nat):TG:=fun v σ H Q=>Q (σ.set i (some v)) H
theorem za7{x:Str}(hN:X.N.Nodup)(hi:X.N[i]?=some x)(hx:Loc X.env.scope x)(hf:X.fn x=true∨X.env.scope.names.lookup x=some .local:=by first|exact .inl rfl|exact .inr rfl|assumption):PG X (.Name x pos) (gName i):=by
 intro pins s σ H v u Q I r h
 exact wpAny_assign_Name (zab3 I hN hi hx r (fun s' I'=>⟨_,H,I',h⟩) hf)
noncomputable def gNil:TGs:=fun vs σ H Q=>vs=[]/\Q σ H
noncomputable def gCons(t:TG)(u:TGs):TGs:=fun vs σ H Q=>∃ v r,vs=v :: r/\t v σ H fun σ' H'=>u r σ' H' Q
theorem zcj8:PGs X [] gNil:=by
 intro pins s σ H vs us Q I r h
 obtain⟨e,h⟩:=h
 subst e
 cases r
 exact assignInOrder_nil ⟨σ,H,I,h⟩
theorem zcd7{es:List Expr}{t:TG}{u:TGs}(h1:PG X e t)(h2:PGs X es u)(hs:(assignEach (e :: es) X.env).map (·.2)=assign e X.env :: (assignEach es X.env).map (·.2):=by rfl):PGs X (e :: es) (gCons t u):=by
 intro pins s σ H vs us Q I r h
 obtain⟨v,vr,e1,h⟩:=h
 subst e1
 cases r with
 | cons r rr=>
  rw[hs]
  refine assignInOrder_cons (thn (h1 pins s σ H _ _ _ I r h) fun _ s1 ⟨σ1,H1,I1,q1⟩=>?_)
  exact h2 pins s1 σ1 H1 _ _ Q I1 rr q1
noncomputable def gTup(K:zcw1)(n:Nat)(t:TGs):TG:=fun v σ H Q=>∃ a xs,v=.ref a/\SqT K H a xs/\xs.length=n/\t xs σ H Q
theorem pg_tup{es:List Expr}{k:Nat}{t:TGs}{n:Nat}(hc:X.calm=true)(h:PGs X es t)(hn:(assignEach es X.env).length=n:=by rfl)(hst:(assignEach es X.env).findIdx? (·.1)=none:=by rfl):PG X (.Tuple es k pos) (gTup X.K n t):=by
 intro pins s σ H v u Q I r hw
 obtain⟨a,xs,e1,hq,hl,hw⟩:=hw
 subst e1
 cases r
 obtain⟨its,rv,ht,hz⟩:=I.tuple hq
 refine assign_Tuple_tuple (I.ok.hd hc) ht (by simp[hn,← hl,rv.length]) hst fun h' hx=>?_
 have I1:Inv X pins σ H { s with heap:=h' }:=I.kept (t':=s.toks) fun b o e=>hx b o (zcy4 (zcx3 e)) e
 exact h pins _ σ H xs _ Q I1 (by simpa using rv) hw
noncomputable def gSub(to ti:TE)(t:TSet):TG:=fun v σ H Q=>to σ H fun o H1=>ti σ H1 fun i H2=>t o i v H2 fun H3=>Q σ H3
theorem zag1{o i:Expr}{to ti:TE}{t:TSet}(ho:PE X o to)(hi:PE X i ti)(hs:PSet X t)(ha:∀ v,assign (.Subscript o i pos) X.env v=(do
   let ov ← holding [v] (eval o X.env)
   let iv ← holding [v,ov] (eval i X.env)
   standAt pos
   holding [v,ov,iv] (setItem ov iv v)
   release [v,ov,iv] []):=by intro _;rfl):PG X (.Subscript o i pos) (gSub to ti t):=by
 intro pins s σ H v u Q I r h
 rw[ha]
 refine zdf7 (zdg2 (thn (ho pins s σ H _ I h) fun ov s1 ⟨x,H1,I1,r1,q1⟩=>?_))
 refine zdf7 (zdg2 (thn (hi pins s1 σ H1 _ I1 q1) fun iv s2 ⟨y,H2,I2,r2,q2⟩=>?_))
 refine zdf7 (wpAny_standAt (zdf7 (zdg2 (thn (hs pins s2 σ H2 x y v ov iv u _ I2 r1 r2 r q2) fun _ s3 ⟨H3,I3,q3⟩=>?_))))
 exact wpAny_release ⟨σ,H3,I3,q3⟩
noncomputable def tAsg(te:TE)(g:TG):TS:=fun D σ H=>te σ H fun x H1=>g x σ H1 D.nx
theorem zx2{te:TE}{g:TG}(he:PE X e te)(hg:PG X tg g)(hs:swapsWithSole [tg] e pos.line X.env=pure false:=by rfl)(hw:swappedStores [tg] e X.env=pure none:=by rfl)(h1:(assignEach [tg] X.env).map (·.2)=[assign tg X.env]:=by rfl):PS X (.Assign [tg] e pos) (tAsg te g):=by
 intro pins s σ H D I h
 refine wpAny_Assign_stores (thn (he pins s σ H _ I h) fun v s1 ⟨x,H1,I1,r1,q1⟩=>?_) hs hw
 rw[h1]
 exact thn (hg pins s1 σ H1 x v _ I1 r1 q1) fun _ s2 q=>q
theorem ps_set{x:Str}{te:TE}{pos':Pos}(hN:X.N.Nodup)(hi:X.N[i]?=some x)(hx:Loc X.env.scope x)(he:PE X e te)(hs:swapsWith e (some (.Name x pos')) pos.line X.env=pure false:=by rfl)(hf:X.fn x=true∨X.env.scope.names.lookup x=some .local:=by first|exact .inl rfl|exact .inr rfl|assumption) :
  PS X (.Assign [.Name x pos'] e pos) (tAsg te (gName i)):=by
 intro pins s σ H D I h
 refine wpAny_Assign_Name (thn (he pins s σ H _ I h) fun v s1 ⟨y,H1,I1,r1,q1⟩=>?_) hs
 exact zab3 I1 hN hi hx r1 (fun s2 I2=>⟨_,H1,I2,q1⟩) hf
noncomputable def tAug(i:Nat)(te:TE)(ti:TIp):TS:=fun D σ H=>∃ x,σ[i]?=some (some x)/\te σ H fun y H1=>ti x y H1 fun z H2=>D.nx (σ.set i (some z)) H2
theorem ps_aug{x:Str}{te:TE}{op:Operator}{ti:TIp}{pos':Pos}(hN:X.N.Nodup)(hi:X.N[i]?=some x)(hx:Loc X.env.scope x)(he:PE X e te)(ho:PIp X op ti)(hf:X.fn x=true∨X.env.scope.names.lookup x=some .local:=by first|exact .inl rfl|exact .inr rfl|assumption) :
  PS X (.AugAssign (.Name x pos') op e pos) (tAug i te ti):=by
 intro pins s σ H D I h
 obtain⟨v,e1,h⟩:=h
 obtain⟨m,hn,hl⟩:=I.loc
 have vis:Vis X.env.scope x:=by rcases hx with k|k;exact .inl k;exact .inr (.inl k)
 obtain⟨u,r,l⟩:=hl i x v hi e1 vis
 refine wpAny_AugAssign_Name ?_
 have go:wpAny (model X.prog X.w) X.A (eval e X.env) (fun w s₂=>wpAny (model X.prog X.w) X.A (inplaceOp op u w) (fun r s₃=>wpAny (model X.prog X.w) X.A (storeName X.env x r) (fun _=>SP X pins D .next) X.xe s₃) X.xe s₂) X.xe s:=by
  refine thn (he pins s σ H _ I h) fun w s1 ⟨y,H1,I1,r1,q1⟩=>?_
  refine thn (ho pins s1 σ H1 v y u w _ I1 r r1 q1) fun z s2 ⟨zv,H2,I2,r2,q2⟩=>?_
  exact zab3 I2 hN hi hx r2 (fun s3 I3=>⟨_,H2,I3,q2⟩) hf
 rcases l with ⟨hk,hm⟩|⟨hk,c,hc,hcell⟩
 ·exact wpAny_loadName_local I.ok.kind hk hn hm go
 ·rcases hk with hk|hk
  ·exact wpAny_loadName_cell I.ok.kind hk hc hcell go
  ·rcases hx with k|k
   ·have:X.env.scope.names.lookup x=some .free:=hk
    rw[k] at this;cases this
   ·have:X.env.scope.names.lookup x=some .free:=hk
    rw[k] at this;cases this
end
section
variable {X:Cx}{pos:Pos}
noncomputable def tWhile(c:TT)(tb:TS):TS:=fun D σ H=>∃ W:Nat->St->Hp->Prop,(∃ m,W m σ H)/\∀ m σ H,W m σ H ->
 c σ H fun b H1=>if b=true then ∃ N:St->Hp->Prop,(∀ σ' H',N σ' H'->∃ m',m'<m/\W m' σ' H')/\tb { D with nx:=N,ct:=N,bk:=D.nx } σ H1 else D.nx σ H1
theorem zcb6{c:Expr}{body:List Stmt}{tc:TT}{tb:TS}(hp:PassesOwn (model X.prog X.w) X.A X.env X.xe)(hc:PT X c tc)(hb:PSs X body tb):PS X (.While c body [] pos) (tWhile tc tb):=by
 intro pins s σ H D I h
 obtain⟨W,⟨m0,w0⟩,turn⟩:=h
 refine wpAny_While (codeAny_whileLoop (fun n s'=>∃ σ' H',Inv X pins σ' H' s'/\W n σ' H') ?_ m0 ⟨σ,H,I,w0⟩)
 rintro n s1 ⟨σ1,H1,I1,w1⟩
 refine wpAny_passesOwn hp (thn (hc pins s1 σ1 H1 _ I1 (turn n σ1 H1 w1)) fun b s2 ⟨H2,I2,q2⟩=>?_)
 cases b with
 | true=>
  obtain⟨N,hN,q2⟩:=q2
  rw[if_pos rfl]
  refine wpAny_passesOwn hp (thn (hb pins s2 σ1 H2 _ I2 q2) fun f s3 q3=>?_)
  cases f with
  | next=>
   obtain⟨σ3,H3,I3,n3⟩:=q3
   obtain⟨m',hm,w3⟩:=hN σ3 H3 n3
   exact⟨m',hm,σ3,H3,I3,w3⟩
  | cont=>
   obtain⟨σ3,H3,I3,n3⟩:=q3
   obtain⟨m',hm,w3⟩:=hN σ3 H3 n3
   exact⟨m',hm,σ3,H3,I3,w3⟩
  | brk=>exact q3
  | ret v=>exact q3
 | false=>
  rw[if_neg zcx1]
  exact wpAny_execs_nil ⟨σ1,H2,I2,q2⟩
end
structure It where
 go:Nat->Hp->Prop
 yld:Nat->Hp->V->Hp->Prop
 stop:Nat->Hp->Prop
noncomputable def FpOk(X:Cx)(pins:List (Addr×Obj))(H:Hp)(b:Addr):Prop:=
 H b=none/\b≠X.env.locals/\b ∉ X.fs/\(b∈X.ex∨X.s₀.heap.objs.size<=b)/\(∀ x c,X.env.cells.lookup x=some c->c≠b)/\∀ p∈X.pn++pins,p.1≠b
theorem Inv.fpOk{X:Cx}{H':Hp}{b:Addr}(I:Inv X pins σ H s)(hb:s.heap.objs.size<=b)(hn:H' b=none):FpOk X pins H' b:=by
 refine⟨hn,Nat.ne_of_gt (zcx5 I.lt hb),I.nofs hb,.inr (zcy7 I.sz hb),fun x c e z=>?_,fun p hp z=>?_⟩
 ·obtain⟨v,q⟩:=I.cell x c e
  exact absurd (zcx5 q.lt (by rw[z];exact hb)) (zde2 _)
 ·exact absurd (zcx5 (zcx3 (I.pin p hp).1) (by rw[z];exact hb)) (zde2 _)
structure Turn(P:Program)(w:World)(K:zcw1)(tg:Expr)(J:It)(fp:List Addr)(it:Addr)(tn:Nat->Heap->Prop):Prop where
 mem:it∈fp
 obj:∀ i h,tn i h->∀ b∈fp,∃ o,h.get? b=some o/\∀ v,o.data≠.cell v
 keep:∀ i h h',tn i h->(∀ b∈fp,∀ o,h.get? b=some o->h'.get? b=some o)->tn i h'
 item:∀ (X:Cx),X.prog=P->X.w=w->X.K=K->X.calm=true->∀ (i:Nat) (pins:List (Addr×Obj)) (s:Shared) (σ:St) (H:Hp) (E:Value->Shared->Prop),Inv X pins σ H s->(∀ b∈fp,FpOk X pins H b)->tn i s.heap->J.go i H ->
  wpAny (model P w) X.A (pyNext (.ref it)) (fun r s1=>∃ u,r=some u /\
   wpAny (model P w) X.A (letOwnedTupleGo tg (.ref it) u) (fun _ s2=>∃ x H',Inv X pins σ H' s2/\RelV x u/\J.yld i H x H'/\tn (i+1) s2.heap/\∀ b∈fp,H' b=none) E s1) E s
 done:∀ (X:Cx),X.prog=P->X.w=w->X.K=K->X.calm=true->∀ (i:Nat) (pins:List (Addr×Obj)) (s:Shared) (σ:St) (H:Hp) (E:Value->Shared->Prop),Inv X pins σ H s->(∀ b∈fp,FpOk X pins H b)->tn i s.heap->J.stop i H ->
  wpAny (model P w) X.A (pyNext (.ref it)) (fun r s1=>r=none/\Inv X pins σ H s1) E s
 self:∀ (A:Around) (i:Nat) (s:Shared) (Q:Value->Shared->Prop) (E:Value->Shared->Prop),tn i s.heap->Q (.ref it) s->wpAny (model P w) A (pyIter (.ref it)) Q E s
noncomputable abbrev TI:=St->Hp->(It->Hp->Prop)->Prop
noncomputable def PIE(X:Cx)(pins:List (Addr×Obj))(σ:St)(tg:Expr)(R:It->Hp->Prop)(itv:Value)(s2:Shared):Prop:=
 ∃ (it:Addr) (fp:List Addr) (tn:Nat->Heap->Prop) (J:It) (H':Hp),itv=.ref it/\Inv X pins σ H' s2/\Turn X.prog X.w X.K tg J fp it tn/\tn 0 s2.heap/\(∀ b∈fp,FpOk X pins H' b)/\R J H'
noncomputable def PI(X:Cx)(tg iter:Expr)(wi:TI):Prop:=
 ∀ (pins:List (Addr×Obj)) (s:Shared) (σ:St) (H:Hp) (R:It->Hp->Prop),Inv X pins σ H s->wi σ H R ->
  wpAny (model X.prog X.w) X.A (eval iter X.env) (fun v s1=>wpAny (model X.prog X.w) X.A (pyIter v) (PIE X pins σ tg R) X.xe s1) X.xe s
theorem go_of{M:Model}{A:Around}{it:Addr}{o:Obj}{n:String}{vs:Array Value}{Q:Unit->Shared->Prop}(ho:s.heap.get? it=some o)(hc:o.cls=.type n)(hd:o.data=.fields vs)(hn:["enumerate","zip","dict_itemiterator","dict_reverseitemiterator","odict_iterator","itertools.zip_longest","itertools.pairwise"].contains n=false)(hQ:Q () s):wpAny M A (letOwnedTupleGo tg (.ref it) u) Q E s:=by
 unfold letOwnedTupleGo
 cases tg<;>first
  | exact zdf8 hQ
  | (cases u<;>first
    | exact zdf8 hQ
    | (refine zdf7 (wpAny_load ho ?_);rw[hc,hd];show wpAny M A (if (["enumerate","zip","dict_itemiterator","dict_reverseitemiterator","odict_iterator","itertools.zip_longest","itertools.pairwise"].contains n&&vs[0]?==some (rawInt _))=true then _ else _) Q E s;rw[if_neg (by intro h;rw[hn,Bool.false_and] at h;cases h)];exact zdf8 hQ))
noncomputable def Itl(K:zcw1)(a:Addr):It:=
 ⟨fun i H=>∃ xs x,SqL K H a xs/\xs[i]?=some x,fun i H x H'=>H'=H/\∀ xs,SqL K H a xs->xs[i]?=some x,fun i H=>∃ xs,SqL K H a xs/\xs.length<=i⟩
noncomputable def Itt(K:zcw1)(a:Addr):It:=
 ⟨fun i H=>∃ xs x,SqT K H a xs/\xs[i]?=some x,fun i H x H'=>H'=H/\∀ xs,SqT K H a xs->xs[i]?=some x,fun i H=>∃ xs,SqT K H a xs/\xs.length<=i⟩
noncomputable def Itr(lo:Int)(n:Nat):It:=⟨fun i _=>i<n,fun i H x H'=>H'=H/\x=.int (lo+i),fun i _=>n<=i⟩
theorem zby1{P:Program}{w:World}{K:zcw1}(a it:Addr):Turn P w K tg (Itl K a) [it] it (fun i h=>h.IsListIter it a i) where
 mem:=by simp
 obj:=fun i h st b hb=>by
  have e:b=it:=by simpa using hb
  subst e
  obtain⟨o,e,c,d⟩:=st
  exact⟨o,e,fun v z=>by rw[d] at z;cases z⟩
 keep:=fun i h h' st k=>st.at fun o e=>k it (by simp) o e
 item:=by
  intro X hP hw hK hc i pins s σ H E I hf st hg
  subst hP hw hK
  obtain⟨xs,x,hq,hx⟩:=hg
  obtain⟨its,rv,p,hz⟩:=I.list hq
  obtain⟨u,hu,ru⟩:=rv.get hx
  obtain⟨f0,f1,f2,f3,f4,f5⟩:=hf it (by simp)
  refine wpAny_pyNext_list_item st p.isList (x:=u) (by simpa using hu) fun h' st' sb=>?_
  have I1:Inv X pins σ H { s with heap:=h' }:=I.turned (t':=s.toks) (fun b o hb e=>(sb.2 b hb).trans e) f0 f1 f3 f4 f5
  obtain⟨o,e,c,d⟩:=id st'
  exact⟨u,rfl,go_of (s:={ s with heap:=h' }) e c d (by decide) ⟨x,H,I1,ru,⟨rfl,fun ys hy=>by rw[I.list_inj hy hq];exact hx⟩,st',fun b hb=>(hf b hb).1⟩⟩
 done:=by
  intro X hP hw hK hc i pins s σ H E I hf st hg
  subst hP hw hK
  obtain⟨xs,hq,hx⟩:=hg
  obtain⟨its,rv,p,hz⟩:=I.list hq
  obtain⟨f0,f1,f2,f3,f4,f5⟩:=hf it (by simp)
  have hl:=rv.length
  exact wpAny_pyNext_list_end (I.ok.hd hc) st p.isList (by simp;omega) fun h' eb=>⟨rfl,I.turned (t':=s.toks) (fun b o hb e=>eb b o hb e) f0 f1 f3 f4 f5⟩
 self:=fun _ _ _ _ _ st h=>wpAny_pyIter_listiter st h
theorem zbo5{P:Program}{w:World}{K:zcw1}(a it:Addr):Turn P w K tg (Itt K a) [it] it (fun i h=>h.IsTupleIter it a i) where
 mem:=by simp
 obj:=fun i h st b hb=>by
  have e:b=it:=by simpa using hb
  subst e
  obtain⟨o,e,c,d⟩:=st
  exact⟨o,e,fun v z=>by rw[d] at z;cases z⟩
 keep:=fun i h h' st k=>st.at fun o e=>k it (by simp) o e
 item:=by
  intro X hP hw hK hc i pins s σ H E I hf st hg
  subst hP hw hK
  obtain⟨xs,x,hq,hx⟩:=hg
  obtain⟨its,rv,p,hz⟩:=I.tuple hq
  obtain⟨u,hu,ru⟩:=rv.get hx
  obtain⟨f0,f1,f2,f3,f4,f5⟩:=hf it (by simp)
  refine wpAny_pyNext_tuple_item st (show s.heap.IsTuple a its.toArray from p) (x:=u) (by simpa using hu) fun h' st' sb=>?_
  have I1:Inv X pins σ H { s with heap:=h' }:=I.turned (t':=s.toks) (fun b o hb e=>(sb.2 b hb).trans e) f0 f1 f3 f4 f5
  obtain⟨o,e,c,d⟩:=id st'
  exact⟨u,rfl,go_of (s:={ s with heap:=h' }) e c d (by decide) ⟨x,H,I1,ru,⟨rfl,fun ys hy=>by rw[I.tuple_inj hy hq];exact hx⟩,st',fun b hb=>(hf b hb).1⟩⟩
 done:=by
  intro X hP hw hK hc i pins s σ H E I hf st hg
  subst hP hw hK
  obtain⟨xs,hq,hx⟩:=hg
  obtain⟨its,rv,p,hz⟩:=I.tuple hq
  obtain⟨f0,f1,f2,f3,f4,f5⟩:=hf it (by simp)
  have hl:=rv.length
  exact wpAny_pyNext_tuple_end (I.ok.hd hc) st (show s.heap.IsTuple a its.toArray from p) (by simp;omega) fun h' eb=>⟨rfl,I.turned (t':=s.toks) (fun b o hb e=>eb b o hb e) f0 f1 f3 f4 f5⟩
 self:=fun _ _ _ _ _ st h=>wpAny_pyIter_tupleiter st h
theorem zbo2{P:Program}{w:World}{K:zcw1}(it:Addr)(lo:Int)(n:Nat):Turn P w K tg (Itr lo n) [it] it (fun i h=>IsRangeIter h it (lo+(i:Nat)*1) ((n:Int) - (i:Nat)) 1) where
 mem:=by simp
 obj:=fun i h st b hb=>by
  have e:b=it:=by simpa using hb
  subst e
  exact⟨_,st,fun v z=>by
   have z':Data.fields _=Data.cell v:=z
   cases z'⟩
 keep:=fun i h h' st k=>k it (by simp) _ st
 item:=by
  intro X hP hw hK hc i pins s σ H E I hf st hg
  subst hP hw hK
  obtain⟨f0,f1,f2,f3,f4,f5⟩:=hf it (by simp)
  have W:=Walks.range (prog:=X.prog) (w:=X.w) (I.ok.hd hc) it lo 1 n
  refine W.item i s _ _ hg st fun v h' tk hv st' kk=>?_
  obtain⟨t,rfl⟩:=hv
  have I1:Inv X pins σ H { s with heap:=h',toks:=tk }:=I.turned (fun b o hb e=>kk b o (by simpa using hb) e) f0 f1 f3 f4 f5
  refine⟨_,rfl,go_of (s:={ s with heap:=h',toks:=tk }) (n:="range_iterator") st' rfl rfl (by decide) ⟨.int (lo+i),H,I1,⟨t,?_⟩,⟨rfl,rfl⟩,st',fun b hb=>(hf b hb).1⟩⟩
  rw[zdf5]
 done:=by
  intro X hP hw hK hc i pins s σ H E I hf st hg
  subst hP hw hK
  obtain⟨f0,f1,f2,f3,f4,f5⟩:=hf it (by simp)
  exact wpAny_pyNext_range_end (I.ok.hd hc) st (by have:n<=i:=hg;omega) fun h' eb=>⟨rfl,I.turned (t':=s.toks) (fun b o hb e=>eb b o hb e) f0 f1 f3 f4 f5⟩
 self:=fun _ _ _ _ _ st h=>wpAny_pyIter_rangeiter st h
section
variable {X:Cx}{tg:Expr}
theorem zbl8{R:It->Hp->Prop}{lo hi:Int}{t u v:Tok}{tk:Nat}(I:Inv X pins σ H s)(h1:-(2 ^ 62)<=lo)(h2:lo<2 ^ 62)(h3:-(2 ^ 62)<=hi)(h4:hi<2 ^ 62)(q:R (Itr lo (hi - lo).toNat) H):wpAny (model X.prog X.w) X.A (pyIter (.ref s.heap.objs.size)) (PIE X pins σ tg R) E { s with heap:=s.heap.push { cls:=.type "range",data:=.fields #[.int lo t,.int hi u,.int 1 v] },toks:=tk }:=by
 refine wpAny_pyIter_range (IsRange.new ..) (small_one h1 h2 h3 h4) ?_
 have I1:Inv X pins σ H { s with heap:=s.heap.push { cls:=.type "range",data:=.fields #[.int lo t,.int hi u,.int 1 v] },toks:=tk }:=I.kept fun b o e=>zcw5 _ e
 refine⟨(s.heap.push { cls:=.type "range",data:=.fields #[.int lo t,.int hi u,.int 1 v] }).objs.size,[(s.heap.push { cls:=.type "range",data:=.fields #[.int lo t,.int hi u,.int 1 v] }).objs.size],_,_,H,rfl,
  I1.kept (t':=tk) fun b o e=>zcw5 _ e,zbo2 _ lo (hi - lo).toNat,?_,fun b hb=>?_,q⟩
 ·have e1:lo+((0:Nat):Int)*1=lo:=by simp
  have e2:(((hi - lo).toNat:Nat):Int) - ((0:Nat):Int)=Builtin.Range.rangeSize lo hi 1:=by rw[rangeSize_one];split<;>omega
  show IsRangeIter _ _ (lo+((0:Nat):Int)*1) ((((hi - lo).toNat:Nat):Int) - ((0:Nat):Int)) 1
  rw[e1,e2]
  exact zcx7 _ rfl
 ·have e:b=(s.heap.push { cls:=.type "range",data:=.fields #[.int lo t,.int hi u,.int 1 v] }).objs.size:=by simpa using hb
  subst e
  exact I1.fpOk (zcw4 _) (I1.hok.fresh (zcw4 _))
noncomputable def tFor(wi:TI)(g:TG)(tb:TS):TS:=fun D σ H=>wi σ H fun J H1=>∃ W:Nat->Nat->St->Hp->Prop,(∃ m,W 0 m σ H1)/\∀ i m σ H,W i m σ H ->
 (J.stop i H/\D.nx σ H)∨(J.go i H/\∃ N:St->Hp->Prop,(∀ σ' H',N σ' H'->∃ m',m'<m/\W (i+1) m' σ' H')/\∀ x H',J.yld i H x H'->g x σ H' fun σ2 H2=>tb { D with nx:=N,ct:=N,bk:=D.nx } σ2 H2)
noncomputable def zaz0(fp:List Addr)(h:Heap):List (Addr×Obj):=fp.filterMap fun b=>(h.get? b).map fun o=>(b,o)
theorem zz2{fp:List Addr}{b:Addr}{o:Obj}(hb:b∈fp)(e:h.get? b=some o):(b,o)∈zaz0 fp h:=List.mem_filterMap.mpr ⟨b,hb,by rw[e];rfl⟩
theorem zbz2{fp:List Addr}{p:Addr×Obj}(hp:p∈zaz0 fp h):p.1∈fp/\h.get? p.1=some p.2:=by
 obtain⟨b,hb,e⟩:=List.mem_filterMap.mp hp
 cases q:h.get? b with
 | none=>rw[q] at e;cases e
 | some o=>
  rw[q] at e
  have e':(b,o)=p:=Option.some.inj e
  subst e'
  exact⟨hb,q⟩
theorem Inv.pinned{fp:List Addr}(I:Inv X pins σ H s)(hf:∀ b∈fp,FpOk X pins H b)(ho:∀ b∈fp,∃ o,s.heap.get? b=some o/\∀ v,o.data≠.cell v):Inv X (pins++zaz0 fp s.heap) σ H s:=
 I.pins_of fun p hp=>(zda5.mp hp).elim (fun z=>I.pin p (zcz2 _ z)) fun z=>by
  obtain⟨hb,e⟩:=zbz2 z
  obtain⟨f0,f1,f2,_⟩:=hf p.1 hb
  obtain⟨o,e',d⟩:=ho p.1 hb
  rw[e] at e';cases e'
  exact⟨e,f0,f1,f2,d⟩
theorem Inv.unpinned{pl:List (Addr×Obj)}(I:Inv X (pins++pl) σ H s):Inv X pins σ H s:=I.pins_of fun p hp=>I.pin p (zcz2 _ (List.mem_append_left _ hp))
theorem ps_for{iter:Expr}{body:List Stmt}{wi:TI}{g:TG}{tb:TS}{pos:Pos}(hp:PassesOwn (model X.prog X.w) X.A X.env X.xe)(hc:X.calm=true)(hi:PI X tg iter wi)(hg:PG X tg g)(hb:PSs X body tb)(hs:∀ x,foldedSetIterable iter X.env x=pure x:=by intro _;rfl):PS X (.For tg iter body [] pos) (tFor wi g tb):=by
 intro pins s σ H D I h
 refine wpAny_For (thn (hi pins s σ H _ I h) fun v s1 h1=>thn h1 fun itv s2 h2=>?_) hs
 obtain⟨it,fp,tn,J,H2,e,I2,T,st2,f2,W,⟨m0,w0⟩,turn⟩:=h2
 subst e
 have stat:∀ {H':Hp},(∀ b∈fp,H' b=none)->∀ b∈fp,FpOk X pins H' b:=fun hn b hb=>⟨hn b hb,(f2 b hb).2⟩
 refine codeAny_forLoop_any (fun n s'=>∃ i σ' H',Inv X pins σ' H' s'/\tn i s'.heap/\(∀ b∈fp,H' b=none)/\W i n σ' H') ?_ m0 ⟨0,σ,H2,I2,st2,fun b hb=>(f2 b hb).1,w0⟩
 rintro n s3 ⟨i,σ3,H3,I3,st3,fr3,w3⟩
 rcases turn i n σ3 H3 w3 with ⟨stop,qn⟩|⟨go,N,hN,step⟩
 ·refine wpAny_passesOwn hp (thn (T.done X rfl rfl rfl hc i pins s3 σ3 H3 X.xe I3 (stat fr3) st3 stop) fun r s4 ⟨hr,I4⟩=>?_)
  subst hr
  exact wpAny_execs_nil ⟨σ3,H3,I4,qn⟩
 ·refine wpAny_passesOwn hp (thn (T.item X rfl rfl rfl hc i pins s3 σ3 H3 X.xe I3 (stat fr3) st3 go) fun r s4 ⟨u,hr,h4⟩=>?_)
  subst hr
  refine wpAny_passesOwn hp (thn h4 fun _ s5 ⟨x,H5,I5,r5,y5,st5,fr5⟩=>?_)
  have I5':=I5.pinned (stat fr5) (T.obj _ _ st5)
  refine wpAny_passesOwn hp (thn (hg _ s5 σ3 H5 x u _ I5' r5 (step x H5 y5)) fun _ s6 ⟨σ6,H6,I6,q6⟩=>?_)
  refine wpAny_passesOwn hp (thn (hb _ s6 σ6 H6 _ I6 q6) fun f s7 q7=>?_)
  have again:∀ {σ7:St}{H7:Hp},Inv X (pins++zaz0 fp s5.heap) σ7 H7 s7->N σ7 H7->∃ m,m<n/\∃ i σ' H',Inv X pins σ' H' s7/\tn i s7.heap/\(∀ b∈fp,H' b=none)/\W i m σ' H':=fun {σ7 H7} I7 n7=>by
   obtain⟨m',hm,w7⟩:=hN σ7 H7 n7
   refine⟨m',hm,i+1,σ7,H7,I7.unpinned,T.keep _ _ _ st5 fun b hb o e=>(I7.pin (b,o) (zcz2 _ (zcz2 _ (zz2 hb e)))).1,fun b hb=>?_,w7⟩
   obtain⟨o,e,d⟩:=T.obj _ _ st5 b hb
   exact (I7.pin (b,o) (zcz2 _ (zcz2 _ (zz2 hb e)))).2.1
  cases f with
  | next=>obtain⟨σ7,H7,I7,n7⟩:=q7;exact again I7 n7
  | cont=>obtain⟨σ7,H7,I7,n7⟩:=q7;exact again I7 n7
  | brk=>obtain⟨σ7,H7,I7,q7⟩:=q7;exact⟨σ7,H7,I7.unpinned,q7⟩
  | ret v=>obtain⟨x7,σ7,H7,I7,r7,q7⟩:=q7;exact⟨x7,σ7,H7,I7.unpinned,r7,q7⟩
end
theorem zca9{K:zcw1}{a:Addr}{xs:List V}{g:TG}{tb:TS}{D:Ends}(Pv:Nat->St->Hp->Prop)(h0:Pv 0 σ H)(hl:∀ i σ H,i<=xs.length->Pv i σ H->SqL K H a xs)(hs:∀ i x σ H,xs[i]?=some x->Pv i σ H->g x σ H fun σ2 H2=>tb { D with nx:=Pv (i+1),ct:=Pv (i+1),bk:=D.nx } σ2 H2)(hd:∀ σ H,Pv xs.length σ H->D.nx σ H) :
  ∃ W:Nat->Nat->St->Hp->Prop,(∃ m,W 0 m σ H)/\∀ i m σ H,W i m σ H ->
   ((Itl K a).stop i H/\D.nx σ H)∨((Itl K a).go i H/\∃ N:St->Hp->Prop,(∀ σ' H',N σ' H'->∃ m',m'<m/\W (i+1) m' σ' H')/\∀ x H',(Itl K a).yld i H x H'->g x σ H' fun σ2 H2=>tb { D with nx:=N,ct:=N,bk:=D.nx } σ2 H2):=by
 refine⟨fun i m σ H=>m=xs.length - i/\i<=xs.length/\Pv i σ H,⟨xs.length,by simp,zcz6 _,h0⟩,?_⟩
 rintro i m σ H ⟨rfl,hi,p⟩
 have q:=hl i σ H hi p
 by_cases hlt:i<xs.length
 ·refine .inr ⟨⟨xs,xs[i],q,by simp[hlt]⟩,Pv (i+1),fun σ' H' p'=>⟨xs.length - (i+1),by omega,rfl,hlt,p'⟩,fun x H' y=>?_⟩
  obtain⟨e,y⟩:=y
  subst e
  exact hs i x σ _ (y xs q) p
 ·have e:i=xs.length:=by omega
  subst e
  exact .inl ⟨⟨xs,q,zcw4 _⟩,hd σ H p⟩
theorem zbs1{lo:Int}{n:Nat}{g:TG}{tb:TS}{D:Ends}(Pv:Nat->St->Hp->Prop)(h0:Pv 0 σ H)(hs:∀ i σ H,i<n->Pv i σ H->g (.int (lo+i)) σ H fun σ2 H2=>tb { D with nx:=Pv (i+1),ct:=Pv (i+1),bk:=D.nx } σ2 H2)(hd:∀ σ H,Pv n σ H->D.nx σ H) :
  ∃ W:Nat->Nat->St->Hp->Prop,(∃ m,W 0 m σ H)/\∀ i m σ H,W i m σ H ->
   ((Itr lo n).stop i H/\D.nx σ H)∨((Itr lo n).go i H/\∃ N:St->Hp->Prop,(∀ σ' H',N σ' H'->∃ m',m'<m/\W (i+1) m' σ' H')/\∀ x H',(Itr lo n).yld i H x H'->g x σ H' fun σ2 H2=>tb { D with nx:=N,ct:=N,bk:=D.nx } σ2 H2):=by
 refine⟨fun i m σ H=>m=n - i/\i<=n/\Pv i σ H,⟨n,by simp,zcz6 _,h0⟩,?_⟩
 rintro i m σ H ⟨rfl,hi,p⟩
 by_cases hlt:i<n
 ·refine .inr ⟨hlt,Pv (i+1),fun σ' H' p'=>⟨n - (i+1),by omega,rfl,hlt,p'⟩,fun x H' y=>?_⟩
  obtain⟨e,y⟩:=y
  subst e y
  exact hs i σ _ hlt p
 ·have e:i=n:=by omega
  subst e
  exact .inl ⟨zcw4 _,hd σ H p⟩
noncomputable abbrev R2:=V->V->Hp->VK->Prop
noncomputable def OpR(X:Cx)(f:Value->Value->Sem Value)(r:R2):Prop:=
 ∀ (pins:List (Addr×Obj)) (s:Shared) (σ:St) (H:Hp) (x y:V) (v u:Value) (Q:VK),Inv X pins σ H s->RelV x v->RelV y u->r x y H Q ->
  wpAny (model X.prog X.w) X.A (f v u) (EP X pins σ Q) X.xe s
noncomputable def UnR(X:Cx)(f:Value->Sem Value)(r:V->Hp->VK->Prop):Prop:=
 ∀ (pins:List (Addr×Obj)) (s:Shared) (σ:St) (H:Hp) (x:V) (v:Value) (Q:VK),Inv X pins σ H s->RelV x v->r x H Q ->
  wpAny (model X.prog X.w) X.A (f v) (EP X pins σ Q) X.xe s
noncomputable def zq1(X:Cx)(f:Value)(r:List V->Hp->VK->Prop):Prop:=
 ∀ (pins:List (Addr×Obj)) (s:Shared) (σ:St) (H:Hp) (xs:List V) (us:List Value) (Q:VK),Inv X pins σ H s->Vals xs us->r xs H Q ->
  wpAny (model X.prog X.w) X.A (call f us) (EP X pins σ Q) X.xe s
noncomputable def TruR(X:Cx)(r:V->Hp->(Bool->Hp->Prop)->Prop):Prop:=
 ∀ (pins:List (Addr×Obj)) (s:Shared) (σ:St) (H:Hp) (x:V) (v:Value) (Q:Bool->Hp->Prop),Inv X pins σ H s->RelV x v->r x H Q ->
  wpAny (model X.prog X.w) X.A (truthy v) (TP X pins σ Q) X.xe s
noncomputable def tOp(r:R2)(ta tb:TE):TE:=fun σ H Q=>ta σ H fun x H1=>tb σ H1 fun y H2=>r x y H2 Q
noncomputable def tUn(r:V->Hp->VK->Prop)(ta:TE):TE:=fun σ H Q=>ta σ H fun x H1=>r x H1 Q
noncomputable def rI(C:Int->Int->Prop)(g:Int->Int->V):R2:=fun x y H Q=>∃ i j,x=.int i/\y=.int j/\C i j/\Q (g i j) H
noncomputable def rI0(g:Int->Int->V):R2:=fun x y H Q=>∃ i j,x=.int i/\y=.int j/\Q (g i j) H
noncomputable def rU(g:Int->V):V->Hp->VK->Prop:=fun x H Q=>∃ i,x=.int i/\Q (g i) H
section
variable {X:Cx}{a b c:Expr}{ta tb tc:TE}{pos:Pos}
theorem binT(ha:PE X a ta)(hb:PE X b tb){R:V->V->Hp->Prop}(I:Inv X pins σ H s)(h:ta σ H fun x H1=>tb σ H1 fun y H2=>R x y H2){f:Value->Value->Sem Value}(hf:∀ v u s2 x y H2,Inv X pins σ H2 s2->RelV x v->RelV y u->R x y H2->wpAny (model X.prog X.w) X.A (f v u) Q X.xe s2) :
  wpAny (model X.prog X.w) X.A (eval a X.env) (fun v s₁=>wpAny (model X.prog X.w) X.A (eval b X.env) (fun u s₂=>wpAny (model X.prog X.w) X.A (f v u) Q X.xe s₂) X.xe s₁) X.xe s:=by
 refine thn (ha pins s σ H _ I h) fun v s1 ⟨x,H1,I1,r1,q1⟩=>?_
 refine thn (hb pins s1 σ H1 _ I1 q1) fun u s2 ⟨y,H2,I2,r2,q2⟩=>?_
 exact hf v u s2 x y H2 I2 r1 r2 q2
theorem zb2{op:Operator}{r:R2}(ho:OpR X (binaryOp op) r)(ha:PE X a ta)(hb:PE X b tb):PE X (.BinOp a op b pos) (tOp r ta tb):=by
 intro pins s σ H Q I h
 exact wpAny_BinOp (binT ha hb I h fun v u s2 x y H2 I2 rx ry q=>ho pins s2 σ H2 x y v u Q I2 rx ry q)
theorem zw6{op:UnaryOp}{r:V->Hp->VK->Prop}(ho:UnR X (unaryOp op) r)(ha:PE X a ta):PE X (.UnaryOp op a pos) (tUn r ta):=by
 intro pins s σ H Q I h
 exact UnaryOp_ (thn (ha pins s σ H _ I h) fun v s1 ⟨x,H1,I1,r1,q1⟩=>ho pins s1 σ H1 x v Q I1 r1 q1)
theorem opI{f:Value->Value->Sem Value}{C:Int->Int->Prop}{g:Int->Int->Int}(rule:∀ (i j:Int) (t u:Tok) (s:Shared) (Q:Value->Shared->Prop) (E:Value->Shared->Prop),C i j->Q (.int (g i j) s.toks) { s with toks:=s.toks+1 }->wpAny (model X.prog X.w) X.A (f (.int i t) (.int j u)) Q E s) :
  OpR X f (rI C fun i j=>.int (g i j)):=by
 intro pins s σ H x y v u Q I rx ry h
 obtain⟨i,j,rfl,rfl,hc,q⟩:=h
 obtain⟨t,rfl⟩:=rx
 obtain⟨t',rfl⟩:=ry
 exact rule i j t t' s _ _ hc ⟨.int (g i j),H,I.tok _,⟨_,rfl⟩,q⟩
theorem opI0{f:Value->Value->Sem Value}{g:Int->Int->Int}(rule:∀ (i j:Int) (t u:Tok) (s:Shared) (Q:Value->Shared->Prop) (E:Value->Shared->Prop),Q (.int (g i j) s.toks) { s with toks:=s.toks+1 }->wpAny (model X.prog X.w) X.A (f (.int i t) (.int j u)) Q E s) :
  OpR X f (rI0 fun i j=>.int (g i j)):=by
 intro pins s σ H x y v u Q I rx ry h
 obtain⟨i,j,rfl,rfl,q⟩:=h
 obtain⟨t,rfl⟩:=rx
 obtain⟨t',rfl⟩:=ry
 exact rule i j t t' s _ _ ⟨.int (g i j),H,I.tok _,⟨_,rfl⟩,q⟩
theorem opB0{f:Value->Value->Sem Value}{g:Int->Int->Bool}(rule:∀ (i j:Int) (t u:Tok) (s:Shared) (Q:Value->Shared->Prop) (E:Value->Shared->Prop),Q (.bool (g i j)) s->wpAny (model X.prog X.w) X.A (f (.int i t) (.int j u)) Q E s) :
  OpR X f (rI0 fun i j=>.bl (g i j)):=by
 intro pins s σ H x y v u Q I rx ry h
 obtain⟨i,j,rfl,rfl,q⟩:=h
 obtain⟨t,rfl⟩:=rx
 obtain⟨t',rfl⟩:=ry
 exact rule i j t t' s _ _ ⟨.bl (g i j),H,I,rfl,q⟩
noncomputable def CPow(i j:Int):Prop:=0<=j/\j<=1000000/\i.natAbs<2 ^ 64
noncomputable def CMul(i j:Int):Prop:=(-(2 ^ 64)<i/\i<2 ^ 64)∨(-(2 ^ 64)<j/\j<2 ^ 64)
theorem CMul.ok{i j:Int}(h:CMul i j):IntMulOk i j:=by
 rcases h with ⟨h1,h2⟩|⟨h1,h2⟩
 ·exact .of_left (intBits_le_64 h1 h2)
 ·exact .of_right (intBits_le_64 h1 h2)
theorem op_add:OpR X (binaryOp .Add) (rI0 fun i j=>.int (i+j)):=opI0 fun _ _ _ _ _ _ _ q=>add_int q
theorem op_sub:OpR X (binaryOp .Sub) (rI0 fun i j=>.int (i - j)):=opI0 fun _ _ _ _ _ _ _ q=>sub_int q
theorem zci1:OpR X (binaryOp .Mod) (rI (fun _ j=>j≠0) fun i j=>.int (i.fmod j)):=opI fun _ _ _ _ _ _ _ hc q=>mod_int' hc q
theorem op_pow:OpR X (binaryOp .Pow) (rI CPow fun i j=>.int (i ^ j.toNat)):=opI fun _ _ _ _ _ _ _ hc q=>pow_int_small hc.1 hc.2.1 hc.2.2 q
theorem zco8:OpR X (inplaceOp .Add) (rI0 fun i j=>.int (i+j)):=opI0 fun _ _ _ _ _ _ _ q=>iadd_int q
theorem zcj9:OpR X (inplaceOp .Sub) (rI0 fun i j=>.int (i - j)):=opI0 fun _ _ _ _ _ _ _ q=>isub_int q
theorem unI{f:Value->Sem Value}{g:Int->Int}(rule:∀ (i:Int) (t:Tok) (s:Shared) (Q:Value->Shared->Prop) (E:Value->Shared->Prop),Q (.int (g i) s.toks) { s with toks:=s.toks+1 }->wpAny (model X.prog X.w) X.A (f (.int i t)) Q E s) :
  UnR X f (rU fun i=>.int (g i)):=by
 intro pins s σ H x v Q I rx h
 obtain⟨i,rfl,q⟩:=h
 obtain⟨t,rfl⟩:=rx
 exact rule i t s _ _ ⟨.int (g i),H,I.tok _,⟨_,rfl⟩,q⟩
theorem un_neg:UnR X (unaryOp .USub) (rU fun i=>.int (-i)):=unI fun _ _ _ _ _ q=>neg_int q
end
noncomputable def scal:V->V->Bool
 | .non,.non=>true | .non,.int _=>true | .int _,.non=>true | .non,.bl _=>true | .bl _,.non=>true | .non,.str _=>true | .str _,.non=>true
 | .int _,.int _=>true | .bl _,.bl _=>true | .str _,.str _=>true | .byt _,.byt _=>true
 | .int _,.str _=>true | .str _,.int _=>true | .bl _,.str _=>true | .str _,.bl _=>true
 | _,_=>false
noncomputable def rEq:R2:=fun x y H Q=>scal x y=true/\Q (.bl (decide (x=y))) H
noncomputable def rNe:R2:=fun x y H Q=>scal x y=true/\Q (.bl (!decide (x=y))) H
theorem zbv9{i j:Int}:decide (V.int i=V.int j)=(i==j):=by
 rw[Bool.eq_iff_iff]
 simp
theorem zch4{i j:Bool}:decide (V.bl i=V.bl j)=(i==j):=by
 rw[Bool.eq_iff_iff]
 simp
theorem zbw1{i j:Str}:decide (V.str i=V.str j)=(i==j):=by
 rw[Bool.eq_iff_iff]
 simp
theorem zbt9{i j:Array UInt8}:decide (V.byt i=V.byt j)=(i.toList==j.toList):=by
 rw[Bool.eq_iff_iff]
 cases i
 cases j
 simp
section
variable {X:Cx}{a b c:Expr}{ta tb tc:TE}{pos:Pos}
theorem ze5{Q:VK}{k k':Bool}(I:Inv X pins σ H s)(q:Q (.bl k) H)(e:k=k'):EP X pins σ Q (.bool k') s:=by
 subst e
 exact⟨.bl k,H,I,rfl,q⟩
theorem zbg6:OpR X (compareOp .Eq) rEq:=by
 intro pins s σ H x y v u Q I rx ry h
 obtain⟨hs,q⟩:=h
 cases x with
 | non=>
  cases rx
  cases y with
  | non=>cases ry;exact PySem.EqNone.eq_none_none (ze5 I q (by simp))
  | bl j=>cases ry;exact PySem.EqNone.eq_none_bool (ze5 I q (by simp))
  | int j=>obtain⟨t',rfl⟩:=ry;exact PySem.EqNone.eq_none_int (ze5 I q (by simp))
  | str j=>obtain⟨t',rfl⟩:=ry;exact PySem.EqNone.eq_none_str (ze5 I q (by simp))
  | _=>exact absurd (show false=true from hs) zcx1
 | bl i=>
  cases rx
  cases y with
  | non=>cases ry;exact PySem.EqNone.eq_bool_none (ze5 I q (by simp))
  | bl j=>cases ry;exact eq_bool (ze5 I q zch4)
  | str j=>obtain⟨t',rfl⟩:=ry;exact PySem.EqMixed.eq_bool_str (ze5 I q (by simp))
  | _=>exact absurd (show false=true from hs) zcx1
 | int i=>
  obtain⟨t,rfl⟩:=rx
  cases y with
  | non=>cases ry;exact PySem.EqNone.eq_int_none (ze5 I q (by simp))
  | int j=>obtain⟨t',rfl⟩:=ry;exact eq_int (ze5 I q zbv9)
  | str j=>obtain⟨t',rfl⟩:=ry;exact PySem.EqMixed.eq_int_str (ze5 I q (by simp))
  | _=>exact absurd (show false=true from hs) zcx1
 | str i=>
  obtain⟨t,rfl⟩:=rx
  cases y with
  | non=>cases ry;exact PySem.EqNone.eq_str_none (ze5 I q (by simp))
  | bl j=>cases ry;exact PySem.EqMixed.eq_str_bool (ze5 I q (by simp))
  | int j=>obtain⟨t',rfl⟩:=ry;exact PySem.EqMixed.eq_str_int (ze5 I q (by simp))
  | str j=>obtain⟨t',rfl⟩:=ry;exact eq_str (ze5 I q zbw1)
  | _=>exact absurd (show false=true from hs) zcx1
 | byt i=>
  obtain⟨t,rfl⟩:=rx
  cases y with
  | byt j=>obtain⟨t',rfl⟩:=ry;exact PySem.W.eq_bytes (ze5 I q zbt9)
  | _=>exact absurd (show false=true from hs) zcx1
 | _=>cases y<;>exact absurd (show false=true from hs) zcx1
theorem zbd5:OpR X (compareOp .NotEq) rNe:=by
 intro pins s σ H x y v u Q I rx ry h
 obtain⟨hs,q⟩:=h
 cases x with
 | non=>
  cases rx
  cases y with
  | non=>cases ry;exact PySem.EqNone.ne_none_none (ze5 I q (by simp))
  | bl j=>cases ry;exact PySem.EqNone.ne_none_bool (ze5 I q (by simp))
  | int j=>obtain⟨t',rfl⟩:=ry;exact PySem.EqNone.ne_none_int (ze5 I q (by simp))
  | str j=>obtain⟨t',rfl⟩:=ry;exact PySem.EqNone.ne_none_str (ze5 I q (by simp))
  | _=>exact absurd (show false=true from hs) zcx1
 | bl i=>
  cases rx
  cases y with
  | non=>cases ry;exact PySem.EqNone.ne_bool_none (ze5 I q (by simp))
  | bl j=>cases ry;exact ne_bool (ze5 I q (congrArg not zch4))
  | str j=>obtain⟨t',rfl⟩:=ry;exact PySem.EqMixed.ne_bool_str (ze5 I q (by simp))
  | _=>exact absurd (show false=true from hs) zcx1
 | int i=>
  obtain⟨t,rfl⟩:=rx
  cases y with
  | non=>cases ry;exact PySem.EqNone.ne_int_none (ze5 I q (by simp))
  | int j=>obtain⟨t',rfl⟩:=ry;exact ne_int (ze5 I q (congrArg not zbv9))
  | str j=>obtain⟨t',rfl⟩:=ry;exact PySem.EqMixed.ne_int_str (ze5 I q (by simp))
  | _=>exact absurd (show false=true from hs) zcx1
 | str i=>
  obtain⟨t,rfl⟩:=rx
  cases y with
  | non=>cases ry;exact PySem.EqNone.ne_str_none (ze5 I q (by simp))
  | bl j=>cases ry;exact PySem.EqMixed.ne_str_bool (ze5 I q (by simp))
  | int j=>obtain⟨t',rfl⟩:=ry;exact PySem.EqMixed.ne_str_int (ze5 I q (by simp))
  | str j=>obtain⟨t',rfl⟩:=ry;exact ne_str (ze5 I q (congrArg not zbw1))
  | _=>exact absurd (show false=true from hs) zcx1
 | byt i=>
  obtain⟨t,rfl⟩:=rx
  cases y with
  | byt j=>obtain⟨t',rfl⟩:=ry;exact PySem.W.ne_bytes (ze5 I q (congrArg not zbt9))
  | _=>exact absurd (show false=true from hs) zcx1
 | _=>cases y<;>exact absurd (show false=true from hs) zcx1
theorem op_lt:OpR X (compareOp .Lt) (rI0 fun i j=>.bl (decide (i<j))):=opB0 fun _ _ _ _ _ _ _ q=>lt_int q
theorem op_le:OpR X (compareOp .LtE) (rI0 fun i j=>.bl (decide (i<=j))):=opB0 fun _ _ _ _ _ _ _ q=>le_int q
theorem op_gt:OpR X (compareOp .Gt) (rI0 fun i j=>.bl (decide (j<i))):=opB0 fun _ _ _ _ _ _ _ q=>gt_int q
theorem op_ge:OpR X (compareOp .GtE) (rI0 fun i j=>.bl (decide (j<=i))):=opB0 fun _ _ _ _ _ _ _ q=>ge_int q
theorem op_isN:OpR X (compareOp .Is) (fun x y H Q=>y=.non/\Q (.bl (decide (x=.non))) H):=by
 intro pins s σ H x y v u Q I rx ry h
 obtain⟨rfl,q⟩:=h
 cases ry
 refine is_none_gen (ze5 I q ?_)
 cases x<;>first
  | (cases rx;rfl)
  | (obtain⟨t,rfl⟩:=rx;rfl)
theorem zci8:OpR X (compareOp .IsNot) (fun x y H Q=>y=.non/\Q (.bl (!decide (x=.non))) H):=by
 intro pins s σ H x y v u Q I rx ry h
 obtain⟨rfl,q⟩:=h
 cases ry
 refine isnot_none_gen (ze5 I q ?_)
 cases x<;>first
  | (cases rx;rfl)
  | (obtain⟨t,rfl⟩:=rx;rfl)
theorem zcg9(b:Expr){op:CmpOp}(h:op≠.In:=by decide)(h2:op≠.NotIn:=by decide):behindInMarks op b=false:=by
 have e1:(op==CmpOp.In)=false:=by cases op<;>first|rfl|exact absurd rfl h
 have e2:(op==CmpOp.NotIn)=false:=by cases op<;>first|rfl|exact absurd rfl h2
 cases b<;>simp[behindInMarks,e1,e2]
theorem zck3{op:CmpOp}{r:R2}(ho:OpR X (compareOp op) r)(ha:PE X a ta)(hb:PE X b tb)(hm:behindInMarks op b=false):PE X (.Compare a [op] [b] pos) (tOp r ta tb):=by
 intro pins s σ H Q I h
 exact wpAny_Compare1 (binT ha hb I h fun v u s2 x y H2 I2 rx ry q=>ho pins s2 σ H2 x y v u Q I2 rx ry q) hm
noncomputable def TruV(K:zcw1)(x:V)(H:Hp)(k:Bool):Prop:=
 match x with
 | .non=>k=false
 | .bl b=>k=b
 | .int i=>k=(i != 0)
 | .str y=>y.length<=sizeLine/\k=((y.length:Int) != 0)
 | .byt y=>y.size<=sizeLine/\k=((y.size:Int) != 0)
 | .ref p=>(∃ xs,SqL K H p xs/\k=!xs.isEmpty)∨(∃ xs,SqT K H p xs/\k=!xs.isEmpty)∨∃ kvs,H p=some (.dK kvs)/\k=!kvs.isEmpty
 | _=>False
theorem zbo8{κ:Type}{kvs:List (κ×V)}{vs:List (κ×Value)}(r:KV kvs vs):(!vs.isEmpty)=!kvs.isEmpty:=by
 cases r<;>rfl
theorem zaq8{xs:List V}{its:List Value}(r:Vals xs its):(!its.toArray.isEmpty)=!xs.isEmpty:=by
 cases r<;>simp
theorem zal5:(sizeLine:Nat)<2 ^ 63:=by rw[zdf9];decide
theorem zby6:TruR X (fun x H Q=>∃ k,TruV X.K x H k/\Q k H):=by
 intro pins s σ H x v Q I rx h
 obtain⟨k,e,q⟩:=h
 have hl:=zal5
 have hs:sizeLine=16777216:=zdf9
 cases x with
 | non=>
  cases rx
  have e':k=false:=e
  subst e'
  exact truthy_none ⟨H,I,q⟩
 | bl b=>
  cases rx
  have e':k=b:=e
  subst e'
  exact wpAny_truthy_bool ⟨H,I,q⟩
 | int i=>
  obtain⟨t,rfl⟩:=rx
  have e':k=(i != 0):=e
  subst e'
  exact PySem.P.truthy_int ⟨H,I,q⟩
 | str y=>
  obtain⟨t,rfl⟩:=rx
  obtain⟨hy,e'⟩:y.length<=sizeLine/\k=((y.length:Int) != 0):=e
  subst e'
  exact PySem.P.truthy_str (by omega) ⟨H,I.tok _,q⟩
 | byt y=>
  obtain⟨t,rfl⟩:=rx
  obtain⟨hy,e'⟩:y.size<=sizeLine/\k=((y.size:Int) != 0):=e
  subst e'
  exact PySem.W.truthy_bytes (by omega) ⟨H,I.tok _,q⟩
 | ref p=>
  cases rx
  have e':(∃ xs,SqL X.K H p xs/\k=!xs.isEmpty)∨(∃ xs,SqT X.K H p xs/\k=!xs.isEmpty)∨∃ kvs,H p=some (.dK kvs)/\k=!kvs.isEmpty:=e
  rcases e' with ⟨xs,hx,e'⟩|⟨xs,hx,e'⟩|⟨kvs,hx,e'⟩
  ·subst e'
   obtain⟨its,r,pl,hz⟩:=I.list hx
   have hlen:=r.length
   exact wpAny_truthy_list pl.isList (by simp only[zcw8];omega) ⟨H,I.tok _,by rw[zaq8 r];exact q⟩
  ·subst e'
   obtain⟨its,r,pl,hz⟩:=I.tuple hx
   have hlen:=r.length
   exact truthy_tuple pl (by simp only[zcw8];omega) ⟨H,I.tok _,by rw[zaq8 r];exact q⟩
  ·subst e'
   obtain⟨hz,hS,vs,r,m⟩:kvs.length<=sizeLine/\(p==sysModules)=false/\∃ vs,KV kvs vs/\s.heap.DictOf (zk3 X.prog X.w) p vs:=I.hok p _ hx
   have hlen:kvs.length=vs.length:=Paired.length r
   exact wpAny_truthy_dict hS m (by omega) ⟨H,I.tok _,by rw[zbo8 r];exact q⟩
 | _=>exact (show False from e).elim
theorem zbo1:OpR X (binaryOp .Add) (fun x y H Q=>∃ i j,x=.str i/\y=.str j/\i.length+j.length<=sizeLine/\Q (.str (i++j)) H):=by
 intro pins s σ H x y v u Q I rx ry h
 obtain⟨i,j,rfl,rfl,hz,q⟩:=h
 obtain⟨t,rfl⟩:=rx
 obtain⟨t',rfl⟩:=ry
 exact add_str (fun t' tk=>⟨.str (i++j),H,I.tok _,⟨_,rfl⟩,q⟩) hz
theorem zah1{x:V}(r:Vals [x] us):∃ u,us=[u]/\RelV x u:=by
 cases r with
 | cons r1 r2=>cases r2;exact⟨_,rfl,r1⟩
theorem vals2{x y:V}(r:Vals [x,y] us):∃ u w',us=[u,w']/\RelV x u/\RelV y w':=by
 cases r with
 | cons r1 r2=>
  cases r2 with
  | cons r3 r4=>cases r4;exact⟨_,_,rfl,r1,r3⟩
theorem zcd3:zq1 X (.builtin "abs") (fun xs H Q=>∃ i,xs=[.int i]/\Q (.int (if i<0 then -i else i)) H):=by
 intro pins s σ H xs us Q I r h
 obtain⟨i,rfl,q⟩:=h
 obtain⟨u,rfl,t,rfl⟩:=zah1 r
 exact call_abs_int fun u tk=>⟨.int (if i<0 then -i else i),H,I.tok _,⟨_,rfl⟩,q⟩
theorem zbr5(hc:X.calm=true):zq1 X (.builtin "min") (fun xs H Q=>∃ i j,xs=[.int i,.int j]/\Q (.int (if j<i then j else i)) H):=by
 intro pins s σ H xs us Q I r h
 obtain⟨i,j,rfl,q⟩:=h
 obtain⟨u,w',rfl,⟨t,rfl⟩,⟨t',rfl⟩⟩:=vals2 r
 refine min_two_ints (I.ok.hd hc) fun h' tk k=>⟨_,H,I.kept k,?_,q⟩
 by_cases hj:j<i
 ·rw[if_pos hj,if_pos hj];exact⟨_,rfl⟩
 ·rw[if_neg hj,if_neg hj];exact⟨_,rfl⟩
theorem zay2:zq1 X (.type "int") (fun xs H Q=>(∃ i,xs=[.int i]/\Q (.int i) H)∨∃ k,xs=[.bl k]/\Q (.int (if k then 1 else 0)) H):=by
 intro pins s σ H xs us Q I r h
 rcases h with ⟨i,rfl,q⟩|⟨k,rfl,q⟩
 ·obtain⟨u,rfl,t,rfl⟩:=zah1 r
  exact call_int_int ⟨.int i,H,I,⟨_,rfl⟩,q⟩
 ·obtain⟨u,rfl,r1⟩:=zah1 r
  cases r1
  exact call_int_bool ⟨.int (if k then 1 else 0),H,I.tok _,⟨_,rfl⟩,q⟩
end
structure ObjM(h:Heap)(x dx C:Addr)(mA:Str->Option Value):Prop where
 obj:h.get? x=some (zdc7 C dx)
 ns:h.Ns1 dx mA
 ne:dx≠x
theorem zbr7{dx:Addr}{mA:Str->Option Value}(n:h.Ns1 dx mA):∃ od,h.get? dx=some od/\∀ name,PySem.W.lookIn name od=some (mA name):=by
 obtain⟨o,es,ep,ho,hd,hk,_,hm⟩:=n
 refine⟨o,ho,fun name=>?_⟩
 have e:=hm name
 unfold nsFind findBy at e
 rw[← Array.find?_toList] at e
 unfold PySem.W.lookIn
 rw[hd]
 dsimp only
 split
 ·rename_i y q
  rw[q] at e
  exact congrArg some e
 ·rename_i q
  rw[q] at e
  have a:es.toList.any (·.refKey)=false:=by
   rw[List.any_eq_false]
   intro y hy
   obtain⟨z,t,hkey⟩:=hk y (zde8.mp hy)
   simp[DictEntry.refKey,hkey]
  have a':¬ es.toList.any (·.refKey)=true:=by rw[a];exact zcx1
  rw[if_neg a']
  exact congrArg some e
theorem ObjM.look{x dx:Addr}{mA:Str->Option Value}(I:ObjM h x dx C mA):∃ od,PySem.W.InstAt h x (zdc7 C dx) C (some od)/\∀ name,PySem.W.lookIn name od=some (mA name):=
 let ⟨od,ho,hl⟩:=zbr7 I.ns
 ⟨od,⟨I.obj,rfl,rfl,ho⟩,hl⟩
section
variable {prog:Program}{w:World}{A:Around}{E:Value->Shared->Prop}{s:Shared}{K:zcw1}{x dx C f:Addr}{mA:Str->Option Value}{name:Str}{v:Value}
theorem zcl9{expr:Bool}(X:K.In s.heap)(I:ObjM s.heap x dx C mA)(hg:PySem.W.plainGet K C name=true)(hh:PySem.W.hasDictIn K C=true)(ha:zda6 K (.ref C) name=some none)(hv:mA name=some v)(hv':PySem.W.handedIn v=true)(h:Q v { s with toks:=s.toks+1 }) :
  wpAny (model prog w) A (getAttr (.ref x) name expr) Q E s:=by
 obtain⟨od,J,hl⟩:=I.look
 exact PySem.W.get_value X J (PySem.W.plainGet_of hg).1 (PySem.W.findObj_own hh ha rfl (by rw[hl,hv])) hv' h
theorem zcm2{ns:List Str}{Q:Unit->Shared->Prop}(X:K.In s.heap)(I:ObjM s.heap x dx C mA)(hs:zda6 K (.ref C) "__setattr__"=some (some (.builtin "object.__setattr__")))(hp:PySem.W.plainOver K C=true)(ht:PySem.W.takerIn K C name=some none)(hh:PySem.W.hasDictIn K C=true)(hw:PySem.Within mA ns)(hsz:ns.length<=sizeLine)(h:∀ h',ObjM h' x dx C (fun y=>if y=name then some v else mA y)->Heap.SameBut dx s.heap h'->Q () { s with heap:=h',toks:=s.toks+2 }) :
  wpAny (model prog w) A (setAttr (.ref x) name v) Q E s:=by
 obtain⟨od,J,hl⟩:=I.look
 refine PySem.W.set_plain X J hs (PySem.W.osa_open (s:={ s with toks:=s.toks+1 }) (r:=none) X J hp ht fun b=>?_)
 obtain⟨cd,hc,hd'⟩:=PySem.W.any_some hh
 have hx:s.heap.get? x=some ⟨.ref C,some dx,.plain,#[]⟩:=I.obj
 refine zdf7 (zdf8 (zdf7 (zdf7 (wpAny_loadPart hx (zdf7 (PySem.W.Looks.here (s:={ s with toks:=s.toks+1 }) (PySem.W.looks_clsIn X hc) ?_))))))
 rw[hd']
 refine zdf8 (a:=some dx) (zdf7 (zdf8 (zdf7 ?_)))
 refine wpAny_nsSet1 (s:={ s with toks:=s.toks+1 }) I.ns fun h' hn2 hs2=>?_
 obtain⟨oD,esD,epD,hoD,hdD,hcD⟩:=hn2.count (PySem.Within.cons name v hw)
 refine zdf7 (wpAny_lookBehind hoD (by rw[hdD];exact pastItsLine_dict (zcy7 hcD (by rw[zcy0];omega))) ?_)
 exact zdf8 (h _ ⟨(hs2.2 _ (Ne.symm I.ne)).trans I.obj,hn2,I.ne⟩ hs2)
theorem zcd2{R:Result->Shared->Prop}{vs:List Value}{kw:List (Str×Value)}(X:K.In s.heap)(hm:PySem.W.makesIn K C=true)(hi:zda6 K (.ref C) "__init__"=some (some (.ref f)))(hf:PySem.W.typeIn K (.ref f)=some (.type "function"))(h:codeAny (model prog w) (A.under (.builtin "type.__call__" ⟨.ref C :: vs,kw⟩)) (.call (.ref f) ⟨.ref (s.heap.objs.size+1) :: vs,kw⟩) (PySem.W.InitBack (s.heap.objs.size+1) R)
   { s with heap:=(s.heap.push zdb4).push (zdc7 C s.heap.objs.size) }) :
  codeAny (model prog w) A (.call (.ref C) ⟨vs,kw⟩) R s:=by
 obtain⟨hh,g,d,t,os⟩:=s
 exact PySem.W.make_core (PySem.W.makes_of X hm) (PySem.W.looks_findIn X hi) (fun self=>PySem.W.bind_fn X self hf) (.inl rfl) h
end
noncomputable def putF(f:Str)(v:V):List (Str×V)->List (Str×V)
 | []=>[(f,v)]
 | (g,x) :: r=>if g=f then (g,v) :: r else (g,x) :: putF f v r
theorem zam5(f g:Str)(v:V):∀ fs:List (Str×V),(putF f v fs).lookup g=if g=f then some v else fs.lookup g
 | []=>by
  show List.lookup g [(f,v)]=_
  by_cases h:g=f
  ·have hb:(g==f)=true:=beq_iff_eq.mpr h
   simp only[List.lookup,hb,if_pos h]
  ·have hb:(g==f)=false:=beq_eq_false_iff_ne.mpr h
   simp only[List.lookup,hb,if_neg h]
 | (k,x) :: r=>by
  have ih:=zam5 f g v r
  rw[show putF f v ((k,x) :: r)=(if k=f then (k,v) :: r else (k,x) :: putF f v r) from rfl]
  by_cases hk:k=f
  ·rw[if_pos hk]
   by_cases h:g=k
   ·have hb:(g==k)=true:=beq_iff_eq.mpr h
    simp only[List.lookup,hb,if_pos (h.trans hk)]
   ·have hb:(g==k)=false:=beq_eq_false_iff_ne.mpr h
    simp only[List.lookup,hb,if_neg (fun e:g=f=>h (e.trans hk.symm))]
  ·rw[if_neg hk]
   by_cases h:g=k
   ·have hb:(g==k)=true:=beq_iff_eq.mpr h
    simp only[List.lookup,hb,if_neg (fun e:g=f=>hk (h.symm.trans e))]
   ·have hb:(g==k)=false:=beq_eq_false_iff_ne.mpr h
    simp only[List.lookup,hb]
    exact ih
theorem zal2(f:Str)(v:V):∀ fs:List (Str×V),f∈(putF f v fs).map (·.1)/\∀ g,g∈fs.map (·.1)->g∈(putF f v fs).map (·.1)
 | []=>⟨by simp[putF],fun g h=>by simp at h⟩
 | (k,x) :: r=>by
  obtain⟨i1,i2⟩:=zal2 f v r
  rw[show putF f v ((k,x) :: r)=(if k=f then (k,v) :: r else (k,x) :: putF f v r) from rfl]
  by_cases hk:k=f
  ·rw[if_pos hk]
   subst hk
   exact⟨by simp,fun g h=>by simpa using h⟩
  ·rw[if_neg hk]
   refine⟨?_,fun g h=>?_⟩
   ·rw[zcz9]
    exact zcz1 _ i1
   ·rw[zcz9] at h ⊢
    rcases zcx2.mp h with e|e
    ·exact zcx2.mpr (.inl e)
    ·exact zcz1 _ (i2 g e)
theorem zai8(f:Str)(v:V):∀ fs:List (Str×V),(putF f v fs).length<=fs.length+1
 | []=>by simp[putF]
 | (k,x) :: r=>by
  have ih:=zai8 f v r
  rw[show putF f v ((k,x) :: r)=(if k=f then (k,v) :: r else (k,x) :: putF f v r) from rfl]
  by_cases hk:k=f
  ·rw[if_pos hk,zcy0,zcy0];omega
  ·rw[if_neg hk,zcy0,zcy0];omega
theorem RelO.some_of{v:V}{o:Option Value}(r:RelO (some v) o):∃ u,o=some u/\RelV v u:=by
 cases o with
 | none=>exact (show False from r).elim
 | some u=>exact⟨u,rfl,r⟩
theorem zby7{v:V}(r:RelV v u):PySem.W.handedIn u=true:=by
 cases v with
 | non=>cases (show u=Value.none from r);rfl
 | bl b=>cases (show u=Value.bool b from r);rfl
 | int i=>obtain⟨t,e⟩:=(show ∃ t,u=Value.int i t from r);cases e;rfl
 | str x=>obtain⟨t,e⟩:=(show ∃ t,u=Value.str x t from r);cases e;rfl
 | byt b=>obtain⟨t,e⟩:=(show ∃ t,u=Value.bytes b t from r);cases e;rfl
 | flt b=>obtain⟨t,e⟩:=(show ∃ t,u=Value.float b t from r);cases e;rfl
 | ref a=>cases (show u=Value.ref a from r);rfl
 | ty n=>cases (show u=Value.type n from r);rfl
section
variable {P:Program}{w:World}{H H':Hp}{h h':Heap}{a C dx:Addr}{fs fs':List (Str×V)}
theorem zbi5(hok:HOk P w H h)(e:H a=some (.ins C dx fs)):∃ mA,ObjM h a dx C mA/\(∀ f,RelO (fs.lookup f) (mA f))/\PySem.Within mA (fs.map (·.1))/\fs.length<=1000/\H dx=some (.own a):=by
 obtain⟨d,z,ne,ob,mA,n,r,q⟩:=(show zk5 P w H h a (.ins C dx fs) from hok a _ e)
 exact⟨mA,⟨ob,n,ne⟩,r,q,z,d⟩
end
structure Cls(K:zcw1)(C:Addr):Prop where
 pg:PySem.W.plainGet K C Str.empty=true
 hd:PySem.W.hasDictIn K C=true
 po:PySem.W.plainOver K C=true
 sa:zda6 K (.ref C) "__setattr__"=some (some (.builtin "object.__setattr__"))
theorem Cls.get{K:zcw1}(c:Cls K C)(f:Str):PySem.W.plainGet K C f=true:=c.pg
noncomputable def zv7(K:zcw1)(C:Addr)(f:Str):Prop:=zda6 K (.ref C) f=some none
theorem zv7.taker{K:zcw1}{f:Str}(n:zv7 K C f):PySem.W.takerIn K C f=some none:=by
 unfold PySem.W.takerIn
 rw[show zda6 K (.ref C) f=some none from n]
 rfl
section
variable {X:Cx}{pins:List (Addr×Obj)}{σ:St}{H:Hp}{s:Shared}{a C dx:Addr}{fs:List (Str×V)}{f:Str}{v:V}{A:Around}{E:Value->Shared->Prop}
theorem zbo4{b:Bool}(I:Inv X pins σ H s)(e:H a=some (.ins C dx fs))(c:Cls X.K C)(n:zv7 X.K C f)(l:fs.lookup f=some v)(h:∀ u s',Inv X pins σ H s'->RelV v u->Q u s'):wpAny (model X.prog X.w) A (getAttr (.ref a) f b) Q E s:=by
 obtain⟨mA,O,r,_,_,_⟩:=zbi5 I.hok e
 obtain⟨u,hu,ru⟩:=RelO.some_of (v:=v) (o:=mA f) (by rw[← l];exact r f)
 exact zcl9 I.kIn O (c.get f) c.hd n hu (zby7 ru) (h u _ (I.tok _) ru)
theorem zbn7{y:V}{Q:Unit->Shared->Prop}(I:Inv X pins σ H s)(e:H a=some (.ins C dx fs))(c:Cls X.K C)(n:zv7 X.K C f)(hl:fs.length<1000)(ry:RelV y u)(h:∀ s',Inv X pins σ (upd H a (.ins C dx (putF f y fs))) s'->Q () s'):wpAny (model X.prog X.w) A (setAttr (.ref a) f u) Q E s:=by
 obtain⟨mA,O,r,wi,_,ho⟩:=zbi5 I.hok e
 have hz:(fs.map (·.1)).length<=sizeLine:=by rw[zcw0,zdf9];omega
 refine zcm2 I.kIn O c.sa c.po n.taker c.hd wi hz fun h' O' sb=>h _ ?_
 have hd:∃ o,h'.get? dx=some o:=let ⟨o,_,_,e',_⟩:=O'.ns;⟨o,e'⟩
 refine I.write (x:=a) (e:=dx) (by rw[e];exact True.intro) (.inr ho) (fun b q hb z=>(sb.2 b hb).trans z) hd ?_
 refine⟨by rw[zb9 O.ne];exact ho,?_,O.ne,O'.obj,_,O'.ns,fun g=>?_,fun g hg=>?_⟩
 ·have:=zai8 f y fs;omega
 ·show RelO ((putF f y fs).lookup g) (if g=f then some u else mA g)
  rw[zam5]
  by_cases q:g=f
  ·rw[if_pos q,if_pos q];exact ry
  ·rw[if_neg q,if_neg q];exact r g
 ·by_cases q:g=f
  ·rw[q];exact (zal2 f y fs).1
  ·refine (zal2 f y fs).2 g (wi g fun z=>hg ?_)
   show (if g=f then some u else mA g)=none
   rw[if_neg q];exact z
theorem Inv.made(I:Inv X pins σ H s):Inv X pins σ (upd (upd H s.heap.objs.size (.own (s.heap.objs.size+1))) (s.heap.objs.size+1) (.ins C s.heap.objs.size []))
  { s with heap:=(s.heap.push zdb4).push (zdc7 C s.heap.objs.size) }:=by
 have e1:(s.heap.push zdb4).get? s.heap.objs.size=some zdb4:=zcx7 s.heap rfl
 have e2:((s.heap.push zdb4).push (zdc7 C s.heap.objs.size)).get? (s.heap.objs.size+1)=some (zdc7 C s.heap.objs.size):=by
  have:=zcx7 (s.heap.push zdb4) (o:=zdc7 C s.heap.objs.size) rfl
  rwa [Heap.size_push] at this
 have e3:(s.heap.push zdb4).Ns s.heap.objs.size (fun _=>none):=⟨zdb4,#[],_,e1,rfl,(fun e he=>absurd he (by simp)),fun _=>rfl⟩
 have I1:=I.laid (a:=s.heap.objs.size) (o:=.own (s.heap.objs.size+1)) (h':=s.heap.push zdb4) (t':=s.toks) (fun b u q=>zcw5 _ q) (zcw4 _) ⟨_,e1⟩
 refine I1.laid (a:=s.heap.objs.size+1) (o:=.ins C s.heap.objs.size []) (t':=s.toks) (fun b u q=>zcw5 _ q) (Nat.le_of_eq (Heap.size_push _ _)) ?_
 have ne:s.heap.objs.size≠s.heap.objs.size+1:=zcy4 (Nat.lt_succ_self _)
 refine⟨by rw[zb9 ne,zc0],zcz6 _,ne,e2,fun _=>none,(Heap.Ns1.of_empty e3).at fun o q=>zcw5 _ q,fun _=>True.intro,fun y hy=>absurd rfl hy⟩
theorem zcj6{prog:Program}{w:World}{env:Env}{f:Str}{pos:Pos}(hb:attributeBase e f env (eval e env)=eval e env)(h:wpAny (model prog w) A (eval e env) (fun o s₁=>wpAny (model prog w) A (getAttr o f true) Q E s₁) E s):wpAny (model prog w) A (eval (.Attribute e f pos) env) Q E s:=
 Attribute_any_ h (by rw[arm_eval_Attribute,hb])
end
section
variable {X:Cx}{pins:List (Addr×Obj)}{σ:St}{H:Hp}{s:Shared}{A:Around}{E:Value->Shared->Prop}{Q:Value->Shared->Prop}{c:Value}{b:Bool}
inductive TyOf(K:zcw1)(H:Hp):V->Value->Prop where
 | non:TyOf K H .non (.type "NoneType")
 | bl (x:Bool):TyOf K H (.bl x) (.type "bool")
 | int (i:Int):TyOf K H (.int i) (.type "int")
 | str (x:Str):TyOf K H (.str x) (.type "str")
 | flt (x:UInt64):TyOf K H (.flt x) (.type "float")
 | lst {a:Addr}{xs:List V}(e:H a=some (.lst xs)):TyOf K H (.ref a) (.type "list")
 | frz {a:Addr}{o:Obj}{xs:List V}(e:H a=some (.frz o (.lst xs))):TyOf K H (.ref a) (.type "list")
 | tup {a:Addr}{xs:List V}(e:H a=some (.tup xs)):TyOf K H (.ref a) (.type "tuple")
 | dK {a:Addr}{kvs:List (Key×V)}(e:H a=some (.dK kvs)):TyOf K H (.ref a) (.type "dict")
 | dT {a:Addr}{kvs:List (List Key×V)}(e:H a=some (.dT kvs)):TyOf K H (.ref a) (.type "dict")
 | ins {a C dx:Addr}{fs:List (Str×V)}(e:H a=some (.ins C dx fs)) (cl:Cls K C) (ha:zda6 K (.ref C) "__class__"=some (some (.builtin "object.__class__")))
   (hn:PySem.W.specialIn K (.builtin "object.__class__") "__get__"=some (some (.builtin "getset_descriptor.__get__"))) (htk:PySem.W.takesIn K (.builtin "object.__class__")=some true)
   (hm:PySem.W.mroIn K C (.type "object")=some true):TyOf K H (.ref a) (.ref C)
theorem zbx4{x:V}{t:Value}(I:Inv X pins σ H s)(rx:RelV x u)(ty:TyOf X.K H x t)(e:zdf2 X.K t c=some b)(h:∀ tk,Q (.bool b) { s with toks:=tk }) :
  wpAny (model X.prog X.w) A (call (.builtin "isinstance") [u,c]) Q E s:=by
 cases ty with
 | non=>cases (show u=Value.none from rx);exact zdb2 PySem.W.kitx_none I.kIn True.intro e (fun z=>nomatch z) h
 | bl y=>cases (show u=Value.bool y from rx);exact zdb2 PySem.W.kitx_bool I.kIn True.intro e (fun z=>nomatch z) h
 | int i=>obtain⟨t,q⟩:=(show ∃ t,u=Value.int i t from rx);cases q;exact zdb2 PySem.W.kitx_int I.kIn True.intro e (fun z=>nomatch z) h
 | str y=>obtain⟨t,q⟩:=(show ∃ t,u=Value.str y t from rx);cases q;exact zdb2 PySem.W.kitx_str I.kIn True.intro e (fun z=>nomatch z) h
 | flt y=>obtain⟨t,q⟩:=(show ∃ t,u=Value.float y t from rx);cases q;exact zdb2 PySem.W.kitx_float I.kIn True.intro e (fun z=>nomatch z) h
 | @lst a xs ea=>
  cases (show u=Value.ref a from rx)
  obtain⟨_,_,n,_,h1⟩:=(show zk5 X.prog X.w H s.heap a (.lst xs) from I.hok a _ ea)
  exact zdb2 PySem.W.kitx_list I.kIn ⟨_,h1,rfl⟩ e (fun z=>nomatch z) h
 | @frz a ob xs ea=>
  cases (show u=Value.ref a from rx)
  obtain⟨_,_,_,n,_,h1⟩:=(show zk5 X.prog X.w H s.heap a (.frz ob (.lst xs)) from I.hok a _ ea)
  exact zdb2 PySem.W.kitx_list I.kIn ⟨_,h1,rfl⟩ e (fun z=>nomatch z) h
 | @tup a xs ea=>
  cases (show u=Value.ref a from rx)
  obtain⟨_,_,_,p⟩:=(show zk5 X.prog X.w H s.heap a (.tup xs) from I.hok a _ ea)
  obtain⟨o,h1,h2,_⟩:=p
  exact zdb2 PySem.W.kitx_tuple I.kIn ⟨o,h1,h2⟩ e (fun z=>nomatch z) h
 | @dK a kvs ea=>
  cases (show u=Value.ref a from rx)
  obtain⟨_,_,vs,_,p⟩:=(show zk5 X.prog X.w H s.heap a (.dK kvs) from I.hok a _ ea)
  obtain⟨o,es,ep,h1,h2,_⟩:=p
  exact zdb2 PySem.W.kitx_dict I.kIn ⟨o,h1,h2.1⟩ e (fun z=>nomatch z) h
 | @dT a kvs ea=>
  cases (show u=Value.ref a from rx)
  obtain⟨_,_,xs,_,o,es,ep,h1,h2,_⟩:=(show zk5 X.prog X.w H s.heap a (.dT kvs) from I.hok a _ ea)
  exact zdb2 PySem.W.kitx_dict I.kIn ⟨o,h1,h2.1⟩ e (fun z=>nomatch z) h
 | @ins a C dx fs ea cl ha hn htk hm=>
  cases (show u=Value.ref a from rx)
  obtain⟨mA,O,_⟩:=zbi5 I.hok ea
  obtain⟨od,J,_⟩:=O.look
  exact zdb2 (PySem.W.kitx_own (cl.get _) cl.hd ha hn htk hm) I.kIn J e (fun z=>nomatch z) h
end
structure Room(k:Nat)(A:Around):Prop where
 hd:A.handled=none
 dp:A.depth+3*k+5<recursionLimit
 un:A.units+16*k+200<cLine
 gd:A.guards=some []
theorem Room.mono{j k:Nat}{A:Around}(r:Room k A)(h:j<=k):Room j A:=⟨r.hd,by have:=r.dp;omega,by have:=r.un;omega,r.gd⟩
theorem Room.deeper{k:Nat}{A:Around}(r:Room (k+1) A)(env:Env):Room k (A.deeper env):=
 ⟨r.hd,by have:=r.dp;show A.depth+1+3*k+5<_;omega,by have:=r.un;show A.units+3+16*k+200<_;omega,r.gd⟩
theorem zbq4{A:Around}{kw:List (Str×Value)}:(A.under (.builtin "type.__call__" ⟨.ref C :: us,kw⟩)).depth=A.depth+1:=by
 first|rfl|simp[Around.under,Code.weight,Code.isCreation,Code.isGuard,Code.isCaller,Code.frames,Code.isFrame,guardIds]
theorem zbo3{A:Around}{kw:List (Str×Value)}:(A.under (.builtin "type.__call__" ⟨.ref C :: us,kw⟩)).units=A.units+1:=by
 first|rfl|simp[Around.under,Code.cUnits,Code.frames,Code.isFrame]
theorem zbg4{A:Around}{kw:List (Str×Value)}:(A.under (.builtin "type.__call__" ⟨.ref C :: us,kw⟩)).guards=A.guards:=by
 first|rfl|(cases A;simp[Around.under,pushGuards,Code.guards,Code.isGuard,guardIds])
theorem Room.make{k:Nat}{A:Around}(r:Room (k+1) A)(C:Addr)(us:List Value)(kw:List (Str×Value)):Room k (A.under (.builtin "type.__call__" ⟨.ref C :: us,kw⟩)):=
 ⟨r.hd,by have:=r.dp;rw[zbq4];omega,by have:=r.un;rw[zbo3];omega,zbg4.trans r.gd⟩
theorem Room.depth{k:Nat}{A:Around}(r:Room k A):A.depth<recursionLimit:=by have:=r.dp;omega
theorem Room.units{k:Nat}{A:Around}(r:Room k A):A.units+64<cLine:=by have:=r.un;omega
noncomputable def tNil:TA:=fun _ H Q=>Q [] H
noncomputable def tCons(ta:TE)(tr:TA):TA:=fun σ H Q=>ta σ H fun x H1=>tr σ H1 fun xs H2=>Q (x :: xs) H2
section
variable {X:Cx}{e:Expr}{es:List Expr}{te:TE}{t:TA}{pos:Pos}
theorem za1:PA X [] tNil:=fun _ _ _ _ H Q I h=>Calls.spliced_nil ⟨[],H,I,.nil,h⟩
theorem za0(ha:PE X e te)(hr:PA X es t)(hs:starEach (e :: es) X.env=(false,eval e X.env) :: starEach es X.env:=by rfl):PA X (e :: es) (tCons te t):=by
 intro pos pins s σ H Q I h
 rw[hs]
 show wpAny _ _ (spliced ((false,eval e X.env) :: backTo pos (starEach es X.env))) _ _ s
 refine Calls.spliced_cons (thn (ha pins s σ H _ I h) fun u s1 ⟨x,H1,I1,r1,q1⟩=>?_)
 exact thn (hr pos pins s1 σ H1 _ I1 q1) fun us s2 ⟨xs,H2,I2,r2,q2⟩=>⟨x :: xs,H2,I2,.cons r1 r2,q2⟩
end
noncomputable abbrev Sp:=List V->Hp->VK->XK->Prop
noncomputable abbrev CXT:=List Env->Hp->Shared->XK->Value->Shared->Prop
structure Env0(P:Program)(w:World)(K:zcw1)(mg:Str->Option Value)(base:Heap)(A:Around)(outer:List Env)(s:Shared)(H:Hp):Prop where
 frames:A.frames=some outer
 mod:Mod K mg base
 bs:∀ b o,base.get? b=some o->s.heap.get? b=some o/\H b=none
 bsz:base.objs.size<=s.heap.objs.size
 funs:s.heap.FunFrames base outer
 frf:∀ b∈frs outer,H b=none
 hok:HOk P w H s.heap
 bare:AllBare s.gens
noncomputable def CE(outer:List Env)(P:Program)(w:World)(H:Hp)(s:Shared)(Q:VK)(u:Value)(s':Shared):Prop:=
 ∃ v H',s'.os=s.os/\AllBare s'.gens/\Un (frs outer) [] H H' s.heap s'.heap/\HOk P w H' s'.heap/\RelV v u/\Q v H'
noncomputable def CR(CX:CXT)(outer:List Env)(P:Program)(w:World)(H:Hp)(s:Shared)(Q:VK)(E:XK)(r:Result)(s':Shared):Prop:=
 match r with
 | .ok (.ret u)=>CE outer P w H s Q u s'
 | .ok _=>False
 | .error e=>CX outer H s E e s'
structure FnOk(P:Program)(w:World)(K:zcw1)(mg:Str->Option Value)(base:Heap)(CX:CXT)(k:Nat)(f:Addr)(fd:FuncData)(ps:List Str)(sp:Sp):Prop where
 len:∀ vs H Q E,sp vs H Q E->vs.length=ps.length
 run:∀ (A:Around) (outer:List Env) (s:Shared) (H:Hp) (args:Args) (us:List Value) (vs:List V) (Q:VK) (E:XK),Room k A->Env0 P w K mg base A outer s H->BindsTo s fd args (ps.zip us)->Vals vs us->sp vs H Q E ->
  codeAny (model P w) A (.call (.ref f) args) (CR CX outer P w H s Q E) s
theorem FnOk.mono{P:Program}{w:World}{K:zcw1}{mg:Str->Option Value}{base:Heap}{CX:CXT}{j k:Nat}{f:Addr}{fd:FuncData}{ps:List Str}{sp:Sp}(F:FnOk P w K mg base CX j f fd ps sp)(h:j<=k) :
  FnOk P w K mg base CX k f fd ps sp:=⟨F.len,fun A outer s H args us vs Q E hr=>F.run A outer s H args us vs Q E (hr.mono h)⟩
theorem Env0.make{P:Program}{w:World}{K:zcw1}{mg:Str->Option Value}{base:Heap}{A:Around}{outer:List Env}(e:Env0 P w K mg base A outer s H)(C:Addr)(us:List Value)(kw:List (Str×Value)) :
  Env0 P w K mg base (A.under (.builtin "type.__call__" ⟨.ref C :: us,kw⟩)) outer s H:=⟨by first|exact e.frames|(simpa [Around.under,Code.envs,Code.isFrame,pushEnvs] using e.frames),e.mod,e.bs,e.bsz,e.funs,e.frf,e.hok,e.bare⟩
section
variable {X:Cx}{pins:List (Addr×Obj)}{σ:St}{H:Hp}{s s':Shared}
theorem Inv.env0(I:Inv X pins σ H s):Env0 X.prog X.w X.K X.mg X.base X.A X.stack s H:=
 ⟨I.ok.frames,I.ok.mod,I.bs,zcy7 I.ok.bsz I.sz,I.stack,I.stkFree,I.hok,I.bare⟩
theorem Inv.after{Q:VK}(I:Inv X pins σ H s)(h:CE X.stack X.prog X.w H s Q u s'):EP X pins σ Q u s':=by
 obtain⟨v,H',os,bare,un,hok,r,q⟩:=h
 obtain⟨hh,g,d,t,os'⟩:=s'
 obtain rfl:os'=s.os:=os
 exact⟨v,H',I.call (h':=hh) (g':=g) (d':=d) (t':=t) (ch:=[]) un hok bare (fun b z=>absurd z (by simp)),r,q⟩
end
noncomputable def tCall(sp:Sp)(dvs:List V)(E:XK)(t:TA):TE:=fun σ H Q=>t σ H fun vs H1=>sp (vs++dvs) H1 Q E
noncomputable def zai3(K:zcw1)(fd:FuncData)(ps:List Str)(ds:List Value):Prop:=
 ∀ (s:Shared) (us:List Value),K.In s.heap->(us++ds).length=ps.length->BindsTo s fd ⟨us,[]⟩ (ps.zip (us++ds))
theorem zai3.all{K:zcw1}{fd:FuncData}{ps:List Str}(h:∀ us:List Value,us.length=ps.length->bindArgs fd ⟨us,[]⟩=pure (ps.zip us)):zai3 K fd ps []:=fun s us _ hl=>by
 rw[zdc8] at hl ⊢
 exact .of_eq (h us hl)
noncomputable def zal4(CX:CXT)(X:Cx)(E:XK):Prop:=∀ (pins:List (Addr×Obj)) (σ:St) (H:Hp) (s:Shared) (e:Value) (s':Shared),Inv X pins σ H s->CX X.stack H s E e s'->X.xe e s'
section
variable {X:Cx}{CX:CXT}{k:Nat}{f C:Addr}{fd:FuncData}{ps:List Str}{sp:Sp}{dvs:List V}{ds:List Value}{E:XK}{x m:Str}{p pos apos:Pos}{e o:Expr}{es:List Expr}{ta:TE}{t:TA}
theorem run_fn{Q:VK}{vs:List V}(F:FnOk X.prog X.w X.K X.mg X.base CX k f fd ps sp)(hr:Room k X.A)(hb:zai3 X.K fd ps ds)(hd:Vals dvs ds)(hx:zal4 CX X E)(I:Inv X pins σ H s)(r:Vals vs us)(h:sp (vs++dvs) H Q E):wpAny (model X.prog X.w) X.A (call (.ref f) us) (EP X pins σ Q) X.xe s:=by
 have r2:Vals (vs++dvs) (us++ds):=r.append hd
 have hl:(us++ds).length=ps.length:=by rw[← r2.length];exact F.len _ _ _ _ h
 refine wpAny_call (codeAny_mono (F.run X.A X.stack s H ⟨us,[]⟩ (us++ds) (vs++dvs) Q E hr I.env0 (hb s us I.kIn hl) r2 h) fun r s' hq=>?_)
 cases r with
 | error e=>exact hx pins σ H s e s' I hq
 | ok fl=>
  cases fl with
  | ret u=>exact I.after hq
  | next=>exact False.elim hq
  | brk=>exact False.elim hq
  | cont=>exact False.elim hq
theorem zco9(F:FnOk X.prog X.w X.K X.mg X.base CX k f fd ps sp)(hr:Room k X.A)(hg:Gl X x)(hm:X.mg x=some (.ref f))(hk:zdb6 X.K (.ref f)=true)(hb:zai3 X.K fd ps ds)(hd:Vals dvs ds)(hx:zal4 CX X E)(ha:PA X (e :: es) t)(hdb:(x==("__debug__":Str))=false:=by decide)(he:starEach (e :: es) X.env=(false,eval e X.env) :: starEach es X.env:=by rfl)(hpl:(backTo pos (starEach es X.env)).any (·.1)=false:=by rfl) :
  PE X (.Call (.Name x p) (e :: es) [] pos) (tCall sp dvs E t):=by
 intro pins s σ H Q I h
 refine wpAny_Call_Name_kw (zbi1 I hg hm ?_ hdb)
 refine PySem.W.callWith_K (h₀:=X.base) I.ok.mod.kin hk (thn (ha pos pins s σ H _ I h) fun us s1 ⟨vs,H1,I1,r,q⟩=>⟨I1.kIn,?_⟩) he hpl
 exact run_fn F hr hb hd hx I1 r q
structure Mk(K:zcw1)(C f:Addr):Prop where
 makes:PySem.W.makesIn K C=true
 init:zda6 K (.ref C) "__init__"=some (some (.ref f))
 fn:PySem.W.isFn K (.ref f)=true
 kp:zdb6 K (.ref C)=true
theorem zce5{Q:VK}{vs:List V}(M:Mk X.K C f)(F:FnOk X.prog X.w X.K X.mg X.base CX k f fd ps sp)(hr:Room (k+1) X.A)(hb:zai3 X.K fd ps ds)(hd:Vals dvs ds)(hx:zal4 CX X E)(I:Inv X pins σ H s)(r:Vals vs us)(h:∀ x dx,H x=none->H dx=none->dx≠x->sp (.ref x :: (vs++dvs)) (upd (upd H dx (.own x)) x (.ins C dx [])) (fun v H2=>v=.non/\Q (.ref x) H2) E) :
  wpAny (model X.prog X.w) X.A (call (.ref C) us) (EP X pins σ Q) X.xe s:=by
 have hq:=h (s.heap.objs.size+1) s.heap.objs.size (I.hok.fresh (Nat.le_succ _)) (I.hok.fresh (zcw4 _)) (zcy4 (Nat.lt_succ_self _))
 have I2:=Inv.made (C:=C) I
 have r2:Vals (V.ref (s.heap.objs.size+1) :: (vs++dvs)) (Value.ref (s.heap.objs.size+1) :: (us++ds)):=.cons rfl (r.append hd)
 have hl:(Value.ref (s.heap.objs.size+1) :: us++ds).length=ps.length:=by
  have e:=r2.length
  rw[F.len _ _ _ _ hq] at e
  exact e.symm
 refine wpAny_call (zcd2 (f:=f) I.kIn M.makes M.init (beq_iff_eq.mp M.fn) (codeAny_mono (F.run _ X.stack _ _ ⟨Value.ref (s.heap.objs.size+1) :: us,[]⟩ (Value.ref (s.heap.objs.size+1) :: (us++ds)) _ _ E (hr.make C us [])
  (I2.env0.make C us []) (hb _ (Value.ref (s.heap.objs.size+1) :: us) I2.kIn hl) r2 hq) fun r s' hq'=>?_))
 cases r with
 | error e=>exact hx pins σ _ _ e s' I2 hq'
 | ok fl=>
  cases fl with
  | ret u=>
   obtain⟨v,H',I3,rv,ev,q3⟩:=I2.after hq'
   subst ev
   exact⟨rv,⟨V.ref (s.heap.objs.size+1),H',I3,rfl,q3⟩⟩
  | next=>exact False.elim hq'
  | brk=>exact False.elim hq'
  | cont=>exact False.elim hq'
end
structure zb0(N P:List Str)(sc:Scope):Prop where
 kind:sc.kind=.function
 co:sc.isCoroutine=false
 gen:sc.isGenerator=false
 nd:N.Nodup
 pre:N.take P.length=P
 par:∀ x∈P,sc.names.lookup x=some .local∨sc.names.lookup x=some .cell
 nofree:∀ y∈sc.names,y.2≠.free
theorem zba1{kindOf:Str->Option NameKind}{x:Str}:∀ {binds:List (Str×Value)}{m:Str->Option Value},(∀ v,(x,v) ∉ binds)->bindL kindOf binds m x=m x
 | [],_,_=>rfl
 | (n,v) :: r,m,h=>by
  unfold bindL
  rw[zba1 fun w hw=>h w (zcz1 _ hw)]
  split
  ·have:x≠n:=by rintro rfl;exact h v zdc3
   simp[this]
  ·rfl
theorem zay4{kindOf:Str->Option NameKind}{x:Str}:∀ {binds:List (Str×Value)}{m:Str->Option Value},(∀ v,(x,v) ∉ binds)->bindC kindOf binds m x=m x
 | [],_,_=>rfl
 | (n,v) :: r,m,h=>by
  unfold bindC
  rw[zay4 fun w hw=>h w (zcz1 _ hw)]
  split
  ·rfl
  ·have:x≠n:=by rintro rfl;exact h v zdc3
   simp[this]
theorem zax4{kindOf:Str->Option NameKind}{x:Str}{v:Value}:∀ {P:List Str}{vs:List Value}{i:Nat}{m:Str->Option Value},P.Nodup->P[i]?=some x->vs[i]?=some v->kindOf x=some .local ->
  bindL kindOf (P.zip vs) m x=some v
 | [],_,_,_,_,h,_,_=>by simp at h
 | _ :: _,[],_,_,_,_,h,_=>by simp at h
 | p :: P,w :: vs,0,m,nd,h1,h2,hk=>by
  simp at h1 h2;subst h1;subst h2
  show bindL kindOf ((p,w) :: P.zip vs) m p=_
  unfold bindL
  rw[zba1 fun v hv=>(zdc9.mp nd).1 (List.of_mem_zip hv).1,if_pos hk]
  simp
 | p :: P,w :: vs,i+1,m,nd,h1,h2,hk=>by
  show bindL kindOf ((p,w) :: P.zip vs) m x=_
  unfold bindL
  exact zax4 (i:=i) (zdc9.mp nd).2 (by simpa using h1) (by simpa using h2) hk
theorem zba7{kindOf:Str->Option NameKind}{x:Str}{v:Value}:∀ {P:List Str}{vs:List Value}{i:Nat}{m:Str->Option Value},P.Nodup->P[i]?=some x->vs[i]?=some v->kindOf x≠some .local ->
  bindC kindOf (P.zip vs) m x=some v
 | [],_,_,_,_,h,_,_=>by simp at h
 | _ :: _,[],_,_,_,_,h,_=>by simp at h
 | p :: P,w :: vs,0,m,nd,h1,h2,hk=>by
  simp at h1 h2;subst h1;subst h2
  show bindC kindOf ((p,w) :: P.zip vs) m p=_
  unfold bindC
  rw[zay4 fun v hv=>(zdc9.mp nd).1 (List.of_mem_zip hv).1,if_neg hk]
  simp
 | p :: P,w :: vs,i+1,m,nd,h1,h2,hk=>by
  show bindC kindOf ((p,w) :: P.zip vs) m x=_
  unfold bindC
  exact zba7 (i:=i) (zdc9.mp nd).2 (by simpa using h1) (by simpa using h2) hk
noncomputable def start(N:List Str)(vs:List V):St:=vs.map some++List.replicate (N.length - vs.length) none
noncomputable def cxOf(CX:CXT)(P:Program)(w:World)(K:zcw1)(mg:Str->Option Value)(base:Heap)(N:List Str)(qual:Str)(scope:Scope)(f:Addr)(cd:Value)(A:Around)(outer:List Env)(s:Shared)(H:Hp)(E:XK):Cx where
 prog:=P
 w:=w
 K:=K
 mg:=mg
 base:=base
 A:=A.deeper (envOfC qual scope s.heap.objs.size f cd)
 N:=N
 s₀:=s
 H₀:=H
 env:=envOfC qual scope s.heap.objs.size f cd
 outer:=outer
 stack:=envOfC qual scope s.heap.objs.size f cd :: outer
 ex:=[]
 calm:=true
 fn:=fun _=>true
 pn:=[]
 xe:=fun e s'=>wpAny (model P w) (A.deeper (envOfC qual scope s.heap.objs.size f cd)) (leaving (envOfC qual scope s.heap.objs.size f cd) e) (fun _ s''=>CX outer H s E e s'') (fun e' s''=>CX outer H s E e' s'') s'
theorem zbk2{sc:Scope}{n:Nat}{x:Str}(h:sc.names.lookup x=some .cell):∃ c,(cellsFrom n sc.names []).lookup x=some c:=by
 have q:=PySem.W.cellsFrom_some sc.names n [] (.inl h)
 exact Option.isSome_iff_exists.mp q
theorem zbx0{CX:CXT}{P:Program}{w:World}{K:zcw1}{mg:Str->Option Value}{base:Heap}{N ps:List Str}{qual:Str}{scope:Scope}{f:Addr}{cd:Value}{A:Around}{outer:List Env}{s1:Shared}{E:XK}{vs:List V}(S:zb0 N ps scope)(hd:A.handled=none)(e0:Env0 P w K mg base A outer s H)(hl:vs.length=ps.length)(r:Vals vs us)(x:InCallC s s.heap.objs.size (bindL (envOfC qual scope s.heap.objs.size f cd).kindOf (ps.zip us) fun _=>none) (cellsFrom (s.heap.objs.size+1) scope.names []) (bindC (envOfC qual scope s.heap.objs.size f cd).kindOf (ps.zip us) fun _=>none) s1) :
  Inv (cxOf CX P w K mg base N qual scope f cd A outer s H E) [] (start N vs) H s1:=by
 have hpl:ps.length<=N.length:=by have:=congrArg List.length S.pre;rw[zde3] at this;omega
 obtain⟨h1,tk,rfl,hk⟩:=x.done
 have noA:∀ b:Addr,b ∉ (cxOf CX P w K mg base N qual scope f cd A outer s H E).ex:=fun b z=>absurd (show b∈([]:List Addr) from z) (by simp)
 refine⟨⟨e0.mod,S.kind,rfl,rfl,zcw4 _,fun y z c h1 h2=>?_,fun y hy=>?_,fun y c _ h=>?_,fun _=>hd,Around.frames_deeper e0.frames,.inr ⟨rfl,rfl⟩,fun b z=>absurd z (noA b),e0.bs,e0.bsz,fun b _ _=>noA b,fun b z=>absurd z (noA b),e0.funs,e0.frf⟩,
  rfl,e0.bare,Un.kept hk,⟨_,x.toInCall.ns,fun i y v h1 h2 h3=>?_⟩,fun y c h=>⟨_,x.cell y c h⟩,e0.hok.fresh (zcw4 _),fun y c h=>?_,fun p hp=>absurd (show p∈([]:List (Addr×Obj)) from hp) (by simp),e0.hok.kept hk,?_⟩
 ·exact name_of_addr x.apart (PySem.mem_of_lookup h1) (PySem.mem_of_lookup h2)
 ·have hy:scope.names.lookup y=some .cell∨scope.names.lookup y=some .free:=hy
  rcases hy with hy|hy
  ·exact zbk2 hy
  ·exact absurd rfl (S.nofree _ (PySem.mem_of_lookup hy))
 ·exact zde7 (x.above y c (PySem.mem_of_lookup h))
 ·have hi:i<vs.length:=by
   unfold start at h2
   by_cases hi:i<vs.length
   ·exact hi
   ·rw[zcx6 (by simpa using hi)] at h2
    rw[zde0] at h2
    split at h2<;>cases h2
  have ha:vs[i]?=some v:=by
   unfold start at h2
   rw[zcx4 (by simpa using hi),zcw3] at h2
   cases e:vs[i]? with
   | none=>rw[e] at h2;cases h2
   | some a=>rw[e] at h2;cases h2;rfl
  obtain⟨u,hu,rv⟩:=r.get ha
  have hp:ps[i]?=some y:=by
   rw[← S.pre,List.getElem?_take_of_lt (by omega)];exact h1
  have ndP:ps.Nodup:=by rw[← S.pre];exact S.nd.sublist (List.take_sublist _ _)
  refine⟨u,rv,?_⟩
  rcases S.par y (zcw6 hp) with k|k
  ·exact .inl ⟨k,zax4 ndP hp hu k⟩
  ·obtain⟨c,e⟩:=zbk2 (n:=s.heap.objs.size+1) k
   refine .inr ⟨.inl k,c,e,?_⟩
   have q:=x.cell y c e
   rw[zba7 ndP hp hu (by show scope.names.lookup y≠_;rw[k];decide)] at q
   exact q
 ·exact e0.hok.fresh (zde7 (x.above y c (PySem.mem_of_lookup h)))
 ·unfold start
  show _=N.length
  rw[zcw9,zcw0,zcy9]
  omega
theorem fn_of{CX:CXT}{P:Program}{w:World}{K:zcw1}{mg:Str->Option Value}{base:Heap}{k:Nat}{f:Addr}{name qual:Str}{params:Arguments}{body:List Stmt}{scope:Scope}{dV kV doc pm cdv ct oc:Value}{an od:Option Addr}{osl:Array (Option Value)}{N ps:List Str}{sp:Sp}(lk:K.lookup f=some ⟨oc,od,.func (zdc0 name qual params body scope dV kV doc pm an cdv ct),osl⟩)(hcd:zdf3 K cdv qual=true)(S:zb0 N ps scope)(len:∀ vs H Q E,sp vs H Q E->vs.length=ps.length)(hbody:∀ (A:Around) (outer:List Env) (s:Shared) (H:Hp) (vs:List V) (Q:VK) (E:XK),Room k (A.deeper (envOfC qual scope s.heap.objs.size f cdv))->sp vs H Q E ->
   ∃ t,PSs (cxOf CX P w K mg base N qual scope f cdv A outer s H E) body t/\t { nx:=fun _ H'=>Q .non H',rt:=Q } (start N vs) H) :
  FnOk P w K mg base CX (k+1) f (zdc0 name qual params body scope dV kV doc pm an cdv ct) ps sp:=by
 refine⟨len,fun A outer s H args us vs Q E hr e0 hb r hsp=>?_⟩
 have hl:=len _ _ _ _ hsp
 have KX:K.In s.heap:=e0.mod.kin.keeps fun b o e=>(e0.bs b o e).1
 have lim:s.heap.NoLimit:=e0.mod.nolimit.keeps fun b o e=>(e0.bs b o e).1
 have hkind:∀ y∈ps.zip us,scope.names.lookup y.1=some .local∨(scope.names.lookup y.1=some .cell/\((cellsFrom (s.heap.objs.size+1) scope.names []).lookup y.1).isSome=true):=fun ⟨n,v⟩ hy=>by
  rcases S.par n (List.of_mem_zip hy).1 with q|q
  ·exact .inl q
  ·exact .inr ⟨q,PySem.W.cellsFrom_some _ _ _ (.inl q)⟩
 refine codeAny_call_function hr.depth (KX _ _ lk) rfl S.co S.gen rfl (PySem.W.codeRec_of KX hcd) (hb _ _ _ _ ?_)
 refine wpAny_newFunctionEnv_cells S.kind hkind fun env he s1 x=>?_
 subst he
 refine⟨lim.keeps x.toInCall.keep,codeAny_func ?_⟩
 obtain⟨t,ht,hq⟩:=hbody A outer s H vs Q E (hr.deeper _) hsp
 have I:Inv (cxOf CX P w K mg base N qual scope f cdv A outer s H E) [] (start N vs) H s1:=zbx0 S hr.hd e0 hl r x
 refine wpAny_mono (ht [] s1 (start N vs) H _ I hq) (fun fl s' hs=>?_) fun e s' hs=>hs
 have fin:∀ {σ':St}{H':Hp}{v:V}{u:Value},Inv (cxOf CX P w K mg base N qual scope f cdv A outer s H E) [] σ' H' s'->RelV v u->Q v H'->CE outer P w H s Q u s':=
  fun {σ' H' v u} J rv q=>⟨v,H',J.os,J.bare,J.base,J.hok,rv,q⟩
 cases fl with
 | ret u=>
  obtain⟨v,σ',H',J,rv,q⟩:=hs
  exact fin J rv q
 | next=>
  obtain⟨σ',H',J,q⟩:=hs
  exact fin (v:=V.non) (u:=Value.none) J rfl q
 | brk=>
  obtain⟨_,_,_,q⟩:=hs
  exact False.elim q
 | cont=>
  obtain⟨_,_,_,q⟩:=hs
  exact False.elim q
section
variable {X:Cx}{x:Str}{p pos:Pos}{e:Expr}{es:List Expr}{t:TA}{id T:String}{r:List V->Hp->VK->Prop}
noncomputable def tCB(r:List V->Hp->VK->Prop)(t:TA):TE:=fun σ H Q=>t σ H fun vs H1=>r vs H1 Q
theorem zcc8(hc:zq1 X (.builtin id) r)(hg:Gl X x)(hm:X.mg x=none)(hv:bootBuiltins x=some (.builtin id))(ha:PA X (e :: es) t)(hn:x≠"__name__":=by decide)(hdb:(x==("__debug__":Str))=false:=by decide)(he:starEach (e :: es) X.env=(false,eval e X.env) :: starEach es X.env:=by rfl)(hpl:(backTo pos (starEach es X.env)).any (·.1)=false:=by rfl):PE X (.Call (.Name x p) (e :: es) [] pos) (tCB r t):=by
 intro pins s σ H Q I h
 refine wpAny_Call_Name_kw (zw5 I hg hm hv ?_ hn hdb)
 exact PyProof.Rows.callWith_builtin1 (thn (ha pos pins s σ H _ I h) fun us s1 ⟨vs,H1,I1,r1,q1⟩=>hc pins s1 σ H1 vs us Q I1 r1 q1) he hpl
theorem zbu2(hc:zq1 X (.type T) r)(hg:Gl X x)(hm:X.mg x=none)(hv:bootBuiltins x=some (.type T))(ha:PA X (e :: es) t)(hn:x≠"__name__":=by decide)(hdb:(x==("__debug__":Str))=false:=by decide)(he:starEach (e :: es) X.env=(false,eval e X.env) :: starEach es X.env:=by rfl)(hpl:(backTo pos (starEach es X.env)).any (·.1)=false:=by rfl):PE X (.Call (.Name x p) (e :: es) [] pos) (tCB r t):=by
 intro pins s σ H Q I h
 refine wpAny_Call_Name_kw (zw5 I hg hm hv ?_ hn hdb)
 exact PyProof.Rows.callWith_type1 (thn (ha pos pins s σ H _ I h) fun us s1 ⟨vs,H1,I1,r1,q1⟩=>hc pins s1 σ H1 vs us Q I1 r1 q1) he hpl
end
end L2
namespace HT
open PySem PyProof.Rows
section
open PySem.SeqAt
open PySem.AutoSeq1 (wpAny_loadPart')
open PySem.MeetsSeq PySem.MeetsSeq2 PySem.MeetsSeq3
end
section
variable {prog:Program}{w:World}{A:Around}{E:Value->Shared->Prop}{s:Shared}
noncomputable def sIx(n d:Nat):Option Int->Nat
 | none=>d
 | some v=>if v<0 then (v+(n:Int)).toNat else min v.toNat n
theorem sIx_le(n d:Nat)(hd:d<=n)(o:Option Int):sIx n d o<=n:=by
 cases o with
 | none=>exact hd
 | some v=>
  show (if v<0 then (v+(n:Int)).toNat else min v.toNat n)<=n
  by_cases hv:v<0
  ·rw[if_pos hv];omega
  ·rw[if_neg hv];exact Nat.min_le_right _ _
theorem zbq9(v:Int)(n d:Nat):(if v<0 then max (v+(n:Int)) 0 else min v (n:Int))=((sIx n d (some v):Nat):Int):=by
 show (if v<0 then max (v+(n:Int)) 0 else min v (n:Int))=(((if v<0 then (v+(n:Int)).toNat else min v.toNat n):Nat):Int)
 by_cases hv:v<0
 ·simp only[if_pos hv];omega
 ·simp only[if_neg hv];omega
theorem zbo0(lo hi:Option Int)(n:Nat):Builtin.Slice.sliceAdjust lo hi 1 (n:Int)=(((sIx n 0 lo:Nat):Int),((sIx n n hi:Nat):Int)):=by
 have h1:¬ ((1:Int)<0):=by omega
 unfold Builtin.Slice.sliceAdjust
 simp only[h1,if_false]
 refine Prod.ext ?_ ?_
 ·cases lo with
  | none=>rfl
  | some v=>exact zbq9 v n 0
 ·cases hi with
  | none=>rfl
  | some v=>exact zbq9 v n n
theorem zbn8(i j:Nat):Builtin.Slice.slicePlaces (i:Int) (j:Int) 1=j - i:=by
 unfold Builtin.Slice.slicePlaces
 have h1:(1:Int)>0:=by omega
 simp only[h1,if_true,Int.ediv_one]
 split<;>omega
theorem zap9{v:Value}{o:Option Int}{Q:Option Int->Shared->Prop}(p:IsPart v o)(h:Q o s):wpAny (model prog w) A (Builtin.Slice.slicePartIndex v) Q E s:=by
 cases p with
 | none=>exact slicePart_none h
 | int i t=>exact slicePart_int h
theorem zag8{sl:Addr}{vl vu:Value}{lo hi:Option Int}{n:Nat}{Q:Int×Int×Nat->Shared->Prop}(hs:s.heap.IsSliceOf sl vl vu .none)(pl:IsPart vl lo)(pu:IsPart vu hi)(h:Q (((sIx n 0 lo:Nat):Int),1,sIx n n hi - sIx n 0 lo) s):wpAny (model prog w) A (Builtin.Slice.sliceApplied (.ref sl) (pure (n:Int))) Q E s:=by
 obtain⟨os,hos,hcs,hds⟩:=id hs
 unfold Builtin.Slice.sliceApplied Builtin.Slice.sliceFields
 refine zdf7 (zdf7 (wpAny_field hos hds (x:=vl) rfl (zdf7 (wpAny_field hos hds (x:=vu) rfl (zdf7 (wpAny_field hos hds (x:=.none) rfl (zdf8 ?_)))))))
 refine zdf7 (slicePart_none ?_)
 show wpAny _ _ (if ((1:Int)==0)=true then _ else _) _ _ s
 rw[if_neg (by decide)]
 refine zdf7 (zap9 pl (zdf7 (zap9 pu (zdf7 (zdf8 ?_)))))
 show wpAny _ _ (match Builtin.Slice.sliceAdjust lo hi 1 (n:Int) with|(lo,hi)=>pure (lo,(1:Int),Builtin.Slice.slicePlaces lo hi 1)) _ _ s
 rw[zbo0 lo hi n]
 show wpAny _ _ (pure (((sIx n 0 lo:Nat):Int),(1:Int),Builtin.Slice.slicePlaces ((sIx n 0 lo:Nat):Int) ((sIx n n hi:Nat):Int) 1)) _ _ s
 rw[zbn8]
 exact zdf8 h
theorem zcc4(xs:Array Value)(i k:Nat):((List.range k).filterMap fun (m:Nat)=>xs[((i:Int)+(m:Int)*1).toNat]?).toArray=((xs.toList.drop i).take k).toArray:=by
 have e:(fun (m:Nat)=>xs[((i:Int)+(m:Int)*1).toNat]?)=fun m=>xs[i+m]?:=by
  funext m
  have:((i:Int)+(m:Int)*1).toNat=i+m:=by omega
  rw[this]
 rw[e]
 have:=pick_run xs i k
 rw[List.filterMap_map] at this
 have e2:((fun x=>xs[x]?)∘fun x=>i+x)=fun m=>xs[i+m]?:=rfl
 rw[e2] at this
 rw[this]
theorem getItem_tuple_cut{t sl:Addr}{items:Array Value}{vl vu:Value}{lo hi:Option Int}{Q:Value->Shared->Prop}(ht:IsTup s.heap t items)(hs:s.heap.IsSliceOf sl vl vu .none)(pl:IsPart vl lo)(pu:IsPart vu hi)(hw:¬ (sIx items.size 0 lo=0/\sIx items.size items.size hi=items.size))(h:Q (.ref s.heap.objs.size) { s with heap:=s.heap.push { cls:=.type "tuple",data:=.seq ((items.toList.drop (sIx items.size 0 lo)).take (sIx items.size items.size hi - sIx items.size 0 lo)).toArray } })(hsz:items.size<=sizeLine):wpAny (model prog w) A (getItem (.ref t) (.ref sl)) Q E s:=by
 have htake:sizeOk (.seq ((items.toList.drop (sIx items.size 0 lo)).take (sIx items.size items.size hi - sIx items.size 0 lo)).toArray):=by
  show ((items.toList.drop (sIx items.size 0 lo)).take (sIx items.size items.size hi - sIx items.size 0 lo)).toArray.size<=sizeLine
  rw[zcw8,zde3,zdd2,zda1]
  omega
 have hj:sIx items.size items.size hi<=items.size:=sIx_le _ _ (zcw4 _) hi
 obtain⟨os,hos,hcs,hds⟩:=id hs
 have hTs:s.TypeIs (.ref sl) "slice":=⟨os,hos,hcs⟩
 unfold getItem
 try with_reducible refine zdg2 ?_
 first|refine zdf7 (zdf8 ?_)|skip
 refine zdf7 (wpAny_sequenceKey ht.typeIs (by decide) ?_)
 refine zdf7 (wpAny_callSpecial?_slot (name:=Str.ofString "__getitem__") ht.typeIs PyProof.Rows.slot_tuple_getitem
  (wpAny_call_entry PyProof.Rows.slot_tuple_getitem ht.typeIs entry_tuple_getitem ?_ (args_tuple_getitem _ _)))
 show wpAny _ _ (Builtin.Tuple.tupleItemsOf (.ref t) >>= _) _ _ s
 refine zdf7 (tupleItemsOf_ ht ?_)
 refine zdf7 (wpAny_typeOf hTs ?_)
 rw[if_pos (by decide)]
 refine zdf7 (zag8 hs pl pu ?_)
 have hno:¬ ((((sIx items.size 0 lo:Nat):Int)==0&&(1:Int)==1&&(sIx items.size items.size hi - sIx items.size 0 lo)==items.size)=true):=by
  intro q
  rw[zdd3,zdd3] at q
  have q1:((sIx items.size 0 lo:Nat):Int)=0:=eq_of_beq q.1.1
  have q2:sIx items.size items.size hi - sIx items.size 0 lo=items.size:=eq_of_beq q.2
  exact hw ⟨by omega,by omega⟩
 show wpAny _ _ (if (((sIx items.size 0 lo:Nat):Int)==0&&(1:Int)==1&&(sIx items.size items.size hi - sIx items.size 0 lo)==items.size)=true then _ else _) _ _ s
 rw[if_neg hno,zcc4]
 first
  | exact zdf7 (m:=Builtin.Tuple.tupleExact _) (wpAny_newObj_type (zdf8 ⟨_,rfl,zdf8 h⟩) htake)
  | exact zdf7 (m:=Builtin.Tuple.tupleExact _) (wpAny_newObj_type (zdf7 (zdf8 (zdf8 ⟨_,rfl,zdf8 h⟩))) htake)
  | exact zdf7 (zdf7 (m:=Builtin.Tuple.tupleExact _) (wpAny_newObj_type (zdf8 (zdf8 ⟨_,rfl,zdf8 h⟩)) htake))
  | exact zdf7 (zdf7 (m:=Builtin.Tuple.tupleExact _) (wpAny_newObj_type (zdf8 ⟨_,rfl,zdf8 h⟩) htake))
end
end HT
namespace L2
open PySem PySem.Spec PyProof.Rows
noncomputable abbrev TO:=St->Hp->(Option Int->Hp->Prop)->Prop
noncomputable def PO(X:Cx)(e:Option Expr)(t:TO):Prop:=
 ∀ (pins:List (Addr×Obj)) (s:Shared) (σ:St) (H:Hp) (Q:Option Int->Hp->Prop),Inv X pins σ H s->t σ H Q ->
  wpAny (model X.prog X.w) X.A (evalPart e X.env) (fun u s'=>∃ o H',Inv X pins σ H' s'/\IsPart u o/\Q o H') X.xe s
noncomputable def zcn7:TO:=fun _ H Q=>Q none H
theorem zy9{ns:List Int}:∀ {us:List Value},Vals (ns.map V.int) us->IntsAre us ns:=by
 induction ns with
 | nil=>intro us r;rw[zde9] at r;cases r;exact .nil
 | cons n ns ih=>
  intro us r
  rw[zcz9] at r
  cases r with
  | cons r1 r2=>
   obtain⟨t,e⟩:=r1
   subst e
   exact .cons n t (ih r2)
section
variable {X:Cx}{e:Expr}{te:TE}{lo hi:Option Expr}{tl th:TO}{pos p2:Pos}
theorem zbd2:PO X none zcn7:=by
 intro pins s σ H Q I h
 rw[evalPart_none]
 exact zdf8 ⟨none,H,I,.none,h⟩
noncomputable def SlR(X:Cx)(r:V->Option Int->Option Int->Hp->VK->Prop):Prop:=
 ∀ (pins:List (Addr×Obj)) (s:Shared) (σ:St) (H:Hp) (x:V) (v vl vu:Value) (lo hi:Option Int) (sl:Addr) (Q:VK),Inv X pins σ H s->RelV x v->s.heap.IsSliceOf sl vl vu .none->IsPart vl lo->IsPart vu hi->r x lo hi H Q ->
  ∃ T id,typeLookup (.type T) "__getitem__"=pure (some (.builtin id))/\s.TypeIs v T/\wpAny (model X.prog X.w) X.A (getItem v (.ref sl)) (EP X pins σ Q) X.xe s
noncomputable def tSl(r:V->Option Int->Option Int->Hp->VK->Prop)(te:TE)(tl th:TO):TE:=fun σ H Q=>te σ H fun x H1=>tl σ H1 fun l H2=>th σ H2 fun u H3=>r x l u H3 Q
theorem zau1{r:V->Option Int->Option Int->Hp->VK->Prop}(hr:SlR X r)(he:PE X e te)(hl:PO X lo tl)(hu:PO X hi th):PE X (.Subscript e (.Slice lo hi none p2) pos) (tSl r te tl th):=by
 intro pins s σ H Q I h
 refine Subscript_ (thn (he pins s σ H _ I h) fun v s1 ⟨x,H1,I1,r1,q1⟩=>?_)
 refine wpAny_Slice (thn (hl pins s1 σ H1 _ I1 q1) fun vl s2 ⟨l,H2,I2,pl,q2⟩=>thn (hu pins s2 σ H2 _ I2 q2) fun vu s3 ⟨u,H3,I3,pu,q3⟩=>?_)
 rw[evalPart_none]
 refine zdf8 ?_
 have I4:Inv X pins σ H3 { s3 with heap:=s3.heap.push { cls:=.type "slice",data:=.fields #[vl,vu,.none] } }:=I3.kept (t':=s3.toks) fun b ob q=>zcw5 _ q
 obtain⟨T,id,hT,ht,hg⟩:=hr pins { s3 with heap:=s3.heap.push { cls:=.type "slice",data:=.fields #[vl,vu,.none] } } σ H3 x v vl vu l u s3.heap.objs.size Q I4 r1 (Heap.IsSliceOf.new ..) pl pu q3
 show wpAny (model X.prog X.w) X.A (subscriptTail e (.Slice lo hi none p2) v (.ref s3.heap.objs.size)) (EP X pins σ Q) X.xe { s3 with heap:=s3.heap.push { cls:=.type "slice",data:=.fields #[vl,vu,.none] } }
 exact tail_any (ops:=[.ref s3.heap.objs.size,v]) ht hT hg (by with_unfolding_all rfl)
noncomputable def cutV(xs:List V)(lo hi:Option Int):List V:=(xs.drop (HT.sIx xs.length 0 lo)).take (HT.sIx xs.length xs.length hi - HT.sIx xs.length 0 lo)
theorem zam6(xs:List V)(lo hi:Option Int):(cutV xs lo hi).length<=xs.length:=by
 unfold cutV
 rw[zde3,zdd2]
 omega
noncomputable def rSlT(K:zcw1):V->Option Int->Option Int->Hp->VK->Prop:=fun x lo hi H Q=>∃ a xs,x=.ref a/\SqT K H a xs /\
 ¬ (HT.sIx xs.length 0 lo=0/\HT.sIx xs.length xs.length hi=xs.length)/\∀ p,H p=none->Q (.ref p) (upd H p (.tup (cutV xs lo hi)))
theorem sl_tup:SlR X (rSlT X.K):=by
 intro pins s σ H x v vl vu lo hi sl Q I rx hs pl pu h
 obtain⟨a,xs,rfl,hx,hw,q⟩:=h
 cases rx
 obtain⟨its,r,ht,hz⟩:=I.tuple hx
 have hlen:its.toArray.size=xs.length:=by rw[zcw8];exact r.length.symm
 refine⟨"tuple",_,PyProof.Rows.slot_tuple_getitem.lookup,ht.typeIs,?_⟩
 refine HT.getItem_tuple_cut ht hs pl pu (by rw[hlen];exact hw) ?_ (by rw[hlen];exact hz)
 rw[hlen]
 refine⟨.ref s.heap.objs.size,_,I.laid (t':=s.toks) (o:=.tup (cutV xs lo hi)) (fun b ob q=>zcw5 _ q) (zcw4 _) ?_,rfl,q _ (I.hok.fresh (zcw4 _))⟩
 exact⟨zcy7 (zam6 xs lo hi) hz,_,(r.drop (HT.sIx xs.length 0 lo)).take (HT.sIx xs.length xs.length hi - HT.sIx xs.length 0 lo),IsTup.new _ _⟩
end
noncomputable def ixN(n:Nat)(i:Int):Option Nat:=if 0<=i then (if i<n then some i.toNat else none) else if -(n:Int)<=i then some (i+n).toNat else none
noncomputable def atI{α:Type}(xs:List α)(i:Int):Option α:=(ixN xs.length i).bind fun j=>xs[j]?
theorem zbz6{n:Nat}{i:Int}{j:Nat}(h:ixN n i=some j):seqIndex? i n=some j/\j<n/\-(n:Int)<=i/\i<n:=by
 unfold ixN at h
 by_cases h0:0<=i
 ·rw[if_pos h0] at h
  by_cases h1:i<n
  ·rw[if_pos h1] at h
   have e:i.toNat=j:=Option.some.inj h
   exact⟨by rw[seqIndex_of h0 h1,e],by omega,by omega,h1⟩
  ·rw[if_neg h1] at h;cases h
 ·rw[if_neg h0] at h
  by_cases h1:-(n:Int)<=i
  ·rw[if_pos h1] at h
   have e:(i+n).toNat=j:=Option.some.inj h
   exact⟨by rw[seqIndex_neg (by omega) h1,e],by omega,h1,by omega⟩
  ·rw[if_neg h1] at h;cases h
theorem zbg9{α:Type}{xs:List α}{i:Int}{v:α}(h:atI xs i=some v):∃ j,seqIndex? i xs.length=some j/\xs[j]?=some v/\j<xs.length/\-(xs.length:Int)<=i/\i<xs.length:=by
 unfold atI at h
 cases e:ixN xs.length i with
 | none=>rw[e] at h;cases h
 | some j=>
  rw[e] at h
  obtain⟨h1,h2,h3,h4⟩:=zbz6 e
  exact⟨j,h1,h,h2,h3,h4⟩
theorem zc9{α:Type}{xs:List α}{j:Nat}{v:α}(h:xs[j]?=some v):atI xs (j:Int)=some v:=by
 have hj:j<xs.length:=(zcw2.mp h).1
 have e:ixN xs.length (j:Int)=some j:=by
  unfold ixN
  rw[if_pos (by omega),if_pos (by omega)];simp
 unfold atI;rw[e];exact h
noncomputable def zbe9(b:Expr):Prop:=∀ o i,subscripted b false o i=operate [o,i] (getItem o i)
noncomputable def IxR(X:Cx)(r:R2):Prop:=
 ∀ (value slice:Expr) (pins:List (Addr×Obj)) (s:Shared) (σ:St) (H:Hp) (x y:V) (v u:Value) (Q:VK),Inv X pins σ H s->RelV x v->RelV y u->r x y H Q ->
  subscripted slice false v u=operate [v,u] (getItem v u)->wpAny (model X.prog X.w) X.A (subscriptTail value slice v u) (EP X pins σ Q) X.xe s
noncomputable def MtR(X:Cx)(id:String)(r:V->List V->Hp->VK->Prop):Prop:=
 ∀ (pins:List (Addr×Obj)) (s:Shared) (σ:St) (H:Hp) (x:V) (xs:List V) (v:Value) (us:List Value) (Q:VK),Inv X pins σ H s->RelV x v->Vals xs us->r x xs H Q ->
  wpAny (model X.prog X.w) X.A (call (.builtin id) (v :: us)) (EP X pins σ Q) X.xe s
section
variable {X:Cx}{a b:Expr}{ta tb:TE}{pos:Pos}
theorem pe_ix{r:R2}(hr:IxR X r)(ha:PE X a ta)(hb:PE X b tb)(hs:zbe9 b):PE X (.Subscript a b pos) (tOp r ta tb):=by
 intro pins s σ H Q I h
 exact Subscript_ (binT ha hb I h fun v u s2 x y H2 I2 rx ry q=>hr a b pins s2 σ H2 x y v u Q I2 rx ry q (hs _ _))
noncomputable def rIxL(K:zcw1):R2:=fun x y H Q=>∃ p xs i v,x=.ref p/\y=.int i/\SqL K H p xs/\atI xs i=some v/\Q v H
noncomputable def rIxT(K:zcw1):R2:=fun x y H Q=>∃ p xs i v,x=.ref p/\y=.int i/\SqT K H p xs/\atI xs i=some v/\Q v H
noncomputable def rIxS:R2:=fun x y H Q=>∃ z i c,x=.str z/\y=.int i/\z.length<=sizeLine/\atI z.cps.toList i=some c/\Q (.str ⟨#[c]⟩) H
theorem zcm8:IxR X (rIxL X.K):=by
 intro value slice pins s σ H x y v u Q I rx ry h hs
 obtain⟨p,xs,i,z,rfl,rfl,hq,he,q⟩:=h
 cases rx
 obtain⟨t,rfl⟩:=ry
 obtain⟨its,r,pl,hz⟩:=I.list hq
 obtain⟨j,h1,h2,h3,h4,h5⟩:=zbg9 he
 obtain⟨w,ew,rw'⟩:=r.get h2
 have hl:=r.length
 have hn:=zal5
 have fin:EP X pins σ Q w s:=⟨z,H,I,rw',q⟩
 by_cases h0:0<=i
 ·have hj:i.toNat=j:=by
   rw[seqIndex_of h0 h5] at h1
   exact Option.some.inj h1
  exact item_listR pl.isList h0 (by omega) (by rw[hj];simpa using ew) fin hs
 ·have hj:(i+(its.toArray.size:Int)).toNat=j:=by
   rw[seqIndex_neg (by omega) h4] at h1
   rw[zcw8,← hl]
   exact Option.some.inj h1
  exact subscriptTail_builtinR (x:=w) pl.isList.typeIs slot_list_getitem.lookup
   (wpAny_getItem_list_neg (Q:=fun r s'=>r=w/\EP X pins σ Q r s') pl.isList (by omega) (by rw[zcw8]<;>omega) (by omega) (by rw[hj];simpa using ew) ⟨rfl,fin⟩) hs
theorem ix_tup:IxR X (rIxT X.K):=by
 intro value slice pins s σ H x y v u Q I rx ry h hs
 obtain⟨p,xs,i,z,rfl,rfl,hq,he,q⟩:=h
 cases rx
 obtain⟨t,rfl⟩:=ry
 obtain⟨its,r,pl,hz⟩:=I.tuple hq
 obtain⟨j,h1,h2,h3,h4,h5⟩:=zbg9 he
 obtain⟨w,ew,rw'⟩:=r.get h2
 have hl:=r.length
 have hn:=zal5
 have fin:EP X pins σ Q w s:=⟨z,H,I,rw',q⟩
 exact subscriptTail_builtinR (x:=w) pl.typeIs slot_tuple_getitem.lookup
  (getItem_tuple (j:=j) (Q:=fun r s'=>r=w/\EP X pins σ Q r s') pl (by omega) (by omega) (by rw[zcw8,← hl];exact h1) (by simpa using ew) ⟨rfl,fin⟩) hs
theorem ix_str:IxR X rIxS:=by
 intro value slice pins s σ H x y v u Q I rx ry h hs
 obtain⟨z,i,c,rfl,rfl,hz,he,q⟩:=h
 obtain⟨t,rfl⟩:=rx
 obtain⟨t',rfl⟩:=ry
 obtain⟨j,h1,h2,h3,h4,h5⟩:=zbg9 he
 have hl:z.cps.toList.length=z.length:=by simp[Str.length]
 rw[hl] at h1 h4 h5
 have hn:=zal5
 exact tail_any (typeIs_str s z t) slot_str_getitem.lookup (getItem_str (c:=c) (by
  have e1:decide (i < -(2 ^ 63:Int))=false:=decide_eq_false (by omega)
  have e2:decide (i≥2 ^ 63)=false:=decide_eq_false (by omega)
  rw[e1,e2,Bool.or_false]) (by rw[h1];simpa using h2) ⟨.str ⟨#[c]⟩,H,I.tok _,⟨_,rfl⟩,q⟩) hs
theorem zbp5(its:List Value)(n j:Nat)(u:Value):Obj.mapSeq (·.setIfInBounds j u) { cls:=.type "list",data:=.seq its.toArray n }={ cls:=.type "list",data:=.seq (its.set j u).toArray n }:=by
 simp[Obj.mapSeq]
theorem Inv.lst{pins:List (Addr×Obj)}{σ:St}{H:Hp}{s:Shared}{p:Addr}{xs:List V}(I:Inv X pins σ H s)(h:H p=some (.lst xs)) :
  ∃ (its:List Value) (n:Nat),Vals xs its/\s.heap.get? p=some { cls:=.type "list",data:=.seq its.toArray n }/\xs.length<=sizeLine:=by
 obtain⟨z,its,n,r,e⟩:=I.hok p _ h
 exact⟨its,n,r,e,z⟩
theorem Inv.lstUpd{pins:List (Addr×Obj)}{σ:St}{H:Hp}{s:Shared}{p:Addr}{xs ys:List V}{its its':List Value}{n n':Nat}{f:Obj->Obj}(I:Inv X pins σ H s)(h:H p=some (.lst xs))(ho:s.heap.get? p=some { cls:=.type "list",data:=.seq its.toArray n })(hf:f { cls:=.type "list",data:=.seq its.toArray n }={ cls:=.type "list",data:=.seq its'.toArray n' })(r:Vals ys its')(hz:ys.length<=sizeLine)(t:Nat) :
  Inv X pins σ (upd H p (.lst ys)) { s with heap:=s.heap.update p f,toks:=t }:=by
 have e:(s.heap.update p f).get? p=some { cls:=.type "list",data:=.seq its'.toArray n' }:=by
  rw[Heap.get?_update_self f ho (by rw[hf]<;>rfl),hf]
 refine I.write (x:=p) (e:=p) (by rw[h];trivial) (.inl rfl) (fun b u hb q=>(Heap.get?_update_other _ _ (Ne.symm hb)).trans q) ⟨_,e⟩ ?_
 exact⟨hz,its',n',r,e⟩
noncomputable def rSetL:V->V->V->Hp->(Hp->Prop)->Prop:=fun o i v H Q=>∃ p xs k j,o=.ref p/\i=.int k/\H p=some (.lst xs)/\ixN xs.length k=some j/\Q (upd H p (.lst (xs.set j v)))
theorem zcc0:PSet X rSetL:=by
 intro pins s σ H o i v ov iv u Q I ro ri rv h
 obtain⟨p,xs,k,j,rfl,rfl,hp,hj,q⟩:=h
 cases ro
 obtain⟨t,rfl⟩:=ri
 obtain⟨its,n,r,ho,hz⟩:=I.lst hp
 obtain⟨h1,h2,h3,h4⟩:=zbz6 hj
 have hl:=r.length
 have hn:=zal5
 have I':Inv X pins σ (upd H p (.lst (xs.set j v))) { s with heap:=s.heap.update p (Obj.mapSeq (·.setIfInBounds j u)) }:=
  I.lstUpd hp ho (zbp5 its n j u) (r.set rv j) (by rw[zdd0];exact hz) s.toks
 by_cases h0:0<=k
 ·have hk:k.toNat=j:=by
   rw[seqIndex_of h0 h4] at h1
   exact Option.some.inj h1
  exact PySem.W.ki_setAt ho h0 (by omega) (by rw[zcw8,← hl];exact h4) (by rw[hk];exact⟨_,I',q⟩)
 ·have hk:(k+(its.toArray.size:Int)).toNat=j:=by
   rw[seqIndex_neg (by omega) h3] at h1
   rw[zcw8,← hl]
   exact Option.some.inj h1
  exact PySem.W.ki_setBack ho (by omega) (by rw[zcw8,← hl];exact h3) (by omega) (by rw[hk];exact⟨_,I',q⟩)
theorem zbb4(lo hi:Option Int)(n:Nat):(sliceBounds lo hi none n).1=((HT.sIx n 0 lo:Nat):Int)/\(sliceBounds lo hi none n).2.1=((HT.sIx n n hi:Nat):Int)/\(sliceBounds lo hi none n).2.2=1:=by
 refine⟨?_,?_,rfl⟩
 ·cases lo with
  | none=>simp[sliceBounds,HT.sIx]
  | some i=>
   simp only[sliceBounds,HT.sIx,Option.getD_none,show (1:Int)>0 by decide,if_true]
   by_cases h:i<0
   ·simp only[h,if_true]<;>omega
   ·simp only[h,if_false]<;>omega
 ·cases hi with
  | none=>simp[sliceBounds,HT.sIx]
  | some i=>
   simp only[sliceBounds,HT.sIx,Option.getD_none,show (1:Int)>0 by decide,if_true]
   by_cases h:i<0
   ·simp only[h,if_true]<;>omega
   ·simp only[h,if_false]<;>omega
theorem zau9(its:List Value)(lo hi:Option Int):slicePick its.toArray lo hi none=((its.drop (HT.sIx its.length 0 lo)).take (HT.sIx its.length its.length hi - HT.sIx its.length 0 lo)).toArray:=by
 obtain⟨h1,h2,h3⟩:=zbb4 lo hi its.toArray.size
 unfold slicePick
 rw[h1,h2,h3]
 simp only[sliceRange_one,pick_run,zcw8]<;>rfl
noncomputable def rSlL(K:zcw1):V->Option Int->Option Int->Hp->VK->Prop:=fun x lo hi H Q=>∃ a xs,x=.ref a/\SqL K H a xs/\∀ p,H p=none->Q (.ref p) (upd H p (.lst (cutV xs lo hi)))
theorem zby4:SlR X (rSlL X.K):=by
 intro pins s σ H x v vl vu lo hi sl Q I rx hs pl pu h
 obtain⟨a,xs,rfl,hx,q⟩:=h
 cases rx
 obtain⟨its,r,ht,hz⟩:=I.list hx
 have hlen:=r.length
 refine⟨"list",_,slot_list_getitem.lookup,ht.isList.typeIs,?_⟩
 refine wpAny_getItem_list_slice ht.isList hs pl pu .none (by simp) ?_ (by rw[zcw8]<;>omega)
 rw[zau9,← hlen]
 refine⟨.ref s.heap.objs.size,_,I.laid (t':=s.toks) (o:=.lst (cutV xs lo hi)) (fun b ob q=>zcw5 _ q) (zcw4 _) ?_,rfl,q _ (I.hok.fresh (zcw4 _))⟩
 exact⟨zcy7 (zam6 xs lo hi) hz,_,0,(r.drop (HT.sIx xs.length 0 lo)).take (HT.sIx xs.length xs.length hi - HT.sIx xs.length 0 lo),zcx7 _ rfl⟩
noncomputable def zbi0:V->Bool
 | .non=>true
 | .bl _=>true
 | .int _=>true
 | .str _=>true
 | _=>false
noncomputable def eqV:V->V->Bool
 | .non,.non=>true
 | .bl a,.bl b=>a==b
 | .bl a,.int b=>(if a then 1 else 0)==b
 | .int a,.bl b=>a==(if b then 1 else 0)
 | .int a,.int b=>a==b
 | .str a,.str b=>a==b
 | _,_=>false
theorem zcg0{A:Around}{s:Shared}{y x:V}{u v:Value}(ry:RelV y u)(rx:RelV x v)(fy:zbi0 y=true)(fx:zbi0 x=true):SeqAt.EqAt A s u v (eqV y x):=by
 cases y with
 | non=>
  cases ry
  cases x with
  | non=>cases rx;exact SeqAt.EqAt.same _
  | bl b=>cases rx;exact SeqAt.EqAt.none_bool b
  | int b=>obtain⟨t,rfl⟩:=rx;exact SeqAt.EqAt.none_int b t
  | str b=>obtain⟨t,rfl⟩:=rx;exact SeqAt.EqAt.none_str b t
  | _=>exact absurd (show false=true from fx) zcx1
 | bl a=>
  cases ry
  cases x with
  | non=>cases rx;exact SeqAt.EqAt.bool_none a
  | bl b=>cases rx;exact SeqAt.EqAt.bool_bool a b
  | int b=>obtain⟨t,rfl⟩:=rx;exact SeqAt.EqAt.bool_int a b t
  | str b=>obtain⟨t,rfl⟩:=rx;exact SeqAt.EqAt.bool_str a b t
  | _=>exact absurd (show false=true from fx) zcx1
 | int a=>
  obtain⟨t',rfl⟩:=ry
  cases x with
  | non=>cases rx;exact SeqAt.EqAt.int_none a t'
  | bl b=>cases rx;exact SeqAt.EqAt.int_bool a t' b
  | int b=>obtain⟨t,rfl⟩:=rx;exact SeqAt.EqAt.int_int a t' b t
  | str b=>obtain⟨t,rfl⟩:=rx;exact SeqAt.EqAt.int_str a t' b t
  | _=>exact absurd (show false=true from fx) zcx1
 | str a=>
  obtain⟨t',rfl⟩:=ry
  cases x with
  | non=>cases rx;exact SeqAt.EqAt.str_none a t'
  | bl b=>cases rx;exact SeqAt.EqAt.str_bool a t' b
  | int b=>obtain⟨t,rfl⟩:=rx;exact SeqAt.EqAt.str_int a t' b t
  | str b=>obtain⟨t,rfl⟩:=rx;exact SeqAt.EqAt.str_str a t' b t
  | _=>exact absurd (show false=true from fx) zcx1
 | _=>exact absurd (show false=true from fy) zcx1
theorem zaz6:zq1 X (.builtin "len") (fun xs H Q=>∃ p ys,xs=[.ref p]/\(SqL X.K H p ys∨SqT X.K H p ys)/\Q (.int ys.length) H):=by
 intro pins s σ H xs us Q I r h
 obtain⟨p,ys,rfl,hq,q⟩:=h
 obtain⟨u,rfl,rx⟩:=zah1 r
 cases rx
 have hn:=zal5
 rcases hq with hq|hq
 ·obtain⟨its,r',pl,hz⟩:=I.list hq
  have hlen:=r'.length
  exact Calls.call_len_list pl.isList (by simp only[zcw8]<;>omega) ⟨.int ys.length,H,I.tok _,⟨s.toks+1,by rw[zcw8,hlen]⟩,q⟩
 ·obtain⟨its,r',pl,hz⟩:=I.tuple hq
  have hlen:=r'.length
  exact len_tuple pl (by simp only[zcw8]<;>omega) ⟨.int ys.length,H,I.tok _,⟨s.toks+1,by rw[zcw8,hlen]⟩,q⟩
theorem zay3:zq1 X (.builtin "len") (fun xs H Q=>∃ z,xs=[.str z]/\z.length<=sizeLine/\Q (.int z.length) H):=by
 intro pins s σ H xs us Q I r h
 obtain⟨z,rfl,hz,q⟩:=h
 obtain⟨u,rfl,t,rfl⟩:=zah1 r
 have hn:=zal5
 exact len_str (by omega) ⟨.int z.length,H,I.tok _,⟨_,rfl⟩,q⟩
theorem zay1:zq1 X (.type "list") (fun xs H Q=>∃ p ys,xs=[.ref p]/\(SqL X.K H p ys∨SqT X.K H p ys)/\∀ l,H l=none->Q (.ref l) (upd H l (.lst ys))):=by
 intro pins s σ H xs us Q I r h
 obtain⟨p,ys,rfl,hq,q⟩:=h
 obtain⟨u,rfl,rx⟩:=zah1 r
 cases rx
 have fin:∀ (its:List Value),Vals ys its->ys.length<=sizeLine->∀ (h':Heap) (c':Nat),(∀ b o',s.heap.get? b=some o'->h'.get? b=some o') ->
   h'.get? s.heap.objs.size=some { cls:=.type "list",dict:=none,data:=.seq its.toArray c',slots:=#[] }->EP X pins σ Q (.ref s.heap.objs.size) { s with heap:=h' }:=fun its r' hz h' c' kp e=>
  ⟨.ref s.heap.objs.size,_,I.laid (t':=s.toks) kp (zcw4 _) (show zk5 X.prog X.w _ h' _ (.lst ys) from ⟨hz,its,c',r',e⟩),rfl,q _ (I.hok.fresh (zcw4 _))⟩
 rcases hq with hq|hq
 ·obtain⟨its,r',pl,hz⟩:=I.list hq
  have hlen:=r'.length
  obtain⟨o,ho,hc,n,hd⟩:=pl.isList
  exact call_list_seq p (.inl rfl) ho hc hd (fun h' c' kp e=>fin its r' hz h' c' kp e) (by simp only[zcw8]<;>omega)
 ·obtain⟨its,r',pl,hz⟩:=I.tuple hq
  have hlen:=r'.length
  obtain⟨o,ho,hc,n,hd⟩:=pl
  exact call_list_seq p (.inr rfl) ho hc hd (fun h' c' kp e=>fin its r' hz h' c' kp e) (by simp only[zcw8]<;>omega)
noncomputable def tyV(K:zcw1)(T:String)(x:V)(H:Hp):Prop:=match x with
 | .str _=>T="str"
 | .int _=>T="int"
 | .ref p=>(T="list"/\∃ xs,SqL K H p xs)∨(T="tuple"/\∃ o,K.lookup p=some o/\o.cls=.type "tuple"/\o.dict=none) ∨
   (T="dict"/\((∃ kvs,H p=some (.dK kvs))∨∃ kvs,H p=some (.dT kvs)))∨(T="set"/\∃ S n,H p=some (.set S n))
 | _=>False
theorem tyV_is{pins:List (Addr×Obj)}{σ:St}{H:Hp}{s:Shared}{T:String}{x:V}{v:Value}(I:Inv X pins σ H s)(r:RelV x v)(ty:tyV X.K T x H) :
  s.TypeIs v T/\∀ a,v=.ref a->∃ ob,s.heap.get? a=some ob/\ob.dict=none:=by
 cases x with
 | str z=>
  obtain⟨t,rfl⟩:=r
  cases (show T="str" from ty)
  exact⟨typeIs_str s z t,fun _ e=>nomatch e⟩
 | int i=>
  obtain⟨t,rfl⟩:=r
  cases (show T="int" from ty)
  exact⟨typeIs_int s i t,fun _ e=>nomatch e⟩
 | ref p=>
  cases r
  rcases ty with ⟨rfl,xs,hq⟩|⟨rfl,o,hk,hc,hd⟩|⟨rfl,hk⟩|⟨rfl,S,n,hk⟩
  ·obtain⟨its,_,pl,_⟩:=I.list hq
   refine⟨pl.isList.typeIs,fun a e=>?_⟩
   cases e
   obtain⟨o,n,e,c,hd,_⟩:=pl
   exact⟨o,e,hd⟩
  ·refine⟨⟨o,I.kIn p o hk,hc⟩,fun a e=>?_⟩
   cases e
   exact⟨o,I.kIn _ o hk,hd⟩
  ·have z:∃ o,s.heap.get? p=some o/\o.ExactDict:=by
    rcases hk with ⟨kvs,hk⟩|⟨kvs,hk⟩
    ·obtain⟨_,_,_,_,o,_,_,e,ex,_⟩:=I.hok p _ hk
     exact⟨o,e,ex⟩
    ·obtain⟨_,_,_,_,o,_,_,e,ex,_⟩:=I.hok p _ hk
     exact⟨o,e,ex⟩
   obtain⟨o,e,ex⟩:=z
   refine⟨⟨o,e,ex.1⟩,fun a e2=>?_⟩
   cases e2
   exact⟨o,e,ex.2.1⟩
  ·obtain⟨o,_,_,_,e,ex,_⟩:=I.hok p _ hk
   refine⟨⟨o,e,ex.1⟩,fun a e2=>?_⟩
   cases e2
   exact⟨o,e,ex.2.1⟩
 | _=>exact False.elim ty
variable {o e:Expr}{es:List Expr}{to:TE}{t:TA}{name:Str}{apos cpos:Pos}{T id:String}{r:V->List V->Hp->VK->Prop}
end
noncomputable def MtM(X:Cx)(id:String)(r:V->List V->Hp->VK->Prop):Prop:=
 ∀ (pins:List (Addr×Obj)) (s:Shared) (σ:St) (H:Hp) (x:V) (xs:List V) (v:Value) (us:List Value) (Q:VK),Inv X pins σ H s->RelV x v->Vals xs us->r x xs H Q ->
  wpAny (model X.prog X.w) X.A (call (.builtin id) (v :: us)) (EP X pins σ Q) X.xe s
theorem Vals.one:∀ {x:V}{us:List Value},Vals [x] us->∃ u,us=[u]/\RelV x u
 | _,_,.cons r .nil=>⟨_,rfl,r⟩
theorem Vals.rep{xs:List V}{us:List Value}(h:Vals xs us):∀ k:Nat,Vals (List.replicate k xs).flatten (List.replicate k us).flatten
 | 0=>.nil
 | k+1=>by
  rw[zde1,zde1,List.flatten_cons,List.flatten_cons]
  exact Vals.append h (Vals.rep h k)
theorem zbb3(its:List Value):∀ (k:Nat) (acc:List Value),
  List.foldl (fun x1 x2=>x1++x2) acc.toArray (List.replicate k its.toArray)=(acc++(List.replicate k its).flatten).toArray
 | 0,acc=>by simp
 | k+1,acc=>by
  have e:acc.toArray++its.toArray=(acc++its).toArray:=by simp
  have e2:(acc++its)++(List.replicate k its).flatten=acc++(List.replicate (k+1) its).flatten:=by
   rw[zde1,List.flatten_cons,List.append_assoc]
  rw[← e2,← zbb3 its k (acc++its),← e,zde1,List.foldl_cons]
section
variable {X:Cx}{pins:List (Addr×Obj)}{σ:St}{H:Hp}{s:Shared}{l b:Addr}{xs ys zs:List V}
theorem Inv.lset{its its':List Value}{n:Nat}{f:Array Value->Array Value}{t':Nat}(I:Inv X pins σ H s)(hH:H l=some (.lst xs))(e:s.heap.get? l=some { cls:=.type "list",data:=.seq its.toArray n })(hf:f its.toArray=its'.toArray)(hv:Vals ys its')(hz:ys.length<=sizeLine) :
  Inv X pins σ (upd H l (.lst ys)) { s with heap:=s.heap.update l (Obj.mapSeq f),toks:=t' }:=by
 have q:=PySem.IsL.update e f
 rw[hf] at q
 refine I.write (x:=l) (e:=l) (by rw[hH];exact trivial) (.inl rfl) (fun b' u hb hu=>(Heap.get?_update_other s.heap (Obj.mapSeq f) (Ne.symm hb)).trans hu) ⟨_,q⟩ ?_
 exact⟨hz,its',_,hv,q⟩
theorem Inv.lnew{its:List Value}{t':Nat}(I:Inv X pins σ H s)(hv:Vals ys its)(hz:ys.length<=sizeLine) :
  Inv X pins σ (upd H s.heap.objs.size (.lst ys)) { s with heap:=s.heap.push { cls:=.type "list",data:=.seq its.toArray },toks:=t' }:=
 I.laid (fun _ _ q=>zcw5 _ q) (zcw4 _) ⟨hz,its,0,hv,zcx7 _ rfl⟩
theorem Inv.fresh(I:Inv X pins σ H s):H s.heap.objs.size=none:=I.hok.fresh (zcw4 _)
theorem Inv.lstM(I:Inv X pins σ H s)(hH:H l=some (.lst xs)):xs.length<=sizeLine/\∃ (its:List Value) (n:Nat),Vals xs its/\xs.length=its.length/\s.heap.get? l=some { cls:=.type "list",data:=.seq its.toArray n }:=by
 obtain⟨z,its,n,r,e⟩:=I.hok l _ hH
 exact⟨z,its,n,r,r.length,e⟩
theorem zbn4{n:Nat}(h:n<=sizeLine):Builtin.List.listTooLong n=false:=by
 unfold Builtin.List.listTooLong
 exact decide_eq_false (by omega)
end
section
variable {X:Cx}
noncomputable def zcl6:V->List V->Hp->VK->Prop:=fun x vs H Q=>∃ l xs y,x=.ref l/\vs=[y]/\H l=some (.lst xs)/\xs.length<sizeLine/\Q .non (upd H l (.lst (xs++[y])))
theorem zaz5:MtM X "list.append" zcl6:=by
 intro pins s σ H x vs v us Q I rx rv h
 obtain⟨l,xs,y,rfl,rfl,hH,hz,q⟩:=h
 cases rx
 obtain⟨u,rfl,ru⟩:=rv.one
 obtain⟨z,its,n,r,hl,e⟩:=I.lstM hH
 refine call_meets F.slot_list_append ⟨_,e,rfl⟩ F.entry_list_append (F.args_list_append_2 _ _) (PySem.list_append l its.toArray n u (by rw[zcw8];omega)) ⟨e,?_⟩
 refine⟨.non,_,I.lset (its':=its++[u]) hH e (by simp) (r.append (.cons ru .nil)) ?_,rfl,q⟩
 rw[zcw9,zcy1]
 omega
noncomputable def zcl5:V->List V->Hp->VK->Prop:=fun x vs H Q=>∃ l b xs zs,x=.ref l/\vs=[.ref b]/\H l=some (.lst xs)/\H b=some (.lst zs)/\xs.length+zs.length<=sizeLine/\Q .non (upd H l (.lst (xs++zs)))
theorem mt_extend:MtM X "list.extend" zcl5:=by
 intro pins s σ H x vs v us Q I rx rv h
 obtain⟨l,b,xs,zs,rfl,rfl,hH,hB,hz,q⟩:=h
 cases rx
 obtain⟨u,rfl,ru⟩:=rv.one
 cases ru
 obtain⟨z,its,n,r,hl,e⟩:=I.lstM hH
 obtain⟨z2,its2,n2,r2,hl2,e2⟩:=I.lstM hB
 have hsz:its.toArray.size+its2.toArray.size<=sizeLine:=by rw[zcw8,zcw8];omega
 have hlong:¬ (!its.toArray.isEmpty&&Builtin.List.listTooLong (its.toArray.size+its2.toArray.size))=true:=by
  rw[zbn4 hsz,Bool.and_false]
  exact zcx1
 refine call_meets F.slot_list_extend ⟨_,e,rfl⟩ F.entry_list_extend (F.args_list_extend_2 _ _)
  (AutoSeq1.list_extend_list_list_0 l its.toArray n b its2.toArray n2 hlong (by rw[zcw8];omega) (by omega)) ⟨e,e2,?_⟩
 refine⟨.non,_,I.lset (its':=its++its2) hH e (by simp) (r.append r2) ?_,rfl,q⟩
 rw[zcw9]
 omega
noncomputable def rCat:R2:=fun x y H Q=>∃ l b xs zs,x=.ref l/\y=.ref b/\H l=some (.lst xs)/\H b=some (.lst zs)/\xs.length+zs.length<=sizeLine/\∀ p,H p=none->Q (.ref p) (upd H p (.lst (xs++zs)))
theorem op_cat:OpR X (binaryOp .Add) rCat:=by
 intro pins s σ H x y v u Q I rx ry h
 obtain⟨l,b,xs,zs,rfl,rfl,hH,hB,hz,q⟩:=h
 cases rx
 cases ry
 obtain⟨z,its,n,r,hl,e⟩:=I.lstM hH
 obtain⟨z2,its2,n2,r2,hl2,e2⟩:=I.lstM hB
 refine PySem.P.add_list e e2 ?_ (by rw[zcw8,zcw8];omega)
 have ea:its.toArray++its2.toArray=(its++its2).toArray:=by simp
 rw[ea]
 exact⟨.ref _,_,I.lnew (t':=s.toks) (r.append r2) (by rw[zcw9];omega),rfl,q _ I.fresh⟩
noncomputable def rRep:R2:=fun x y H Q=>∃ l k xs,x=.ref l/\y=.int k/\H l=some (.lst xs)/\-(2 ^ 63)<=k/\k<2 ^ 63/\xs.length*k.toNat<=sizeLine /\
 ∀ p,H p=none->Q (.ref p) (upd H p (.lst (List.replicate k.toNat xs).flatten))
theorem zci4{α:Type}(xs:List α)(k:Nat):(List.replicate k xs).flatten.length=k*xs.length:=by
 induction k with
 | zero=>simp
 | succ k ih=>rw[zde1,List.flatten_cons,zcw9,ih,Nat.succ_mul,Nat.add_comm]
theorem op_rep:OpR X (binaryOp .Mult) rRep:=by
 intro pins s σ H x y v u Q I rx ry h
 obtain⟨l,k,xs,rfl,rfl,hH,h1,h2,hz,q⟩:=h
 cases rx
 obtain⟨t,rfl⟩:=ry
 obtain⟨z,its,n,r,hl,e⟩:=I.lstM hH
 have hlen:its.toArray.size*k.toNat<=sizeLine:=by rw[zcw8,← hl];exact hz
 have hcap:¬ its.toArray.size*k.toNat>(2 ^ 63 - 1) / 8:=by
  have:(sizeLine:Nat)<=(2 ^ 63 - 1) / 8:=by decide
  omega
 have hfit:¬ (!Builtin.List.listFitsIndex k)=true:=by
  rw[fitsIndex_both h1 h2]
  exact zcx1
 have hlong:¬ Builtin.List.listTooLong (its.toArray.size*k.toNat)=true:=by
  rw[zbn4 hlen]
  exact zcx1
 have hnew:List.foldl (fun x1 x2=>x1++x2) #[] (List.replicate (if its.toArray.isEmpty=true then 0 else k.toNat) its.toArray)=(List.replicate k.toNat its).flatten.toArray:=by
  have f0:∀ m:Nat,List.foldl (fun x1 x2=>x1++x2) #[] (List.replicate m its.toArray)=(List.replicate m its).flatten.toArray:=fun m=>by
   have:=zbb3 its m []
   rw[List.nil_append] at this
   exact this
  rw[f0]
  cases its with
  | nil=>simp
  | cons a r'=>rw[if_neg (by simp)]
 refine wpAny_binaryOp_repeat_ref (T:="list") (U:="int") (by decide) ⟨_,e,rfl⟩ (fun s'=>typeIs_int s' k t) noFill_list_mul F.fills_int_mul F.slot_int_rmul repeat_list F.slot_int_index.lookup
  (call_meets F.slot_int_rmul (typeIs_int s k t) F.entry_int_rmul (F.args_int_rmul_2 _ _) (int___rmul___int_list k t l its.toArray n)
   ⟨e,rfl,⟨_,e,rfl⟩,call_meets F.slot_list_mul ⟨_,e,rfl⟩ F.entry_list_mul (F.args_list_mul_2 _ _) (AutoListH.list___mul___list_int_3 l its.toArray n k t hfit hcap hlong) ⟨e,?_⟩⟩)
 rw[hnew]
 exact⟨.ref _,_,I.lnew (t':=s.toks) (r.rep k.toNat) (by rw[zci4,Nat.mul_comm];exact hz),rfl,q _ I.fresh⟩
end
end L2
namespace Att
open PySem PySem.W PySem.Calls PyProof.Rows
theorem zam9{P:Params}{h:Heap}:∀ (ns:List Int) (vs:List Value),WellAll P h vs (ns.map WData.int)->IntsAre vs ns:=by
 intro ns
 induction ns with
 | nil=>
  intro vs w
  rw[zde9] at w
  cases w
  exact .nil
 | cons n ns ih=>
  intro vs w
  rw[zcz9] at w
  cases w with
  | cons a b=>
   cases a
   exact .cons _ _ (ih _ b)
theorem zbs4{l:OpenLaw}{n:Nat}(hn:l.most=some n){P:Params}{h:Heap}{args:List WData}{vals:List Value}(hpre:l.row.toRowW.claim.pre args=true)(hwl:WellAll P h vals args) :
  ∃ a vs ns,vals=[Value.ref a]/\args=[WData.list (ns.map WData.int)]/\h.get? a=some { cls:=.type "list",data:=.seq vs.toArray }/\IntsAre vs ns/\ns.length<=n:=by
 have hsh:WShape.hasAll [] args [.list .int]=true:=(pre_splitW hpre).1
 have hc:l.pre.holds [] { args:=args }=true:=(pre_splitW hpre).2
 obtain⟨d,r,rfl,h1,h2⟩:=hasAllW_cons hsh
 obtain rfl:=hasAllW_nil h2
 obtain⟨xs,rfl,h3⟩:=hasW_list h1
 obtain⟨ns,rfl⟩:=items_int h3
 have hlen:ns.length<=n:=by
  unfold OpenLaw.pre at hc
  have h4:(WTm.not (.lt (.lit (.int (n:Int))) (.len (.arg 0)))).holds [] { args:=[.list (ns.map .int)] }=true:=by
   have h4:=(holds_andW hc).1
   rw[hn] at h4
   exact h4
  have h5:=condW_of h4 (w_not (w_lt w_lit (w_len_list (w_arg rfl))))
  rw[zcw0] at h5
  refine Nat.le_of_not_lt fun q=>?_
  have q':(n:Int)<((ns.length:Nat):Int):=by omega
  first
   | (rw[decide_eq_true q'] at h5;exact absurd h5 (by decide))
   | (simp at h5;omega)
 cases hwl with
 | cons w1 w2=>
  cases w2
  cases w1 with
  | list ho hall=>exact⟨_,_,ns,rfl,rfl,ho,zam9 ns _ hall,hlen⟩
theorem zbv1(l:OpenLaw)(args:List WData):l.row.toRowW.claim.post args (.bool true) args=true:=
 postW_of (r:=l.row.toRowW) (X:=(true==true))
  (show WShape.has [] (.bool true) .bool=true by first|rfl|decide|simp[WShape.has,WShape.arms,WShape.armsAll])
  (show (WTm.eq .res (.lit (.bool true))).value [] { args:=args,res:=some (.bool true),after:=args }=some (.bool (true==true)) from w_eq_bool (w_res rfl) w_lit) rfl
theorem attach_call{l:OpenLaw}{n:Nat}{q:Program}{loose:List Str}{XP:(Str->Option Value)->Heap->Prop}{YP:World->Heap->Prop}{d:DefRec}(hn:l.most=some n)(hdf:d.params.defaults=[])(call:∀ (w:World) (s₀ s₁:Shared) (mg mb:Str->Option Value) (fa:Addr) (o:Obj) (pm cd doc:Value) (a:Addr) (vs:List Value) (ns:List Int),
   Ground q loose [] XP w s₀ mg mb s₁.heap->YP w s₁.heap ->
   s₁.heap.get? fa=some o->o.data=.func (docDef d.name d.params d.body d.scope pm cd doc)->s₁.heap.CodeRec cd d.name->mg d.name=some (.ref fa) ->
   s₁.heap.get? a=some { cls:=.type "list",data:=.seq vs.toArray }->IntsAre vs ns->ns.length<=n->s₁.gens=#[] ->
   codeAny (model l.prog w) callerA (.call (.ref fa) ⟨[.ref a],[]⟩) (fun r s'=>r=.ok (.ret (.bool true))/\OldK s₁.heap s'.heap/\s'.os=s₁.os/\AllBare s'.gens) s₁) :
  WalkO q loose XP YP l.row.toRowW d [] (fun f vs=>PySem.call f vs):=by
 intro w s₀ s₁ mg mb G Y fa o pm cd doc dV kV ho hd hcd hD hmg hg args vals as hpre hlay hrd hwl hlo
 obtain rfl:dV=.none:=Dflts.none hD hdf
 obtain rfl:kV=.none:=Dflts.noKw hD
 obtain⟨a,vs,ns,rfl,rfl,hobj,hints,hlen⟩:=zbs4 hn hpre hwl
 refine enter_call (codeAny_mono (call w s₀ s₁ mg mb fa o pm cd doc a vs ns G Y ho (fd_plain hd) hcd hmg hobj hints hlen hg) fun r s' hq=>?_)
 obtain⟨rfl,h2,h3,h4⟩:=hq
 exact⟨.inl ⟨.bool true,.bool true,[],rfl,fun _=>rfl,.bool true,zbv1 l _,fun _=>⟨List.Pairwise.nil,fun _ hm=>(nomatch hm)⟩⟩,h2,h3,h4⟩
section
variable {prog:Program}{w:World}{A:Around}{E:Value->Shared->Prop}{s:Shared}{K:Frag}
noncomputable def ledger(h:Heap)(L d:Addr):List (Addr×Obj):=(List.range h.objs.size).filterMap fun a=>if a=L∨a=d then none else (h.get? a).map fun o=>(a,o)
end
end Att
namespace L2
open PySem PySem.Spec PyProof.Rows
variable {H H' H1 H2:Hp}{xs ys:List V}{o:HO}{i n:Nat}{c e iter tg:Expr}{lo:Int}{elts es:List Expr}{te:TE}{σ:St}{scope:Scope}{Q:VK}{acc:Addr}{ta:TA}{ps:List Addr}
theorem zam1:∀ {vs:List Value}{ns:List Int},IntsAre vs ns->Vals (ns.map V.int) vs
 | _,_,.nil=>.nil
 | _,_,.cons n t h=>.cons ⟨t,rfl⟩ (zam1 h)
noncomputable def zck6(s:Stmt)(j:Nat):Stmt:=match s with
 | .ClassDef _ _ _ body _ _ _ _ _ _ _=>body.getD j (.Pass ⟨0,0,0,0⟩)
 | _=>.Pass ⟨0,0,0,0⟩
noncomputable def zp9(s:Stmt):Arguments:=match s with
 | .FunctionDef _ a _ _ _ _ _ _ _ _=>a
 | _=>{ posonlyargs:=[],args:=[],vararg:=none,kwonlyargs:=[],kw_defaults:=[],kwarg:=none,defaults:=[] }
noncomputable def zn7(s:Stmt):List Stmt:=match s with
 | .FunctionDef _ _ b _ _ _ _ _ _ _=>b
 | _=>[]
noncomputable def za6(s:Stmt):Scope:=match s with
 | .FunctionDef _ _ _ _ _ _ sc _ _ _=>sc
 | _=>{ kind:=.function,names:=[],isGenerator:=false,isCoroutine:=false }
noncomputable abbrev CX0:CXT:=fun _ _ _ _ _ _=>False
noncomputable abbrev E0:XK:=fun _ _ _=>False
theorem zb4{X:Cx}:zal4 CX0 X E0:=fun _ _ _ _ _ _ _ h=>h.elim
structure Fun(K:zcw1)(x qual:Str)(st:Stmt)(f:Addr)(fd:FuncData):Prop where
 ex:∃ (oc:Value) (od:Option Addr) (kV doc pm:Value) (an:Option Addr) (cdv ct:Value) (osl:Array (Option Value)),
  fd=zdc0 x qual (zp9 st) (zn7 st) (za6 st) .none kV doc pm an cdv ct/\K.lookup f=some ⟨oc,od,.func fd,osl⟩/\zdf3 K cdv qual=true
 kp:zdb6 K (.ref f)=true
section
variable {P:Program}{w:World}{K:zcw1}{mg:Str->Option Value}{base:Heap}
theorem Fun.ok{x qual:Str}{st:Stmt}{f:Addr}{fd:FuncData}{N ps:List Str}{k:Nat}{sp:Sp}(F:Fun K x qual st f fd)(S:zb0 N ps (za6 st))(len:∀ vs H Q E,sp vs H Q E->vs.length=ps.length)(hbody:∀ (cdv:Value) (A:Around) (outer:List Env) (s:Shared) (H:Hp) (vs:List V) (Q:VK) (E:XK),Room k (A.deeper (envOfC qual (za6 st) s.heap.objs.size f cdv))->sp vs H Q E ->
   ∃ t,PSs (cxOf CX0 P w K mg base N qual (za6 st) f cdv A outer s H E).nox (zn7 st) t/\t { nx:=fun _ H'=>Q .non H',rt:=Q } (start N vs) H):FnOk P w K mg base CX0 (k+1) f fd ps sp:=by
 obtain⟨oc,od,kV,doc,pm,an,cdv,ct,osl,rfl,lk,hcd⟩:=F.ex
 refine fn_of lk hcd S len fun A outer s H vs Q E hr hsp=>?_
 obtain⟨t,h,q⟩:=hbody cdv A outer s H vs Q E hr hsp
 exact⟨t,h.nox,q⟩
theorem Fun.binds{x qual:Str}{st:Stmt}{f:Addr}{fd:FuncData}{ps:List Str}(F:Fun K x qual st f fd)(h:∀ (kV doc pm:Value) (an:Option Addr) (cdv ct:Value) (us:List Value),us.length=ps.length->bindArgs (zdc0 x qual (zp9 st) (zn7 st) (za6 st) .none kV doc pm an cdv ct) ⟨us,[]⟩=pure (ps.zip us)):zai3 K fd ps []:=by
 obtain⟨oc,od,kV,doc,pm,an,cdv,ct,osl,rfl,lk,hcd⟩:=F.ex
 exact .all (h kV doc pm an cdv ct)
theorem zbb2{x qual:Str}{st:Stmt}{f:Addr}{oc:Value}{od an:Option Addr}{osl:Array (Option Value)}{kV doc pm cdv ct:Value}(l:K.lookup f=some ⟨oc,od,.func (zdc0 x qual (zp9 st) (zn7 st) (za6 st) .none kV doc pm an cdv ct),osl⟩)(c:zdf3 K cdv qual=true)(k:zdb6 K (.ref f)=true):Fun K x qual st f (zdc0 x qual (zp9 st) (zn7 st) (za6 st) .none kV doc pm an cdv ct):=⟨⟨oc,od,kV,doc,pm,an,cdv,ct,osl,rfl,l,c⟩,k⟩
end
theorem iteF{A B:Prop}(h:B):if false=true then A else B:=by
 rw[if_neg zcx1]
 exact h
theorem iteT{A B:Prop}(h:A):if true=true then A else B:=by
 rw[if_pos rfl]
 exact h
theorem ite2{c A B:Prop}[Decidable c](h1:c->A)(h2:¬ c->B):if c then A else B:=by
 by_cases h:c
 ·rw[if_pos h]
  exact h1 h
 ·rw[if_neg h]
  exact h2 h
noncomputable def Same(H H':Hp):Prop:=∀ b o,H b=some o->H' b=some o
theorem Same.refl(H:Hp):Same H H:=fun _ _ h=>h
theorem Same.trans(a:Same H H1)(b:Same H1 H2):Same H H2:=fun c o h=>b c o (a c o h)
theorem Same.free(e:Same H H'){l:Addr}(h:H' l=Option.none):H l=Option.none:=by
 cases q:H l with
 | none=>rfl
 | some o=>
  rw[e l o q] at h
  cases h
theorem Same.seq{K:zcw1}{a:Addr}(e:Same H H')(h:SqL K H a xs):SqL K H' a xs:=by
 rcases h with (h|⟨o,h⟩)|h
 ·exact .inl (.inl (e _ _ h))
 ·exact .inl (.inr ⟨o,e _ _ h⟩)
 ·exact .inr h
set_option maxHeartbeats 1000000
@[irreducible] noncomputable def br(c:Bool)(A B:Prop):Prop:=if c=true then A else B
section
variable {A B p:Prop}{c:Bool}
theorem zag2:br c A B=(if c=true then A else B):=by unfold br;rfl
theorem br_T(h:A):br true A B:=by unfold br;exact iteT h
theorem br_F(h:B):br false A B:=by unfold br;exact iteF h
theorem br_any(h1:c=true->A)(h2:c=false->B):br c A B:=by
 cases c with
 | true=>exact br_T (h1 rfl)
 | false=>exact br_F (h2 rfl)
theorem zk1 [Decidable p](h1:p->A)(h2:¬ p->B):br (decide p) A B:=br_any (fun h=>h1 (of_decide_eq_true h)) fun h=>h2 (of_decide_eq_false h)
theorem zl5 [Decidable p](hp:p)(h:A):br (decide p) A B:=zk1 (fun _=>h) fun n=>absurd hp n
theorem zt1 [Decidable p](hp:¬ p)(h:B):br (decide p) A B:=zk1 (fun n=>absurd n hp) fun _=>h
theorem ze3(h:br c B A):br (!c) A B:=by
 cases c with
 | true=>unfold br at h ⊢;simpa using h
 | false=>unfold br at h ⊢;simpa using h
end
noncomputable def Chg(a:Addr)(H H':Hp):Prop:=∀ b o,b≠a->H b=some o->H' b=some o
theorem Chg.upd{H:Hp}{a:Addr}{o:HO}:Chg a H (upd H a o):=fun b u hb e=>by rw[zb9 hb];exact e
theorem Same.upd{H:Hp}{a:Addr}{o:HO}(h:H a=none):Same H (L2.upd H a o):=fun b u e=>by rw[zb9 (za4 e h)];exact e
theorem Same.chg{H0:Hp}{a:Addr}(s:Same H0 H)(n:H0 a=none)(c:Chg a H H'):Same H0 H':=fun b o e=>c b o (za4 e n) (s b o e)
theorem Chg.refl(a:Addr)(H:Hp):Chg a H H:=fun _ _ _ e=>e
theorem Chg.trans{a:Addr}(x:Chg a H H1)(y:Chg a H1 H2):Chg a H H2:=fun b o h e=>y b o h (x b o h e)
theorem Chg.same{a:Addr}(x:Chg a H H1)(y:Same H1 H2):Chg a H H2:=fun b o h e=>y b o (x b o h e)
theorem Same.at{b:Addr}(s:Same H H')(e:H b=some o):H' b=some o:=s b o e
theorem Chg.at{a b:Addr}(s:Chg a H H')(e:H b=some o)(n:b≠a):H' b=some o:=s b o n e
noncomputable def qV(i:Nat):TE:=fun σ H Q=>match σ[i]? with
 | some (some v)=>Q v H
 | _=>False
section
variable {X:Cx}
theorem pq(i:Nat){x:Str}{pos:Pos}(hN:X.N[i]?=some x:=by rfl)(hv:Vis X.env.scope x:=by first|exact Or.inl rfl|exact Or.inr (Or.inl rfl)|exact Or.inr (Or.inr rfl))(hd:(x==("__debug__":Str))=false:=by decide)(hcd:(x==("__classdict__":Str))=false:=by decide):PE X (.Name x pos) (qV i):=fun pins s σ H Q I h=>by
 refine pe_var hN hv hd hcd pins s σ H Q I ?_
 unfold qV at h
 split at h
 ·rename_i v e
  exact⟨v,e,h⟩
 ·exact h.elim
@[irreducible] noncomputable def zbh5(i j:Int)(H:Hp)(Q:VK):Prop:=IntMulOk i j/\Q (.int (i*j)) H
@[irreducible] noncomputable def zax3(i j:Int)(H:Hp)(Q:VK):Prop:=(j≠0/\j.natAbs.log2<9000)/\Q (.int (i.fdiv j)) H
@[irreducible] noncomputable def zbs7(i j:Int)(H:Hp)(Q:VK):Prop:=j≠0/\Q (.int (i.fmod j)) H
@[irreducible] noncomputable def rPowI(i j:Int)(H:Hp)(Q:VK):Prop:=CPow i j/\Q (.int (i ^ j.toNat)) H
@[irreducible] noncomputable def rCatL(a b:Addr)(H:Hp)(Q:VK):Prop:=∃ xs zs,H a=some (.lst xs)/\H b=some (.lst zs)/\xs.length+zs.length<=sizeLine /\
 ∀ p H',H p=none->Same H H'->H' p=some (.lst (xs++zs))->Q (.ref p) H'
@[irreducible] noncomputable def rRepL(a:Addr)(k:Int)(H:Hp)(Q:VK):Prop:=∃ xs,H a=some (.lst xs)/\-(2 ^ 63)<=k/\k<2 ^ 63/\xs.length*k.toNat<=sizeLine /\
 ∀ p H',H p=none->Same H H'->H' p=some (.lst (List.replicate k.toNat xs).flatten)->Q (.ref p) H'
noncomputable def rAddM:R2:=fun x y H Q=>match x,y with
 | .int i,.int j=>Q (.int (i+j)) H
 | .ref a,.ref b=>rCatL a b H Q
 | .str a,.str b=>a.length+b.length<=sizeLine/\Q (.str (a++b)) H
 | _,_=>False
noncomputable def rSubM:R2:=fun x y H Q=>match x,y with
 | .int i,.int j=>Q (.int (i - j)) H
 | _,_=>False
noncomputable def rMulM:R2:=fun x y H Q=>match x,y with
 | .int i,.int j=>zbh5 i j H Q
 | .ref a,.int k=>rRepL a k H Q
 | _,_=>False
noncomputable def rDivM:R2:=fun x y H Q=>match x,y with
 | .int i,.int j=>zax3 i j H Q
 | _,_=>False
noncomputable def rModM:R2:=fun x y H Q=>match x,y with
 | .int i,.int j=>zbs7 i j H Q
 | _,_=>False
noncomputable def rPowM:R2:=fun x y H Q=>match x,y with
 | .int i,.int j=>rPowI i j H Q
 | _,_=>False
theorem oAdd:OpR X (binaryOp .Add) rAddM:=by
 intro pins s σ H x y v u Q I rx ry h
 unfold rAddM at h
 split at h
 ·exact op_add pins s σ H _ _ v u Q I rx ry ⟨_,_,rfl,rfl,h⟩
 ·unfold rCatL at h
  obtain⟨xs,zs,h1,h2,h3,h4⟩:=h
  exact op_cat pins s σ H _ _ v u Q I rx ry ⟨_,_,xs,zs,rfl,rfl,h1,h2,h3,fun p hp=>h4 p _ hp (Same.upd hp) zc0⟩
 ·exact zbo1 pins s σ H _ _ v u Q I rx ry ⟨_,_,rfl,rfl,h.1,h.2⟩
 ·exact h.elim
theorem oSub:OpR X (binaryOp .Sub) rSubM:=by
 intro pins s σ H x y v u Q I rx ry h
 unfold rSubM at h
 split at h
 ·exact op_sub pins s σ H _ _ v u Q I rx ry ⟨_,_,rfl,rfl,h⟩
 ·exact h.elim
theorem oMul:OpR X (binaryOp .Mult) rMulM:=by
 intro pins s σ H x y v u Q I rx ry h
 unfold rMulM at h
 split at h
 ·unfold zbh5 at h
  obtain⟨t,rfl⟩:=rx
  obtain⟨t',rfl⟩:=ry
  exact mul_int ⟨.int _,H,I.tok _,⟨_,rfl⟩,h.2⟩ h.1
 ·unfold rRepL at h
  obtain⟨xs,h1,h2,h3,h4,h5⟩:=h
  exact op_rep pins s σ H _ _ v u Q I rx ry ⟨_,_,xs,rfl,rfl,h1,h2,h3,h4,fun p hp=>h5 p _ hp (Same.upd hp) zc0⟩
 ·exact h.elim
theorem oDiv:OpR X (binaryOp .FloorDiv) rDivM:=by
 intro pins s σ H x y v u Q I rx ry h
 unfold rDivM at h
 split at h
 ·unfold zax3 at h
  obtain⟨⟨h1,h2⟩,h3⟩:=h
  obtain⟨t,rfl⟩:=rx
  obtain⟨t',rfl⟩:=ry
  exact floordiv_int h1 ⟨.int _,H,I.tok _,⟨_,rfl⟩,h3⟩ (.inl (PyProof.noPylong_of_log2 h2))
 ·exact h.elim
theorem oMod:OpR X (binaryOp .Mod) rModM:=by
 intro pins s σ H x y v u Q I rx ry h
 unfold rModM at h
 split at h
 ·unfold zbs7 at h
  exact zci1 pins s σ H _ _ v u Q I rx ry ⟨_,_,rfl,rfl,h.1,h.2⟩
 ·exact h.elim
theorem oPow:OpR X (binaryOp .Pow) rPowM:=by
 intro pins s σ H x y v u Q I rx ry h
 unfold rPowM at h
 split at h
 ·unfold rPowI at h
  exact op_pow pins s σ H _ _ v u Q I rx ry ⟨_,_,rfl,rfl,h.1,h.2⟩
 ·exact h.elim
noncomputable def rNegM:V->Hp->VK->Prop:=fun x H Q=>match x with
 | .int i=>Q (.int (-i)) H
 | _=>False
theorem uNeg:UnR X (unaryOp .USub) rNegM:=by
 intro pins s σ H x v Q I rx h
 unfold rNegM at h
 split at h
 ·exact un_neg pins s σ H _ v Q I rx ⟨_,rfl,h⟩
 ·exact h.elim
section
variable {i j:Int}{H:Hp}{Q:VK}
theorem zca2(h:IntMulOk i j)(q:Q (.int (i*j)) H):zbh5 i j H Q:=by unfold zbh5;exact⟨h,q⟩
theorem log2_lt{n k:Nat}(h:n<2 ^ k)(hk:0<k):n.log2<k:=by
 by_cases h0:n=0
 ·subst h0;simpa using hk
 ·exact (Nat.log2_lt h0).mpr h
theorem zco6{j:Int}(h1:-(10 ^ 240)<j)(h2:j<10 ^ 240):j.natAbs<2 ^ 2000:=by
 have e:(10:Int) ^ 240=((10 ^ 240:Nat):Int):=by norm_cast
 have e2:(10:Nat) ^ 240<2 ^ 2000:=by decide +kernel
 rw[e] at h1 h2
 generalize hN:(10:Nat) ^ 240=N at h1 h2 e2
 generalize hM:(2:Nat) ^ 2000=M at e2
 omega
theorem div_rd(h1:0<j)(h2:j<10 ^ 240)(q:Q (.int (i / j)) H):zax3 i j H Q:=by
 unfold zax3
 refine⟨⟨by omega,?_⟩,?_⟩
 ·have h:=log2_lt (zco6 (j:=j) (by have:(0:Int)<10 ^ 240:=(by decide +kernel);generalize (10:Int) ^ 240=N at this;omega) h2) (by decide)
  omega
 ·rw[Int.fdiv_eq_ediv_of_nonneg _ (by omega)];exact q
theorem zbk6(h1:0<j)(q:Q (.int (i % j)) H):zbs7 i j H Q:=by
 unfold zbs7
 refine⟨by omega,?_⟩
 rw[Int.fmod_eq_emod_of_nonneg _ (by omega)];exact q
theorem zcf8(h:CPow i j)(q:Q (.int (i ^ j.toNat)) H):rPowI i j H Q:=by unfold rPowI;exact⟨h,q⟩
theorem zag5{a b:Addr}{zs:List V}(h1:H a=some (.lst xs))(h2:H b=some (.lst zs))(h3:xs.length+zs.length<=sizeLine)(q:∀ p H',H p=none->Same H H'->H' p=some (.lst (xs++zs))->Q (.ref p) H'):rCatL a b H Q:=by unfold rCatL;exact⟨xs,zs,h1,h2,h3,q⟩
theorem zaq7{a:Addr}{k:Int}(h1:H a=some (.lst xs))(h2:-(2 ^ 63)<=k)(h3:k<2 ^ 63)(h4:xs.length*k.toNat<=sizeLine)(q:∀ p H',H p=none->Same H H'->H' p=some (.lst (List.replicate k.toNat xs).flatten)->Q (.ref p) H'):rRepL a k H Q:=by unfold rRepL;exact⟨xs,h1,h2,h3,h4,q⟩
end
noncomputable def rLtM:R2:=fun x y H Q=>match x,y with
 | .int i,.int j=>Q (.bl (decide (i<j))) H
 | _,_=>False
noncomputable def rLeM:R2:=fun x y H Q=>match x,y with
 | .int i,.int j=>Q (.bl (decide (i<=j))) H
 | _,_=>False
noncomputable def rGtM:R2:=fun x y H Q=>match x,y with
 | .int i,.int j=>Q (.bl (decide (j<i))) H
 | _,_=>False
noncomputable def rGeM:R2:=fun x y H Q=>match x,y with
 | .int i,.int j=>Q (.bl (decide (j<=i))) H
 | _,_=>False
theorem oLt:OpR X (compareOp .Lt) rLtM:=by
 intro pins s σ H x y v u Q I rx ry h
 unfold rLtM at h
 split at h
 ·exact op_lt pins s σ H _ _ v u Q I rx ry ⟨_,_,rfl,rfl,h⟩
 ·exact h.elim
theorem oLe:OpR X (compareOp .LtE) rLeM:=by
 intro pins s σ H x y v u Q I rx ry h
 unfold rLeM at h
 split at h
 ·exact op_le pins s σ H _ _ v u Q I rx ry ⟨_,_,rfl,rfl,h⟩
 ·exact h.elim
theorem oGt:OpR X (compareOp .Gt) rGtM:=by
 intro pins s σ H x y v u Q I rx ry h
 unfold rGtM at h
 split at h
 ·exact op_gt pins s σ H _ _ v u Q I rx ry ⟨_,_,rfl,rfl,h⟩
 ·exact h.elim
theorem oGe:OpR X (compareOp .GtE) rGeM:=by
 intro pins s σ H x y v u Q I rx ry h
 unfold rGeM at h
 split at h
 ·exact op_ge pins s σ H _ _ v u Q I rx ry ⟨_,_,rfl,rfl,h⟩
 ·exact h.elim
inductive EqR(K:zcw1)(H:Hp):Nat->V->V->Bool->Prop where
 | flat {n:Nat}{x y:V}(fx:zbi0 x=true) (fy:zbi0 y=true):EqR K H n x y (eqV x y)
 | tup {n:Nat}{a b:Addr}{xs ys:List V}(e:Nat->Bool) (ha:SqT K H a xs) (hb:SqT K H b ys) (h:∀ (j:Nat) (x y:V),xs[j]?=some x->ys[j]?=some y->EqR K H n x y (e j)) :
   EqR K H (n+1) (.ref a) (.ref b) ((List.range (min xs.length ys.length)).all e&&xs.length==ys.length)
 | lst {n:Nat}{a b:Addr}{xs ys:List V}(e:Nat->Bool) (ha:SqL K H a xs) (hb:SqL K H b ys) (hl:xs.length=ys.length) (h:∀ (j:Nat) (x y:V),xs[j]?=some x->ys[j]?=some y->EqR K H n x y (e j)) :
   EqR K H (n+1) (.ref a) (.ref b) ((List.range xs.length).all e)
 | lstN {n:Nat}{a b:Addr}{xs ys:List V}(ha:SqL K H a xs) (hb:SqL K H b ys) (hl:xs.length≠ys.length):EqR K H (n+1) (.ref a) (.ref b) false
theorem zy8{x:V}(f:zbi0 x=true):eqV x x=true:=by
 cases x<;>first|rfl|(simp[eqV];done)|exact absurd (show false=true from f) zcx1
section
variable {pins:List (Addr×Obj)}{σ:St}{H:Hp}{s:Shared}
theorem EqR.self(I:Inv X pins σ H s){x y:V}{b:Bool}(h:EqR X.K H n x y b):x=y->b=true:=by
 induction h with
 | flat fx fy=>rintro rfl;exact zy8 fx
 | tup e ha hb h ih=>
  intro q
  cases q
  have q:=I.tuple_inj ha hb
  subst q
  rw[Nat.min_self,zdd3]
  refine⟨zdd4.mpr fun j hj=>?_,by simp⟩
  have hj:=zda0.mp hj
  exact ih j _ _ (zcv9 hj) (zcv9 hj) rfl
 | lst e ha hb hl h ih=>
  intro q
  cases q
  have q:=I.list_inj ha hb
  subst q
  refine zdd4.mpr fun j hj=>?_
  have hj:=zda0.mp hj
  exact ih j _ _ (zcv9 hj) (zcv9 hj) rfl
 | lstN ha hb hl=>
  intro q
  cases q
  exact absurd (congrArg List.length (I.list_inj ha hb)) hl
theorem zs6(A:Around):A.in1.units=A.units+1:=rfl
mutual
theorem EqR.at(I:Inv X pins σ H s):∀ {n:Nat}{x y:V}{b:Bool},EqR X.K H n x y b->∀ {u v:Value}{A:Around},RelV x u->RelV y v->A.units+n<cLine->SeqAt.EqAt A s u v b
 | _,_,_,_,.flat fx fy,u,v,A,rx,ry,_=>zcg0 rx ry fx fy
 | _,.ref a,.ref b,_,h,u,v,A,rx,ry,hu=>by
  cases rx
  cases ry
  by_cases e:a=b
  ·subst e
   rw[h.self I rfl]
   exact SeqAt.EqAt.same _
  ·exact SeqAt.EqAt.of_refs e (EqR.rc I h hu)
theorem EqR.rc(I:Inv X pins σ H s):∀ {n:Nat}{a b:Addr}{c:Bool},EqR X.K H n (.ref a) (.ref b) c->∀ {A:Around},A.units+n<cLine->SeqAt.RcAt A s (.ref a) (.ref b) c
 | _,_,_,_,.flat fx _,_,_=>absurd (show false=true from fx) zcx1
 | _,a,b,_,.tup (xs:=xs) (ys:=ys) e ha hb h,A,hu=>by
  obtain⟨its,r1,t1,z1⟩:=I.tuple ha
  obtain⟨its2,r2,t2,z2⟩:=I.tuple hb
  have l1:its.toArray.size=xs.length:=by rw[zcw8];exact r1.length.symm
  have l2:its2.toArray.size=ys.length:=by rw[zcw8];exact r2.length.symm
  have q:=SeqAt.RcAt.tuples (A:=A) (e:=e) t1 t2 (by omega) fun j h1 h2=>by
   rw[l1] at h1
   rw[l2] at h2
   obtain⟨u1,e1,q1⟩:=r1.get (zcv9 h1)
   obtain⟨u2,e2,q2⟩:=r2.get (zcv9 h2)
   have i1:its.toArray[j]=u1:=by
    have:=(zcw2.mp e1).2
    simpa using this
   have i2:its2.toArray[j]=u2:=by
    have:=(zcw2.mp e2).2
    simpa using this
   rw[i1,i2]
   exact EqR.at I (h j _ _ (zcv9 h1) (zcv9 h2)) q1 q2 (by rw[zs6];omega)
  rw[l1,l2] at q
  exact q
 | _,a,b,_,.lst (xs:=xs) (ys:=ys) e ha hb hl h,A,hu=>by
  obtain⟨its,r1,t1,z1⟩:=I.list ha
  obtain⟨its2,r2,t2,z2⟩:=I.list hb
  have l1:its.toArray.size=xs.length:=by rw[zcw8];exact r1.length.symm
  have l2:its2.toArray.size=ys.length:=by rw[zcw8];exact r2.length.symm
  have q:=SeqAt.RcAt.lists (A:=A) (e:=e) t1.isList t2.isList (by rw[l1,l2];exact hl) (by omega) fun j h1 h2=>by
   rw[l1] at h1
   rw[l2] at h2
   obtain⟨u1,e1,q1⟩:=r1.get (zcv9 h1)
   obtain⟨u2,e2,q2⟩:=r2.get (zcv9 h2)
   have i1:its.toArray[j]=u1:=by
    have:=(zcw2.mp e1).2
    simpa using this
   have i2:its2.toArray[j]=u2:=by
    have:=(zcw2.mp e2).2
    simpa using this
   rw[i1,i2]
   exact EqR.at I (h j _ _ (zcv9 h1) (zcv9 h2)) q1 q2 (by rw[zs6];omega)
  rw[l1] at q
  exact q
 | _,a,b,_,.lstN (xs:=xs) (ys:=ys) ha hb hl,A,hu=>by
  obtain⟨its,r1,t1,z1⟩:=I.list ha
  obtain⟨its2,r2,t2,z2⟩:=I.list hb
  have l1:its.toArray.size=xs.length:=by rw[zcw8];exact r1.length.symm
  have l2:its2.toArray.size=ys.length:=by rw[zcw8];exact r2.length.symm
  exact SeqAt.RcAt.lists_lengths t1.isList t2.isList (by rw[l1,l2];simpa using hl) (by omega)
end
theorem EqR.rcNe(I:Inv X pins σ H s):∀ {n:Nat}{a b:Addr}{c:Bool},EqR X.K H n (.ref a) (.ref b) c->∀ {A:Around},A.units+n<cLine->SeqAt.RcNeAt A s (.ref a) (.ref b) (!c)
 | _,_,_,_,.flat fx _,_,_=>absurd (show false=true from fx) zcx1
 | _,a,b,_,.tup (xs:=xs) (ys:=ys) e ha hb h,A,hu=>by
  obtain⟨its,r1,t1,z1⟩:=I.tuple ha
  obtain⟨its2,r2,t2,z2⟩:=I.tuple hb
  have l1:its.toArray.size=xs.length:=by rw[zcw8];exact r1.length.symm
  have l2:its2.toArray.size=ys.length:=by rw[zcw8];exact r2.length.symm
  have q:=SeqAt.RcNeAt.tuples (A:=A) (e:=e) t1 t2 (by omega) fun j h1 h2=>by
   rw[l1] at h1
   rw[l2] at h2
   obtain⟨u1,e1,q1⟩:=r1.get (zcv9 h1)
   obtain⟨u2,e2,q2⟩:=r2.get (zcv9 h2)
   have i1:its.toArray[j]=u1:=by
    have:=(zcw2.mp e1).2
    simpa using this
   have i2:its2.toArray[j]=u2:=by
    have:=(zcw2.mp e2).2
    simpa using this
   rw[i1,i2]
   exact EqR.at I (h j _ _ (zcv9 h1) (zcv9 h2)) q1 q2 (by rw[zs6];omega)
  rw[l1,l2] at q
  exact q
 | _,a,b,_,.lst (xs:=xs) (ys:=ys) e ha hb hl h,A,hu=>by
  obtain⟨its,r1,t1,z1⟩:=I.list ha
  obtain⟨its2,r2,t2,z2⟩:=I.list hb
  have l1:its.toArray.size=xs.length:=by rw[zcw8];exact r1.length.symm
  have l2:its2.toArray.size=ys.length:=by rw[zcw8];exact r2.length.symm
  have q:=SeqAt.RcNeAt.lists (A:=A) (e:=e) t1.isList t2.isList (by rw[l1,l2];exact hl) (by omega) fun j h1 h2=>by
   rw[l1] at h1
   rw[l2] at h2
   obtain⟨u1,e1,q1⟩:=r1.get (zcv9 h1)
   obtain⟨u2,e2,q2⟩:=r2.get (zcv9 h2)
   have i1:its.toArray[j]=u1:=by
    have:=(zcw2.mp e1).2
    simpa using this
   have i2:its2.toArray[j]=u2:=by
    have:=(zcw2.mp e2).2
    simpa using this
   rw[i1,i2]
   exact EqR.at I (h j _ _ (zcv9 h1) (zcv9 h2)) q1 q2 (by rw[zs6];omega)
  rw[l1] at q
  exact q
 | _,a,b,_,.lstN (xs:=xs) (ys:=ys) ha hb hl,A,hu=>by
  obtain⟨its,r1,t1,z1⟩:=I.list ha
  obtain⟨its2,r2,t2,z2⟩:=I.list hb
  have l1:its.toArray.size=xs.length:=by rw[zcw8];exact r1.length.symm
  have l2:its2.toArray.size=ys.length:=by rw[zcw8];exact r2.length.symm
  exact SeqAt.RcNeAt.lists_lengths t1.isList t2.isList (by rw[l1,l2];simpa using hl) (by omega)
end
@[irreducible] noncomputable def rEqO(K:zcw1)(a b:Addr)(H:Hp)(Q:VK):Prop:=∃ n c,n<=40/\EqR K H n (.ref a) (.ref b) c/\Q (.bl c) H
noncomputable def rEqM(K:zcw1):R2:=fun x y H Q=>match x,y with
 | .int i,.int j=>Q (.bl (decide (i=j))) H
 | .bl i,.bl j=>Q (.bl (decide (i=j))) H
 | .str i,.str j=>Q (.bl (decide (i=j))) H
 | .ref a,.ref b=>rEqO K a b H Q
 | x,y=>scal x y=true/\Q (.bl (decide (x=y))) H
noncomputable def rNeM(K:zcw1):R2:=fun x y H Q=>rEqM K x y H fun v H'=>match v with
 | .bl b=>Q (.bl (!b)) H'
 | _=>False
theorem zp0{α β:Type}[DecidableEq α][DecidableEq β]{f:α->β}(hf:∀ a b,f a=f b->a=b)(a b:α):decide (f a=f b)=decide (a=b):=by
 by_cases h:a=b
 ·subst h;simp
 ·rw[decide_eq_false h,decide_eq_false fun e=>h (hf _ _ e)]
theorem oEq(hu:X.A.units+40<cLine):OpR X (compareOp .Eq) (rEqM X.K):=by
 intro pins s σ H x y v u Q I rx ry h
 unfold rEqM at h
 split at h
 ·rename_i i j
  exact zbg6 pins s σ H _ _ v u Q I rx ry ⟨rfl,by rw[zp0 (f:=V.int) fun a b e=>V.int.inj e];exact h⟩
 ·exact zbg6 pins s σ H _ _ v u Q I rx ry ⟨rfl,by rw[zp0 (f:=V.bl) fun a b e=>V.bl.inj e];exact h⟩
 ·exact zbg6 pins s σ H _ _ v u Q I rx ry ⟨rfl,by rw[zp0 (f:=V.str) fun a b e=>V.str.inj e];exact h⟩
 ·unfold rEqO at h
  obtain⟨n,c,hn,h1,h2⟩:=h
  cases rx
  cases ry
  exact EqR.rc I h1 (A:=X.A) (by omega) _ _ _ _ ⟨.bl c,H,I,rfl,h2⟩
 ·exact zbg6 pins s σ H _ _ v u Q I rx ry h
theorem oNe(hu:X.A.units+40<cLine):OpR X (compareOp .NotEq) (rNeM X.K):=by
 intro pins s σ H x y v u Q I rx ry h
 unfold rNeM rEqM at h
 split at h
 ·rename_i i j
  exact zbd5 pins s σ H _ _ v u Q I rx ry ⟨rfl,by rw[zp0 (f:=V.int) fun a b e=>V.int.inj e];exact h⟩
 ·exact zbd5 pins s σ H _ _ v u Q I rx ry ⟨rfl,by rw[zp0 (f:=V.bl) fun a b e=>V.bl.inj e];exact h⟩
 ·exact zbd5 pins s σ H _ _ v u Q I rx ry ⟨rfl,by rw[zp0 (f:=V.str) fun a b e=>V.str.inj e];exact h⟩
 ·unfold rEqO at h
  obtain⟨n,c,hn,h1,h2⟩:=h
  cases rx
  cases ry
  exact EqR.rcNe I h1 (A:=X.A) (by omega) _ _ _ _ ⟨.bl (!c),H,I,rfl,h2⟩
 ·exact zbd5 pins s σ H _ _ v u Q I rx ry ⟨h.1,h.2⟩
section
variable {K:zcw1}{H:Hp}{Q:VK}{a b:Addr}{c:Bool}{n:Nat}
theorem zal8(h:EqR K H n (.ref a) (.ref b) c)(q:Q (.bl c) H)(hn:n<=40:=by decide):rEqO K a b H Q:=by unfold rEqO;exact⟨n,c,hn,h,q⟩
end
noncomputable def qB(t:TE):TT:=fun σ H Q=>t σ H fun x H1=>match x with
 | .bl c=>Q c H1
 | .int i=>Q (!decide (i=0)) H1
 | _=>False
theorem ptV{t:TE}(h:PE X e t)(he:∀ whole,isTrue e X.env whole=(do let v ← whole;standAt e.pos;holding [v] (truthy v)):=by intro _;rfl):PT X e (qB t):=fun pins s σ H Q I hw=>by
 refine isTrue_plain (thn (h pins s σ H _ I hw) fun v s1 ⟨x,H1,I1,r1,q1⟩=>?_) (he _)
 dsimp only at q1
 split at q1
 ·exact zby6 pins s1 σ H1 _ v Q I1 r1 ⟨_,rfl,q1⟩
 ·rename_i i
  refine zby6 pins s1 σ H1 _ v Q I1 r1 ⟨_,rfl,?_⟩
  have e:(i != 0)=!decide (i=0):=by by_cases h:i=0<;>simp[h]
  rw[e];exact q1
 ·exact q1.elim
theorem ptC{a b:Expr}{ta tb:TE}{pos:Pos}{op:CmpOp}{r:R2}(ho:OpR X (compareOp op) r)(ha:PE X a ta)(hb:PE X b tb)(hm:behindInMarks op b=false:=by first|exact zcg9 _|with_unfolding_all rfl):PT X (.Compare a [op] [b] pos) (qB (tOp r ta tb)):=by
 intro pins s σ H Q I h
 refine wpAny_isTrue_Compare1 (thn (ha pins s σ H _ I h) fun v s1 ⟨x,H1,I1,r1,q1⟩=>thn (hb pins s1 σ H1 _ I1 q1) fun u s2 ⟨y,H2,I2,r2,q2⟩=>
  thn (ho pins s2 σ H2 x y v u _ I2 r1 r2 q2) fun c s3 ⟨z,H3,I3,r3,q3⟩=>?_) hm
 dsimp only at q3
 split at q3
 ·cases r3
  exact wpAny_truthy_bool ⟨H3,I3,q3⟩
 ·rename_i i
  refine zby6 pins s3 σ H3 _ c Q I3 r3 ⟨_,rfl,?_⟩
  have e:(i != 0)=!decide (i=0):=by by_cases h:i=0<;>simp[h]
  rw[e];exact q3
 ·exact q3.elim
theorem peC{a b:Expr}{ta tb:TE}{pos:Pos}{op:CmpOp}{r:R2}(ho:OpR X (compareOp op) r)(ha:PE X a ta)(hb:PE X b tb)(hm:behindInMarks op b=false:=by first|exact zcg9 _|with_unfolding_all rfl):PE X (.Compare a [op] [b] pos) (tOp r ta tb):=
 zck3 ho ha hb hm
variable {a b:Expr}{rest:List Expr}{tA tB':TT}{ta tb:TE}{pos:Pos}
noncomputable def qAnd(t u:TT):TT:=fun σ H Q=>t σ H fun c H1=>br c (u σ H1 Q) (Q false H1)
noncomputable def qOr(t u:TT):TT:=fun σ H Q=>t σ H fun c H1=>br c (Q true H1) (u σ H1 Q)
theorem pwAnd(ha:PT X a tA)(hb:PW X (.BoolOp .And (b :: rest) pos) tB'):PW X (.BoolOp .And (a :: b :: rest) pos) (qAnd tA tB'):=fun wh pins s σ H Q I h=>
 pw_and ha hb wh pins s σ H Q I (by unfold qAnd at h;simp only[zag2] at h;exact h)
theorem pwOr(ha:PT X a tA)(hb:PW X (.BoolOp .Or (b :: rest) pos) tB'):PW X (.BoolOp .Or (a :: b :: rest) pos) (qOr tA tB'):=fun wh pins s σ H Q I h=>
 pw_or ha hb wh pins s σ H Q I (by unfold qOr at h;simp only[zag2] at h;exact h)
noncomputable def qAndV(ta tb:TE):TE:=fun σ H Q=>ta σ H fun x H1=>match x with
 | .bl c=>br c (tb σ H1 Q) (Q (.bl false) H1)
 | _=>False
noncomputable def qOrV(ta tb:TE):TE:=fun σ H Q=>ta σ H fun x H1=>match x with
 | .bl c=>br c (Q (.bl true) H1) (tb σ H1 Q)
 | _=>False
noncomputable def qNotV(ta:TE):TE:=fun σ H Q=>ta σ H fun x H1=>match x with
 | .bl c=>Q (.bl (!c)) H1
 | _=>False
theorem zab6(ha:PE X a ta)(hb:PE X (.BoolOp .And (b :: rest) pos) tb):PE X (.BoolOp .And (a :: b :: rest) pos) (qAndV ta tb):=by
 intro pins s σ H Q I h
 refine BoolOp_and (thn (ha pins s σ H _ I h) fun v s1 ⟨x,H1,I1,r1,q1⟩=>?_)
 dsimp only at q1
 split at q1
 ·rename_i c
  cases r1
  refine wpAny_truthy_bool ?_
  rw[zag2] at q1
  cases c with
  | true=>exact hb pins s1 σ H1 Q I1 (by simpa using q1)
  | false=>exact⟨.bl false,H1,I1,rfl,by simpa using q1⟩
 ·exact q1.elim
theorem peOr(ha:PE X a ta)(hb:PE X (.BoolOp .Or (b :: rest) pos) tb):PE X (.BoolOp .Or (a :: b :: rest) pos) (qOrV ta tb):=by
 intro pins s σ H Q I h
 refine BoolOp_or (thn (ha pins s σ H _ I h) fun v s1 ⟨x,H1,I1,r1,q1⟩=>?_)
 dsimp only at q1
 split at q1
 ·rename_i c
  cases r1
  refine wpAny_truthy_bool ?_
  rw[zag2] at q1
  cases c with
  | false=>exact hb pins s1 σ H1 Q I1 (by simpa using q1)
  | true=>exact⟨.bl true,H1,I1,rfl,by simpa using q1⟩
 ·exact q1.elim
theorem peNot(ha:PE X a ta):PE X (.UnaryOp .Not a pos) (qNotV ta):=by
 intro pins s σ H Q I h
 refine UnaryOp_ (thn (ha pins s σ H _ I h) fun v s1 ⟨x,H1,I1,r1,q1⟩=>?_)
 dsimp only at q1
 split at q1
 ·rename_i c
  cases r1
  exact not_of (wpAny_truthy_bool ⟨.bl (!c),H1,I1,rfl,q1⟩)
 ·exact q1.elim
noncomputable def qIf(t:TT)(ta tb:TE):TE:=fun σ H Q=>t σ H fun c H1=>br c (ta σ H1 Q) (tb σ H1 Q)
theorem peIf(hc:PT X c tA)(ha:PE X a ta)(hb:PE X b tb):PE X (.IfExp c a b pos) (qIf tA ta tb):=fun pins s σ H Q I h=>
 zcd1 hc ha hb pins s σ H Q I (by unfold qIf at h;simp only[zag2] at h;exact h)
noncomputable def qChain(r r':R2)(ta tb tc:TE):TE:=fun σ H Q=>ta σ H fun x H1=>tb σ H1 fun y H2=>r x y H2 fun z H3=>match z with
 | .bl k=>br k (tc σ H3 fun w' H4=>r' y w' H4 Q) (Q (.bl false) H3)
 | _=>False
theorem zcn2{tc:TE}{op op':CmpOp}{r r':R2}(ho:OpR X (compareOp op) r)(ho':OpR X (compareOp op') r')(ha:PE X a ta)(hb:PE X b tb)(hc:PE X c tc)(hm:lastMarks [op,op'] [b,c]=false:=by with_unfolding_all rfl):PE X (.Compare a [op,op'] [b,c] pos) (qChain r r' ta tb tc):=by
 intro pins s σ H Q I h
 refine Compare_chain (thn (ha pins s σ H _ I h) fun v s1 ⟨x,H1,I1,r1,q1⟩=>chain_link (thn (hb pins s1 σ H1 _ I1 q1) fun u s2 ⟨y,H2,I2,r2,q2⟩=>
  thn (ho pins s2 σ H2 x y v u _ I2 r1 r2 q2) fun d s3 ⟨z,H3,I3,r3,q3⟩=>?_)) hm
 dsimp only at q3
 split at q3
 ·rename_i k
  cases r3
  refine wpAny_truthy_bool ?_
  rw[zag2] at q3
  cases k with
  | false=>exact ite_ff ⟨.bl false,H3,I3,rfl,by simpa using q3⟩
  | true=>exact ite_tt (chain_last (thn (hc pins s3 σ H3 _ I3 (by simpa using q3)) fun w' s4 ⟨z',H4,I4,r4,q4⟩=>ho' pins s4 σ H4 y z' u w' Q I4 r2 r4 q4))
 ·exact q3.elim
variable {st:Stmt}{t u:TS}{e:Expr}{te:TE}
noncomputable def qIfS(c:TT)(t u:TS):TS:=fun D σ H=>c σ H fun b H1=>br b (t D σ H1) (u D σ H1)
theorem psIf{a b:List Stmt}{tc:TT}(hc:PT X c tc)(ha:PSs X a t)(hb:PSs X b u):PS X (.If c a b pos) (qIfS tc t u):=fun pins s σ H D I h=>
 ps_if hc ha hb pins s σ H D I (by unfold qIfS at h;simp only[zag2] at h;exact h)
@[irreducible] noncomputable def zap6(J:It)(g:TG)(tb:TS)(D:Ends)(σ:St)(H1:Hp):Prop:=∃ W:Nat->Nat->St->Hp->Prop,(∃ m,W 0 m σ H1)/\∀ i m σ H,W i m σ H ->
 (J.stop i H/\D.nx σ H)∨(J.go i H/\∃ N:St->Hp->Prop,(∀ σ' H',N σ' H'->∃ m',m'<m/\W (i+1) m' σ' H')/\∀ x H',J.yld i H x H'->g x σ H' fun σ2 H2=>tb { D with nx:=N,ct:=N,bk:=D.nx } σ2 H2)
noncomputable def qFor(wi:TI)(g:TG)(tb:TS):TS:=fun D σ H=>wi σ H fun J H1=>zap6 J g tb D σ H1
theorem zaa4{body:List Stmt}{wi:TI}{g:TG}{tb:TS}{pos:Pos}(hp:PassesOwn (model X.prog X.w) X.A X.env X.xe)(hc:X.calm=true)(hi:PI X tg iter wi)(hg:PG X tg g)(hb:PSs X body tb)(hs:∀ x,foldedSetIterable iter X.env x=pure x:=by intro _;rfl):PS X (.For tg iter body [] pos) (qFor wi g tb):=fun pins s σ H D I h=>
 ps_for hp hc hi hg hb hs pins s σ H D I (by unfold qFor at h;unfold zap6 at h;exact h)
@[irreducible] noncomputable def zbp9(K:zcw1)(a:Addr)(H:Hp)(R:It->Hp->Prop):Prop:=((∃ xs,SqL K H a xs)/\R (Itl K a) H)∨((∃ xs,SqT K H a xs)/\R (Itt K a) H)
noncomputable def qiSeq(K:zcw1)(tl:TE):TI:=fun σ H R=>tl σ H fun x H1=>match x with
 | .ref a=>zbp9 K a H1 R
 | _=>False
theorem piSeq{l:Expr}{tl:TE}(hl:PE X l tl):PI X tg l (qiSeq X.K tl):=by
 intro pins s σ H R I h
 refine thn (hl pins s σ H _ I h) fun v s1 ⟨x,H1,I1,r1,q1⟩=>?_
 dsimp only at q1
 split at q1
 ·rename_i a
  unfold zbp9 at q1
  cases r1
  have fp:∀ b∈[s1.heap.objs.size],FpOk X pins H1 b:=fun b hb=>by
   have e:b=s1.heap.objs.size:=by simpa using hb
   subst e
   exact I1.fpOk (zcw4 _) (I1.hok.fresh (zcw4 _))
  rcases q1 with ⟨⟨xs,hq⟩,q⟩|⟨⟨xs,hq⟩,q⟩
  ·obtain⟨its,rv,p,hz⟩:=I1.list hq
   refine wpAny_pyIter_list p.isList ?_
   exact⟨s1.heap.objs.size,[s1.heap.objs.size],_,_,H1,rfl,I1.kept (t':=s1.toks) fun b o e=>zcw5 _ e,zby1 a _,⟨_,zcx7 _ rfl,rfl,rfl⟩,fp,q⟩
  ·obtain⟨its,rv,p,hz⟩:=I1.tuple hq
   refine wpAny_pyIter_tuple (show s1.heap.IsTuple a its.toArray from p) ?_
   exact⟨s1.heap.objs.size,[s1.heap.objs.size],_,_,H1,rfl,I1.kept (t':=s1.toks) fun b o e=>zcw5 _ e,zbo5 a _,⟨_,zcx7 _ rfl,rfl,rfl⟩,fp,q⟩
 ·exact q1.elim
@[irreducible] noncomputable def zar5(i j:Int)(H:Hp)(R:It->Hp->Prop):Prop:=(-(2 ^ 62)<=i/\i<2 ^ 62/\-(2 ^ 62)<=j/\j<2 ^ 62)/\R (Itr i (j - i).toNat) H
noncomputable def qiRng(ta:TA):TI:=fun σ H R=>ta σ H fun vs H1=>match vs with
 | [.int j]=>zar5 0 j H1 R
 | [.int i,.int j]=>zar5 i j H1 R
 | _=>False
theorem zs5{a:Expr}{ta:TA}{p pos:Pos}(hm:X.mg "range"=none)(ha:PA X [a] ta)(hg:Gl X "range":=by rfl)(hs:starEach [a] X.env=[(false,eval a X.env)]:=by rfl):PI X tg (.Call (.Name "range" p) [a] [] pos) (qiRng ta):=by
 intro pins s σ H R I h
 refine Call_ (zw5 I hg hm boot_range (PyProof.Rows.callWith_type1 (thn (ha pos pins s σ H _ I h) fun us s1 ⟨vs,H1,I1,r1,q1⟩=>?_) hs rfl))
 dsimp only at q1
 split at q1
 ·unfold zar5 at q1
  obtain⟨⟨a1,a2,a3,a4⟩,q⟩:=q1
  cases r1 with
  | cons r rr=>
   cases rr
   obtain⟨t,rfl⟩:=r
   exact call_range_1 (zbl8 I1 a1 a2 a3 a4 q)
 ·unfold zar5 at q1
  cases r1 with
  | cons r rr=>
   cases rr with
   | cons r' rr=>
    cases rr
    obtain⟨t,rfl⟩:=r
    obtain⟨t',rfl⟩:=r'
    obtain⟨⟨a1,a2,a3,a4⟩,q⟩:=q1
    exact call_range_2 (zbl8 I1 a1 a2 a3 a4 q)
 ·exact q1.elim
section
variable {K:zcw1}{g:TG}{tb:TS}{D:Ends}{σ:St}{H:Hp}{R:It->Hp->Prop}
theorem zb6{a:Addr}(h:H a=some (.lst xs))(q:R (Itl K a) H):zbp9 K a H R:=by unfold zbp9;exact .inl ⟨⟨xs,SqL.of h⟩,q⟩
theorem zcc2{a:Addr}(h:H a=some (.tup xs))(q:R (Itt K a) H):zbp9 K a H R:=by unfold zbp9;exact .inr ⟨⟨xs,SqT.of h⟩,q⟩
theorem zj5{i j:Int}(h1:-(2 ^ 62)<=i)(h2:i<2 ^ 62)(h3:-(2 ^ 62)<=j)(h4:j<2 ^ 62)(q:R (Itr i (j - i).toNat) H):zar5 i j H R:=by unfold zar5;exact⟨⟨h1,h2,h3,h4⟩,q⟩
theorem zo6{a:Addr}(Pv:Nat->St->Hp->Prop)(h0:Pv 0 σ H)(hl:∀ i σ H,i<=xs.length->Pv i σ H->SqL K H a xs)(hs:∀ i x σ H,xs[i]?=some x->Pv i σ H->g x σ H fun σ2 H2=>tb { D with nx:=Pv (i+1),ct:=Pv (i+1),bk:=D.nx } σ2 H2)(hd:∀ σ H,Pv xs.length σ H->D.nx σ H):zap6 (Itl K a) g tb D σ H:=by
 unfold zap6;exact zca9 Pv h0 hl hs hd
theorem zs9(Pv:Nat->St->Hp->Prop)(h0:Pv 0 σ H)(hs:∀ i σ H,i<n->Pv i σ H->g (.int (lo+i)) σ H fun σ2 H2=>tb { D with nx:=Pv (i+1),ct:=Pv (i+1),bk:=D.nx } σ2 H2)(hd:∀ σ H,Pv n σ H->D.nx σ H):zap6 (Itr lo n) g tb D σ H:=by
 unfold zap6;exact zbs1 Pv h0 hs hd
end
@[irreducible] noncomputable def wIf(W:Nat->St->Hp->Prop)(m:Nat)(tb:TS)(D:Ends)(σ:St)(b:Bool)(H1:Hp):Prop:=
 if b=true then ∃ N:St->Hp->Prop,(∀ σ' H',N σ' H'->∃ m',m'<m/\W m' σ' H')/\tb { D with nx:=N,ct:=N,bk:=D.nx } σ H1 else D.nx σ H1
@[irreducible] noncomputable def zaq5(c:TT)(tb:TS):TS:=fun D σ H=>∃ W:Nat->St->Hp->Prop,(∃ m,W m σ H)/\∀ m σ H,W m σ H->c σ H fun b H1=>wIf W m tb D σ b H1
theorem zas8{body:List Stmt}{tc:TT}{tb:TS}(hp:PassesOwn (model X.prog X.w) X.A X.env X.xe)(hc:PT X c tc)(hb:PSs X body tb):PS X (.While c body [] pos) (zaq5 tc tb):=fun pins s σ H D I h=>
 zcb6 hp hc hb pins s σ H D I (by unfold zaq5 at h;unfold wIf at h;exact h)
section
variable {c:TT}{tb:TS}{D:Ends}{σ:St}{H H1:Hp}{W:Nat->St->Hp->Prop}{m:Nat}{p:Prop}
theorem zat9(Pv:St->Hp->Prop)(μ:St->Hp->Nat)(h0:Pv σ H)(hs:∀ σ H,Pv σ H->c σ H fun b H1=>wIf (fun m σ H=>m=μ σ H/\Pv σ H) (μ σ H) tb D σ b H1):zaq5 c tb D σ H:=by
 unfold zaq5
 refine⟨fun m σ H=>m=μ σ H/\Pv σ H,⟨_,rfl,h0⟩,?_⟩
 rintro m σ H ⟨rfl,p⟩
 exact hs σ H p
theorem zbs9{Pv:St->Hp->Prop}{μ:St->Hp->Nat}[Decidable p](h1:p->tb { D with nx:=fun σ' H'=>Pv σ' H'/\μ σ' H'<m,ct:=fun σ' H'=>Pv σ' H'/\μ σ' H'<m,bk:=D.nx } σ H1)(h2:¬ p->D.nx σ H1) :
  wIf (fun m σ H=>m=μ σ H/\Pv σ H) m tb D σ (decide p) H1:=by
 unfold wIf
 refine ite2 (fun h=>⟨_,fun σ' H' ⟨a,b⟩=>⟨_,b,rfl,a⟩,h1 (of_decide_eq_true h)⟩) fun h=>h2 fun hp=>h (decide_eq_true hp)
theorem zcf2{Pv:St->Hp->Prop}{μ:St->Hp->Nat}[Decidable p](h1:¬ p->tb { D with nx:=fun σ' H'=>Pv σ' H'/\μ σ' H'<m,ct:=fun σ' H'=>Pv σ' H'/\μ σ' H'<m,bk:=D.nx } σ H1)(h2:p->D.nx σ H1) :
  wIf (fun m σ H=>m=μ σ H/\Pv σ H) m tb D σ (!decide p) H1:=by
 unfold wIf
 refine ite2 (fun h=>⟨_,fun σ' H' ⟨a,b⟩=>⟨_,b,rfl,a⟩,h1 fun hp=>?_⟩) fun h=>h2 ?_
 ·rw[decide_eq_true hp] at h;cases h
 ·by_cases hp:p
  ·exact hp
  ·rw[decide_eq_false hp] at h;exact absurd rfl h
end
@[irreducible] noncomputable def rNewT(xs:List V)(H:Hp)(Q:VK):Prop:=xs.length<=sizeLine/\∀ p H',H p=none->Same H H'->H' p=some (.tup xs)->Q (.ref p) H'
@[irreducible] noncomputable def rNewL(xs:List V)(H:Hp)(Q:VK):Prop:=xs.length<=sizeLine/\∀ p H',H p=none->Same H H'->H' p=some (.lst xs)->Q (.ref p) H'
noncomputable def qTup(t:TA):TE:=fun σ H Q=>t σ H fun xs H1=>rNewT xs H1 Q
noncomputable def qLst(t:TA):TE:=fun σ H Q=>t σ H fun xs H1=>rNewL xs H1 Q
theorem zx8{x1}{t:TA}(h:PA X es t):PE X (.Tuple es x1 pos) (qTup t):=by
 intro pins s σ H Q I hq
 refine wpAny_Tuple_spliced (thn (h pos pins s σ H _ I hq) fun us s1 ⟨xs,H1,I1,r,z⟩=>?_)
 unfold rNewT at z
 obtain⟨z,q⟩:=z
 refine⟨by rw[← r.length];exact z,?_⟩
 have hf:H1 s1.heap.objs.size=none:=I1.hok.fresh (zcw4 _)
 refine⟨.ref s1.heap.objs.size,upd H1 s1.heap.objs.size (.tup xs),I1.laid (t':=s1.toks) (fun b u e=>zcw5 _ e) (zcw4 _) ?_,rfl,q _ _ hf (Same.upd hf) zc0⟩
 exact⟨z,us,r,⟨_,zcx7 _ rfl,rfl,_,rfl⟩⟩
theorem zl1{t:TA}(h:PA X es t):PE X (.List es pos) (qLst t):=by
 intro pins s σ H Q I hq
 refine wpAny_List_spliced (thn (h pos pins s σ H _ I hq) fun us s1 ⟨xs,H1,I1,r,z⟩=>?_)
 unfold rNewL at z
 obtain⟨z,q⟩:=z
 refine⟨by rw[← r.length];exact z,?_⟩
 have hf:H1 s1.heap.objs.size=none:=I1.hok.fresh (zcw4 _)
 refine⟨.ref s1.heap.objs.size,upd H1 s1.heap.objs.size (.lst xs),I1.laid (t':=s1.toks) (fun b u e=>zcw5 _ e) (zcw4 _) ?_,rfl,q _ _ hf (Same.upd hf) zc0⟩
 exact⟨z,us,0,r,zcx7 _ rfl⟩
@[irreducible] noncomputable def rIxA(K:zcw1)(p:Addr)(i:Int)(H:Hp)(Q:VK):Prop:=∃ xs v,(SqL K H p xs∨SqT K H p xs)/\atI xs i=some v/\Q v H
noncomputable def rIxM(K:zcw1):R2:=fun x y H Q=>match x,y with
 | .ref p,.int i=>rIxA K p i H Q
 | .str z,.int i=>∃ c,z.length<=sizeLine/\atI z.cps.toList i=some c/\Q (.str ⟨#[c]⟩) H
 | _,_=>False
theorem ixM:IxR X (rIxM X.K):=by
 intro value slice pins s σ H x y v u Q I rx ry h hs
 unfold rIxM at h
 split at h
 ·unfold rIxA at h
  obtain⟨xs,z,h1,h2,q⟩:=h
  rcases h1 with h1|h1
  ·exact zcm8 value slice pins s σ H _ _ v u Q I rx ry ⟨_,xs,_,z,rfl,rfl,h1,h2,q⟩ hs
  ·exact ix_tup value slice pins s σ H _ _ v u Q I rx ry ⟨_,xs,_,z,rfl,rfl,h1,h2,q⟩ hs
 ·obtain⟨c,h1,h2,q⟩:=h
  exact ix_str value slice pins s σ H _ _ v u Q I rx ry ⟨_,_,c,rfl,rfl,h1,h2,q⟩ hs
 ·exact h.elim
theorem peIx(ha:PE X a ta)(hb:PE X b tb)(hs:zbe9 b:=by exact fun _ _=>rfl):PE X (.Subscript a b pos) (tOp (rIxM X.K) ta tb):=pe_ix ixM ha hb hs
@[irreducible] noncomputable def rSetA(p:Addr)(k:Int)(v:V)(H:Hp)(Q:Hp->Prop):Prop:=∃ xs j,H p=some (.lst xs)/\ixN xs.length k=some j/\∀ H',Chg p H H'->H' p=some (.lst (xs.set j v))->Q H'
noncomputable def rSetM:TSet:=fun o i v H Q=>match o,i with
 | .ref p,.int k=>rSetA p k v H Q
 | _,_=>False
theorem setM:PSet X rSetM:=by
 intro pins s σ H o i v ov iv u Q I ro ri rv h
 unfold rSetM at h
 split at h
 ·unfold rSetA at h
  obtain⟨xs,j,h1,h2,q⟩:=h
  exact zcc0 pins s σ H _ _ v ov iv u Q I ro ri rv ⟨_,xs,_,j,rfl,rfl,h1,h2,q _ Chg.upd zc0⟩
 ·exact h.elim
@[irreducible] noncomputable def rSlA(K:zcw1)(a:Addr)(lo hi:Option Int)(H:Hp)(Q:VK):Prop:=∃ xs,SqL K H a xs/\∀ p H',H p=none->Same H H'->H' p=some (.lst (cutV xs lo hi))->Q (.ref p) H'
noncomputable def rSlM(K:zcw1):V->Option Int->Option Int->Hp->VK->Prop:=fun x lo hi H Q=>match x with
 | .ref a=>rSlA K a lo hi H Q
 | _=>False
theorem slM:SlR X (rSlM X.K):=by
 intro pins s σ H x v vl vu lo hi sl Q I rx hs pl pu h
 unfold rSlM at h
 split at h
 ·unfold rSlA at h
  obtain⟨xs,h1,q⟩:=h
  exact zby4 pins s σ H _ v vl vu lo hi sl Q I rx hs pl pu ⟨_,xs,rfl,h1,fun p hp=>q p _ hp (Same.upd hp) zc0⟩
 ·exact h.elim
noncomputable def qPart(t:TE):TO:=fun σ H Q=>t σ H fun x H1=>match x with
 | .int i=>Q (some i) H1
 | _=>False
theorem zby9(h:PE X e te):PO X (some e) (qPart te):=by
 intro pins s σ H Q I hw
 rw[evalPart_some]
 refine thn (h pins s σ H _ I hw) fun u s1 ⟨x,H1,I1,r1,q1⟩=>?_
 dsimp only at q1
 split at q1
 ·rename_i i
  obtain⟨t,rfl⟩:=r1
  exact⟨some i,H1,I1,.int i t,q1⟩
 ·exact q1.elim
section
variable {K:zcw1}{H:Hp}{Q:VK}{p:Addr}{xs:List V}{v:V}{i:Int}
theorem zh9(q:∀ p H',H p=none->Same H H'->H' p=some (.tup xs)->Q (.ref p) H')(h:xs.length<=sizeLine:=by first|assumption|(simp only[zcy0,zdb7,Nat.zero_add,Nat.reduceAdd];decide)):rNewT xs H Q:=by unfold rNewT;exact⟨h,q⟩
theorem zc3(q:∀ p H',H p=none->Same H H'->H' p=some (.lst xs)->Q (.ref p) H')(h:xs.length<=sizeLine:=by first|assumption|(simp only[zcy0,zdb7,Nat.zero_add,Nat.reduceAdd];decide)):rNewL xs H Q:=by unfold rNewL;exact⟨h,q⟩
theorem za9(h:H p=some (.tup xs))(e:atI xs i=some v)(q:Q v H):rIxA K p i H Q:=by unfold rIxA;exact⟨xs,v,.inr (SqT.of h),e,q⟩
theorem zb5(h:H p=some (.lst xs))(e:atI xs i=some v)(q:Q v H):rIxA K p i H Q:=by unfold rIxA;exact⟨xs,v,.inl (SqL.of h),e,q⟩
theorem zz8{R:Hp->Prop}{j:Nat}(h:H p=some (.lst xs))(e:ixN xs.length i=some j)(q:∀ H',Chg p H H'->H' p=some (.lst (xs.set j v))->R H'):rSetA p i v H R:=by unfold rSetA;exact⟨xs,j,h,e,q⟩
theorem sl_rd{lo hi:Option Int}(h:SqL K H p xs)(q:∀ p H',H p=none->Same H H'->H' p=some (.lst (cutV xs lo hi))->Q (.ref p) H'):rSlA K p lo hi H Q:=by unfold rSlA;exact⟨xs,h,q⟩
end
noncomputable def qgNil:TGs:=fun vs σ H Q=>match vs with
 | []=>Q σ H
 | _=>False
noncomputable def zcg6(t:TG)(u:TGs):TGs:=fun vs σ H Q=>match vs with
 | v :: r=>t v σ H fun σ' H'=>u r σ' H' Q
 | _=>False
theorem zp2:PGs X [] qgNil:=fun pins s σ H vs us Q I r h=>by
 unfold qgNil at h
 split at h
 ·exact zcj8 pins s σ H _ us Q I r ⟨rfl,h⟩
 ·exact h.elim
theorem zc2{t:TG}{u:TGs}(h1:PG X e t)(h2:PGs X es u)(hs:(assignEach (e :: es) X.env).map (·.2)=assign e X.env :: (assignEach es X.env).map (·.2):=by rfl):PGs X (e :: es) (zcg6 t u):=fun pins s σ H vs us Q I r h=>by
 unfold zcg6 at h
 split at h
 ·exact zcd7 h1 h2 hs pins s σ H _ us Q I r ⟨_,_,rfl,h⟩
 ·exact h.elim
noncomputable def qPar(i j:Nat)(ta:TA):TS:=fun D σ H=>ta σ H fun vs H1=>match vs with
 | [v,w]=>D.nx ((σ.set i (some v)).set j (some w)) H1
 | _=>False
theorem psPar{j:Nat}{x y:Str}{a b:Expr}{ta:TA}{px py pt:Pos}{kt k2 pt2}(hc:X.calm=true)(hN:X.N.Nodup)(hi:X.N[i]?=some x)(hj:X.N[j]?=some y)(hij:i≠j)(hx:X.env.scope.names.lookup x=some .local)(hy:X.env.scope.names.lookup y=some .local)(ha:PA X [a,b] ta)(hw:swappedStores [.Tuple [.Name x px,.Name y py] kt pt] (.Tuple [a,b] k2 pt2) X.env=pure (some [x,y]))(hs:swapsWithSole [.Tuple [.Name x px,.Name y py] kt pt] (.Tuple [a,b] k2 pt2) pos.line X.env=pure false:=by rfl) :
  PS X (.Assign [.Tuple [.Name x px,.Name y py] kt pt] (.Tuple [a,b] k2 pt2) pos) (qPar i j ta) :=by
 intro pins s σ H D I h
 rw[exec_Assign_arm]
 refine zdf7 (wpAny_standAt ?_)
 rw[hs]
 refine zdf7 (zdf8 ?_)
 rw[if_neg (by decide)]
 refine zdf7 (Tuple_ (thn (ha _ pins s σ H _ I h) fun us s1 ⟨vs,H1,I1,r1,q1⟩=>?_))
 dsimp only at q1
 split at q1
 case h_2=>exact q1.elim
 rename_i v w
 obtain⟨u1,u2,rfl,rv,rw'⟩:∃ u1 u2,us=[u1,u2]/\RelV v u1/\RelV w u2:=by
  cases r1 with
  | cons p q=>
   cases q with
   | cons p' q'=>
    cases q'
    exact⟨_,_,rfl,p,p'⟩
 refine wpAny_newObj_type ?_ (by show 2<=sizeLine;decide)
 have I2:Inv X pins σ H1 { s1 with heap:=s1.heap.push { cls:=.type "tuple",data:=.seq [u1,u2].toArray } }:=I1.kept (t':=s1.toks) fun b o e=>zcw5 _ e
 rw[hw]
 refine zdf7 (zdf8 ?_)
 show wpAny (model X.prog X.w) X.A (do rule "assign.swapped-stores";let items ← unpackItems (.ref s1.heap.objs.size) 2 none;assignInOrder [fun v=>bindName X.env y v,fun v=>bindName X.env x v] items.reverse;pure Flow.next) _ _ _
 refine zdf7 (wpAny_rule (zdf7 (unpackItems_tuple (items:=#[u1,u2]) (I.ok.hd hc) (IsTup.new s1.heap _) fun h' hx'=>?_)))
 have I3:=I2.kept (h':=h') (t':=s1.toks) fun b o e=>hx' b o (zcy4 (zcx3 e)) e
 show wpAny _ _ (assignInOrder [fun v=>bindName X.env y v,fun v=>bindName X.env x v] [u2,u1] >>= fun _=>pure Flow.next) _ _ _
 refine zdf7 (assignInOrder_cons (wpAny_bindName (zab3 I3 hN hj (.inl hy) rw' (fun s2 I4=>?_) (.inr hy))))
 refine assignInOrder_cons (wpAny_bindName (zab3 I4 hN hi (.inl hx) rv (fun s3 I5=>assignInOrder_nil (zdf8 ?_)) (.inr hx)))
 rw[List.set_comm _ _ (Ne.symm hij)] at I5
 exact⟨_,H1,I5,q1⟩
end
section
variable {X:Cx}
noncomputable def rAbsM:List V->Hp->VK->Prop:=fun xs H Q=>match xs with
 | [.int i]=>Q (.int (i.natAbs:Int)) H
 | _=>False
theorem cAbs:zq1 X (.builtin "abs") rAbsM:=fun pins s σ H xs us Q I r h=>by
 unfold rAbsM at h
 split at h
 ·rename_i i
  refine zcd3 pins s σ H _ us Q I r ⟨i,rfl,?_⟩
  have e:(if i<0 then -i else i)=(i.natAbs:Int):=by split<;>omega
  rw[e];exact h
 ·exact h.elim
noncomputable def rIntM:List V->Hp->VK->Prop:=fun xs H Q=>match xs with
 | [.int i]=>Q (.int i) H
 | [.bl k]=>Q (.int (if k=true then 1 else 0)) H
 | _=>False
theorem cInt:zq1 X (.type "int") rIntM:=fun pins s σ H xs us Q I r h=>by
 unfold rIntM at h
 split at h
 ·exact zay2 pins s σ H _ us Q I r (.inl ⟨_,rfl,h⟩)
 ·exact zay2 pins s σ H _ us Q I r (.inr ⟨_,rfl,h⟩)
 ·exact h.elim
@[irreducible] noncomputable def zbq5(K:zcw1)(p:Addr)(H:Hp)(Q:VK):Prop:=∃ ys,(SqL K H p ys∨SqT K H p ys)/\Q (.int ys.length) H
noncomputable def rLenM(K:zcw1):List V->Hp->VK->Prop:=fun xs H Q=>match xs with
 | [.ref p]=>zbq5 K p H Q
 | [.str z]=>z.length<=sizeLine/\Q (.int z.length) H
 | _=>False
theorem cLen:zq1 X (.builtin "len") (rLenM X.K):=fun pins s σ H xs us Q I r h=>by
 unfold rLenM at h
 split at h
 ·unfold zbq5 at h
  obtain⟨ys,h1,h2⟩:=h
  exact zaz6 pins s σ H _ us Q I r ⟨_,ys,rfl,h1,h2⟩
 ·exact zay3 pins s σ H _ us Q I r ⟨_,rfl,h.1,h.2⟩
 ·exact h.elim
@[irreducible] noncomputable def zao7(K:zcw1)(x c:V)(H:Hp)(Q:VK):Prop:=∃ t b,TyOf K H x t/\(∀ cv,RelV c cv->zdf2 K t cv=some b)/\Q (.bl b) H
noncomputable def rIsiM(K:zcw1):List V->Hp->VK->Prop:=fun xs H Q=>match xs with
 | [x,c]=>zao7 K x c H Q
 | _=>False
theorem cIsi:zq1 X (.builtin "isinstance") (rIsiM X.K):=fun pins s σ H xs us Q I r h=>by
 unfold rIsiM at h
 split at h
 ·unfold zao7 at h
  obtain⟨t,b,h1,h2,h3⟩:=h
  obtain⟨u,w,rfl,r1,r2⟩:=vals2 r
  exact zbx4 I r1 h1 (h2 _ r2) fun tk=>⟨.bl b,H,I.tok _,rfl,h3⟩
 ·exact h.elim
section
variable {K:zcw1}{H:Hp}{Q:VK}{p:Addr}{xs:List V}
theorem zf2(h:H p=some (.lst xs))(q:Q (.int xs.length) H):zbq5 K p H Q:=by unfold zbq5;exact⟨xs,.inl (SqL.of h),q⟩
theorem zr7(h:H p=some (.tup xs))(q:Q (.int xs.length) H):zbq5 K p H Q:=by unfold zbq5;exact⟨xs,.inr (SqT.of h),q⟩
theorem zco7{i:Int}{n:String}{b:Bool}(q:Q (.bl b) H)(e:zdf2 K (.type "int") (.type n)=some b:=by rfl):zao7 K (.int i) (.ty n) H Q:=by
 unfold zao7;exact⟨_,b,.int i,fun cv r=>by cases r;exact e,q⟩
theorem zci6{i:Bool}{n:String}{b:Bool}(q:Q (.bl b) H)(e:zdf2 K (.type "bool") (.type n)=some b:=by rfl):zao7 K (.bl i) (.ty n) H Q:=by
 unfold zao7;exact⟨_,b,.bl i,fun cv r=>by cases r;exact e,q⟩
theorem zz9{n:String}{b:Bool}(h:H p=some (.tup xs))(q:Q (.bl b) H)(e:zdf2 K (.type "tuple") (.type n)=some b:=by rfl):zao7 K (.ref p) (.ty n) H Q:=by
 unfold zao7;exact⟨_,b,.tup h,fun cv r=>by cases r;exact e,q⟩
theorem zaj8{n:String}{b:Bool}(h:H p=some (.lst xs))(q:Q (.bl b) H)(e:zdf2 K (.type "list") (.type n)=some b:=by rfl):zao7 K (.ref p) (.ty n) H Q:=by
 unfold zao7;exact⟨_,b,.lst h,fun cv r=>by cases r;exact e,q⟩
end
theorem zbk8:bootBuiltins "abs"=some (.builtin "abs"):=by decide +kernel
theorem zbn2:bootBuiltins "min"=some (.builtin "min"):=by decide +kernel
theorem zf7:bootBuiltins "len"=some (.builtin "len"):=by decide +kernel
theorem zak5:bootBuiltins "sum"=some (.builtin "sum"):=by decide +kernel
theorem zbz9:bootBuiltins "all"=some (.builtin "all"):=by decide +kernel
theorem zc6:bootBuiltins "isinstance"=some (.builtin "isinstance"):=by decide +kernel
theorem zbr6:bootBuiltins "sorted"=some (.builtin "sorted"):=by decide +kernel
theorem zar8:bootBuiltins "int"=some (.type "int"):=by decide +kernel
theorem zbw3:bootBuiltins "bool"=some (.type "bool"):=by decide +kernel
theorem zy1:bootBuiltins "list"=some (.type "list"):=by decide +kernel
theorem zah6:bootBuiltins "tuple"=some (.type "tuple"):=by decide +kernel
theorem pTy{x:Str}{n:String}{pos:Pos}(hm:X.mg x=none)(hv:bootBuiltins x=some (.type n))(hg:Gl X x:=by rfl)(hn:x≠"__name__":=by decide)(hd:(x==("__debug__":Str))=false:=by decide):PE X (.Name x pos) (tC (.ty n)):=
 zcl7 hg hm hv rfl hn hd
theorem pB{x:Str}{p pos:Pos}{t:TA}{id:String}{r:List V->Hp->VK->Prop}(hc:zq1 X (.builtin id) r)(hm:X.mg x=none)(hv:bootBuiltins x=some (.builtin id))(ha:PA X (e :: es) t)(hg:Gl X x:=by rfl)(hn:x≠"__name__":=by decide)(hdb:(x==("__debug__":Str))=false:=by decide)(he:starEach (e :: es) X.env=(false,eval e X.env) :: starEach es X.env:=by rfl)(hpl:(backTo pos (starEach es X.env)).any (·.1)=false:=by rfl):PE X (.Call (.Name x p) (e :: es) [] pos) (tCB r t):=zcc8 hc hg hm hv ha hn hdb he hpl
theorem pT{x:Str}{p pos:Pos}{t:TA}{id:String}{r:List V->Hp->VK->Prop}(hc:zq1 X (.type id) r)(hm:X.mg x=none)(hv:bootBuiltins x=some (.type id))(ha:PA X (e :: es) t)(hg:Gl X x:=by rfl)(hn:x≠"__name__":=by decide)(hdb:(x==("__debug__":Str))=false:=by decide)(he:starEach (e :: es) X.env=(false,eval e X.env) :: starEach es X.env:=by rfl)(hpl:(backTo pos (starEach es X.env)).any (·.1)=false:=by rfl):PE X (.Call (.Name x p) (e :: es) [] pos) (tCB r t):=zbu2 hc hg hm hv ha hn hdb he hpl
structure Def(P:Program)(w:World)(K:zcw1)(mg:Str->Option Value)(base:Heap)(CX:CXT)(k:Nat)(x:Str)(ps:List Str)(sp:Sp):Prop where
 ex:∃ (f:Addr) (fd:FuncData),FnOk P w K mg base CX k f fd ps sp/\mg x=some (.ref f)/\zdb6 K (.ref f)=true/\zai3 K fd ps []
noncomputable def qCall(sp:Sp)(E:XK)(t:TA):TE:=fun σ H Q=>t σ H fun vs H1=>sp vs H1 Q E
theorem pD{CX:CXT}{k j:Nat}{x:Str}{ps:List Str}{sp:Sp}{E:XK}{p pos:Pos}{t:TA}(F:Def X.prog X.w X.K X.mg X.base CX k x ps sp)(hr:Room j X.A)(hx:zal4 CX X E)(ha:PA X (e :: es) t)(hk:k<=j:=by decide)(hg:Gl X x:=by rfl)(hdb:(x==("__debug__":Str))=false:=by decide)(he:starEach (e :: es) X.env=(false,eval e X.env) :: starEach es X.env:=by rfl)(hpl:(backTo pos (starEach es X.env)).any (·.1)=false:=by rfl) :
  PE X (.Call (.Name x p) (e :: es) [] pos) (qCall sp E t):=by
 obtain⟨f,fd,F1,F2,F3,F4⟩:=F.ex
 intro pins s σ H Q I h
 refine zco9 F1 (hr.mono hk) hg F2 F3 F4 .nil hx ha hdb he hpl pins s σ H Q I ?_
 unfold tCall
 simp only[zdc8]
 exact h
theorem psS{x:Str}{pos' pos:Pos}(hN:X.N.Nodup)(he:PE X e te)(hi:X.N[i]?=some x:=by rfl)(hx:Loc X.env.scope x:=by first|exact Or.inl rfl|exact Or.inr rfl)(hs:swapsWith e (some (.Name x pos')) pos.line X.env=pure false:=by rfl)(hf:X.fn x=true∨X.env.scope.names.lookup x=some .local:=by first|exact .inl rfl|exact .inr rfl|assumption) :
  PS X (.Assign [.Name x pos'] e pos) (tAsg te (gName i)):=ps_set hN hi hx he hs hf
section
variable {K:zcw1}{H:Hp}{Q:VK}{p:Addr}{xs:List V}{i j:Int}
theorem zas4(h1:-18446744073709551616<i)(h2:i<18446744073709551616)(q:Q (.int (i*j)) H):zbh5 i j H Q:=zca2 (.of_left (intBits_le_64 (by simpa using h1) (by simpa using h2))) q
theorem zbf0(h1:-18446744073709551616<j)(h2:j<18446744073709551616)(q:Q (.int (i*j)) H):zbh5 i j H Q:=zca2 (.of_right (intBits_le_64 (by simpa using h1) (by simpa using h2))) q
theorem zcn4(h:0<j)(q:∀ r:Int,0<=r->r<j->Q (.int r) H):zbs7 i j H Q:=zbk6 h (q _ (Int.emod_nonneg _ (by omega)) (Int.emod_lt_of_pos _ h))
theorem zv3(h:H p=some (.lst xs))(h0:0<=i)(h1:i<xs.length)(q:∀ v,v∈xs->Q v H):rIxA K p i H Q:=by
 have hl:i.toNat<xs.length:=by omega
 refine zb5 h (v:=xs[i.toNat]) ?_ (q _ (List.getElem_mem hl))
 have e:((i.toNat:Nat):Int)=i:=by omega
 have z:=zc9 (zcv9 hl)
 rw[e] at z
 exact z
theorem hu40{A:Around}{k:Nat}(hr:Room k A):A.units+40<cLine:=by have:=hr.units;omega
end
@[irreducible] noncomputable def qCut(t:TS):TS:=fun D σ H=>∃ R:St->Hp->Prop,t { D with nx:=R } σ H/\∀ σ' H',R σ' H'->D.nx σ' H'
theorem psCut{st:Stmt}{t:TS}(h:PS X st t):PS X st (qCut t):=fun pins s σ H D I hq=>by
 unfold qCut at hq
 obtain⟨R,h1,h2⟩:=hq
 refine thn (h pins s σ H _ I h1) fun f s' q=>?_
 cases f with
 | next=>obtain⟨σ',H',I',z⟩:=q;exact⟨σ',H',I',h2 _ _ z⟩
 | brk=>exact q
 | cont=>exact q
 | ret u=>exact q
theorem zbq8{t:TS}{D:Ends}(R:St->Hp->Prop)(h1:t { D with nx:=R } σ H)(h2:∀ σ' H',R σ' H'->D.nx σ' H'):qCut t D σ H:=by unfold qCut;exact⟨R,h1,h2⟩
theorem cut_id{t:TS}{D:Ends}(h1:t D σ H):qCut t D σ H:=by unfold qCut;exact⟨D.nx,h1,fun _ _ h=>h⟩
theorem EqR.ints2{K:zcw1}{a b:Addr}{t u x y:Int}(ha:H a=some (.tup [.int t,.int u]))(hb:H b=some (.tup [.int x,.int y])):EqR K H 1 (.ref a) (.ref b) (decide (t=x/\u=y)):=by
 have h:=EqR.tup (K:=K) (H:=H) (n:=0) (fun j=>match j with|0=>decide (t=x)|1=>decide (u=y)|_=>true) (SqT.of ha) (SqT.of hb) (fun j p q hp hq=>by
  have fl:∀ (i k:Int),EqR K H 0 (.int i) (.int k) (decide (i=k)):=fun i k=>by
   have:=EqR.flat (K:=K) (H:=H) (n:=0) (x:=.int i) (y:=.int k) rfl rfl
   have e:eqV (.int i) (.int k)=decide (i=k):=by
    by_cases z:i=k
    ·subst z;simp[eqV]
    ·simp[eqV,z]
   rw[e] at this;exact this
  match j with
  | 0=>simp at hp hq;subst hp hq;exact fl t x
  | 1=>simp at hp hq;subst hp hq;exact fl u y
  | j+2=>simp at hp)
 have e:((List.range (min [V.int t,V.int u].length [V.int x,V.int y].length)).all (fun j=>match j with|0=>decide (t=x)|1=>decide (u=y)|_=>true)&&([V.int t,V.int u].length==[V.int x,V.int y].length))=decide (t=x/\u=y):=by
  show ((decide (t=x)&&(decide (u=y)&&true))&&true)=_
  rw[Bool.and_true,Bool.and_true,Bool.decide_and]
 rw[e] at h
 exact h
end
set_option maxHeartbeats 2000000
theorem zad4{env:Env}:∀ (names:List (Str×NameKind)) (acc:List (Str×Addr)),(∀ x∈names,x.2=.free->∃ c,env.cells.lookup x.1=some c) ->
  ∃ acc',(forIn (m:=Sem) names acc (fun (x:Str×NameKind) (r:List (Str×Addr))=>if (x.2==.free)=true then (do let c ← cellOf env x.1;pure (ForInStep.yield ((x.1,c) :: r))) else pure (ForInStep.yield r)))=pure acc' /\
   (∀ x c,acc'.lookup x=some c->acc.lookup x=some c∨env.cells.lookup x=some c)/\(∀ x c,acc.lookup x=some c->∃ c',acc'.lookup x=some c')/\∀ x∈names,x.2=.free->∃ c,acc'.lookup x.1=some c
 | [],acc,_=>⟨acc,rfl,fun _ _ h=>.inl h,fun _ c h=>⟨c,h⟩,fun _ h=>by cases h⟩
 | (n,k) :: r,acc,h=>by
  by_cases hk:k=.free
  ·subst hk
   obtain⟨c,hc⟩:=h (n,.free) zdc3 rfl
   obtain⟨acc',e,h1,h2,h3⟩:=zad4 r ((n,c) :: acc) fun x hx=>h x (zcz1 _ hx)
   have hco:cellOf env n=pure c:=by unfold cellOf;rw[hc]
   refine⟨acc',?_,fun x d hd=>?_,fun x d hd=>?_,fun x hx hf=>?_⟩
   ·rw[zdd9]
    simp only[hco]
    exact e
   ·rcases h1 x d hd with q|q
    ·rw[zcz8] at q
     split at q
     ·rename_i hx
      have hx:x=n:=by simpa using hx
      subst hx
      cases q
      exact .inr hc
     ·exact .inl q
    ·exact .inr q
   ·by_cases hx:x=n
    ·subst hx
     exact h2 x c (by simp[zcz8])
    ·refine h2 x d ?_
     rw[zcz8]
     have:(x==n)=false:=by simpa using hx
     rw[this];exact hd
   ·rcases zcx2.mp hx with rfl|hx
    ·exact h2 n c (by simp[zcz8])
    ·exact h3 x hx hf
  ·obtain⟨acc',e,h1,h2,h3⟩:=zad4 r acc fun x hx=>h x (zcz1 _ hx)
   refine⟨acc',?_,h1,h2,fun x hx hf=>?_⟩
   ·rw[zdd9]
    have:(k==NameKind.free)=false:=by simpa using hk
    simp only[this]
    exact e
   ·rcases zcx2.mp hx with rfl|hx
    ·exact absurd hf hk
    ·exact h3 x hx hf
theorem zar6{env:Env}(h:∀ x∈scope.names,x.2=.free->∃ c,env.cells.lookup x.1=some c) :
  ∃ cl,closureFor scope env=pure cl/\(∀ x c,cl.lookup x=some c->env.cells.lookup x=some c)/\∀ x∈scope.names,x.2=.free->∃ c,cl.lookup x.1=some c:=by
 obtain⟨cl,e,h1,_,h3⟩:=zad4 (env:=env) scope.names [] h
 refine⟨cl,?_,fun x c hc=>(h1 x c hc).elim (fun q=>by cases q) id,h3⟩
 unfold closureFor
 show (forIn (m:=Sem) scope.names ([]:List (Str×Addr)) _ >>= fun r=>pure r)=_
 rw[e]
 rfl
theorem zag4{env:Env}:∀ {names:List (Str×NameKind)}{x:Str},names.lookup x=some .free ->
  (names.map fun (n,k)=>if (k==NameKind.free&&env.scope.kind==.function&&env.kindOf n==some .cell) then (n,NameKind.cell) else (n,k)).lookup x=some .cell ∨
  (names.map fun (n,k)=>if (k==NameKind.free&&env.scope.kind==.function&&env.kindOf n==some .cell) then (n,NameKind.cell) else (n,k)).lookup x=some .free
 | [],_,h=>by simp at h
 | (n,k) :: r,x,h=>by
  have ih:=@zag4 env r x
  show List.lookup x ((if (k==NameKind.free&&env.scope.kind==.function&&env.kindOf n==some .cell)=true then (n,NameKind.cell) else (n,k)) :: _)=_∨List.lookup x ((if (k==NameKind.free&&env.scope.kind==.function&&env.kindOf n==some .cell)=true then (n,NameKind.cell) else (n,k)) :: _)=_
  cases hx:x==n with
  | true=>
   simp only[zcz8,hx] at h
   cases h
   by_cases hc:(NameKind.free==NameKind.free&&env.scope.kind==.function&&env.kindOf n==some .cell)=true
   ·left;rw[if_pos hc];simp only[zcz8,hx]
   ·right;rw[if_neg hc];simp only[zcz8,hx]
  | false=>
   simp only[zcz8,hx] at h
   by_cases hc:(k==NameKind.free&&env.scope.kind==.function&&env.kindOf n==some .cell)=true
   ·rw[if_pos hc];simp only[zcz8,hx];exact ih h
   ·rw[if_neg hc];simp only[zcz8,hx];exact ih h
theorem zx9{env:Env}:∀ {names:List (Str×NameKind)}{x:Str}{k':NameKind},(∀ y∈names,y.2≠.cell)->(k'=.cell∨k'=.free) ->
  (names.map fun (n,k)=>if (k==NameKind.free&&env.scope.kind==.function&&env.kindOf n==some .cell) then (n,NameKind.cell) else (n,k)).lookup x=some k'->∃ y∈names,y.1=x/\y.2=.free
 | [],_,_,_,_,h=>by simp at h
 | (n,k) :: r,x,k',hn,hk,h=>by
  have ih:=@zx9 env r x k' (fun y hy=>hn y (zcz1 _ hy)) hk
  replace h:List.lookup x ((if (k==NameKind.free&&env.scope.kind==.function&&env.kindOf n==some .cell)=true then (n,NameKind.cell) else (n,k)) :: List.map (fun (n,k)=>if (k==NameKind.free&&env.scope.kind==.function&&env.kindOf n==some .cell) then (n,NameKind.cell) else (n,k)) r)=some k':=h
  cases hx:x==n with
  | true=>
   have hx':x=n:=by simpa using hx
   by_cases hf:k=.free
   ·exact⟨(n,k),zdc3,hx'.symm,hf⟩
   ·have hc:¬ (k==NameKind.free&&env.scope.kind==.function&&env.kindOf n==some .cell)=true:=by
     have:(k==NameKind.free)=false:=by simpa using hf
     rw[this];simp
    rw[if_neg hc] at h
    simp only[zcz8,hx] at h
    have:k=k':=Option.some.inj h
    subst this
    rcases hk with hk|hk
    ·exact absurd hk (hn (n,k) zdc3)
    ·exact absurd hk hf
  | false=>
   have h':List.lookup x (List.map (fun (n,k)=>if (k==NameKind.free&&env.scope.kind==.function&&env.kindOf n==some .cell) then (n,NameKind.cell) else (n,k)) r)=some k':=by
    by_cases hc:(k==NameKind.free&&env.scope.kind==.function&&env.kindOf n==some .cell)=true
    ·rw[if_pos hc] at h;simp only[zcz8,hx] at h;exact h
    ·rw[if_neg hc] at h;simp only[zcz8,hx] at h;exact h
   obtain⟨y,hy,h1,h2⟩:=ih h'
   exact⟨y,zcz1 _ hy,h1,h2⟩
noncomputable def blk(X:Cx)(N:List Str)(scope:Scope)(cl:List (Str×Addr))(C:Addr)(s3:Shared)(H3:Hp)(fp:List Addr):Cx:=
 { X with N:=N,s₀:=s3,H₀:=H3,env:=compEnvC scope cl C X.env,outer:=X.stack,ex:=fp,fn:=fun _=>false,pn:=[],xe:=fun _ _=>False }
noncomputable def PTs(X:Cx)(ifs:List Expr)(t:TT):Prop:=
 ∀ (pins:List (Addr×Obj)) (s:Shared) (σ:St) (H:Hp) (Q:Bool->Hp->Prop),Inv X pins σ H s->t σ H Q ->
  wpAny (model X.prog X.w) X.A (forIn ifs true fun c r=>if r=true then do let ok ← isTrue c X.env (eval c X.env);pure (ForInStep.yield ok) else pure (ForInStep.yield r)) (TP X pins σ Q) X.xe s
theorem zc1{X:Cx}:PTs X [] (fun _ H Q=>Q true H):=fun _ _ _ H _ I h=>wpAny_tests_nil ⟨H,I,h⟩
theorem zbd9{X:Cx}{t:TT}(h:PT X c t):PTs X [c] t:=fun pins s σ H Q I hq=>wpAny_tests_one (h pins s σ H Q I hq)
@[irreducible] noncomputable def cPut(W:Nat->Nat->List V->St->Hp->Prop)(acc:Addr)(ys:List V)(i m:Nat)(σ2:St)(v:V)(H5:Hp):Prop:=
 H5 acc=some (.lst ys)/\∀ H6,Chg acc H5 H6->H6 acc=some (.lst (ys++[v]))->∃ m',m'<m/\W (i+1) m' (ys++[v]) σ2 H6
@[irreducible] noncomputable def zan5(W:Nat->Nat->List V->St->Hp->Prop)(ys:List V)(i m:Nat)(σ2:St)(H4:Hp):Prop:=∃ m',m'<m/\W (i+1) m' ys σ2 H4
@[irreducible] noncomputable def zaa5(J:It)(g:TG)(tt:TT)(te:TE)(σ0:St)(H1:Hp)(Q:VK):Prop:=
 ∀ acc H2,H1 acc=none->Same H1 H2->H2 acc=some (.lst [])->∃ W:Nat->Nat->List V->St->Hp->Prop,(∃ m,W 0 m [] σ0 H2)/\∀ i m ys σ H,W i m ys σ H->H acc=some (.lst ys)/\ys.length<sizeLine /\
  ((J.stop i H/\Q (.ref acc) H)∨(J.go i H/\∀ x H',J.yld i H x H'->g x σ H' fun σ2 H3=>tt σ2 H3 fun b H4=>
   br b (te σ2 H4 fun v H5=>cPut W acc ys i m σ2 v H5) (zan5 W ys i m σ2 H4)))
section
variable {X:Cx}{pins:List (Addr×Obj)}{σ:St}{H:Hp}{s2:Shared}
theorem zcn8{N:List Str}{cl:List (Str×Addr)}{C:Addr}{s3 s4:Shared}{H3:Hp}{fp:List Addr}{σc:St}(I:Inv X pins σ H3 s3)(hcl1:∀ x c,cl.lookup x=some c->X.env.cells.lookup x=some c)(hcl2:∀ x∈scope.names,x.2=.free->∃ c,cl.lookup x.1=some c)(hkind:scope.kind=.function)(hcell:∀ y∈scope.names,y.2≠.cell)(hcap:∀ (i:Nat) (x:Str) (v:V),N[i]?=some x->σc[i]?=some (some v)->∃ j:Nat,X.N[j]?=some x/\σ[j]?=some (some v)/\scope.names.lookup x=some .free/\(X.env.kindOf x=some .cell∨X.env.kindOf x=some .free))(hlen:σc.length=N.length)(hC:s3.heap.objs.size=C)(hfp:∀ b∈fp,FpOk X pins H3 b)(hfpl:∀ b∈fp,b<C)(hex:∀ b o,X.base.get? b=some o->b ∉ fp)(hns:∃ m,s4.heap.Ns C m)(hk:∀ b o,s3.heap.get? b=some o->s4.heap.get? b=some o)(h4:s4.os=s3.os)(h5:s4.gens=s3.gens) :
  Inv (blk X N scope cl C s3 H3 fp) [] σc H3 s4:=by
 subst hC
 have look:∀ x,(blk X N scope cl s3.heap.objs.size s3 H3 fp).env.kindOf x=(relabel scope X.env).names.lookup x:=fun x=>rfl
 have cne:∀ x c,cl.lookup x=some c->c<s3.heap.objs.size:=fun x c h=>by
  obtain⟨v,o,ho,_⟩:=I.cell x c (hcl1 x c h)
  exact zcx3 ho
 refine⟨⟨I.ok.mod,?_,I.ok.glob,I.ok.blt,zcw4 _,fun x y c h1 h2=>I.ok.inj x y c (hcl1 _ _ h1) (hcl1 _ _ h2),fun x hx=>?_,fun x c h=>?_,I.ok.hd,I.ok.frames,.inl rfl,fun b hb=>⟨zcy4 (hfpl b hb),fun x c h=>?_⟩,fun b o e=>I.bs b o e,zcy7 I.ok.bsz I.sz,fun b o e=>hex b o e,fun b hb=>?_,I.stack,I.stkFree⟩,
  h4,by rw[h5];exact I.bare,Un.kept hk,?_,fun x c h=>?_,I.hok.fresh (zcw4 _),fun x c h=>I.freeC x c (hcl1 _ _ h),fun p hp=>(by cases hp),I.hok.kept hk,hlen⟩
 ·exact hkind
 ·have hx':(relabel scope X.env).names.lookup x=some .cell∨(relabel scope X.env).names.lookup x=some .free:=hx
  have hz:∃ y∈scope.names,y.1=x/\y.2=.free:=by
   rcases hx' with q|q
   ·exact zx9 hcell (.inl rfl) q
   ·exact zx9 hcell (.inr rfl) q
  obtain⟨y,hy,rfl,hf⟩:=hz
  exact hcl2 y hy hf
 ·exact absurd (show false=true from h) zcx1
 ·exact (hfp b hb).2.2.2.2.1 x c (hcl1 x c h)
 ·have:=(hfp b hb).1
  intro hz
  obtain⟨f0,f1,f2,_⟩:=hfp b hb
  have hz:b∈frs X.stack:=hz
  rcases zcx2.mp (I.stkSub b hz) with q|q
  ·exact f1 q
  ·exact f2 q
 ·obtain⟨m,hm⟩:=hns
  refine⟨m,hm,fun i x v h1 h2 h3=>?_⟩
  obtain⟨j,e1,e2,e3,e4⟩:=hcap i x v h1 h2
  obtain⟨mX,_,hl⟩:=I.loc
  obtain⟨u,r,q⟩:=hl j x v e1 e2 (by rcases e4 with e4|e4;exact .inr (.inl e4);exact .inr (.inr e4))
  refine⟨u,r,.inr ⟨zag4 e3,?_⟩⟩
  obtain⟨c,hc⟩:=hcl2 (x,.free) (PySem.mem_of_lookup e3) rfl
  refine⟨c,hc,?_⟩
  have hc':=hcl1 x c hc
  rcases q with ⟨k,_⟩|⟨_,c2,e5,o,ho,hd⟩
  ·rcases e4 with e4|e4<;>rw[e4] at k<;>cases k
  ·rw[hc'] at e5
   cases e5
   exact⟨o,hk _ _ ho,hd⟩
 ·obtain⟨v,o,ho,hd⟩:=I.cell x c (hcl1 x c h)
  exact⟨v,o,hk _ _ ho,hd⟩
theorem zbr4{prog:Program}{w:World}{A:Around}{R:Result->Shared->Prop}{s:Shared}{elt target:Expr}{ifs:List Expr}{pos:Pos}{it acc:Value}{env:Env}(I:Nat->Shared->Prop)(turn:∀ n s,I n s->wpAny (model prog w) A (pyNext it) (fun r s₁=>match r with
   | none=>R (.ok .next) s₁
   | some v=>wpAny (model prog w) A (letOwnedTupleGo target it v) (fun _ s₁'=>wpAny (model prog w) A (assign target env v) (fun _ s₂=>
     wpAny (model prog w) A (forIn ifs true fun c r=>if r=true then do let ok ← isTrue c env (eval c env);pure (ForInStep.yield ok) else pure (ForInStep.yield r)) (fun ok s₃=>
      if ok=true then wpAny (model prog w) A (eval elt env) (fun x s₄=>
       wpAny (model prog w) A (call (.builtin "list.append") [acc,x]) (fun _ s₅=>∃ m,m<n/\I m s₅) (fun _ _=>False) s₄) (fun _ _=>False) s₃
      else ∃ m,m<n/\I m s₃) (fun _ _=>False) s₂) (fun _ _=>False) s₁') (fun _ _=>False) s₁) (fun _ _=>False) s)(n:Nat)(h:I n s):codeAny (model prog w) A (.compLoop (.ListComp elt [⟨target,iter,ifs,0⟩] scope pos) 0 it acc env) R s:=by
 refine codeAny_loop rfl I (fun n s hI=>?_) n h
 show wpAny _ A ((compTurn (.ListComp elt [⟨target,iter,ifs,0⟩] scope pos) 0 it acc env).onRaise (fun x=>do noteFrame x env;theTreesLotGoes x)) _ _ s
 refine wpAny_noted ?_
 rw[compTurn_list]
 refine zdf7 (wpAny_standAt (zdf7 (wpAny_mono (turn n s hI) (fun r s₁ h₁=>?_) fun _ _ h'=>h'.elim)))
 cases r with
 | none=>exact zdf8 h₁
 | some v=>
  refine zdf7 (wpAny_mono h₁ (fun _ s₁' h₁'=>?_) fun _ _ h'=>h'.elim)
  refine zdf7 (wpAny_mono h₁' (fun _ s₂ h₂=>zdf7 (wpAny_mono h₂ (fun ok s₃ h₃=>?_) fun _ _ h'=>h'.elim)) fun _ _ h'=>h'.elim)
  cases ok with
  | false=>exact zdf8 ⟨rfl,h₃⟩
  | true=>
   exact zdf7 (zdf7 (wpAny_mono h₃ (fun x s₄ h₄=>zdf7 (wpAny_mono h₄ (fun _ s₅ h₅=>zdf8 (zdf8 ⟨rfl,h₅⟩)) fun _ _ h'=>h'.elim)) fun _ _ h'=>h'.elim))
theorem zax6{E:Value->Shared->Prop}{elt:Expr}{ifs:List Expr}{pos:Pos}{cl:List (Str×Addr)}{N:List Str}{σc:St}{J:It}{fp:List Addr}{it:Addr}{tn:Nat->Heap->Prop}{g:TG}{tt:TT}{RR:Value->Addr->Result->Shared->Prop}(hcl1:∀ x c,cl.lookup x=some c->X.env.cells.lookup x=some c)(hcl2:∀ x∈scope.names,x.2=.free->∃ c,cl.lookup x.1=some c)(hkind:scope.kind=.function)(hcell:∀ y∈scope.names,y.2≠.cell)(hcap:∀ (i:Nat) (x:Str) (v:V),N[i]?=some x->σc[i]?=some (some v)->∃ j:Nat,X.N[j]?=some x/\σ[j]?=some (some v)/\scope.names.lookup x=some .free/\(X.env.kindOf x=some .cell∨X.env.kindOf x=some .free))(hlen:σc.length=N.length)(hc:X.calm=true)(I:Inv X pins σ H s2)(T:Turn X.prog X.w X.K tg J fp it tn)(st:tn 0 s2.heap)(fpok:∀ b∈fp,FpOk X pins H b)(hg:∀ C s3 H3 fp,PG (blk X N scope cl C s3 H3 fp) tg g)(ht:∀ C s3 H3 fp,PTs (blk X N scope cl C s3 H3 fp) ifs tt)(he:∀ C s3 H3 fp,PE (blk X N scope cl C s3 H3 fp) elt te)(h:zaa5 J g tt te σc H Q)(hRR:∀ (acc C:Addr) (H':Hp) (s':Shared),Inv X pins σ H' s'->FpOk X pins H' C->(∃ m,s'.heap.Ns C m)->Q (.ref acc) H'->RR (.ref acc) C (.ok .next) s') :
  wpAny (model X.prog X.w) X.A (newList []) (fun acc s₃=>wpAny (model X.prog X.w) X.A (newFunctionEnv scope X.env.globals cl [] X.env.qual none .none (some X.env)) (fun cenv s₄=>
   codeAny (model X.prog X.w) X.A (.compStart (.ListComp elt [⟨tg,iter,ifs,0⟩] scope pos) 0 (.ref it) acc { cenv with scope:=relabel scope X.env }) (RR acc cenv.locals) s₄) E s₃) E s2:=by
 refine wpAny_newObj_type (wpAny_newFunctionEnv hcell (by intro y hy;simp at hy) (fun h₁ hns₁ hsb₁=>?_) hkind)
 dsimp only at hns₁ hsb₁ ⊢
 have hf:H s2.heap.objs.size=none:=I.fresh
 have I3:Inv X pins σ (upd H s2.heap.objs.size (.lst [])) { s2 with heap:=s2.heap.push { cls:=.type "list",data:=.seq ([]:List Value).toArray } }:=I.lnew (t':=s2.toks) (its:=[]) .nil (zcz6 _)
 generalize hs3:({ s2 with heap:=s2.heap.push { cls:=.type "list",data:=.seq ([]:List Value).toArray } }:Shared)=s3 at I3
 have hH:s2.heap.push { cls:=.type "list",dict:=none,data:=.seq ([]:List Value).toArray }=s3.heap:=by rw[← hs3]
 rw[hH] at hns₁ hsb₁ ⊢
 have hsz:s3.heap.objs.size=s2.heap.objs.size+1:=by rw[← hH,Heap.size_push]
 have old23:∀ b o,s2.heap.get? b=some o->s3.heap.get? b=some o:=fun b o e=>by rw[← hH];exact zcw5 _ e
 have fplt:∀ b∈fp,b<s2.heap.objs.size:=fun b hb=>by
  obtain⟨o,e,_⟩:=T.obj 0 _ st b hb
  exact zcx3 e
 have fp3:∀ b∈fp,FpOk X pins (upd H s2.heap.objs.size (.lst [])) b:=fun b hb=>by
  obtain⟨f0,f1⟩:=fpok b hb
  refine⟨?_,f1⟩
  rw[zb9 (zcy4 (fplt b hb))]
  exact f0
 have old34:∀ b o,s3.heap.get? b=some o->h₁.get? b=some o:=fun b o e=>hsb₁.extBut b o (zcy4 (zcx3 e)) (zcw5 _ e)
 have nob:∀ b o,X.base.get? b=some o->b ∉ fp:=fun b o e hb=>by
  obtain⟨_,_,_,f3,_,_⟩:=fpok b hb
  rcases f3 with f3|f3
  ·exact I.ok.noex b o e f3
  ·exact absurd (zcx5 (zcx3 e) I.ok.bsz) (Nat.not_lt.mpr f3)
 have hs4e:({ s2 with heap:=h₁,toks:=s2.toks+([]:List (Str×Value)).length }:Shared).os=s3.os:=by rw[← hs3]
 have hs4g:({ s2 with heap:=h₁,toks:=s2.toks+([]:List (Str×Value)).length }:Shared).gens=s3.gens:=by rw[← hs3]
 have I4:Inv (blk X N scope cl s3.heap.objs.size s3 (upd H s2.heap.objs.size (.lst [])) fp) [] σc (upd H s2.heap.objs.size (.lst [])) { s2 with heap:=h₁,toks:=s2.toks+([]:List (Str×Value)).length }:=
  zcn8 (s4:={ s2 with heap:=h₁,toks:=s2.toks+([]:List (Str×Value)).length }) I3 hcl1 hcl2 hkind hcell hcap hlen rfl fp3 (fun b hb=>zcx5 (fplt b hb) (by rw[hsz];exact Nat.le_succ _)) nob ⟨_,hns₁⟩ old34 hs4e hs4g
 have st4:tn 0 h₁:=T.keep _ _ _ st fun b hb o e=>old34 b o (old23 b o e)
 unfold zaa5 at h
 obtain⟨W,⟨m0,w0⟩,turn⟩:=h s2.heap.objs.size _ hf (Same.upd hf) zc0
 have loop:codeAny (model X.prog X.w) X.A (.compLoop (.ListComp elt [⟨tg,iter,ifs,0⟩] scope pos) 0 (.ref it) (.ref s2.heap.objs.size) (blk X N scope cl s3.heap.objs.size s3 (upd H s2.heap.objs.size (.lst [])) fp).env)
   (RR (.ref s2.heap.objs.size) s3.heap.objs.size) { s2 with heap:=h₁,toks:=s2.toks+([]:List (Str×Value)).length }:=by
  refine zbr4 (fun n s'=>∃ i ys σ' H',Inv (blk X N scope cl s3.heap.objs.size s3 (upd H s2.heap.objs.size (.lst [])) fp) [] σ' H' s'/\tn i s'.heap/\(∀ b∈fp,H' b=none)/\W i n ys σ' H') ?_ m0 ⟨0,[],σc,_,I4,st4,fun b hb=>(fp3 b hb).1,w0⟩
  rintro n s5 ⟨i,ys,σ5,H5,I5,st5,fr5,w5⟩
  obtain⟨hacc,hl5,hcase⟩:=turn i n ys σ5 H5 w5
  have stat:∀ {H':Hp},(∀ b∈fp,H' b=none)->∀ b∈fp,FpOk (blk X N scope cl s3.heap.objs.size s3 (upd H s2.heap.objs.size (.lst [])) fp) [] H' b:=fun hn b hb=>by
   obtain⟨_,f1,f2,f3,f4,_⟩:=fpok b hb
   refine⟨hn b hb,zcy4 (zcx5 (fplt b hb) (by rw[hsz];exact Nat.le_succ _)),fun hz=>?_,.inl hb,fun x c hx=>f4 x c (hcl1 x c hx),fun p hp=>by cases hp⟩
   rcases zcx2.mp (I.stkSub b hz) with q|q
   ·exact f1 q
   ·exact f2 q
  rcases hcase with ⟨stop,hq⟩|⟨go,step⟩
  ·refine thn (T.done (blk X N scope cl s3.heap.objs.size s3 (upd H s2.heap.objs.size (.lst [])) fp) rfl rfl rfl hc i [] s5 σ5 H5 (fun _ _=>False) I5 (stat fr5) st5 stop) fun r s6 ⟨hr,I6⟩=>?_
   subst hr
   have u1:Un (frs X.stack) fp H (upd H s2.heap.objs.size (.lst [])) s2.heap s3.heap:=Un.laid old23 (zcw4 _) hf
   have u2:Un (frs X.stack) fp (upd H s2.heap.objs.size (.lst [])) H5 s3.heap s6.heap:=I6.base
   have hC:H5 s3.heap.objs.size=none:=I6.free
   obtain⟨m6,hm6,_⟩:=I6.loc
   have hos:s6.os=s2.os:=by rw[I6.os];show s3.os=s2.os;rw[← hs3]
   have hok6:=I6.hok
   have bare6:=I6.bare
   obtain⟨hh,gg,dd,tt',os'⟩:=s6
   obtain rfl:os'=s2.os:=hos
   exact hRR _ _ H5 _ (I.call (h':=hh) (g':=gg) (d':=dd) (t':=tt') (ch:=fp) (u1.trans u2) hok6 bare6 fun b hb=>⟨(fpok b hb).2.2.2.1,(fpok b hb).2.1,(fpok b hb).2.2.2.2.1,(fpok b hb).2.2.2.2.2⟩)
    (I.fpOk (by rw[hsz];exact Nat.le_succ _) hC) ⟨m6,hm6⟩ hq
  ·refine thn (T.item (blk X N scope cl s3.heap.objs.size s3 (upd H s2.heap.objs.size (.lst [])) fp) rfl rfl rfl hc i [] s5 σ5 H5 (fun _ _=>False) I5 (stat fr5) st5 go) fun r s6 ⟨u,hr,h6⟩=>?_
   subst hr
   refine thn h6 fun _ s7 ⟨x,H7,I7,r7,y7,st7,fr7⟩=>?_
   have I7':=I7.pinned (stat fr7) (T.obj _ _ st7)
   refine thn (hg _ _ _ _ _ s7 σ5 H7 x u _ I7' r7 (step x H7 y7)) fun _ s8 ⟨σ8,H8,I8,q8⟩=>?_
   refine thn (ht _ _ _ _ _ s8 σ8 H8 _ I8 q8) fun ok s9 ⟨H9,I9,q9⟩=>?_
   have again:∀ {s10:Shared}{σ10:St}{H10:Hp}{zs:List V},Inv (blk X N scope cl s3.heap.objs.size s3 (upd H s2.heap.objs.size (.lst [])) fp) ([]++zaz0 fp s7.heap) σ10 H10 s10->(∃ m',m'<n/\W (i+1) m' zs σ10 H10) ->
     ∃ m,m<n/\∃ i ys σ' H',Inv (blk X N scope cl s3.heap.objs.size s3 (upd H s2.heap.objs.size (.lst [])) fp) [] σ' H' s10/\tn i s10.heap/\(∀ b∈fp,H' b=none)/\W i m ys σ' H':=fun {s10 σ10 H10 zs} I10 ⟨m',hm,w10⟩=>by
    refine⟨m',hm,i+1,zs,σ10,H10,I10.unpinned,T.keep _ _ _ st7 fun b hb o e=>(I10.pin (b,o) (zcz2 _ (zcz2 _ (zz2 hb e)))).1,fun b hb=>?_,w10⟩
    obtain⟨o,e,d⟩:=T.obj _ _ st7 b hb
    exact (I10.pin (b,o) (zcz2 _ (zcz2 _ (zz2 hb e)))).2.1
   dsimp only at q9
   rw[zag2] at q9
   cases ok with
   | false=>
    have q9:∃ m',m'<n/\W (i+1) m' ys σ8 H9:=by rw[if_neg zcx1] at q9;unfold zan5 at q9;exact q9
    exact again I9 q9
   | true=>
    have q9:=(if_pos rfl▸q9:te σ8 H9 _)
    refine thn (he _ _ _ _ _ s9 σ8 H9 _ I9 q9) fun v s10 ⟨y,H10,I10,r10,q10⟩=>?_
    unfold cPut at q10
    obtain⟨e10,q10⟩:=q10
    refine thn (zaz5 _ s10 σ8 H10 (.ref s2.heap.objs.size) [y] (.ref s2.heap.objs.size) [v] (fun _ H11=>∃ m',m'<n/\W (i+1) m' (ys++[y]) σ8 H11) I10 rfl (.cons r10 .nil) ⟨_,ys,y,rfl,rfl,e10,hl5,q10 _ Chg.upd zc0⟩) fun _ s11 ⟨z,H11,I11,_,q11⟩=>?_
    exact again I11 q11
 exact codeAny_compStart_list loop (T.self _ 0 _ _ _ st4 loop)
noncomputable def capS(ks:List (Option Nat))(σ:St):St:=ks.map fun k=>match k with
 | none=>none
 | some j=>(σ[j]?).join
inductive zam2(X:Cx)(scope:Scope):List Str->List (Option Nat)->Prop where
 | nil:zam2 X scope [] []
 | skip {x:Str}{N:List Str}{ks:List (Option Nat)}(t:zam2 X scope N ks):zam2 X scope (x :: N) (none :: ks)
 | take {x:Str}{N:List Str}{ks:List (Option Nat)}{j:Nat}(h1:X.N[j]?=some x) (h2:scope.names.lookup x=some .free) (h3:X.env.kindOf x=some .cell∨X.env.kindOf x=some .free) (t:zam2 X scope N ks):zam2 X scope (x :: N) (some j :: ks)
theorem zam2.cap{N:List Str}{ks:List (Option Nat)}(h:zam2 X scope N ks)(σ:St):∀ (i:Nat) (x:Str) (v:V),N[i]?=some x->(capS ks σ)[i]?=some (some v)->∃ j:Nat,X.N[j]?=some x/\σ[j]?=some (some v)/\scope.names.lookup x=some .free/\(X.env.kindOf x=some .cell∨X.env.kindOf x=some .free):=by
 induction h with
 | nil=>intro i x v h;simp at h
 | skip t ih=>
  intro i x v h1 h2
  cases i with
  | zero=>simp[capS] at h2
  | succ i=>exact ih i x v (by simpa using h1) (by simpa [capS] using h2)
 | take a b c t ih=>
  intro i x v h1 h2
  cases i with
  | zero=>
   simp only[List.getElem?_cons_zero,Option.some.injEq] at h1
   subst h1
   refine⟨_,a,?_,b,c⟩
   simpa [capS,Option.join_eq_some_iff] using h2
  | succ i=>exact ih i x v (by simpa using h1) (by simpa [capS] using h2)
theorem zam2.len{N:List Str}{ks:List (Option Nat)}(h:zam2 X scope N ks)(σ:St):(capS ks σ).length=N.length:=by
 have:ks.length=N.length:=by
  induction h with
  | nil=>rfl
  | skip t ih=>simp[ih]
  | take a b c t ih=>simp[ih]
 simp[capS,this]
noncomputable def qComp(ks:List (Option Nat))(wi:TI)(g:TG)(tt:TT)(te:TE):TE:=fun σ H Q=>wi σ H fun J H1=>zaa5 J g tt te (capS ks σ) H1 Q
noncomputable def freeB(scope:Scope)(f:Str->Option NameKind):Bool:=scope.names.all fun x=>x.2 != .free || (f x.1==some .cell || f x.1==some .free)
noncomputable def zbl6(scope:Scope):Bool:=scope.names.all (fun x=>x.2 != .cell)&&scope.names.all fun x=>x.2 != .local || scope.names.lookup x.1==some .local
theorem zbn3{f:Str->Option NameKind}(h:freeB scope f=true):∀ x∈scope.names,x.2=.free->f x.1=some .cell∨f x.1=some .free:=fun x hx hf=>by
 have:=zdd4.mp h x hx
 simpa [hf] using this
theorem zbc0(h:zbl6 scope=true):(∀ y∈scope.names,y.2≠.cell)/\∀ x∈scope.names,x.2=.local->scope.names.lookup x.1=some .local:=by
 unfold zbl6 at h
 rw[zdd3] at h
 refine⟨fun y hy=>?_,fun x hx hl=>?_⟩
 ·have:=zdd4.mp h.1 y hy
  simpa using this
 ·have:=zdd4.mp h.2 x hx
  simpa [hl] using this
theorem zd6{elt:Expr}{ifs:List Expr}{pos:Pos}{N:List Str}{ks:List (Option Nat)}{wi:TI}{g:TG}{tt:TT}(hi:PI X tg iter wi)(hg:∀ cl C s3 H3 fp,PG (blk X N scope cl C s3 H3 fp) tg g)(ht:∀ cl C s3 H3 fp,PTs (blk X N scope cl C s3 H3 fp) ifs tt)(he:∀ cl C s3 H3 fp,PE (blk X N scope cl C s3 H3 fp) elt te)(hcap:zam2 X scope N ks)(hc:X.calm=true:=by rfl)(hkind:scope.kind=.function:=by rfl)(hb:freeB scope X.env.kindOf=true:=by rfl)(hn:zbl6 scope=true:=by rfl)(hs:∀ x,foldedSetIterable iter X.env x=pure x:=by intro _;rfl) :
  PE X (.ListComp elt [⟨tg,iter,ifs,0⟩] scope pos) (qComp ks wi g tt te):=by
 intro pins s σ H Q I h
 obtain⟨hcell,hnames⟩:=zbc0 hn
 obtain⟨cl,hcl,hcl1,hcl2⟩:=zar6 (scope:=scope) (env:=X.env) fun x hx hf=>I.ok.has x.1 (zbn3 hb x hx hf)
 rw[eval_ListComp]
 refine wpAny_comprehension_free (use:=none) rfl hs hcl hkind hnames ?_
 show wpAny _ _ (eval iter X.env) _ _ s
 refine thn (hi pins s σ H _ I h) fun v s1 h1=>thn h1 fun itv s2 h2=>?_
 obtain⟨it,fp,tn,J,H2,e,I2,T,st2,f2,q2⟩:=h2
 subst e
 refine zax6 (RR:=fun acc C=>compPost (model X.prog X.w) X.A X.xe none (EP X pins σ Q) acc C) hcl1 hcl2 hkind hcell (hcap.cap σ) (hcap.len σ) hc I2 T st2 f2 (hg cl) (ht cl) (he cl) q2 ?_
 rintro acc C H' s' I' hC ⟨m,hm⟩ hq
 refine⟨m,hm,fun h' hsb=>⟨.ref acc,H',?_,rfl,hq⟩⟩
 exact I'.turned (t':=s'.toks) (fun b o hb e=>hsb.extBut b o hb e) hC.1 hC.2.1 hC.2.2.2.1 hC.2.2.2.2.1 hC.2.2.2.2.2
theorem psC{y:Str}{py spos:Pos}{elt:Expr}{ifs:List Expr}{pos:Pos}{N:List Str}{ks:List (Option Nat)}{wi:TI}{g:TG}{tt:TT}(hN:X.N.Nodup)(hi:PI X tg iter wi)(hg:∀ cl C s3 H3 fp,PG (blk X N scope cl C s3 H3 fp) tg g)(ht:∀ cl C s3 H3 fp,PTs (blk X N scope cl C s3 H3 fp) ifs tt)(he:∀ cl C s3 H3 fp,PE (blk X N scope cl C s3 H3 fp) elt te)(hcap:zam2 X scope N ks)(hy:X.N[i]?=some y:=by rfl)(hl:X.env.scope.names.lookup y=some .local:=by rfl)(hsw:swapsWith (.ListComp elt [⟨tg,iter,ifs,0⟩] scope pos) (some (.Name y py)) spos.line X.env=pure true:=by rfl)(hc:X.calm=true:=by rfl)(hkind:scope.kind=.function:=by rfl)(hb:freeB scope X.env.kindOf=true:=by rfl)(hn:zbl6 scope=true:=by rfl)(hs:∀ x,foldedSetIterable iter X.env x=pure x:=by intro _;rfl) :
  PS X (.Assign [.Name y py] (.ListComp elt [⟨tg,iter,ifs,0⟩] scope pos) spos) (tAsg (qComp ks wi g tt te) (gName i)):=by
 intro pins s σ H D I h
 obtain⟨hcell,hnames⟩:=zbc0 hn
 obtain⟨cl,hcl,hcl1,hcl2⟩:=zar6 (scope:=scope) (env:=X.env) fun x hx hf=>I.ok.has x.1 (zbn3 hb x hx hf)
 rw[exec_Assign_Name_used _ _ _ _ hsw]
 refine zdf7 (wpAny_standAt (zdf7 ?_))
 show wpAny _ X.A (do let _ ← comprehension (.ListComp elt [⟨tg,iter,ifs,0⟩] scope pos) scope X.env _ (newList []) false (eval iter X.env) (some (assign (.Name y py) X.env))) _ _ s
 refine zdf7 (wpAny_mono (wpAny_comprehension_free (use:=some (assign (.Name y py) X.env)) (Q:=fun _ s'=>SP X pins D .next s') rfl hs hcl hkind hnames ?_) (fun _ s' hq=>zdf8 (zdf8 hq)) fun _ _ e=>e)
 refine thn (hi pins s σ H _ I h) fun v s1 h1=>thn h1 fun itv s2 h2=>?_
 obtain⟨it,fp,tn,J,H2,e,I2,T,st2,f2,q2⟩:=h2
 subst e
 refine zax6 (RR:=fun acc C=>compPost (model X.prog X.w) X.A X.xe (some (assign (.Name y py) X.env)) (fun _ s'=>SP X pins D .next s') acc C) hcl1 hcl2 hkind hcell (hcap.cap σ) (hcap.len σ) hc I2 T st2 f2 (hg cl) (ht cl) (he cl) q2 ?_
 rintro acc C H' s' I' hC ⟨m,hm⟩ hq
 show wpAny _ _ (assign (.Name y py) X.env (.ref acc)) _ _ _
 refine wpAny_assign_Name (zbc3 I' hN hy (.inl hl) (v:=.ref acc) rfl (fun s'' I'' hsb=>?_) (.inr hl))
 obtain⟨a,hsb,ha⟩:=hsb
 have hCa:C≠a:=by
  rcases ha with ha|ha
  ·rw[ha];exact hC.2.1
  ·exact (hC.2.2.2.2.1 y a ha).symm
 refine⟨m,hm.sameBut hsb hCa,fun h' hsb'=>⟨σ.set i (some (.ref acc)),H',?_,hq⟩⟩
 exact I''.turned (t':=s''.toks) (fun b o hb e=>hsb'.extBut b o hb e) hC.1 hC.2.1 hC.2.2.2.1 hC.2.2.2.2.1 hC.2.2.2.2.2
end
noncomputable def cW(n:Nat)(H1:Hp)(acc:Addr)(Pv:Nat->List V->St->Hp->Prop):Nat->Nat->List V->St->Hp->Prop:=fun i m ys σ H=>m=n - i/\i<=n/\ys.length<=i/\Same H1 H/\H acc=some (.lst ys)/\Pv i ys σ H
section
variable {K:zcw1}{g:TG}{tt:TT}{te:TE}{σ0:St}{H1:Hp}{Q:VK}
theorem zcl0{m:Nat}{Pv:Nat->List V->St->Hp->Prop}{σ2:St}{v:V}{H5:Hp}(hi:i<n)(hm:m=n - i)(hl:ys.length<=i)(hf:H1 acc=none)(hs:Same H1 H5)(ha:H5 acc=some (.lst ys))(q:∀ H6,Same H1 H6->Chg acc H5 H6->Pv (i+1) (ys++[v]) σ2 H6):cPut (cW n H1 acc Pv) acc ys i m σ2 v H5:=by
 unfold cPut
 refine⟨ha,fun H6 hc h6=>⟨n - (i+1),by omega,rfl,by omega,by rw[zcw9,zcy1];omega,hs.chg hf hc,h6,q H6 (hs.chg hf hc) hc⟩⟩
structure CT(n i m:Nat)(H1 H:Hp)(acc:Addr)(ys:List V):Prop where
 hi:i<n
 hm:m=n - i
 hl:ys.length<=i
 hf:H1 acc=none
 hs:Same H1 H
 ha:H acc=some (.lst ys)
theorem CT.put{m:Nat}{H5:Hp}{Pv:Nat->List V->St->Hp->Prop}{σ2:St}{v:V}(c:CT n i m H1 H acc ys)(hs:Same H H5)(q:∀ H6,Same H1 H6->Chg acc H5 H6->Pv (i+1) (ys++[v]) σ2 H6):cPut (cW n H1 acc Pv) acc ys i m σ2 v H5:=zcl0 c.hi c.hm c.hl c.hf (c.hs.trans hs) (hs _ _ c.ha) q
theorem zbp1(hn:n<sizeLine)(Pv:Nat->List V->St->Hp->Prop)(h0:∀ H,Same H1 H->Pv 0 [] σ0 H)(turn:∀ i m ys σ H acc,CT n i m H1 H acc ys->Pv i ys σ H->g (.int (lo+i)) σ H fun σ2 H3=>tt σ2 H3 fun b H4=>br b (te σ2 H4 fun v H5=>cPut (cW n H1 acc Pv) acc ys i m σ2 v H5) (zan5 (cW n H1 acc Pv) ys i m σ2 H4))(fin:∀ acc ys σ H,H1 acc=none->Same H1 H->H acc=some (.lst ys)->Pv n ys σ H->Q (.ref acc) H):zaa5 (Itr lo n) g tt te σ0 H1 Q:=by
 unfold zaa5
 intro acc H2 hf hs ha
 refine⟨cW n H1 acc Pv,⟨n,by simp,zcz6 _,zcw4 _,hs,ha,h0 H2 hs⟩,?_⟩
 rintro i m ys σ H ⟨hm,hi,hl,hs',ha',hp⟩
 refine⟨ha',by omega,?_⟩
 by_cases hlt:i<n
 ·refine .inr ⟨hlt,fun x H' y=>?_⟩
  obtain⟨e,y⟩:=y
  subst e y
  exact turn i m ys σ _ acc ⟨hlt,hm,hl,hf,hs',ha'⟩ hp
 ·have e:i=n:=by omega
  subst e
  exact .inl ⟨zcw4 _,fin acc ys σ H hf hs' ha' hp⟩
end
section
variable {X:Cx}
@[irreducible] noncomputable def rSumA(K:zcw1)(p:Addr)(H:Hp)(Q:VK):Prop:=∃ ns:List Int,SqL K H p (ns.map V.int)/\Q (.int ns.sum) H
noncomputable def rSumM(K:zcw1):List V->Hp->VK->Prop:=fun xs H Q=>match xs with
 | [.ref p]=>rSumA K p H Q
 | _=>False
theorem cSum(hc:X.calm=true):zq1 X (.builtin "sum") (rSumM X.K):=fun pins s σ H xs us Q I r h=>by
 unfold rSumM at h
 split at h
 ·unfold rSumA at h
  obtain⟨ns,h1,h2⟩:=h
  obtain⟨u,rfl,rx⟩:=zah1 r
  cases rx
  obtain⟨its,r',pl,hz⟩:=I.list h1
  have hi:=zy9 r'
  obtain⟨ys,hx⟩:=hi.allInts.items
  have hl':s.heap.IsList _ (intItems ys):=hx▸pl.isList
  refine sum_intListG (I.ok.hd hc) hl' fun h' tk t' hk=>?_
  have e1:ns=ys.toList.map (·.1):=by
   rw[← nums_intItems,← hx]
   exact (show numsOf its.toArray.toList=ns from hi.numsOf).symm
  have e2:preSum (numAt ys) ys.size=ns.sum:=by
   rw[preSum_eq,List.take_of_length_le (by simp),e1]
  rw[e2]
  exact⟨.int ns.sum,H,I.kept hk,⟨_,rfl⟩,h2⟩
 ·exact h.elim
theorem zal3{K:zcw1}{p:Addr}{ns:List Int}(h:H p=some (.lst (ns.map V.int)))(q:Q (.int ns.sum) H):rSumA K p H Q:=by unfold rSumA;exact⟨ns,SqL.of h,q⟩
theorem zak3:∀ {bs:List Bool}{us:List Value},Vals (bs.map V.bl) us->LSm.BoolsAre us bs
 | [],us,r=>by rw[zde9] at r;cases r;exact .nil
 | b :: bs,us,r=>by
  rw[zcz9] at r
  cases r with
  | cons r1 r2=>
   cases r1
   exact .cons b (zak3 r2)
@[irreducible] noncomputable def rAllA(K:zcw1)(p:Addr)(H:Hp)(Q:VK):Prop:=∃ bs:List Bool,SqL K H p (bs.map V.bl)/\Q (.bl (bs.all id)) H
noncomputable def rAllM(K:zcw1):List V->Hp->VK->Prop:=fun xs H Q=>match xs with
 | [.ref p]=>rAllA K p H Q
 | _=>False
theorem cAll(hc:X.calm=true):zq1 X (.builtin "all") (rAllM X.K):=fun pins s σ H xs us Q I r h=>by
 unfold rAllM at h
 split at h
 ·rename_i p
  unfold rAllA at h
  obtain⟨bs,h1,h2⟩:=h
  obtain⟨u,rfl,rx⟩:=zah1 r
  cases rx
  obtain⟨its,r',pl,hz⟩:=I.list h1
  have hb:=zak3 r'
  have hlt:p<s.heap.objs.size:=by obtain⟨_,e,_⟩:=pl.isList;exact zcx3 e
  refine call_all_walk (wpAny_pyIter_list pl.isList ?_)
  refine⟨s.heap.objs.size,[s.heap.objs.size,_],[s.heap.objs.size],its.toArray.size,_,_,fun i=>(bs[i]?).getD true,rfl,Walks.list (A:=X.A.in1) (I.ok.hd hc) _ _ (zcy4 hlt) its.toArray,
   ⟨⟨_,zcx7 _ rfl,rfl,rfl⟩,pl.isList.push _⟩,fun i v s' Q' E' hP hQ=>?_,fun h' tk hk=>?_⟩
  ·obtain⟨b,e,rfl⟩:=hb.get i v (by simpa using hP)
   simp only[e,Option.getD_some] at hQ
   exact wpAny_truthy_bool hQ
  ·have e:((List.range its.toArray.size).all fun i=>(bs[i]?).getD true)=bs.all id:=by
    rw[zcw8,hb.length];exact LSm.range_all bs
   rw[e]
   exact⟨.bl _,H,I.kept (LSm.kept_iter hk),rfl,h2⟩
 ·exact h.elim
theorem zbx2{K:zcw1}{p:Addr}{bs:List Bool}(h:H p=some (.lst (bs.map V.bl)))(q:Q (.bl (bs.all id)) H):rAllA K p H Q:=by unfold rAllA;exact⟨bs,SqL.of h,q⟩
@[irreducible] noncomputable def zbm2(K:zcw1)(p:Addr)(H:Hp)(Q:VK):Prop:=∃ ys,(SqL K H p ys∨SqT K H p ys)/\∀ l H',H l=none->Same H H'->H' l=some (.lst ys)->Q (.ref l) H'
noncomputable def zbz7(K:zcw1):List V->Hp->VK->Prop:=fun xs H Q=>match xs with
 | [.ref p]=>zbm2 K p H Q
 | _=>False
theorem cList:zq1 X (.type "list") (zbz7 X.K):=fun pins s σ H xs us Q I r h=>by
 unfold zbz7 at h
 split at h
 ·unfold zbm2 at h
  obtain⟨ys,h1,h2⟩:=h
  exact zay1 pins s σ H _ us Q I r ⟨_,ys,rfl,h1,fun l hl=>h2 l _ hl (Same.upd hl) zc0⟩
 ·exact h.elim
theorem zai0{K:zcw1}{p:Addr}(h:SqL K H p ys)(q:∀ l H',H l=none->Same H H'->H' l=some (.lst ys)->Q (.ref l) H'):zbm2 K p H Q:=by unfold zbm2;exact⟨ys,.inl h,q⟩
@[irreducible] noncomputable def zbj6(K:zcw1)(p:Addr)(H:Hp)(R:Prop):Prop:=(∃ xs,SqL K H p xs)/\R
noncomputable def qBM(K:zcw1)(r:Addr->List V->Hp->VK->Prop)(to:TE)(t:TA):TE:=fun σ H Q=>to σ H fun x H1=>match x with
 | .ref p=>zbj6 K p H1 (t σ H1 fun xs H2=>r p xs H2 Q)
 | _=>False
theorem zai6{K:zcw1}{p:Addr}{R:Prop}(h:H p=some (.lst xs))(q:R):zbj6 K p H R:=by unfold zbj6;exact⟨⟨xs,SqL.of h⟩,q⟩
noncomputable def MtA(X:Cx)(id:String)(r:Addr->List V->Hp->VK->Prop):Prop:=
 ∀ (pins:List (Addr×Obj)) (s:Shared) (σ:St) (H:Hp) (p:Addr) (xs:List V) (us:List Value) (Q:VK),Inv X pins σ H s->Vals xs us->r p xs H Q ->
  wpAny (model X.prog X.w) X.A (call (.builtin id) (.ref p :: us)) (EP X pins σ Q) X.xe s
theorem peBM{o:Expr}{to:TE}{t:TA}{name:Str}{apos cpos:Pos}{id:String}{r:Addr->List V->Hp->VK->Prop}(slot:Slot "list" name id)(hty:typeOf (.builtin id)=pure (.type "method_descriptor"))(hm:MtA X id r)(ho:PE X o to)(ha:PA X (e :: es) t)(hbase:attributeBase o name X.env (eval o X.env)=eval o X.env:=by rfl)(hfew:((backTo cpos (starEach (e :: es) X.env)).all (fun x=>!x.1)&&(backToKw cpos (keywordEach [] X.env)).all (fun x=>x.1.isSome)
   && decide ((e :: es).length+([]:List Keyword).length+(if ([]:List Keyword).isEmpty then 0 else 1)<30))=true:=by rfl)(hline:(apos.endLine==cpos.line)=true:=by rfl)(hs:starEach (e :: es) X.env=(false,eval e X.env) :: starEach es X.env:=by rfl)(hplain:(backTo cpos (starEach es X.env)).any (·.1)=false:=by rfl) :
  PE X (.Call (.Attribute o name apos) (e :: es) [] cpos) (qBM X.K r to t):=by
 intro pins s σ H Q I h
 refine wpAny_Call_method_late hbase hfew hline rfl (thn (ho pins s σ H _ I h) fun v s1 ⟨x,H1,I1,r1,q1⟩=>?_)
 dsimp only at q1
 split at q1
 ·rename_i p
  unfold zbj6 at q1
  obtain⟨hq,q1⟩:=q1
  obtain⟨h1,h2⟩:=tyV_is (T:="list") I1 r1 (.inl ⟨rfl,hq⟩)
  refine⟨"list",id,PySem.F.plainAttrs_list,slot,hty,h1,h2,?_⟩
  have hA:=ha cpos pins s1 σ H1 _ I1 q1
  rw[hs] at hA ⊢
  refine Calls.callWith_builtin (by show (false || (backTo cpos (starEach es X.env)).any (·.1))=false;rw[hplain]<;>rfl) (Calls.evalArgs_plain ?_)
  cases r1
  exact thn hA fun us s2 ⟨vs,H2,I2,r2,q2⟩=>hm pins s2 σ H2 p vs us Q I2 r2 q2
 ·exact q1.elim
@[irreducible] noncomputable def rAppA(p:Addr)(v:V)(H:Hp)(Q:VK):Prop:=∃ xs,H p=some (.lst xs)/\xs.length<sizeLine/\∀ H',Chg p H H'->H' p=some (.lst (xs++[v]))->Q .non H'
noncomputable def rAppM:Addr->List V->Hp->VK->Prop:=fun p vs H Q=>match vs with
 | [v]=>rAppA p v H Q
 | _=>False
theorem zck0:MtA X "list.append" rAppM:=fun pins s σ H p xs us Q I r h=>by
 unfold rAppM at h
 split at h
 ·unfold rAppA at h
  obtain⟨ys,h1,h2,h3⟩:=h
  exact zaz5 pins s σ H (.ref p) _ (.ref p) us Q I rfl r ⟨p,ys,_,rfl,rfl,h1,h2,h3 _ Chg.upd zc0⟩
 ·exact h.elim
theorem zan1{p:Addr}{v:V}(h:H p=some (.lst xs))(hz:xs.length<sizeLine)(q:∀ H',Chg p H H'->H' p=some (.lst (xs++[v]))->Q .non H'):rAppA p v H Q:=by unfold rAppA;exact⟨xs,h,hz,q⟩
theorem zn2{o:Expr}{to:TE}{t:TA}{apos cpos:Pos}(ho:PE X o to)(ha:PA X [e] t)(hbase:attributeBase o "append" X.env (eval o X.env)=eval o X.env:=by rfl)(hfew:((backTo cpos (starEach [e] X.env)).all (fun x=>!x.1)&&(backToKw cpos (keywordEach [] X.env)).all (fun x=>x.1.isSome)
   && decide ([e].length+([]:List Keyword).length+(if ([]:List Keyword).isEmpty then 0 else 1)<30))=true:=by rfl)(hline:(apos.endLine==cpos.line)=true:=by rfl)(hs:starEach [e] X.env=(false,eval e X.env) :: starEach [] X.env:=by rfl)(hplain:(backTo cpos (starEach [] X.env)).any (·.1)=false:=by rfl):PE X (.Call (.Attribute o "append" apos) [e] [] cpos) (qBM X.K rAppM to t):=
 peBM PySem.F.slot_list_append PySem.F.type_list_append zck0 ho ha hbase hfew hline hs hplain
noncomputable def qAug(i:Nat)(te:TE)(r:R2):TS:=fun D σ H=>match σ[i]? with
 | some (some x)=>te σ H fun y H1=>r x y H1 fun z H2=>D.nx (σ.set i (some z)) H2
 | _=>False
theorem ipAdd:OpR X (inplaceOp .Add) (fun x y H Q=>match x,y with|.int i,.int j=>Q (.int (i+j)) H|_,_=>False):=by
 intro pins s σ H x y v u Q I rx ry h
 split at h
 ·exact zco8 pins s σ H _ _ v u Q I rx ry ⟨_,_,rfl,rfl,h⟩
 ·exact h.elim
theorem ipSub:OpR X (inplaceOp .Sub) (fun x y H Q=>match x,y with|.int i,.int j=>Q (.int (i - j)) H|_,_=>False):=by
 intro pins s σ H x y v u Q I rx ry h
 split at h
 ·exact zcj9 pins s σ H _ _ v u Q I rx ry ⟨_,_,rfl,rfl,h⟩
 ·exact h.elim
theorem psAug{x:Str}{op:Operator}{r:R2}{pos pos':Pos}(hN:X.N.Nodup)(ho:OpR X (inplaceOp op) r)(he:PE X e te)(hi:X.N[i]?=some x:=by rfl)(hx:Loc X.env.scope x:=by first|exact Or.inl rfl|exact Or.inr rfl)(hf:X.fn x=true∨X.env.scope.names.lookup x=some .local:=by first|exact .inl rfl|exact .inr rfl|assumption) :
  PS X (.AugAssign (.Name x pos') op e pos) (qAug i te r):=fun pins s σ H D I h=>by
 unfold qAug at h
 split at h
 ·rename_i v e
  exact ps_aug hN hi hx he (fun pins s σ H x y v u Q I rx ry q=>ho pins s σ H x y v u Q I rx ry q) hf pins s σ H D I ⟨v,e,h⟩
 ·exact h.elim
noncomputable def rIsM:R2:=fun x y H Q=>match y with
 | .non=>Q (.bl (decide (x=.non))) H
 | _=>False
theorem oIs:OpR X (compareOp .Is) rIsM:=by
 intro pins s σ H x y v u Q I rx ry h
 unfold rIsM at h
 split at h
 ·exact op_isN pins s σ H _ _ v u Q I rx ry ⟨rfl,h⟩
 ·exact h.elim
noncomputable def zbx7:R2:=fun x y H Q=>match y with
 | .non=>Q (.bl (!decide (x=.non))) H
 | _=>False
theorem oIsNot:OpR X (compareOp .IsNot) zbx7:=by
 intro pins s σ H x y v u Q I rx ry h
 unfold zbx7 at h
 split at h
 ·exact zci8 pins s σ H _ _ v u Q I rx ry ⟨rfl,h⟩
 ·exact h.elim
section
variable {prog:Program}{w:World}{A:Around}{E:Value->Shared->Prop}{s:Shared}
theorem zax2{it t:Addr}{items:Array Value}(hne:t≠it):∀ (n i:Nat) (s:Shared) (Q:List Value->Shared->Prop),s.heap.IsListIter it t i->s.heap.IsList t items->i+n<=items.size ->
  (∀ h',h'.IsListIter it t (i+n)->Heap.SameBut it s.heap h'->Q ((items.toList.drop i).take n) { s with heap:=h' })->wpAny (model prog w) A (draw (.ref it) n) Q E s
 | 0,i,s,Q,hit,_,_,hQ=>by
  show wpAny _ _ (pure []) Q E s
  exact zdf8 (by simpa using hQ s.heap hit (Heap.SameBut.refl ..))
 | n+1,i,s,Q,hit,ht,hle,hQ=>by
  have hlt:i<items.size:=by omega
  show wpAny _ _ (pyNext (.ref it) >>= _) Q E s
  refine zdf7 (wpAny_pyNext_list_item hit ht (x:=items[i]) (by simp[hlt]) fun h₁ hit₁ hs₁=>?_)
  refine zdf7 (zdg2 (zax2 hne n (i+1) _ _ hit₁ (ht.extBut hs₁.extBut hne) (by omega) fun h₂ hit₂ hs₂=>zdf8 ?_))
  have hd:items.toList.drop i=items[i] :: items.toList.drop (i+1):=by simp[zdb1,hlt]
  have:=hQ h₂ (by rw[show i+(n+1)=i+1+n by omega];exact hit₂) (hs₁.trans hs₂)
  rw[hd,List.take_succ_cons] at this
  exact this
theorem zaf2{env:Env}{x1}{pos:Pos}{t:Addr}{items:Array Value}{Q:Unit->Shared->Prop}(hh:A.handled=none)(ht:s.heap.IsList t items)(hn:(assignEach elts env).length=items.size)(hstar:(assignEach elts env).findIdx? (·.1)=none)(h:∀ h',Heap.ExtBut s.heap.objs.size s.heap h'->wpAny (model prog w) A (assignInOrder ((assignEach elts env).map (·.2)) items.toList) Q E { s with heap:=h' }) :
  wpAny (model prog w) A (assign (.Tuple elts x1 pos) env (.ref t)) Q E s:=by
 rw[assign_Tuple]
 refine zdf7 (wpAny_standAt ?_)
 unfold unpack
 rw[hn,hstar]
 refine zdf7 (zdg2 ?_)
 have hlt:t≠s.heap.objs.size:=by obtain⟨o,ho,_⟩:=ht;exact zcy4 (zcx3 ho)
 unfold unpackItems
 refine zdf7 ?_
 unfold notIterableAtAll
 refine zdf7 (wpAny_specialOf ht.typeIs F.slot_list_iter.lookup ?_)
 refine zdf8 ?_
 simp only[zda7,if_false]
 refine zdf7 (zdg2 (wpAny_pyIter_list ht ?_))
 refine zdf7 (zdg2 (zax2 hlt items.size 0 _ _ ⟨_,zcx7 _ rfl,rfl,rfl⟩ (ht.push _) (by omega) fun h₁ hit₁ hs₁=>?_))
 have hall:List.take items.size (List.drop 0 items.toList)=items.toList:=by
  rw[List.drop_zero];exact List.take_of_length_le (by simp)
 rw[hall]
 rw[if_neg (by simp)]
 have ht₁:h₁.IsList t items:=(ht.push _).extBut hs₁.extBut hlt
 refine zdf7 (zdg2 (wpAny_pyNext_list_end hh hit₁ ht₁ (by simp) fun h₂ he₂=>?_))
 simp only[Option.isSome_none,zda7,if_false]
 exact zdf8 (h h₂ fun b o hb e=>he₂ b o hb (hs₁.extBut b o hb (zcw5 _ e)))
end
@[irreducible] noncomputable def zbo7(K:zcw1)(a:Addr)(n:Nat)(t:TGs)(σ:St)(H:Hp)(Q:St->Hp->Prop):Prop:=∃ xs,(SqT K H a xs∨SqL K H a xs)/\xs.length=n/\t xs σ H Q
noncomputable def qgAny(K:zcw1)(n:Nat)(t:TGs):TG:=fun v σ H Q=>match v with
 | .ref a=>zbo7 K a n t σ H Q
 | _=>False
theorem pgAny{pos:Pos}{k:Nat}{t:TGs}(hc:X.calm=true)(h:PGs X es t)(hn:(assignEach es X.env).length=n:=by rfl)(hst:(assignEach es X.env).findIdx? (·.1)=none:=by rfl):PG X (.Tuple es k pos) (qgAny X.K n t):=fun pins s σ H v u Q I r hq=>by
 unfold qgAny at hq
 split at hq
 ·unfold zbo7 at hq
  obtain⟨xs,a1,a2,a3⟩:=hq
  rcases a1 with a1|a1
  ·exact pg_tup hc h hn hst pins s σ H _ u Q I r ⟨_,xs,rfl,a1,a2,a3⟩
  ·cases r
   obtain⟨its,rv,pl,hz⟩:=I.list a1
   refine zaf2 (I.ok.hd hc) pl.isList (by simp[hn,← a2,rv.length]) hst fun h' hx=>?_
   have I1:Inv X pins σ H { s with heap:=h' }:=I.kept (t':=s.toks) fun b o e=>hx b o (zcy4 (zcx3 e)) e
   exact h pins _ σ H xs _ Q I1 (by simpa using rv) a3
 ·exact hq.elim
theorem zk9{K:zcw1}{a:Addr}{t:TGs}{Q:St->Hp->Prop}(h:H a=some (.tup xs))(q:t xs σ H Q)(e:xs.length=n:=by rfl):zbo7 K a n t σ H Q:=by
 unfold zbo7;exact⟨xs,.inl (SqT.of h),e,q⟩
theorem zci7{K:zcw1}{a:Addr}{t:TGs}{Q:St->Hp->Prop}(h:H a=some (.lst xs))(q:t xs σ H Q)(e:xs.length=n:=by rfl):zbo7 K a n t σ H Q:=by
 unfold zbo7;exact⟨xs,.inr (SqL.of h),e,q⟩
end
noncomputable def Chg2(a c:Addr)(H H':Hp):Prop:=∀ b o,b≠a->b≠c->H b=some o->H' b=some o
theorem Chg2.refl(a c:Addr)(H:Hp):Chg2 a c H H:=fun _ _ _ _ e=>e
theorem Chg2.trans{a c:Addr}(x:Chg2 a c H H1)(y:Chg2 a c H1 H2):Chg2 a c H H2:=fun b o h1 h2 e=>y b o h1 h2 (x b o h1 h2 e)
theorem Chg2.same{a c:Addr}(x:Chg2 a c H H1)(y:Same H1 H2):Chg2 a c H H2:=fun b o h1 h2 e=>y b o (x b o h1 h2 e)
theorem Chg.toL{a c:Addr}(x:Chg a H H1):Chg2 a c H H1:=fun b o h1 _ e=>x b o h1 e
theorem Chg.toR{a c:Addr}(x:Chg c H H1):Chg2 a c H H1:=fun b o _ h2 e=>x b o h2 e
theorem Chg2.at{a c b:Addr}(x:Chg2 a c H H')(e:H b=some o)(h1:b≠a)(h2:b≠c):H' b=some o:=x b o h1 h2 e
theorem EqR.nilR{K:zcw1}{a b:Addr}(ha:H a=some (.lst xs))(hb:H b=some (.lst [])):EqR K H 1 (.ref a) (.ref b) (decide (xs.length=0)):=by
 by_cases h:xs.length=0
 ·rw[decide_eq_true h]
  have e:xs=[]:=List.length_eq_zero_iff.mp h
  subst e
  exact EqR.lst (n:=0) (fun _=>true) (SqL.of ha) (SqL.of hb) rfl (fun j x y hx=>by simp at hx)
 ·rw[decide_eq_false h]
  exact EqR.lstN (SqL.of ha) (SqL.of hb) (by simpa using h)
noncomputable def cV(n:Nat)(acc:Addr)(Pv:Nat->List V->St->Hp->Prop):Nat->Nat->List V->St->Hp->Prop:=fun i m ys σ H=>m=n - i/\i<=n/\ys.length<=i/\H acc=some (.lst ys)/\Pv i ys σ H
section
variable {K:zcw1}{g:TG}{tt:TT}{te:TE}{σ0:St}{H1:Hp}{Q:VK}
theorem zcb4{m:Nat}{Pv:Nat->List V->St->Hp->Prop}{σ2:St}{v:V}{H5:Hp}(hi:i<n)(hm:m=n - i)(hl:ys.length<=i)(ha:H5 acc=some (.lst ys))(q:∀ H6,Chg acc H5 H6->H6 acc=some (.lst (ys++[v]))->Pv (i+1) (ys++[v]) σ2 H6):cPut (cV n acc Pv) acc ys i m σ2 v H5:=by
 unfold cPut
 exact⟨ha,fun H6 hc h6=>⟨n - (i+1),by omega,rfl,by omega,by rw[zcw9,zcy1];omega,h6,q H6 hc h6⟩⟩
theorem zbi4(hn:n<sizeLine)(h:∀ acc H2,H1 acc=none->Same H1 H2->H2 acc=some (.lst [])->∃ Pv:Nat->List V->St->Hp->Prop,Pv 0 [] σ0 H2 /\
  (∀ i m ys σ H,i<n->m=n - i->ys.length<=i->H acc=some (.lst ys)->Pv i ys σ H->g (.int (lo+i)) σ H fun σ2 H3=>tt σ2 H3 fun b H4=>br b (te σ2 H4 fun v H5=>cPut (cV n acc Pv) acc ys i m σ2 v H5) (zan5 (cV n acc Pv) ys i m σ2 H4)) /\
  ∀ ys σ H,H acc=some (.lst ys)->Pv n ys σ H->Q (.ref acc) H):zaa5 (Itr lo n) g tt te σ0 H1 Q:=by
 unfold zaa5
 intro acc H2 hf hs ha
 obtain⟨Pv,h0,turn,fin⟩:=h acc H2 hf hs ha
 refine⟨cV n acc Pv,⟨n,by simp,zcz6 _,zcw4 _,ha,h0⟩,?_⟩
 rintro i m ys σ H ⟨hm,hi,hl,ha',hp⟩
 refine⟨ha',by omega,?_⟩
 by_cases hlt:i<n
 ·refine .inr ⟨hlt,fun x H' y=>?_⟩
  obtain⟨e,y⟩:=y
  subst e y
  exact turn i m ys σ _ hlt hm hl ha' hp
 ·have e:i=n:=by omega
  subst e
  exact .inl ⟨zcw4 _,fin ys σ H ha' hp⟩
end
section
variable {X:Cx}{K:zcw1}
theorem slK(hK:X.K=K):SlR X (rSlM K):=by subst hK;exact slM
theorem za8{a b:Expr}{ta tb:TE}{pos:Pos}(hK:X.K=K)(ha:PE X a ta)(hb:PE X b tb)(hs:zbe9 b:=by exact fun _ _=>rfl):PE X (.Subscript a b pos) (tOp (rIxM K) ta tb):=by subst hK;exact peIx ha hb hs
theorem zm3(hK:X.K=K):zq1 X (.builtin "len") (rLenM K):=by subst hK;exact cLen
theorem zah3(hK:X.K=K):zq1 X (.builtin "isinstance") (rIsiM K):=by subst hK;exact cIsi
theorem zbe4(hK:X.K=K)(hc:X.calm=true):zq1 X (.builtin "sum") (rSumM K):=by subst hK;exact cSum hc
theorem cAllK(hK:X.K=K)(hc:X.calm=true):zq1 X (.builtin "all") (rAllM K):=by subst hK;exact cAll hc
theorem zbl3(hK:X.K=K):zq1 X (.type "list") (zbz7 K):=by subst hK;exact cList
theorem oEqK(hK:X.K=K)(hu:X.A.units+40<cLine):OpR X (compareOp .Eq) (rEqM K):=by subst hK;exact oEq hu
theorem oNeK(hK:X.K=K)(hu:X.A.units+40<cLine):OpR X (compareOp .NotEq) (rNeM K):=by subst hK;exact oNe hu
theorem zd8{l:Expr}{tl:TE}(hK:X.K=K)(hl:PE X l tl):PI X tg l (qiSeq K tl):=by subst hK;exact piSeq hl
theorem zp4{pos:Pos}{k:Nat}{t:TGs}(hK:X.K=K)(hc:X.calm=true)(h:PGs X es t)(hn:(assignEach es X.env).length=n:=by rfl)(hst:(assignEach es X.env).findIdx? (·.1)=none:=by rfl):PG X (.Tuple es k pos) (qgAny K n t):=by subst hK;exact pgAny hc h hn hst
end
noncomputable def Ite(K:zcw1)(a:Addr):It:=
 ⟨fun i H=>∃ xs x,SqL K H a xs/\xs[i]?=some x,fun i H v H'=>∃ p y,v=.ref p/\H p=none/\Same H H'/\H' p=some (.tup [.int i,y])/\∀ xs,SqL K H a xs->xs[i]?=some y,fun i H=>∃ xs,SqL K H a xs/\xs.length<=i⟩
theorem zbs6{P:Program}{w:World}{K:zcw1}{k:Nat}{pos:Pos}(a it e:Addr)(hne:e≠it):Turn P w K (.Tuple elts k pos) (Ite K a) [it,e] e (fun i h=>(∃ old,IsEnum h e it i old)/\h.IsListIter it a i) where
 mem:=by simp
 obj:=fun i h st b hb=>by
  obtain⟨⟨old,he⟩,o,e1,c,d⟩:=st
  rcases zcx2.mp hb with rfl|hb
  ·exact⟨o,e1,fun v z=>by rw[d] at z;cases z⟩
  ·have:b=e:=by simpa using hb
   subst this
   exact⟨_,he,fun v z=>by cases z⟩
 keep:=fun i h h' st kp=>by
  obtain⟨⟨old,he⟩,hi⟩:=st
  exact⟨⟨old,kp e (by simp) _ he⟩,hi.at fun o x=>kp it (by simp) o x⟩
 item:=by
  intro X hP hw hK hc i pins s σ H E I hf st hg
  subst hP hw hK
  obtain⟨⟨old,he⟩,hit⟩:=st
  obtain⟨xs,x,hq,hx⟩:=hg
  obtain⟨its,rv,p,hz⟩:=I.list hq
  obtain⟨u,hu,ru⟩:=rv.get hx
  obtain⟨f0,f1,f2,f3,f4,f5⟩:=hf it (by simp)
  obtain⟨g0,g1,g2,g3,g4,g5⟩:=hf e (by simp)
  refine wpAny_pyNext_enum_item he hit p.isList (x:=u) (by simpa using hu) hne fun h1 heo hit1 ht1 hz1 hk1=>?_
  refine⟨_,rfl,wpAny_letOwnedTupleGo_enum heo fun h2 he2 hs2=>?_⟩
  replace hs2:Heap.SameBut e h1 h2:=hs2
  have hel:e<s.heap.objs.size:=zcx3 he
  have kp:∀ b o,b ∉ [it,e]->s.heap.get? b=some o->h2.get? b=some o:=fun b o hb x=>by
   have b1:b≠it:=fun z=>hb (by simp[z])
   have b2:b≠e:=fun z=>hb (by simp[z])
   exact (hs2.2 b b2).trans (hk1 b o b2 b1 x)
  have ht2:h2.get? s.heap.objs.size=some { cls:=.type "tuple",data:=.seq #[.int i s.toks,u] }:=(hs2.2 _ (Nat.ne_of_gt hel)).trans ht1
  have hfr:H s.heap.objs.size=none:=I.fresh
  have nof:∀ b v,H b=some v->b ∉ [it,e]:=fun b v hb z=>by
   rcases zcx2.mp z with rfl|z
   ·rw[f0] at hb;cases hb
   ·have:b=e:=by simpa using z
    subst this
    rw[g0] at hb;cases hb
  have nlt:∀ b o,s.heap.get? b=some o->b≠s.heap.objs.size:=fun b o x=>zcy4 (zcx3 x)
  have hok:HOk X.prog X.w (upd H s.heap.objs.size (.tup [.int i,x])) h2:=fun b v hb=>by
   by_cases e1:b=s.heap.objs.size
   ·subst e1
    rw[zc0] at hb
    cases hb
    exact⟨by show 2<=sizeLine;decide,[.int i s.toks,u],.cons ⟨_,rfl⟩ (.cons ru .nil),⟨_,ht2,rfl,_,rfl⟩⟩
   ·rw[zb9 e1] at hb
    refine (I.hok b v hb).stay (fun c w' hc q=>?_) (fun c q=>?_) (fun c ys q=>?_)
    ·rcases hc with rfl|hc
     ·exact kp _ _ (nof _ _ hb) q
     ·exact kp _ _ (nof _ _ hc) q
    ·rw[zb9 (za4 q hfr)];exact q
    ·rw[zb9 (za4 q hfr)];exact q
  have chs:∀ b∈[it,e],(b∈X.ex∨X.s₀.heap.objs.size<=b)/\b≠X.env.locals/\(∀ x c,X.env.cells.lookup x=some c->c≠b)/\∀ p∈X.pn++pins,p.1≠b:=fun b hb=>by
   rcases zcx2.mp hb with rfl|hb
   ·exact⟨f3,f1,f4,f5⟩
   ·have:b=e:=by simpa using hb
    subst this
    exact⟨g3,g1,g4,g5⟩
  have I2:Inv X pins σ (upd H s.heap.objs.size (.tup [.int i,x])) { s with heap:=h2,toks:=s.toks+1 }:=
   I.step (g':=s.gens) (d':=s.drawn) (t':=s.toks+1) (ch:=[it,e]) chs (fun b o _ _ hb x _=>kp b o hb x) (fun b o _ _ hb x _=>⟨o.slots,kp b o hb x⟩)
    (fun b o _ x n=>by rw[zb9 (nlt b o x)];exact n) (fun b o hb x=>⟨o,kp b o hb x⟩) (fun b ys q=>by rw[zb9 (za4 q hfr)];exact q) (fun b o v q=>by rw[zb9 (za4 q hfr)];exact q)
    (fun b ps q=>⟨#[],by rw[zb9 (za4 q hfr),q];simp⟩)
    (fun m hm=>by
     obtain⟨o,es,ep,ho,r⟩:=hm
     exact⟨o,es,ep,kp _ o (fun z=>by
      rcases zcx2.mp z with z|z
      ·exact f1 z.symm
      ·exact g1 (by simpa using z:X.env.locals=e).symm) ho,r⟩) hok I.bare
  have hi1:h2.IsListIter it a (i+1):=hit1.extBut hs2.extBut (Ne.symm hne)
  have he3:IsEnum h2 e it ((i+1:Nat):Int) u:=by
   have:((i+1:Nat):Int)=(i:Int)+1:=by push_cast;rfl
   rw[this];exact he2
  refine⟨.ref s.heap.objs.size,_,I2,rfl,⟨_,x,rfl,hfr,Same.upd hfr,zc0,fun ys hy=>by rw[I.list_inj hy hq];exact hx⟩,⟨⟨u,he3⟩,hi1⟩,fun b hb=>?_⟩
  have hb0:H b=none:=(hf b hb).1
  have hlt:b≠s.heap.objs.size:=by
   rcases zcx2.mp hb with rfl|hb
   ·obtain⟨o,ho,_⟩:=hit;exact nlt _ _ ho
   ·have:b=e:=by simpa using hb
    subst this
    exact zcy4 hel
  rw[zb9 hlt];exact hb0
 done:=by
  intro X hP hw hK hc i pins s σ H E I hf st hg
  subst hP hw hK
  obtain⟨⟨old,he⟩,hit⟩:=st
  obtain⟨xs,hq,hx⟩:=hg
  obtain⟨its,rv,p,hz⟩:=I.list hq
  obtain⟨f0,f1,f2,f3,f4,f5⟩:=hf it (by simp)
  have hl:=rv.length
  exact wpAny_pyNext_enum_end (I.ok.hd hc) he hit p.isList (by simp;omega) fun h' eb=>⟨rfl,I.turned (t':=s.toks) (fun b o hb e=>eb b o hb e) f0 f1 f3 f4 f5⟩
 self:=fun _ _ _ _ _ st h=>by
  obtain⟨⟨old,he⟩,_⟩:=st
  exact wpAny_pyIter_enum he h
section
variable {X:Cx}{K:zcw1}
theorem zax1:bootBuiltins "enumerate"=some (.type "enumerate"):=by decide +kernel
@[irreducible] noncomputable def rEnum(K:zcw1)(a:Addr)(H:Hp)(R:It->Hp->Prop):Prop:=(∃ xs,SqL K H a xs)/\R (Ite K a) H
noncomputable def zch3(K:zcw1)(ta:TA):TI:=fun σ H R=>ta σ H fun vs H1=>match vs with
 | [.ref a]=>rEnum K a H1 R
 | _=>False
theorem piEnum{k:Nat}{pt:Pos}{a:Expr}{p pos:Pos}(hm:X.mg "enumerate"=none)(ha:PA X [a] ta)(hg:Gl X "enumerate":=by rfl)(hs:starEach [a] X.env=[(false,eval a X.env)]:=by rfl) :
  PI X (.Tuple elts k pt) (.Call (.Name "enumerate" p) [a] [] pos) (zch3 X.K ta):=by
 intro pins s σ H R I h
 refine Call_ (zw5 I hg hm zax1 (PyProof.Rows.callWith_type1 (thn (ha pos pins s σ H _ I h) fun us s1 ⟨vs,H1,I1,r1,q1⟩=>?_) hs rfl))
 dsimp only at q1
 split at q1
 ·rename_i l
  unfold rEnum at q1
  obtain⟨⟨xs,hq⟩,q⟩:=q1
  obtain⟨u,rfl,rx⟩:=zah1 r1
  cases rx
  obtain⟨its,rv,pl,hz⟩:=I1.list hq
  refine call_enumerate_list pl.isList fun h' he hit hsz hk=>?_
  refine wpAny_pyIter_enum he ?_
  have I2:Inv X pins σ H1 { s1 with heap:=h' }:=I1.kept (t':=s1.toks) hk
  refine⟨s1.heap.objs.size+1,[s1.heap.objs.size,s1.heap.objs.size+1],_,Ite X.K l,H1,rfl,I2,zbs6 l _ _ (Nat.succ_ne_self _),⟨⟨_,he⟩,hit⟩,fun b hb=>?_,q⟩
  have hb':s1.heap.objs.size<=b:=by
   rcases zcx2.mp hb with rfl|hb
   ·exact zcw4 _
   ·have:b=s1.heap.objs.size+1:=by simpa using hb
    subst this
    exact Nat.le_succ _
  exact I1.fpOk hb' (I1.hok.fresh hb')
 ·exact q1.elim
theorem zbg3{k:Nat}{pt:Pos}{a:Expr}{p pos:Pos}(hK:X.K=K)(hm:X.mg "enumerate"=none)(ha:PA X [a] ta)(hg:Gl X "enumerate":=by rfl)(hs:starEach [a] X.env=[(false,eval a X.env)]:=by rfl) :
  PI X (.Tuple elts k pt) (.Call (.Name "enumerate" p) [a] [] pos) (zch3 K ta):=by subst hK;exact piEnum hm ha hg hs
end
section
variable {K:zcw1}{g:TG}{tb:TS}{D:Ends}{σ:St}{H:Hp}{R:It->Hp->Prop}
theorem zbe7{a:Addr}(h:H a=some (.lst xs))(q:R (Ite K a) H):rEnum K a H R:=by unfold rEnum;exact⟨⟨xs,SqL.of h⟩,q⟩
theorem zbu5{a:Addr}(Pv:Nat->St->Hp->Prop)(h0:Pv 0 σ H)(hl:∀ i σ H,i<=xs.length->Pv i σ H->SqL K H a xs)(hs:∀ i y σ H p H',xs[i]?=some y->Pv i σ H->H p=none->Same H H'->H' p=some (.tup [.int i,y])->g (.ref p) σ H' fun σ2 H2=>tb { D with nx:=Pv (i+1),ct:=Pv (i+1),bk:=D.nx } σ2 H2)(hd:∀ σ H,Pv xs.length σ H->D.nx σ H):zap6 (Ite K a) g tb D σ H:=by
 unfold zap6
 refine⟨fun i m σ H=>m=xs.length - i/\i<=xs.length/\Pv i σ H,⟨xs.length,by simp,zcz6 _,h0⟩,?_⟩
 rintro i m σ H ⟨rfl,hi,p⟩
 have q:=hl i σ H hi p
 by_cases hlt:i<xs.length
 ·refine .inr ⟨⟨xs,xs[i],q,by simp[hlt]⟩,Pv (i+1),fun σ' H' p'=>⟨xs.length - (i+1),by omega,rfl,hlt,p'⟩,fun x H' y=>?_⟩
  obtain⟨pp,yy,rfl,y1,y2,y3,y4⟩:=y
  exact hs i yy σ H pp H' (y4 xs q) p y1 y2 y3
 ·have e:i=xs.length:=by omega
  subst e
  exact .inl ⟨⟨xs,q,zcw4 _⟩,hd σ H p⟩
end
section
variable {K:zcw1}{g:TG}{tt:TT}{te:TE}{σ0:St}{H1:Hp}{Q:VK}
theorem zbx1{a:Addr}(hx:SqL K H1 a xs)(hn:xs.length<sizeLine)(Pv:Nat->List V->St->Hp->Prop)(hP:∀ i ys σ H H',Same H H'->Pv i ys σ H->Pv i ys σ H')(h0:∀ H,Same H1 H->Pv 0 [] σ0 H)(turn:∀ i m y p ys σ H acc,xs[i]?=some y->H p=some (.tup [.int i,y])->CT xs.length i m H1 H acc ys->Pv i ys σ H->g (.ref p) σ H fun σ2 H3=>tt σ2 H3 fun b H4=>br b (te σ2 H4 fun v H5=>cPut (cW xs.length H1 acc Pv) acc ys i m σ2 v H5) (zan5 (cW xs.length H1 acc Pv) ys i m σ2 H4))(fin:∀ acc ys σ H,H1 acc=none->Same H1 H->H acc=some (.lst ys)->Pv xs.length ys σ H->Q (.ref acc) H):zaa5 (Ite K a) g tt te σ0 H1 Q:=by
 unfold zaa5
 intro acc H2 hf hs ha
 refine⟨cW xs.length H1 acc Pv,⟨xs.length,by simp,zcz6 _,zcw4 _,hs,ha,h0 H2 hs⟩,?_⟩
 rintro i m ys σ H ⟨hm,hi,hl,hs',ha',hp⟩
 refine⟨ha',by omega,?_⟩
 have q:=hs'.seq hx
 by_cases hlt:i<xs.length
 ·refine .inr ⟨⟨xs,xs[i],q,by simp[hlt]⟩,fun x H' y=>?_⟩
  obtain⟨pp,yy,rfl,y1,y2,y3,y4⟩:=y
  exact turn i m yy pp ys σ H' acc (y4 xs q) y3 ⟨hlt,hm,hl,hf,hs'.trans y2,y2 _ _ ha'⟩ (hP i ys σ H H' y2 hp)
 ·have e:i=xs.length:=by omega
  subst e
  exact .inl ⟨⟨xs,q,zcw4 _⟩,fin acc ys σ H hf hs' ha' hp⟩
end
theorem zce1{k:Int}(h:0<=k):cutV xs (some k) none=xs.drop k.toNat:=by
 show List.take (xs.length - (if k<0 then (k+(xs.length:Int)).toNat else min k.toNat xs.length)) (List.drop (if k<0 then (k+(xs.length:Int)).toNat else min k.toNat xs.length) xs)=_
 rw[if_neg (by omega)]
 by_cases hk:k.toNat<=xs.length
 ·rw[Nat.min_eq_left hk,List.take_of_length_le (by rw[zdd2];omega)]
 ·rw[Nat.min_eq_right (by omega),List.drop_of_length_le (by omega),List.drop_of_length_le (by omega),List.take_nil]
noncomputable def rowV(n:Nat)(r:Nat->Int):List V:=(List.range n).map fun t=>V.int (r t)
theorem zb7(n:Nat)(r:Nat->Int):(rowV n r).length=n:=by unfold rowV;simp
theorem zd3{r:Nat->Int}(h:i<n):(rowV n r)[i]?=some (.int (r i)):=by unfold rowV;simp[h]
theorem zm1{r:Nat->Int}{i:Int}(h0:0<=i)(h:i<n):atI (rowV n r) i=some (.int (r i.toNat)):=by
 have:=zc9 (zd3 (r:=r) (i:=i.toNat) (n:=n) (by omega))
 rw[show ((i.toNat:Nat):Int)=i by omega] at this
 exact this
theorem zbl7{r s:Nat->Int}(h:∀ t,t<n->r t=s t):rowV n r=rowV n s:=by
 unfold rowV
 refine zdb8 fun t ht=>?_
 rw[h t (zda0.mp ht)]
theorem zl6(n:Nat)(r:Nat->Int):rowV (n+1) r=rowV n r++[.int (r n)]:=by unfold rowV;rw[zde6,zcx9];rfl
theorem zas9{r:Nat->Int}{j:Nat}{v:Int}:(rowV n r).set j (.int v)=rowV n fun t=>if t=j then v else r t:=by
 apply zdc1
 intro i
 rw[zdd8]
 by_cases hi:i<n
 ·rw[zd3 hi,zd3 hi]
  by_cases hj:j=i
  ·subst hj;simp[zb7,hi]
  ·simp[hj,Ne.symm hj]
 ·have e:∀ r:Nat->Int,(rowV n r)[i]?=none:=fun r=>by simp[zb7];omega
  rw[e,e]
  split
  ·simp[zb7];omega
  ·rfl
theorem zax7(n:Nat)(r:Nat->Int):rowV n r=((List.range n).map r).map V.int:=by unfold rowV;rw[zdf0];rfl
theorem zbb7{i:Int}{p:Addr}(h0:0<=i)(h:ps[i.toNat]?=some p):atI (ps.map V.ref) i=some (.ref p):=by
 have:=zc9 (xs:=ps.map V.ref) (j:=i.toNat) (v:=.ref p) (by rw[zcw3,h];rfl)
 rw[show ((i.toNat:Nat):Int)=i by omega] at this
 exact this
theorem zaf1{v:V}(h:xs.length=n+1)(e:xs[n]?=some v):atI xs (-1)=some v:=by
 unfold atI ixN
 rw[if_neg (by decide),if_pos (by omega)]
 show xs[((-1:Int)+xs.length).toNat]?=_
 rw[show ((-1:Int)+xs.length).toNat=n by omega];exact e
theorem zag6{i:Int}(h0:0<=i)(h1:i<n):ixN n i=some i.toNat:=by unfold ixN;rw[if_pos h0,if_pos h1]
structure zd4(H:Hp)(a:Addr)(ps:List Addr)(n h:Nat)(g:Nat->Nat->Int):Prop where
 out:H a=some (.lst (ps.map V.ref))
 len:ps.length=n
 row:∀ (i:Nat) (p:Addr),ps[i]?=some p->H p=some (.lst (rowV h (g i)))
theorem zd4.same{a:Addr}{h:Nat}{g:Nat->Nat->Int}(G:zd4 H a ps n h g)(s:Same H H'):zd4 H' a ps n h g:=⟨s _ _ G.out,G.len,fun i p e=>s _ _ (G.row i p e)⟩
theorem zd4.chg{a b:Addr}{h:Nat}{g:Nat->Nat->Int}(G:zd4 H a ps n h g)(s:Chg b H H')(n1:a≠b)(n2:∀ p∈ps,p≠b):zd4 H' a ps n h g:=
 ⟨s _ _ n1 G.out,G.len,fun i p e=>s _ _ (n2 p (zcw6 e)) (G.row i p e)⟩
theorem zd4.ext{a:Addr}{h:Nat}{g g':Nat->Nat->Int}(G:zd4 H a ps n h g)(e:∀ i t,i<n->t<h->g i t=g' i t):zd4 H a ps n h g':=
 ⟨G.out,G.len,fun i p q=>by rw[G.row i p q];rw[zbl7 fun t ht=>e i t (by have:=(zcw2.mp q).1;have:=G.len;omega) ht]⟩
theorem zd4.some{H:Hp}{a:Addr}{ps:List Addr}{n h:Nat}{g:Nat->Nat->Int}(G:zd4 H a ps n h g){i:Nat}(hi:i<n):∃ p,ps[i]?=.some p/\H p=.some (.lst (rowV h (g i))):=by
 have hl:i<ps.length:=by rw[G.len];exact hi
 exact⟨ps[i],zcv9 hl,G.row i _ (zcv9 hl)⟩
structure Wk(J:It)(n:Nat)(H1:Hp)(X:Nat->V->Hp->Prop):Prop where
 go:∀ i H,Same H1 H->i<n->J.go i H
 stop:∀ H,Same H1 H->J.stop n H
 yld:∀ i H x H',Same H1 H->i<n->J.yld i H x H'->Same H H'/\X i x H'
theorem Wk.range:Wk (Itr lo n) n H1 fun i x _=>x=.int (lo+i):=
 ⟨fun i H _ h=>h,fun H _=>zcw4 _,fun i H x H' _ _ y=>by obtain⟨rfl,rfl⟩:=y;exact⟨Same.refl _,rfl⟩⟩
theorem Wk.list{K:zcw1}{a:Addr}(h:SqL K H1 a xs):Wk (Itl K a) xs.length H1 fun i x _=>xs[i]?=some x:=
 ⟨fun i H s hi=>⟨xs,xs[i],s.seq h,by simp[hi]⟩,fun H s=>⟨xs,s.seq h,zcw4 _⟩,fun i H x H' s _ y=>by
  obtain⟨e,y⟩:=y
  subst e
  exact⟨Same.refl _,y xs (s.seq h)⟩⟩
theorem Wk.enum{K:zcw1}{a:Addr}(h:SqL K H1 a xs):Wk (Ite K a) xs.length H1 fun i x H=>∃ p y,x=.ref p/\H p=some (.tup [.int i,y])/\xs[i]?=some y:=
 ⟨fun i H s hi=>⟨xs,xs[i],s.seq h,by simp[hi]⟩,fun H s=>⟨xs,s.seq h,zcw4 _⟩,fun i H x H' s _ y=>by
  obtain⟨p,y,rfl,y1,y2,y3,y4⟩:=y
  exact⟨y2,p,y,rfl,y3,y4 xs (s.seq h)⟩⟩
structure zs4(H1 H:Hp)(acc:Addr)(ps:List Addr)(n:Nat)(f:Nat->HO):Prop where
 facc:H1 acc=none
 same:Same H1 H
 out:H acc=some (.lst (ps.map V.ref))
 len:ps.length=n
 nd:ps.Nodup
 nin:acc ∉ ps
 row:∀ i p,ps[i]?=some p->H1 p=none/\H p=some (f i)
theorem zs4.free{f:Nat->HO}(F:zs4 H1 H acc ps n f){p:Addr}(h:p∈ps):H1 p=none:=by
 obtain⟨i,hi⟩:=zcy5 h
 exact (F.row i p hi).1
theorem zs4.some{H1 H:Hp}{acc:Addr}{ps:List Addr}{n:Nat}{f:Nat->HO}(F:zs4 H1 H acc ps n f){i:Nat}(hi:i<n):∃ p,ps[i]?=.some p/\H p=.some (f i):=by
 have hl:i<ps.length:=by rw[F.len];exact hi
 exact⟨ps[i],zcv9 hl,(F.row i _ (zcv9 hl)).2⟩
section
variable {K:zcw1}{g:TG}{tt:TT}{te:TE}{σ0:St}{H1:Hp}{Q:VK}{J:It}{n:Nat}{X:Nat->V->Hp->Prop}
theorem zab9(w:Wk J n H1 X)(hn:n<sizeLine)(f:Nat->HO)(Ps:Nat->St->Prop)(h0:Ps 0 σ0)(turn:∀ i x σ H (R:St->V->Hp->Prop) (S:St->Hp->Prop),i<n->Same H1 H->X i x H->Ps i σ->(∀ σ2 p H5,H p=none->Same H H5->H5 p=some (f i)->Ps (i+1) σ2->R σ2 (.ref p) H5)->g x σ H fun σ2 H3=>tt σ2 H3 fun b H4=>br b (te σ2 H4 fun v H5=>R σ2 v H5) (S σ2 H4))(fin:∀ acc ps H,zs4 H1 H acc ps n f->Q (.ref acc) H):zaa5 J g tt te σ0 H1 Q:=by
 unfold zaa5
 intro acc H2 hf hs ha
 refine⟨fun i m ys σ H=>m=n - i/\i<=n/\∃ ps:List Addr,ys=ps.map V.ref/\zs4 H1 H acc ps i f/\Ps i σ,⟨n,by simp,zcz6 _,[],rfl,⟨hf,hs,ha,rfl,List.nodup_nil,by simp,fun i p e=>by simp at e⟩,h0⟩,?_⟩
 rintro i m ys σ H ⟨rfl,hi,ps,rfl,F,P⟩
 refine⟨F.out,by rw[zcw0,F.len];omega,?_⟩
 by_cases hlt:i<n
 ·refine .inr ⟨w.go i H F.same hlt,fun x H' y=>?_⟩
  obtain⟨s1,x1⟩:=w.yld i H x H' F.same hlt y
  refine turn i x σ H' (fun σ2 v H5=>cPut _ acc (ps.map V.ref) i (n - i) σ2 v H5) (fun σ2 H4=>zan5 _ (ps.map V.ref) i (n - i) σ2 H4) hlt (F.same.trans s1) x1 P ?_
  intro σ2 p H5 fp s5 hp P2
  have fp0:H p=none:=s1.free fp
  have s15:=s1.trans s5
  have na:p≠acc:=Ne.symm (za4 F.out fp0)
  unfold cPut
  refine⟨s15 _ _ F.out,fun H6 c6 h6=>⟨n - (i+1),by omega,rfl,hlt,ps++[p],by rw[zcx9];rfl,⟨F.facc,(F.same.trans s15).chg F.facc c6,by rw[zcx9];exact h6,by rw[zcw9,F.len];rfl,?_,?_,?_⟩,P2⟩⟩
  ·rw[List.nodup_append]
   refine⟨F.nd,by simp,fun a ha b hb=>?_⟩
   have:b=p:=by simpa using hb
   subst this
   obtain⟨k,hk⟩:=zcy5 ha
   exact za4 (F.row k a hk).2 fp0
  ·intro hz
   rcases zda5.mp hz with hz|hz
   ·exact F.nin hz
   ·exact na (by simpa using hz:acc=p).symm
  ·intro k q e
   by_cases hk:k<ps.length
   ·rw[zcx4 hk] at e
    obtain⟨z1,z2⟩:=F.row k q e
    exact⟨z1,c6 _ _ (fun z=>F.nin (z▸zcw6 e)) (s15 _ _ z2)⟩
   ·rw[zcx6 (by omega)] at e
    have hk2:k - ps.length=0:=by
     have:=(zcw2.mp e).1
     simp at this;omega
    rw[hk2] at e
    have:p=q:=by simpa using e
    subst this
    have:k=i:=by have:=F.len;omega
    subst this
    exact⟨F.same.free fp0,c6 _ _ na hp⟩
 ·have e:i=n:=by omega
  subst e
  exact .inl ⟨w.stop H F.same,fin acc ps H F⟩
theorem zi1(w:Wk J n H1 X)(hn:n<sizeLine)(f:Nat->V)(p:Nat->Bool)(Ps:Nat->St->Prop)(h0:Ps 0 σ0)(turn:∀ i x σ H (R:St->V->Hp->Prop) (S:St->Hp->Prop),i<n->Same H1 H->X i x H->Ps i σ->(p i=true->∀ σ2 H5,Same H H5->Ps (i+1) σ2->R σ2 (f i) H5)->(p i=false->∀ σ2 H5,Same H H5->Ps (i+1) σ2->S σ2 H5) ->
   g x σ H fun σ2 H3=>tt σ2 H3 fun b H4=>br b (te σ2 H4 fun v H5=>R σ2 v H5) (S σ2 H4))(fin:∀ acc H,H1 acc=none->Same H1 H->H acc=some (.lst (((List.range n).filter p).map f))->Q (.ref acc) H):zaa5 J g tt te σ0 H1 Q:=by
 unfold zaa5
 intro acc H2 hf hs ha
 refine⟨fun i m ys σ H=>m=n - i/\i<=n/\ys=((List.range i).filter p).map f/\Same H1 H/\H acc=some (.lst ys)/\Ps i σ,⟨n,by simp,zcz6 _,rfl,hs,ha,h0⟩,?_⟩
 rintro i m ys σ H ⟨rfl,hi,rfl,s,hy,P⟩
 have hlen:(((List.range i).filter p).map f).length<=i:=by
  rw[zcw0]
  have:=List.length_filter_le p (List.range i)
  rwa [List.length_range] at this
 refine⟨hy,by omega,?_⟩
 by_cases hlt:i<n
 ·refine .inr ⟨w.go i H s hlt,fun x H' y=>?_⟩
  obtain⟨s1,x1⟩:=w.yld i H x H' s hlt y
  refine turn i x σ H' (fun σ2 v H5=>cPut _ acc _ i (n - i) σ2 v H5) (fun σ2 H4=>zan5 _ _ i (n - i) σ2 H4) hlt (s.trans s1) x1 P ?_ ?_
  ·intro hp σ2 H5 s5 P2
   unfold cPut
   refine⟨s5 _ _ (s1 _ _ hy),fun H6 c6 h6=>⟨n - (i+1),by omega,rfl,hlt,?_,((s.trans s1).trans s5).chg hf c6,h6,P2⟩⟩
   rw[zde6,List.filter_append,zcx9]
   congr 1
   simp[hp]
  ·intro hp σ2 H5 s5 P2
   unfold zan5
   refine⟨n - (i+1),by omega,rfl,hlt,?_,(s.trans s1).trans s5,s5 _ _ (s1 _ _ hy),P2⟩
   rw[zde6,List.filter_append,zcx9]
   simp[hp]
 ·have e:i=n:=by omega
  subst e
  exact .inl ⟨w.stop H s,fin acc H hf s hy⟩
theorem zd2(n:Nat):(List.range n).filter (fun _=>true)=List.range n:=by simp
theorem zca8(n:Nat):(List.range n).filter (fun _=>false)=[]:=by simp
end
noncomputable def ChgS(ps:List Addr)(H H':Hp):Prop:=∀ b o,b ∉ ps->H b=some o->H' b=some o
theorem ChgS.refl(ps:List Addr)(H:Hp):ChgS ps H H:=fun _ _ _ e=>e
theorem ChgS.chg{p:Addr}(x:ChgS ps H H1)(m:p∈ps)(y:Chg p H1 H2):ChgS ps H H2:=fun b o h e=>y b o (fun z=>h (z▸m)) (x b o h e)
theorem ChgS.same(x:ChgS ps H H1)(y:Same H1 H2):ChgS ps H H2:=fun b o h e=>y b o (x b o h e)
theorem EqR.intL{K:zcw1}{a b:Addr}{xs ys:List Int}(ha:SqL K H a (xs.map V.int))(hb:SqL K H b (ys.map V.int)):EqR K H 1 (.ref a) (.ref b) (decide (xs=ys)):=by
 by_cases hl:xs.length=ys.length
 ·have h:=EqR.lst (K:=K) (H:=H) (n:=0) (fun j=>decide (xs[j]?=ys[j]?)) ha hb (by simpa using hl) (fun j x y hx hy=>by
   rw[zcw3] at hx hy
   obtain⟨i,e1,rfl⟩:=zcx0.mp hx
   obtain⟨k,e2,rfl⟩:=zcx0.mp hy
   have e:eqV (.int i) (.int k)=decide (xs[j]?=ys[j]?):=by
    rw[e1,e2]
    by_cases z:i=k
    ·subst z;simp[eqV]
    ·simp[eqV,z]
   rw[← e]
   exact EqR.flat rfl rfl)
  have e:(List.range (xs.map V.int).length).all (fun j=>decide (xs[j]?=ys[j]?))=decide (xs=ys):=by
   rw[Bool.eq_iff_iff,zdd4,decide_eq_true_iff]
   constructor
   ·intro q
    apply zdc1
    intro j
    by_cases hj:j<xs.length
    ·exact of_decide_eq_true (q j (zda0.mpr (by simpa using hj)))
    ·rw[zcy2 (by omega),zcy2 (by omega)]
   ·rintro rfl j _
    exact decide_eq_true rfl
  rw[e] at h
  exact h
 ·have:decide (xs=ys)=false:=decide_eq_false fun e=>hl (by rw[e])
  rw[this]
  exact EqR.lstN ha hb (by simpa using hl)
theorem zbn0(n:Nat):(List.range n).all (fun _=>true)=true:=by simp
theorem EqR.allT{K:zcw1}{a b:Addr}(ha:SqL K H a xs)(hb:SqL K H b ys)(hl:xs.length=ys.length)(h:∀ (j:Nat) (x y:V),xs[j]?=some x->ys[j]?=some y->EqR K H n x y true):EqR K H (n+1) (.ref a) (.ref b) true:=by
 have:=EqR.lst (fun _=>true) ha hb hl h
 rwa [zbn0] at this
theorem EqR.rows{K:zcw1}{a b:Addr}{qs:List Addr}(ha:SqL K H a (ps.map V.ref))(hb:SqL K H b (qs.map V.ref))(hl:ps.length=qs.length)(h:∀ (i:Nat) (p q:Addr),ps[i]?=some p->qs[i]?=some q->∃ xs:List Int,SqL K H p (xs.map V.int)/\SqL K H q (xs.map V.int)):EqR K H 2 (.ref a) (.ref b) true:=by
 refine EqR.allT ha hb (by simpa using hl) fun j x y hx hy=>?_
 rw[zcw3] at hx hy
 obtain⟨p,e1,rfl⟩:=zcx0.mp hx
 obtain⟨q,e2,rfl⟩:=zcx0.mp hy
 obtain⟨xs,h1,h2⟩:=h j p q e1 e2
 have:=EqR.intL h1 h2
 rwa [decide_eq_true rfl] at this
noncomputable def Itd(hi:Int)(n:Nat):It:=⟨fun i _=>i<n,fun i H x H'=>H'=H/\x=.int (hi - i),fun i _=>n<=i⟩
theorem zbf5{P:Program}{w:World}{K:zcw1}(it:Addr)(lo:Int)(n:Nat):Turn P w K tg (Itd lo n) [it] it (fun i h=>IsRangeIter h it (lo+(i:Nat)*(-1)) ((n:Int) - (i:Nat)) (-1)) where
 mem:=by simp
 obj:=fun i h st b hb=>by
  have e:b=it:=by simpa using hb
  subst e
  exact⟨_,st,fun v z=>by
   have z':Data.fields _=Data.cell v:=z
   cases z'⟩
 keep:=fun i h h' st k=>k it (by simp) _ st
 item:=by
  intro X hP hw hK hc i pins s σ H E I hf st hg
  subst hP hw hK
  obtain⟨f0,f1,f2,f3,f4,f5⟩:=hf it (by simp)
  have W:=Walks.range (prog:=X.prog) (w:=X.w) (I.ok.hd hc) it lo (-1) n
  refine W.item i s _ _ hg st fun v h' tk hv st' kk=>?_
  obtain⟨t,rfl⟩:=hv
  have I1:Inv X pins σ H { s with heap:=h',toks:=tk }:=I.turned (fun b o hb e=>kk b o (by simpa using hb) e) f0 f1 f3 f4 f5
  refine⟨_,rfl,go_of (s:={ s with heap:=h',toks:=tk }) (n:="range_iterator") st' rfl rfl (by decide) ⟨.int (lo - i),H,I1,⟨t,?_⟩,⟨rfl,rfl⟩,st',fun b hb=>(hf b hb).1⟩⟩
  rw[show lo+(i:Int)*(-1)=lo - i by omega]
 done:=by
  intro X hP hw hK hc i pins s σ H E I hf st hg
  subst hP hw hK
  obtain⟨f0,f1,f2,f3,f4,f5⟩:=hf it (by simp)
  exact wpAny_pyNext_range_end (I.ok.hd hc) st (by have:n<=i:=hg;omega) fun h' eb=>⟨rfl,I.turned (t':=s.toks) (fun b o hb e=>eb b o hb e) f0 f1 f3 f4 f5⟩
 self:=fun _ _ _ _ _ st h=>wpAny_pyIter_rangeiter st h
theorem zz5(a b:Int):Builtin.Range.rangeSize a b (-1)=if b<a then a - b else 0:=by
 unfold Builtin.Range.rangeSize
 rw[if_neg (by decide)]
 split
 ·rw[show -(-1:Int)=1 by decide,Int.ediv_one];omega
 ·rfl
theorem zbp6{a b:Int}(ha:-(2 ^ 62)<=a)(ha':a<2 ^ 62)(hb:-(2 ^ 62)<=b)(hb':b<2 ^ 62):Builtin.Range.small a b (-1)=true:=by
 unfold Builtin.Range.small
 rw[zz5]
 simp only[Builtin.Range.rangeFitsLong,zdd3,Bool.or_eq_true,decide_eq_true_eq,beq_iff_eq,show ¬ (-1:Int)>0 by decide,if_false]
 split<;>omega
section
variable {X:Cx}{tg:Expr}
@[irreducible] noncomputable def zaw1(i j:Int)(H:Hp)(R:It->Hp->Prop):Prop:=(-(2 ^ 62)<=i/\i<2 ^ 62/\-(2 ^ 62)<=j/\j<2 ^ 62)/\R (Itd i (i - j).toNat) H
noncomputable def qiRngD(ta:TA):TI:=fun σ H R=>ta σ H fun vs H1=>match vs with
 | [.int i,.int j,.int (-1)]=>zaw1 i j H1 R
 | _=>False
theorem zbu0{pins:List (Addr×Obj)}{s:Shared}{R:It->Hp->Prop}{E:Value->Shared->Prop}{hi:Int}{t u v:Tok}{tk:Nat}(I:Inv X pins σ H s)(h1:-(2 ^ 62)<=lo)(h2:lo<2 ^ 62)(h3:-(2 ^ 62)<=hi)(h4:hi<2 ^ 62)(q:R (Itd lo (lo - hi).toNat) H):wpAny (model X.prog X.w) X.A (pyIter (.ref s.heap.objs.size)) (PIE X pins σ tg R) E { s with heap:=s.heap.push { cls:=.type "range",data:=.fields #[.int lo t,.int hi u,.int (-1) v] },toks:=tk }:=by
 refine wpAny_pyIter_range (IsRange.new ..) (zbp6 h1 h2 h3 h4) ?_
 have I1:Inv X pins σ H { s with heap:=s.heap.push { cls:=.type "range",data:=.fields #[.int lo t,.int hi u,.int (-1) v] },toks:=tk }:=I.kept fun b o e=>zcw5 _ e
 refine⟨(s.heap.push { cls:=.type "range",data:=.fields #[.int lo t,.int hi u,.int (-1) v] }).objs.size,[(s.heap.push { cls:=.type "range",data:=.fields #[.int lo t,.int hi u,.int (-1) v] }).objs.size],_,_,H,rfl,
  I1.kept (t':=tk) fun b o e=>zcw5 _ e,zbf5 _ lo (lo - hi).toNat,?_,fun b hb=>?_,q⟩
 ·have e1:lo+((0:Nat):Int)*(-1)=lo:=by simp
  have e2:(((lo - hi).toNat:Nat):Int) - ((0:Nat):Int)=Builtin.Range.rangeSize lo hi (-1):=by rw[zz5];split<;>omega
  show IsRangeIter _ _ (lo+((0:Nat):Int)*(-1)) ((((lo - hi).toNat:Nat):Int) - ((0:Nat):Int)) (-1)
  rw[e1,e2]
  exact zcx7 _ rfl
 ·have e:b=(s.heap.push { cls:=.type "range",data:=.fields #[.int lo t,.int hi u,.int (-1) v] }).objs.size:=by simpa using hb
  subst e
  exact I1.fpOk (zcw4 _) (I1.hok.fresh (zcw4 _))
theorem piRng3{a b:Expr}{p pos:Pos}(hm:X.mg "range"=none)(ha:PA X [a,b,c] ta)(hg:Gl X "range":=by rfl)(hs:starEach [a,b,c] X.env=(false,eval a X.env) :: starEach [b,c] X.env:=by rfl)(hs2:(backTo pos (starEach [b,c] X.env)).any (·.1)=false:=by rfl) :
  PI X tg (.Call (.Name "range" p) [a,b,c] [] pos) (qiRngD ta):=by
 intro pins s σ H R I h
 refine Call_ (zw5 I hg hm boot_range (PyProof.Rows.callWith_type1 (thn (ha pos pins s σ H _ I h) fun us s1 ⟨vs,H1,I1,r1,q1⟩=>?_) hs hs2))
 dsimp only at q1
 split at q1
 ·unfold zaw1 at q1
  obtain⟨⟨a1,a2,a3,a4⟩,q⟩:=q1
  cases r1 with
  | cons r rr=>
   cases rr with
   | cons r' rr=>
    cases rr with
    | cons r'' rr=>
     cases rr
     obtain⟨t,rfl⟩:=r
     obtain⟨t',rfl⟩:=r'
     obtain⟨t'',rfl⟩:=r''
     exact call_range_3 (by decide) (zbu0 I1 a1 a2 a3 a4 q) (.inl (PyProof.noPylong_of_log2 (by decide +kernel)))
 ·exact q1.elim
end
section
variable {K:zcw1}{g:TG}{tb:TS}{D:Ends}{σ:St}{H:Hp}{R:It->Hp->Prop}
theorem zbr1{i j:Int}(h1:-(2 ^ 62)<=i)(h2:i<2 ^ 62)(h3:-(2 ^ 62)<=j)(h4:j<2 ^ 62)(q:R (Itd i (i - j).toNat) H):zaw1 i j H R:=by unfold zaw1;exact⟨⟨h1,h2,h3,h4⟩,q⟩
theorem zbh0{hi:Int}(Pv:Nat->St->Hp->Prop)(h0:Pv 0 σ H)(hs:∀ i σ H,i<n->Pv i σ H->g (.int (hi - i)) σ H fun σ2 H2=>tb { D with nx:=Pv (i+1),ct:=Pv (i+1),bk:=D.nx } σ2 H2)(hd:∀ σ H,Pv n σ H->D.nx σ H):zap6 (Itd hi n) g tb D σ H:=by
 unfold zap6
 refine⟨fun i m σ H=>m=n - i/\i<=n/\Pv i σ H,⟨n,by simp,zcz6 _,h0⟩,?_⟩
 rintro i m σ H ⟨rfl,hi',p⟩
 by_cases hlt:i<n
 ·refine .inr ⟨hlt,Pv (i+1),fun σ' H' p'=>⟨n - (i+1),by omega,rfl,hlt,p'⟩,fun x H' y=>?_⟩
  obtain⟨rfl,rfl⟩:=y
  exact hs i σ _ hlt p
 ·have e:i=n:=by omega
  subst e
  exact .inl ⟨zcw4 _,hd σ H p⟩
end
section
variable {X:Cx}{K:zcw1}
@[irreducible] noncomputable def rMinL(K:zcw1)(p:Addr)(H:Hp)(Q:VK):Prop:=∃ ns:List Int,SqL K H p (ns.map V.int)/\0<ns.length/\∀ M:Int,M∈ns->(∀ a∈ns,M<=a)->Q (.int M) H
noncomputable def zch2(K:zcw1):List V->Hp->VK->Prop:=fun xs H Q=>match xs with
 | [.ref p]=>rMinL K p H Q
 | [.int i,.int j]=>Q (.int (if j<i then j else i)) H
 | _=>False
theorem cMinK(hK:X.K=K)(hc:X.calm=true):zq1 X (.builtin "min") (zch2 K):=by
 subst hK
 intro pins s σ H xs us Q I r h
 unfold zch2 at h
 split at h
 ·unfold rMinL at h
  obtain⟨ns,h1,h2,h3⟩:=h
  obtain⟨u,rfl,rx⟩:=zah1 r
  cases rx
  obtain⟨its,r',pl,hz⟩:=I.list h1
  have hi:=zy9 r'
  obtain⟨ys,hx⟩:=hi.allInts.items
  have e1:ns=ys.toList.map (·.1):=by
   rw[← nums_intItems,← hx]
   exact (show numsOf its.toArray.toList=ns from hi.numsOf).symm
  have hs:0<ys.size:=by
   have z:ns.length=ys.size:=by
    conv=>lhs;rw[e1]
    rw[zcw0,zda1]
   omega
  have hl':s.heap.IsList _ (intItems ys):=hx▸pl.isList
  refine min_intList (I.ok.hd hc) hl' hs fun v h' tk hv hk=>?_
  obtain⟨t,rfl⟩:=intItems_at hv
  have best:=argBest_lt (numAt ys) (ys.size - 1)
  refine⟨.int _,H,I.kept hk,⟨t,rfl⟩,h3 _ ?_ fun a ha=>?_⟩
  ·rw[e1,numAt_eq]
   exact getD_mem (by rw[zcw0,zda1];omega)
  ·rw[e1] at ha
   obtain⟨j,hj,rfl⟩:=mem_getD ha
   rw[zcw0,zda1] at hj
   rw[← numAt_eq]
   exact best.2 j (by omega)
 ·exact zbr5 hc pins s σ H _ us Q I r ⟨_,_,rfl,h⟩
 ·exact h.elim
theorem zbv0{p:Addr}{ns:List Int}(h:SqL K H p (ns.map V.int))(h0:0<ns.length)(q:∀ M:Int,M∈ns->(∀ a∈ns,M<=a)->Q (.int M) H):rMinL K p H Q:=by unfold rMinL;exact⟨ns,h,h0,q⟩
theorem ptW{t:TT}(h:PW X e t):PT X e t:=h.pt
end
set_option maxHeartbeats 4000000
noncomputable def ExcIs(e:Addr)(cls:Value)(dx:Option Addr)(h:Heap):Prop:=∃ (oe:Obj) (vs:Array Value),h.get? e=some oe/\oe.cls=cls/\oe.dict=dx/\oe.data=.fields vs
noncomputable abbrev excO(ea:Addr)(cls:Value)(dx:Option Addr):HO:=.ext (ExcIs ea cls dx)
section
variable {X:Cx}{pins:List (Addr×Obj)}{σ:St}{H:Hp}{s:Shared}
theorem zk5.ex{P:Program}{w:World}{h:Heap}{a:Addr}(x:zk5 P w H h a o):∃ u,h.get? a=some u:=by
 cases o with
 | lst xs=>obtain⟨_,_,_,_,e⟩:=x;exact⟨_,e⟩
 | tup xs=>obtain⟨_,_,_,ob,e,_⟩:=x;exact⟨ob,e⟩
 | dK kvs=>obtain⟨_,_,_,_,ob,_,_,e,_⟩:=x;exact⟨ob,e⟩
 | dT kvs=>obtain⟨_,_,_,_,ob,_,_,e,_⟩:=x;exact⟨ob,e⟩
 | set S n=>obtain⟨ob,_,_,_,e,_⟩:=x;exact⟨ob,e⟩
 | ins C dx fs=>obtain⟨_,_,_,e,_⟩:=x;exact⟨_,e⟩
 | own y=>exact x
 | xd fs=>obtain⟨_,⟨ob,_,_,e,_⟩,_⟩:=x;exact⟨ob,e⟩
 | rng lo hi=>obtain⟨_,_,_,e⟩:=x;exact⟨_,e⟩
 | frz ob u=>obtain⟨e,_⟩:=x;exact⟨_,e⟩
 | tbl ps=>exact⟨_,(show h.get? a=some _ from x)⟩
 | met f y=>exact⟨_,(show h.get? a=some _ from x)⟩
 | ext φ=>obtain⟨_,e,_⟩:=x;exact e
end
set_option maxHeartbeats 1000000
section
variable {X:Cx}{K:zcw1}
@[irreducible] noncomputable def rSrA(K:zcw1)(a:Addr)(H:Hp)(Q:VK):Prop:=∃ ns:List Int,SqL K H a (ns.map V.int)/\ns.length<64/\∀ p H' (ms:List Int),H p=none->Same H H'->ms.Perm ns->ms.Pairwise (·≥·)->H' p=some (.lst (ms.map V.int))->Q (.ref p) H'
noncomputable def qSr(K:zcw1)(t:TA):TE:=fun σ H Q=>t σ H fun xs H1=>match xs with
 | [.ref a]=>rSrA K a H1 Q
 | _=>False
theorem zci0{x:Str}{p p1 p2 pos:Pos}{t:TA}(hK:X.K=K)(hm:X.mg x=none)(hv:bootBuiltins x=some (.builtin "sorted"))(ha:PA X [e] t)(hg:Gl X x:=by rfl)(hn:x≠"__name__":=by decide)(hdb:(x==("__debug__":Str))=false:=by decide)(he:backTo pos (starEach [e] X.env)=(false,eval e X.env) :: backTo pos (starEach [] X.env):=by rfl)(hpl:(backTo pos (starEach [e] X.env)).any (·.1)=false:=by rfl) :
  PE X (.Call (.Name x p) [e] [⟨some "reverse",.Constant (.bool true) 0 p1,p2⟩] pos) (qSr K t):=by
 subst hK
 intro pins s σ H Q I h
 refine wpAny_Call_Name_kw (zw5 I hg hm hv ?_ hn hdb)
 refine callWith_kw (thn (ha pos pins s σ H _ I h) fun us s1 ⟨vs,H1,I1,r,q⟩=>?_) he hpl
 dsimp only at q
 split at q
 case h_2=>exact q.elim
 rename_i a
 refine kws_cons ?_
 refine thn (zt2 (X:=X) (b:=true) pins s1 σ H1 (fun y H2=>y=.bl true/\H2=H1) I1 ⟨rfl,rfl⟩) fun u s2 ⟨y,H2,I2,r2,q2⟩=>?_
 obtain⟨rfl,rfl⟩:=q2
 refine kws_nil ?_
 unfold rSrA at q
 obtain⟨ns,h1,h2,h3⟩:=q
 obtain⟨u1,rfl,rx⟩:=zah1 r
 cases rx
 cases r2
 obtain⟨its,r',pl,hz⟩:=I2.list h1
 have hi:=zy9 r'
 have hlen:=hi.length
 refine sorted_ints_rev (b:=true) pl.isList hi (by omega) fun out ms a1 a2 a3=>?_
 obtain⟨e',he'⟩:=sortedAll_at s2.heap its out
 have hf:H2 (s2.heap.objs.size+1)=none:=I2.hok.fresh (Nat.le_succ _)
 have rl:=zam1 a1
 refine⟨.ref _,_,I2.laid (t':=s2.toks) (o:=.lst (ms.map V.int)) (fun b ob q=>sortedAll_old q) (Nat.le_succ _) ?_,rfl,h3 _ _ ms hf (Same.upd hf) a2 a3 zc0⟩
 exact⟨by rw[zcw0,a2.length_eq,← zcw0 (f:=V.int)];exact hz,out.toList,e',rl,by rw[he']⟩
theorem sr_rd{a:Addr}{ns:List Int}(h:SqL K H a (ns.map V.int))(hl:ns.length<64)(q:∀ p H' (ms:List Int),H p=none->Same H H'->ms.Perm ns->ms.Pairwise (·≥·)->H' p=some (.lst (ms.map V.int))->Q (.ref p) H'):rSrA K a H Q:=by unfold rSrA;exact⟨ns,h,hl,q⟩
end
set_option maxHeartbeats 2000000
noncomputable def Itz(K:zcw1)(a b:Addr):It:=
 ⟨fun i H=>∃ xs ys x y,SqL K H a xs/\SqL K H b ys/\xs[i]?=some x/\ys[i]?=some y,
  fun i H v H'=>∃ p x y,v=.ref p/\H p=none/\Same H H'/\H' p=some (.tup [x,y])/\(∀ xs,SqL K H a xs->xs[i]?=some x)/\∀ ys,SqL K H b ys->ys[i]?=some y,
  fun i H=>∃ xs ys,SqL K H a xs/\SqL K H b ys/\(xs.length<=i∨ys.length<=i)⟩
theorem zcc3{P:Program}{w:World}{K:zcw1}{k:Nat}{pos:Pos}(l1 l2 z TI TO i1 i2:Addr)(D:ZipApart z TI TO i1 i2 l1 l2) :
  Turn P w K (.Tuple elts k pos) (Itz K l1 l2) [z,TI,TO,i1,i2] z (fun i h=>IsZip h z TI TO .none/\IsPair h TI (.ref i1) (.ref i2)/\(∃ a b,IsPair h TO a b)/\h.IsListIter i1 l1 i/\h.IsListIter i2 l2 i) where
 mem:=by simp
 obj:=fun i h st b hb=>by
  obtain⟨hz,hTI,⟨a,b',hTO⟩,⟨o1,e1,c1,d1⟩,⟨o2,e2,c2,d2⟩⟩:=st
  simp only[zcx2,zcx8,or_false] at hb
  rcases hb with rfl|rfl|rfl|rfl|rfl
  ·exact⟨_,hz,fun v z=>by cases z⟩
  ·exact⟨_,hTI,fun v z=>by cases z⟩
  ·exact⟨_,hTO,fun v z=>by cases z⟩
  ·exact⟨o1,e1,fun v z=>by rw[d1] at z;cases z⟩
  ·exact⟨o2,e2,fun v z=>by rw[d2] at z;cases z⟩
 keep:=fun i h h' st kp=>by
  obtain⟨hz,hTI,⟨a,b',hTO⟩,h1,h2⟩:=st
  exact⟨kp z (by simp) _ hz,kp TI (by simp) _ hTI,⟨a,b',kp TO (by simp) _ hTO⟩,h1.at fun o x=>kp i1 (by simp) o x,h2.at fun o x=>kp i2 (by simp) o x⟩
 item:=by
  intro X hP hw hK hc i pins s σ H E I hf st hg
  subst hP hw hK
  obtain⟨hz,hTI,⟨a0,b0,hTO⟩,h1,h2⟩:=st
  obtain⟨xs,ys,x,y,hq1,hq2,hx,hy⟩:=hg
  obtain⟨its1,rv1,p1,_⟩:=I.list hq1
  obtain⟨its2,rv2,p2,_⟩:=I.list hq2
  obtain⟨u,hu,ru⟩:=rv1.get hx
  obtain⟨v,hv,rv⟩:=rv2.get hy
  have hzl:z<s.heap.objs.size:=zcx3 hz
  refine wpAny_pyNext_zip_item D hz hTI hTO h1 h2 p1.isList p2.isList (x:=u) (y:=v) (by simpa using hu) (by simpa using hv) fun h3 z3 TO3 j1 j2 T3 sz3 kp3=>?_
  refine⟨_,rfl,wpAny_letOwnedTupleGo_zip z3 fun h4 z4 hs4=>?_⟩
  replace hs4:Heap.SameBut z h3 h4:=hs4
  have kp:∀ b o,b ∉ [z,TI,TO,i1,i2]->s.heap.get? b=some o->h4.get? b=some o:=fun b o hb x=>by
   simp only[zcx2,zcx8,or_false,not_or] at hb
   obtain⟨b1,b2,b3,b4,b5⟩:=hb
   exact (hs4.2 b b1).trans (kp3 b o b1 b3 b4 b5 x)
  have ht4:h4.get? s.heap.objs.size=some { cls:=.type "tuple",data:=.seq #[u,v] }:=(hs4.2 _ (Nat.ne_of_gt hzl)).trans T3
  have hfr:H s.heap.objs.size=none:=I.fresh
  have nof:∀ b v,H b=some v->b ∉ [z,TI,TO,i1,i2]:=fun b v hb m=>by
   have:=(hf b m).1
   rw[this] at hb
   cases hb
  have nlt:∀ b o,s.heap.get? b=some o->b≠s.heap.objs.size:=fun b o x=>zcy4 (zcx3 x)
  have hok:HOk X.prog X.w (upd H s.heap.objs.size (.tup [x,y])) h4:=fun b v' hb=>by
   by_cases e1:b=s.heap.objs.size
   ·subst e1
    rw[zc0] at hb
    cases hb
    exact⟨by show 2<=sizeLine;decide,[u,v],.cons ru (.cons rv .nil),⟨_,ht4,rfl,_,rfl⟩⟩
   ·rw[zb9 e1] at hb
    refine (I.hok b v' hb).stay (fun c w' hc q=>?_) (fun c q=>?_) (fun c ys q=>?_)
    ·rcases hc with rfl|hc
     ·exact kp _ _ (nof _ _ hb) q
     ·exact kp _ _ (nof _ _ hc) q
    ·rw[zb9 (za4 q hfr)];exact q
    ·rw[zb9 (za4 q hfr)];exact q
  have chs:∀ b∈[z,TI,TO,i1,i2],(b∈X.ex∨X.s₀.heap.objs.size<=b)/\b≠X.env.locals/\(∀ x c,X.env.cells.lookup x=some c->c≠b)/\∀ p∈X.pn++pins,p.1≠b:=fun b hb=>by
   obtain⟨f0,f1,f2,f3,f4,f5⟩:=hf b hb
   exact⟨f3,f1,f4,f5⟩
  have I2:Inv X pins σ (upd H s.heap.objs.size (.tup [x,y])) { s with heap:=h4 }:=
   I.step (g':=s.gens) (d':=s.drawn) (t':=s.toks) (ch:=[z,TI,TO,i1,i2]) chs (fun b o _ _ hb x _=>kp b o hb x) (fun b o _ _ hb x _=>⟨o.slots,kp b o hb x⟩)
    (fun b o _ x n=>by rw[zb9 (nlt b o x)];exact n) (fun b o hb x=>⟨o,kp b o hb x⟩) (fun b ys q=>by rw[zb9 (za4 q hfr)];exact q) (fun b o v q=>by rw[zb9 (za4 q hfr)];exact q)
    (fun b ps q=>⟨#[],by rw[zb9 (za4 q hfr),q];simp⟩)
    (fun m hm=>by
     obtain⟨o,es,ep,ho,r⟩:=hm
     exact⟨o,es,ep,kp _ o (fun m=>(chs _ m).2.1 rfl) ho,r⟩) hok I.bare
  refine⟨.ref s.heap.objs.size,_,I2,rfl,⟨_,x,y,rfl,hfr,Same.upd hfr,zc0,fun ys hy'=>by rw[I.list_inj hy' hq1];exact hx,fun ys hy'=>by rw[I.list_inj hy' hq2];exact hy⟩,⟨z4,?_,⟨u,v,?_⟩,?_,?_⟩,fun b hb=>?_⟩
  ·exact (hs4.2 _ D.TIz).trans (kp3 _ _ D.TIz D.TITO D.TIi1 D.TIi2 hTI)
  ·exact (hs4.2 _ D.TOz).trans TO3
  ·exact j1.extBut hs4.extBut D.i1z
  ·exact j2.extBut hs4.extBut D.i2z
  ·have hb0:H b=none:=(hf b hb).1
   have hlt:b≠s.heap.objs.size:=by
    simp only[zcx2,zcx8,or_false] at hb
    rcases hb with rfl|rfl|rfl|rfl|rfl
    ·exact nlt _ _ hz
    ·exact nlt _ _ hTI
    ·exact nlt _ _ hTO
    ·obtain⟨o,ho,_⟩:=h1;exact nlt _ _ ho
    ·obtain⟨o,ho,_⟩:=h2;exact nlt _ _ ho
   rw[zb9 hlt];exact hb0
 done:=by
  intro X hP hw hK hc i pins s σ H E I hf st hg
  subst hP hw hK
  obtain⟨hz,hTI,⟨a0,b0,hTO⟩,h1,h2⟩:=st
  obtain⟨xs,ys,hq1,hq2,hx⟩:=hg
  obtain⟨its1,rv1,p1,_⟩:=I.list hq1
  obtain⟨its2,rv2,p2,_⟩:=I.list hq2
  have hl1:=rv1.length
  have hl2:=rv2.length
  have nof:∀ b v,H b=some v->b ∉ [z,TI,TO,i1,i2]:=fun b v hb m=>by
   have:=(hf b m).1
   rw[this] at hb
   cases hb
  have chs:∀ b∈[z,TI,TO,i1,i2],(b∈X.ex∨X.s₀.heap.objs.size<=b)/\b≠X.env.locals/\(∀ x c,X.env.cells.lookup x=some c->c≠b)/\∀ p∈X.pn++pins,p.1≠b:=fun b hb=>by
   obtain⟨f0,f1,f2,f3,f4,f5⟩:=hf b hb
   exact⟨f3,f1,f4,f5⟩
  refine wpAny_pyNext_zip_end (I.ok.hd hc) D hz hTI hTO h1 h2 p1.isList p2.isList ?_ fun h' kp3=>⟨rfl,?_⟩
  ·rcases hx with hx|hx
   ·exact .inl (by simp;omega)
   ·exact .inr (by simp;omega)
  ·have kp:∀ b o,b ∉ [z,TI,TO,i1,i2]->s.heap.get? b=some o->h'.get? b=some o:=fun b o hb x=>by
    simp only[zcx2,zcx8,or_false,not_or] at hb
    obtain⟨b1,b2,b3,b4,b5⟩:=hb
    exact kp3 b o b1 b3 b4 b5 x
   have hok:HOk X.prog X.w H h':=fun b v' hb=>by
    refine (I.hok b v' hb).stay (fun c w' hc q=>?_) (fun c q=>q) (fun c ys q=>q)
    rcases hc with rfl|hc
    ·exact kp _ _ (nof _ _ hb) q
    ·exact kp _ _ (nof _ _ hc) q
   exact I.step (g':=s.gens) (d':=s.drawn) (t':=s.toks) (ch:=[z,TI,TO,i1,i2]) chs (fun b o _ _ hb x _=>kp b o hb x) (fun b o _ _ hb x _=>⟨o.slots,kp b o hb x⟩)
    (fun b o _ x n=>n) (fun b o hb x=>⟨o,kp b o hb x⟩) (fun b ys q=>q) (fun b o v q=>q)
    (fun b ps q=>⟨#[],by rw[q];simp⟩)
    (fun m hm=>by
     obtain⟨o,es,ep,ho,r⟩:=hm
     exact⟨o,es,ep,kp _ o (fun m=>(chs _ m).2.1 rfl) ho,r⟩) hok I.bare
 self:=fun _ _ _ _ _ st h=>wpAny_pyIter_zip st.1 h
section
variable {X:Cx}{K:zcw1}
theorem zcg2:bootBuiltins "zip"=some (.type "zip"):=by decide +kernel
@[irreducible] noncomputable def rZip(K:zcw1)(a b:Addr)(H:Hp)(R:It->Hp->Prop):Prop:=(∃ xs,SqL K H a xs)/\(∃ ys,SqL K H b ys)/\R (Itz K a b) H
noncomputable def qiZip(K:zcw1)(ta:TA):TI:=fun σ H R=>ta σ H fun vs H1=>match vs with
 | [.ref a,.ref b]=>rZip K a b H1 R
 | _=>False
theorem zay9{k:Nat}{pt:Pos}{a b:Expr}{p pos:Pos}(hK:X.K=K)(hm:X.mg "zip"=none)(ha:PA X [a,b] ta)(hg:Gl X "zip":=by rfl)(hs:starEach [a,b] X.env=(false,eval a X.env) :: starEach [b] X.env:=by rfl)(hpl:(backTo pos (starEach [b] X.env)).any (·.1)=false:=by rfl) :
  PI X (.Tuple elts k pt) (.Call (.Name "zip" p) [a,b] [] pos) (qiZip K ta):=by
 subst hK
 intro pins s σ H R I h
 refine Call_ (zw5 I hg hm zcg2 (PyProof.Rows.callWith_type1 (thn (ha pos pins s σ H _ I h) fun us s1 ⟨vs,H1,I1,r1,q1⟩=>?_) hs hpl))
 dsimp only at q1
 split at q1
 ·rename_i l m
  unfold rZip at q1
  obtain⟨⟨xs,hq1⟩,⟨ys,hq2⟩,q⟩:=q1
  obtain⟨u1,u2,rfl,rx,ry⟩:=vals2 r1
  cases rx
  cases ry
  obtain⟨its1,rv1,p1,_⟩:=I1.list hq1
  obtain⟨its2,rv2,p2,_⟩:=I1.list hq2
  have l1:@LT.lt Nat _ l s1.heap.objs.size:=by obtain⟨o,ho,_⟩:=p1.isList;exact zcx3 ho
  have l2:@LT.lt Nat _ m s1.heap.objs.size:=by obtain⟨o,ho,_⟩:=p2.isList;exact zcx3 ho
  refine call_zip_2 p1.isList p2.isList fun h' hz hTI hTO j1 j2 hsz hk=>?_
  refine wpAny_pyIter_zip hz ?_
  have I2:Inv X pins σ H1 { s1 with heap:=h' }:=I1.kept (t':=s1.toks) hk
  have D:ZipApart (s1.heap.objs.size+4) (s1.heap.objs.size+2) (s1.heap.objs.size+3) s1.heap.objs.size (s1.heap.objs.size+1) l m:=by
   constructor<;>(intro z;have z:(_:Nat)=_:=z;omega)
  refine⟨_,_,_,Itz X.K l m,H1,rfl,I2,zcc3 l m _ _ _ _ _ D,⟨hz,hTI,⟨_,_,hTO⟩,j1,j2⟩,fun b hb=>?_,q⟩
  have hb':s1.heap.objs.size<=b:=by
   simp only[zcx2,zcx8,or_false] at hb
   rcases hb with rfl|rfl|rfl|rfl|rfl
   ·exact zdf4 _ _
   ·exact zdf4 _ _
   ·exact zdf4 _ _
   ·exact zcw4 _
   ·exact zdf4 _ _
  exact I1.fpOk hb' (I1.hok.fresh hb')
 ·exact q1.elim
end
section
variable {K:zcw1}{g:TG}{tb:TS}{D:Ends}{σ:St}{H:Hp}{R:It->Hp->Prop}
theorem zbb8{a b:Addr}(h:SqL K H a xs)(h':SqL K H b ys)(q:R (Itz K a b) H):rZip K a b H R:=by unfold rZip;exact⟨⟨xs,h⟩,⟨ys,h'⟩,q⟩
theorem Wk.zip{a b:Addr}(h:SqL K H1 a xs)(h':SqL K H1 b ys)(hx:xs.length=n)(hy:ys.length=n):Wk (Itz K a b) n H1 fun i v H=>∃ p x y,v=.ref p/\H p=some (.tup [x,y])/\xs[i]?=some x/\ys[i]?=some y:=
 ⟨fun i H s hi=>⟨xs,ys,xs[i],ys[i],s.seq h,s.seq h',by simp,by simp⟩,fun H s=>⟨xs,ys,s.seq h,s.seq h',.inl (Nat.le_of_eq hx)⟩,fun i H v H' s _ y=>by
  obtain⟨p,x,y,rfl,y1,y2,y3,y4,y5⟩:=y
  exact⟨y2,p,x,y,rfl,y3,y4 xs (s.seq h),y5 ys (s.seq h')⟩⟩
end
section
variable {X:Cx}{K:zcw1}
end
section
variable {J:It}{n:Nat}{H1:Hp}{X:Nat->V->Hp->Prop}{g:TG}{tt:TT}{te:TE}{σ0:St}{Q:VK}
theorem zay5(w:Wk J n H1 X)(hn:n<sizeLine)(Pv:Addr->Nat->List V->St->Hp->Prop)(h0:∀ acc H,H1 acc=none->Same H1 H->H acc=some (.lst [])->Pv acc 0 [] σ0 H)(hP:∀ acc i ys σ H H',Same H H'->Pv acc i ys σ H->Pv acc i ys σ H')(turn:∀ acc i x ys σ H (R:St->V->Hp->Prop) (S:St->Hp->Prop),i<n->H1 acc=none->Same H1 H->H acc=some (.lst ys)->X i x H->Pv acc i ys σ H ->
   (∀ σ2 v H5,Same H H5->(∀ H6,Chg acc H5 H6->Pv acc (i+1) (ys++[v]) σ2 H6)->R σ2 v H5)->(∀ σ2 H5,Same H H5->Pv acc (i+1) ys σ2 H5->S σ2 H5) ->
   g x σ H fun σ2 H3=>tt σ2 H3 fun b H4=>br b (te σ2 H4 fun v H5=>R σ2 v H5) (S σ2 H4))(fin:∀ acc ys σ H,H1 acc=none->Same H1 H->H acc=some (.lst ys)->Pv acc n ys σ H->Q (.ref acc) H):zaa5 J g tt te σ0 H1 Q:=by
 unfold zaa5
 intro acc H2 hf hs ha
 refine⟨fun i m ys σ H=>m=n - i/\i<=n/\ys.length<=i/\Same H1 H/\H acc=some (.lst ys)/\Pv acc i ys σ H,⟨n,by simp,zcz6 _,zcw4 _,hs,ha,h0 acc H2 hf hs ha⟩,?_⟩
 rintro i m ys σ H ⟨rfl,hi,hl,s,hy,P⟩
 refine⟨hy,by omega,?_⟩
 by_cases hlt:i<n
 ·refine .inr ⟨w.go i H s hlt,fun x H' y=>?_⟩
  obtain⟨s1,x1⟩:=w.yld i H x H' s hlt y
  refine turn acc i x ys σ H' (fun σ2 v H5=>cPut _ acc ys i (n - i) σ2 v H5) (fun σ2 H4=>zan5 _ ys i (n - i) σ2 H4) hlt hf (s.trans s1) (s1 _ _ hy) x1 (hP _ _ _ _ _ _ s1 P) ?_ ?_
  ·intro σ2 v H5 s5 q
   have s15:=s1.trans s5
   unfold cPut
   refine⟨s15 _ _ hy,fun H6 c6 h6=>⟨n - (i+1),by omega,rfl,hlt,by rw[zcw9];simp;omega,(s.trans s15).chg hf c6,h6,q H6 c6⟩⟩
  ·intro σ2 H5 s5 q
   have s15:=s1.trans s5
   unfold zan5
   exact⟨n - (i+1),by omega,rfl,hlt,by omega,s.trans s15,s15 _ _ hy,q⟩
 ·have e:i=n:=by omega
  subst e
  exact .inl ⟨w.stop H s,fin acc ys σ H hf s hy P⟩
end
end L2
set_option maxHeartbeats 2000000
namespace L2
open PySem PySem.Spec PyProof.Rows
theorem zs4.pre{H0 H1 H:Hp}{acc:Addr}{ps:List Addr}{n:Nat}{f:Nat->HO}(s:Same H0 H1)(F:zs4 H1 H acc ps n f):zs4 H0 H acc ps n f:=⟨s.free F.facc,s.trans F.same,F.out,F.len,F.nd,F.nin,fun i p e=>⟨s.free (F.row i p e).1,(F.row i p e).2⟩⟩
theorem Same.seqT{K:zcw1}{H H':Hp}{a:Addr}{xs:List V}(e:Same H H')(h:H a=some (.tup xs)):SqT K H' a xs:=SqT.of (e _ _ h)
variable {xs:List V}{H H':Hp}{y:V}{Q:Value->Shared->Prop}{h h':Heap}{s:Shared}{e:Expr}{ep i m:Nat}{o:Obj}{es:Array (Int×Value)}{C T:Addr}{qual:Str}{sp:Sp}
theorem Wk.tup{K:zcw1}{a:Addr}{H1:Hp}(h:H1 a=some (.tup xs)):Wk (Itt K a) xs.length H1 fun i x _=>xs[i]?=some x:=
 ⟨fun i H s hi=>⟨xs,xs[i],Same.seqT s h,by simp[hi]⟩,fun H s=>⟨xs,Same.seqT s h,zcw4 _⟩,fun i H x H' s _ y=>by
  obtain⟨e,y⟩:=y
  subst e
  exact⟨Same.refl _,y xs (Same.seqT s h)⟩⟩
set_option maxHeartbeats 4000000
section
variable {X:Cx}{K:zcw1}
end
section
variable {X:Cx}{K:zcw1}{H:Hp}{Q:VK}
end
set_option maxHeartbeats 2000000
noncomputable def zca0(x0:Str)(names:List (Str×NameKind)):Prop:=names.filter (fun y=>y.2==.cell)=[(x0,.cell)]/\names.lookup x0=some .cell
theorem zca0.only{x0:Str}{names:List (Str×NameKind)}(h:zca0 x0 names):∀ y∈names,y.2=.cell->y.1=x0:=fun y hy hc=>by
 have:y∈names.filter (fun y=>y.2==.cell):=List.mem_filter.mpr ⟨hy,by rw[hc];rfl⟩
 rw[h.1] at this
 rw[zdd5.mp this]
set_option maxHeartbeats 1000000
section
variable {κ:Type}[DecidableEq κ]
noncomputable def valV(kvs:List (κ×V))(k:κ):Option V:=(kvs.find? fun kv=>decide (kv.1=k)).map (·.2)
noncomputable def putK(kvs:List (κ×V))(k:κ)(v:V):List (κ×V):=
 if (kvs.any fun kv=>decide (kv.1=k))=true then kvs.map (fun kv=>if kv.1=k then (kv.1,v) else kv) else kvs++[(k,v)]
theorem zk6{p:κ×V}{r:List (κ×V)}{k:κ}(e:p.1=k):valV (p :: r) k=some p.2:=by simp[valV,zdd1,e]
theorem zk7{p:κ×V}{r:List (κ×V)}{k:κ}(e:¬ p.1=k):valV (p :: r) k=valV r k:=by simp[valV,zdd1,e]
theorem zai2(k:κ):∀ kvs:List (κ×V),(kvs.any fun kv=>decide (kv.1=k))=(valV kvs k).isSome
 | []=>rfl
 | p :: r=>by
  rw[List.any_cons]
  by_cases e:p.1=k
  ·simp only[zk6 e,decide_eq_true e,Bool.true_or,Option.isSome_some]
  ·rw[zk7 e,decide_eq_false e,Bool.false_or];exact zai2 k r
theorem zbk4(k j:κ)(y:V):∀ kvs:List (κ×V),valV (kvs.map fun kv=>if kv.1=k then (kv.1,y) else kv) j=(valV kvs j).map fun x=>if j=k then y else x
 | []=>rfl
 | p :: r=>by
  have ih:=zbk4 k j y r
  rw[zcz9]
  by_cases h:p.1=k
  ·rw[if_pos h]
   by_cases e:p.1=j
   ·rw[zk6 (p:=(p.1,y)) e,zk6 e,Option.map_some,if_pos (e.symm.trans h)]
   ·rw[zk7 (p:=(p.1,y)) e,zk7 e,ih]
  ·rw[if_neg h]
   by_cases e:p.1=j
   ·rw[zk6 (p:=p) e,zk6 e,Option.map_some,if_neg (fun z=>h (e.trans z))]
   ·rw[zk7 (p:=p) e,zk7 e,ih]
theorem zbc5(k j:κ)(y:V):∀ kvs:List (κ×V),valV kvs k=none->valV (kvs++[(k,y)]) j=if j=k then some y else valV kvs j
 | [],_=>by
  by_cases e:k=j
  ·rw[if_pos e.symm];exact zk6 (p:=(k,y)) e
  ·rw[if_neg (fun z=>e z.symm)];exact zk7 (p:=(k,y)) e
 | p :: r,hn=>by
  rw[List.cons_append]
  have hk:¬ p.1=k:=fun z=>by rw[zk6 z] at hn;cases hn
  rw[zk7 hk] at hn
  have ih:=zbc5 k j y r hn
  by_cases e:p.1=j
  ·rw[zk6 e,zk6 e,if_neg (fun z=>hk (e.trans z))]
  ·rw[zk7 e,zk7 e,ih]
theorem zbl2(kvs:List (κ×V))(k j:κ)(y:V):valV (putK kvs k y) j=if j=k then some y else valV kvs j:=by
 unfold putK
 by_cases a:(kvs.any fun kv=>decide (kv.1=k))=true
 ·rw[if_pos a,zbk4]
  rw[zai2] at a
  by_cases e:j=k
  ·obtain⟨x,hx⟩:=Option.isSome_iff_exists.mp a
   rw[if_pos e,e,hx,Option.map_some,if_pos rfl]
  ·rw[if_neg e]
   cases valV kvs j with
   | none=>rfl
   | some x=>rw[Option.map_some,if_neg e]
 ·rw[if_neg a]
  refine zbc5 k j y kvs ?_
  rw[zai2] at a
  cases q:valV kvs k with
  | none=>rfl
  | some x=>rw[q] at a;exact (a rfl).elim
theorem zai5(kvs:List (κ×V))(k:κ)(v:V):(putK kvs k v).length<=kvs.length+1:=by
 unfold putK
 split
 ·rw[zcw0];omega
 ·rw[zcw9,zcy0,zdb7];omega
theorem RelO.isSome_eq{o:Option V}{u:Option Value}(r:RelO o u):o.isSome=u.isSome:=by
 cases o with
 | none=>cases u with
  | none=>rfl
  | some _=>exact (show False from r).elim
 | some _=>cases u with
  | none=>exact (show False from r).elim
  | some _=>rfl
theorem RelO.getD{o:Option V}{u:Option Value}{d:V}{d':Value}(r:RelO o u)(rd:RelV d d'):RelV (o.getD d) (u.getD d'):=by
 cases o with
 | none=>cases u with
  | none=>exact rd
  | some _=>exact (show False from r).elim
 | some _=>cases u with
  | none=>exact (show False from r).elim
  | some _=>exact r
theorem KV.val{kvs:List (κ×V)}{vs:List (κ×Value)}(r:KV kvs vs)(k:κ):RelO (valV kvs k) (valueAt vs k):=by
 unfold KV at r
 induction r with
 | nil=>exact True.intro
 | @cons p q ps qs h t ih=>
  obtain⟨h1,h2⟩:=h
  by_cases e:p.1=k
  ·have e':q.1=k:=h1.symm.trans e
   have b:valueAt (q :: qs) k=some q.2:=by simp[valueAt,zdd1,e']
   rw[zk6 e,b];exact h2
  ·have e':¬ q.1=k:=fun z=>e (h1.trans z)
   have b:valueAt (q :: qs) k=valueAt qs k:=by simp[valueAt,zdd1,e']
   rw[zk7 e,b];exact ih
theorem KV.any{kvs:List (κ×V)}{vs:List (κ×Value)}(r:KV kvs vs)(k:κ):(kvs.any fun kv=>decide (kv.1=k))=vs.any fun kv=>decide (kv.1=k):=by
 unfold KV at r
 induction r with
 | nil=>rfl
 | cons h t ih=>rw[List.any_cons,List.any_cons,ih,h.1]
theorem KV.keys{kvs:List (κ×V)}{vs:List (κ×Value)}(r:KV kvs vs):kvs.map (·.1)=vs.map (·.1):=by
 unfold KV at r
 induction r with
 | nil=>rfl
 | cons h t ih=>rw[zcz9,zcz9,ih,h.1]
theorem KV.length{kvs:List (κ×V)}{vs:List (κ×Value)}(r:KV kvs vs):kvs.length=vs.length:=Paired.length r
end
theorem kV_is{P:Program}{w:World}{k:Key}{u:Value}(r:RelV (kV k) u):(zk3 P w).is k u=true:=by
 cases k with
 | inl i=>obtain⟨t,e⟩:=(show ∃ t,u=Value.int i t from r);subst e;exact zbf4 P w i t
 | inr x=>obtain⟨t,e⟩:=(show ∃ t,u=Value.str x t from r);subst e;exact zbe5 P w x t
theorem zaz7{P:Program}{w:World}:∀ {ks:List Key}{us:List Value},Vals (ks.map kV) us->ItemsAre (zk3 P w) ks us
 | [],_,r=>by rw[zde9] at r;cases r;exact .nil
 | k :: ks,_,r=>by
  rw[zcz9] at r
  cases r with
  | cons h t=>exact .cons (kV_is h) (zaz7 t)
noncomputable abbrev KT(H:Hp):List (List Key×V)->List (List Key×Addr×Value)->Prop:=Paired fun p q=>p.1=q.1/\H q.2.1=some (.tup (p.1.map kV))/\RelV p.2 q.2.2
theorem KT.val{kvs:List (List Key×V)}{xs:List (List Key×Addr×Value)}(r:KT H kvs xs)(k:List Key):RelO (valV kvs k) ((atKey xs k).map (·.2)):=by
 induction r with
 | nil=>exact True.intro
 | @cons p q ps qs h t ih=>
  obtain⟨h1,_,h2⟩:=h
  by_cases e:p.1=k
  ·have e':q.1=k:=h1.symm.trans e
   have b:atKey (q :: qs) k=some q.2:=by simp[atKey,zdd1,e']
   rw[zk6 e,b];exact h2
  ·have e':¬ q.1=k:=fun z=>e (h1.trans z)
   have b:atKey (q :: qs) k=atKey qs k:=by simp[atKey,zdd1,e']
   rw[zk7 e,b];exact ih
theorem KT.repl{kvs:List (List Key×V)}{xs:List (List Key×Addr×Value)}(r:KT H kvs xs)(k:List Key){u:Value}(ry:RelV y u) :
  KT H (kvs.map fun kv=>if kv.1=k then (kv.1,y) else kv) (xs.map (putAt k u)):=by
 induction r with
 | nil=>exact .nil
 | @cons p q ps qs h t ih=>
  rw[zcz9,zcz9]
  refine .cons ?_ ih
  obtain⟨h1,h2,h3⟩:=h
  unfold putAt
  by_cases e:p.1=k
  ·rw[if_pos e,if_pos (h1.symm.trans e)];exact⟨h1,h2,ry⟩
  ·rw[if_neg e,if_neg (fun z=>e (h1.trans z))];exact⟨h1,h2,h3⟩
theorem KT.put{kvs:List (List Key×V)}{xs:List (List Key×Addr×Value)}(r:KT H kvs xs)(k:List Key){b:Addr}{u:Value}(hb:H b=some (.tup (k.map kV)))(ry:RelV y u) :
  KT H (putK kvs k y) (storedH xs k b u):=by
 have e:(kvs.any fun kv=>decide (kv.1=k))=(atKey xs k).isSome:=by
  rw[zai2,(r.val k).isSome_eq,Option.isSome_map]
 unfold putK storedH
 rw[e]
 by_cases q:(atKey xs k).isSome=true
 ·rw[if_pos q,if_pos q];exact r.repl k ry
 ·rw[if_neg q,if_neg q];exact Paired.snoc r ⟨rfl,hb,ry⟩
theorem KT.keeps{kvs:List (List Key×V)}{xs:List (List Key×Addr×Value)}(r:KT H kvs xs)(ht:∀ b ys,H b=some (.tup ys)->H' b=some (.tup ys)):KT H' kvs xs:=
 Paired.mapP r fun _ _ z=>⟨z.1,ht _ _ z.2.1,z.2.2⟩
section
variable {P:Program}{w:World}{H:Hp}{h:Heap}{a:Addr}
theorem rd_of{u:HO}(ok:HOk P w H h)(e:Rd H a u):zk5 P w H h a u:=e.ok ok
theorem zbu7{kvs:List (Key×V)}(ok:HOk P w H h)(e:Rd H a (.dK kvs)):kvs.length<=sizeLine/\(a==sysModules)=false/\∃ vs,KV kvs vs/\h.DictOf (zk3 P w) a vs:=
 show zk5 P w H h a (.dK kvs) from rd_of ok e
theorem dk_of{kvs:List (Key×V)}(ok:HOk P w H h)(e:H a=some (.dK kvs)):kvs.length<=sizeLine/\(a==sysModules)=false/\∃ vs,KV kvs vs/\h.DictOf (zk3 P w) a vs:=zbu7 ok (.inl e)
theorem zbn5{ks:List Key}(ok:HOk P w H h)(e:H a=some (.tup (ks.map kV))):(tupleKind (zk3 P w)).is h ks a:=by
 obtain⟨_,its,r,o,h1,h2,n,h3⟩:=(show zk5 P w H h a (.tup (ks.map kV)) from ok a _ e)
 exact⟨o,its.toArray,n,h1,h2,h3,by simpa using zaz7 r⟩
theorem zbx9{kvs:List (List Key×V)}(ok:HOk P w H h)(e:Rd H a (.dT kvs)):kvs.length<=sizeLine/\(a==sysModules)=false /\
  ∃ xs,KT H kvs xs/\h.DictOfH (tupleKind (zk3 P w)) a xs:=by
 obtain⟨z,y,xs,r,o,es,ep,h1,h2,h3,h4,h5⟩:=(show zk5 P w H h a (.dT kvs) from rd_of ok e)
 refine⟨z,y,xs,r,o,es,ep,h1,h2,h3,h4,fun x hx=>?_,h5⟩
 have all:∀ {l:List (List Key×V)}{m:List (List Key×Addr×Value)},KT H l m->∀ x∈m,(tupleKind (zk3 P w)).is h x.1 x.2.1:=by
  intro l m q
  induction q with
  | nil=>intro x hx;exact nomatch hx
  | @cons p q ps qs hq t ih=>
   intro x hx
   rcases zcx2.mp hx with e|hx
   ·subst e
    exact zbn5 ok (by rw[← hq.1];exact hq.2.1)
   ·exact ih x hx
 exact all r x hx
theorem dt_of{kvs:List (List Key×V)}(ok:HOk P w H h)(e:H a=some (.dT kvs)):kvs.length<=sizeLine/\(a==sysModules)=false /\
  ∃ xs,KT H kvs xs/\h.DictOfH (tupleKind (zk3 P w)) a xs:=zbx9 ok (.inl e)
end
noncomputable def DGet(H:Hp)(a:Addr)(y:V)(r:Option V):Prop:=
 (∃ kvs k,Rd H a (.dK kvs)/\y=kV k/\r=valV kvs k)∨∃ kvs k b,Rd H a (.dT kvs)/\y=.ref b/\H b=some (.tup (k.map kV))/\r=valV kvs k
noncomputable def DPut(H:Hp)(a:Addr)(y v:V)(H':Hp):Prop:=
 (∃ kvs k,H a=some (.dK kvs)/\y=kV k/\kvs.length<sizeLine/\H'=upd H a (.dK (putK kvs k v))) ∨
 ∃ kvs k b,H a=some (.dT kvs)/\y=.ref b/\H b=some (.tup (k.map kV))/\kvs.length<sizeLine/\H'=upd H a (.dT (putK kvs k v))
theorem DGet.k{H:Hp}{a:Addr}{kvs:List (Key×V)}{k:Key}(e:H a=some (.dK kvs)):DGet H a (kV k) (valV kvs k):=.inl ⟨kvs,k,.inl e,rfl,rfl⟩
theorem DGet.t{a b:Addr}{kvs:List (List Key×V)}{k:List Key}(e:H a=some (.dT kvs))(eb:H b=some (.tup (k.map kV))):DGet H a (.ref b) (valV kvs k):=.inr ⟨kvs,k,b,.inl e,rfl,eb,rfl⟩
theorem DPut.k{H:Hp}{a:Addr}{kvs:List (Key×V)}{k:Key}{v:V}(e:H a=some (.dK kvs))(hl:kvs.length<sizeLine):DPut H a (kV k) v (upd H a (.dK (putK kvs k v))):=.inl ⟨kvs,k,e,rfl,hl,rfl⟩
theorem DPut.t{a b:Addr}{kvs:List (List Key×V)}{k:List Key}{v:V}(e:H a=some (.dT kvs))(eb:H b=some (.tup (k.map kV)))(hl:kvs.length<sizeLine) :
  DPut H a (.ref b) v (upd H a (.dT (putK kvs k v))):=.inr ⟨kvs,k,b,e,rfl,eb,hl,rfl⟩
section
variable {X:Cx}{pins:List (Addr×Obj)}{σ:St}{H:Hp}{s:Shared}{a:Addr}{y v:V}{u r:Value}{o:Option V}{A:Around}{E:Value->Shared->Prop}
theorem Inv.big(I:Inv X pins σ H s):sysModules<s.heap.objs.size:=by
 have h:zdg3<s.heap.objs.size:=(I.mod.glob.keeps I.bk).lt
 exact Nat.lt_trans (by decide) h
theorem zbu3(hu:A.units+1<cLine)(I:Inv X pins σ H s)(g:DGet H a y (some v))(ry:RelV y u)(h:∀ w' s',Inv X pins σ H s'->RelV v w'->Q w' s') :
  wpAny (model X.prog X.w) A (getItem (.ref a) u) Q E s:=by
 rcases g with ⟨kvs,k,e,ey,l⟩|⟨kvs,k,b,e,ey,eb,l⟩
 ·subst ey
  obtain⟨z,hd,vs,rel,dd⟩:=zbu7 I.hok e
  obtain⟨w',hw,rw'⟩:=RelO.some_of (v:=v) (o:=valueAt vs k) (by rw[l];exact rel.val k)
  exact wpAny_getItem_of (kV_is ry) dd.mapOf hw (h w' _ (I.tok _) rw')
 ·subst ey
  cases (show u=Value.ref b from ry)
  obtain⟨z,hd,xs,rel,dd⟩:=zbx9 I.hok e
  obtain⟨w',hw,rw'⟩:=RelO.some_of (v:=v) (o:=(atKey xs k).map (·.2)) (by rw[l];exact rel.val k)
  obtain⟨p,hp,hp2⟩:=zcx0.mp hw
  refine wpAny_getItem_heap (tupleKind_room_in1 hu) (zbn5 I.hok eb) dd hp ?_
  rw[hp2]
  exact h w' _ (I.tok _) rw'
theorem zcn5{t':Nat}{ob:HO}(I:Inv X pins σ H s)(mu:Mut (H a))(hs:Heap.SameBut a s.heap h')(he:∃ q,h'.get? a=some q)(new:zk5 X.prog X.w (upd H a ob) h' a ob) :
  Inv X pins σ (upd H a ob) { s with heap:=h',toks:=t' }:=
 I.write (x:=a) (e:=a) mu (.inl rfl) (fun b q hb z=>(hs.2 b hb).trans z) he new
end
noncomputable def NoSl(i:Expr):Prop:=∀ ov iv,subscripted i false ov iv=operate [ov,iv] (getItem ov iv)
theorem zch9{prog:Program}{w:World}{A:Around}{E:Value->Shared->Prop}{env:Env}{value slice:Expr}{pos:Pos}{T id:String}(hl:typeLookup (.type T) "__getitem__"=pure (some (.builtin id)))(hs:NoSl slice)(h:wpAny (model prog w) A (eval value env) (fun o s₁=>wpAny (model prog w) A (eval slice env) (fun i s₂=>s₂.TypeIs o T/\wpAny (model prog w) A (getItem o i) Q E s₂) E s₁) E s) :
  wpAny (model prog w) A (eval (.Subscript value slice pos) env) Q E s:=by
 refine Subscript_ (wpAny_mono h (fun o s₁ h₁=>wpAny_mono h₁ (fun i s₂ h₂=>?_) fun _ _ x=>x) fun _ _ x=>x)
 obtain⟨hT,h₂⟩:=h₂
 unfold subscriptTail
 refine zdf7 ?_
 rw[getitemInPython_of_ne hT.not_modules]
 refine zdf7 (wpAny_specialOf hT hl ?_)
 have fin:wpAny (model prog w) A (subscripted slice false o i) (fun r s₃=>wpAny (model prog w) A (letTemporaryGo value o r >>= fun _=>pure r) Q E s₃) E s₂:=by
  rw[hs o i]
  exact wpAny_operating (wpAny_mono h₂ (fun r s₃ h₃=>zdf7 (wpAny_letTemporaryGo (zdf8 h₃))) fun _ _ x=>x)
 first
  | exact zdf8 (zdf7 fin)
  | exact zdf7 (zdf8 (zdf7 fin))
  | exact zdf7 fin
theorem zbi2{X:Cx}{pins:List (Addr×Obj)}{σ:St}{a:Addr}{o:Option V}(I:Inv X pins σ H s)(g:DGet H a y o):s.TypeIs (.ref a) "dict":=by
 rcases g with ⟨kvs,k,e,_,_⟩|⟨kvs,k,b,e,_,_,_⟩
 ·obtain⟨_,_,vs,_,dd⟩:=zbu7 I.hok e
  exact dd.typeIs
 ·obtain⟨_,_,xs,_,dd⟩:=zbx9 I.hok e
  exact dd.typeIs
noncomputable def tDGet(td ty:TE):TE:=fun σ H Q=>td σ H fun x H1=>ty σ H1 fun y H2=>∃ a v,x=.ref a/\DGet H2 a y (some v)/\Q v H2
section
variable {X:Cx}{o i e value:Expr}{pos pos' tpos:Pos}{td ty tv:TE}
theorem zcj3(hu:X.A.units+1<cLine)(ho:PE X o td)(hi:PE X i ty)(hs:NoSl i):PE X (.Subscript o i pos) (tDGet td ty):=by
 intro pins s σ H Q I h
 refine zch9 PySem.F.slot_dict_getitem.lookup hs (thn (ho pins s σ H _ I h) fun u s1 ⟨x,H1,I1,rx,q1⟩=>thn (hi pins s1 σ H1 _ I1 q1) fun iv s2 ⟨y,H2,I2,ry,a,v,ex,g,q2⟩=>?_)
 subst ex
 obtain rfl:u=Value.ref a:=rx
 exact⟨zbi2 I2 g,zbu3 hu I2 g ry fun w' s3 I3 rw'=>⟨v,H2,I3,rw',q2⟩⟩
end
theorem zcc5{P:Program}{w:World}(h:Heap)(hb:sysModules<h.objs.size):zk5 P w H (h.push { cls:=.type "dict",data:=.dict #[] }) h.objs.size (.dT []):=
 ⟨zcz6 _,beq_eq_false_iff_ne.mpr (Ne.symm (zcy4 hb)),[],.nil,_,#[],0,zcx7 _ rfl,⟨rfl,rfl,rfl⟩,rfl,rfl,List.nodup_nil⟩
structure M1(X:Cx)(o:Expr)(m:Str)(apos:Pos)(e:Expr)(cpos:Pos):Prop where
 base:attributeBase o m X.env (eval o X.env)=eval o X.env
 few:((backTo cpos (starEach [e] X.env)).all (fun x=>!x.1)&&(backToKw cpos (keywordEach [] X.env)).all (fun x=>x.1.isSome)
  && decide (([e]:List Expr).length+([]:List Keyword).length+(if ([]:List Keyword).isEmpty then 0 else 1)<30))=true
 line:(apos.endLine==cpos.line)=true
 trees:backTo cpos (starEach [e] X.env)=[(false,eval e X.env)]
structure M2(X:Cx)(o:Expr)(m:Str)(apos:Pos)(e f:Expr)(cpos:Pos):Prop where
 base:attributeBase o m X.env (eval o X.env)=eval o X.env
 few:((backTo cpos (starEach [e,f] X.env)).all (fun x=>!x.1)&&(backToKw cpos (keywordEach [] X.env)).all (fun x=>x.1.isSome)
  && decide (([e,f]:List Expr).length+([]:List Keyword).length+(if ([]:List Keyword).isEmpty then 0 else 1)<30))=true
 line:(apos.endLine==cpos.line)=true
 trees:backTo cpos (starEach [e,f] X.env)=[(false,eval e X.env),(false,eval f X.env)]
noncomputable def IsD(H:Hp)(a:Addr):Prop:=(∃ kvs,Rd H a (.dK kvs))∨∃ kvs,Rd H a (.dT kvs)
theorem isD_at{X:Cx}{pins:List (Addr×Obj)}{σ:St}{a:Addr}(I:Inv X pins σ H s)(d:IsD H a) :
  s.TypeIs (.ref a) "dict"/\(∀ b,Value.ref a=.ref b->∃ ob,s.heap.get? b=some ob/\ob.dict=none)/\(a==sysModules)=false:=by
 rcases d with ⟨kvs,e⟩|⟨kvs,e⟩
 ·obtain⟨_,hd,vs,_,dd⟩:=zbu7 I.hok e
  refine⟨dd.typeIs,fun b q=>?_,hd⟩
  cases q
  obtain⟨ob,_,_,h1,h2,_⟩:=dd
  exact⟨ob,h1,h2.2.1⟩
 ·obtain⟨_,hd,xs,_,dd⟩:=zbx9 I.hok e
  refine⟨dd.typeIs,fun b q=>?_,hd⟩
  cases q
  obtain⟨ob,_,_,h1,h2,_⟩:=dd
  exact⟨ob,h1,h2.2.1⟩
section
variable {X:Cx}{pins:List (Addr×Obj)}{σ:St}{H:Hp}{s:Shared}{a:Addr}{y d:V}{u r:Value}{o:Option V}{A:Around}{E:Value->Shared->Prop}
theorem d_get2(hu:A.units+1<cLine)(I:Inv X pins σ H s)(g:DGet H a y o)(ry:RelV y u)(rd:RelV d r)(h:∀ w' s',Inv X pins σ H s'->RelV (o.getD d) w'->Q w' s') :
  wpAny (model X.prog X.w) A (call (.builtin "dict.get") [.ref a,u,r]) Q E s:=by
 rcases g with ⟨kvs,k,e,ey,l⟩|⟨kvs,k,b,e,ey,eb,l⟩
 ·subst ey
  obtain⟨z,hd,vs,rel,dd⟩:=zbu7 I.hok e
  refine call_meetsIn PySem.F.slot_dict_get dd.typeIs PySem.F.entry_dict_get (PySem.F.args_dict_get_3 _ _ _) (meets_dict_get_default (zk3 X.prog X.w) a (kV_is ry) hd r) ⟨_,dd.mapOf,h _ _ (I.tok _) ?_⟩
  rw[l]
  exact (rel.val k).getD rd
 ·subst ey
  cases (show u=Value.ref b from ry)
  obtain⟨z,hd,xs,rel,dd⟩:=zbx9 I.hok e
  refine call_meetsIn PySem.F.slot_dict_get dd.typeIs PySem.F.entry_dict_get (PySem.F.args_dict_get_3 _ _ _) (meetsH_dict_get_default (tupleKind (zk3 X.prog X.w)) a b hd r) ⟨tupleKind_room_in1 hu,k,xs,zbn5 I.hok eb,dd,h _ _ (I.tok _) ?_⟩
  rw[l]
  exact (rel.val k).getD rd
end
noncomputable def zbs8(td ty tx:TE):TE:=fun σ H Q=>td σ H fun x H1=>∃ a,x=.ref a/\IsD H1 a/\ty σ H1 fun y H2=>tx σ H2 fun z H3=>∃ o,DGet H3 a y o/\Q (o.getD z) H3
section
variable {X:Cx}{o e f:Expr}{apos cpos:Pos}{td ty tx:TE}
theorem zcd9(hu:X.A.units+1<cLine)(ho:PE X o td)(he:PE X e ty)(hf:PE X f tx)(m:M2 X o "get" apos e f cpos):PE X (.Call (.Attribute o "get" apos) [e,f] [] cpos) (zbs8 td ty tx):=by
 intro pins s σ H Q I h
 refine wpAny_Call_method m.base m.few m.line PySem.F.plainAttrs_dict PySem.F.slot_dict_get PySem.F.type_dict_get (thn (ho pins s σ H _ I h) fun u s1 ⟨x,H1,I1,rx,a,ex,d,q1⟩=>?_)
 subst ex
 obtain rfl:u=Value.ref a:=rx
 obtain⟨t1,t2,_⟩:=isD_at I1 d
 refine⟨t1,t2,?_⟩
 rw[m.trees]
 refine Calls.callWith_builtin rfl (Calls.evalArgs_plain (Calls.spliced_cons (thn (he pins s1 σ H1 _ I1 q1) fun iv s2 ⟨y,H2,I2,ry,q2⟩=>
  Calls.spliced_cons (thn (hf pins s2 σ H2 _ I2 q2) fun fv s3 ⟨z,H3,I3,rz,ov,g,q3⟩=>Calls.spliced_nil ?_))))
 exact d_get2 hu I3 g ry rz fun w' s4 I4 rw'=>⟨_,H3,I4,rw',q3⟩
end
set_option maxHeartbeats 2000000
noncomputable def RawD(h:Heap)(d:Addr)(es:Array DictEntry)(ep:Nat):Prop:=∃ o,h.get? d=some o/\o.ExactDict/\o.data=.dict es ep
theorem RawD.lt{h:Heap}{d:Addr}{es:Array DictEntry}{ep:Nat}(x:RawD h d es ep):d<h.objs.size:=let ⟨_,a,_⟩:=x;zcx3 a
open PySem.W
section
variable {lt:Nat->Nat->Bool}{n:Nat}
noncomputable def KW{α:Type}(lt:Nat->Nat->Bool)(n:Nat)(Q:α->Prop):KasT α->Prop
 | .ret a=>Q a
 | .ask i j k=>i<n/\j<n/\KW lt n Q (k (lt i j))
theorem KW.mono{α:Type}{Q Q':α->Prop}(hq:∀ a,Q a->Q' a):∀ {t:KasT α},KW lt n Q t->KW lt n Q' t
 | .ret a,h=>hq a h
 | .ask _ _ k,⟨h1,h2,h3⟩=>⟨h1,h2,KW.mono hq (t:=k _) h3⟩
noncomputable def Pm(n:Nat)(p:Array Nat):Prop:=p.toList.Perm (List.range n)
end
noncomputable def ltP(x y:Int×Int):Bool:=if (x.1==y.1)=true then (if (x.2==y.2)=true then false else decide (x.2<y.2)) else decide (x.1<y.1)
section
variable {X:Cx}{K:zcw1}
@[irreducible] noncomputable def rDG(a:Addr)(y:V)(H:Hp)(Q:VK):Prop:=∃ v,DGet H a y (some v)/\Q v H
noncomputable def rDGV(x y:V)(H:Hp)(Q:VK):Prop:=match x with
 | .ref a=>rDG a y H Q
 | _=>False
noncomputable def tDG(td ty:TE):TE:=fun σ H Q=>td σ H fun x H1=>ty σ H1 fun y H2=>rDGV x y H2 Q
theorem tDG_eq(td ty:TE):tDG td ty=tDGet td ty:=by
 funext σ H Q
 unfold tDG tDGet
 congr 1;funext x H1;congr 1;funext y H2
 unfold rDGV
 apply propext
 cases x<;>first
  | (simp only[V.ref.injEq];unfold rDG;exact⟨fun ⟨v,g,q⟩=>⟨_,v,rfl,g,q⟩,fun ⟨a,v,e,g,q⟩=>⟨v,e▸g,q⟩⟩)
  | exact⟨fun z=>z.elim,fun ⟨a,v,e,_⟩=>nomatch e⟩
theorem peDGet{o i:Expr}{td ty:TE}{pos:Pos}(hu:X.A.units+40<cLine)(ho:PE X o td)(hi:PE X i ty)(hs:NoSl i:=by exact fun _ _=>rfl):PE X (.Subscript o i pos) (tDG td ty):=tDG_eq td ty▸zcj3 (by omega) ho hi hs
@[irreducible] noncomputable def rIsD(a:Addr)(H:Hp)(P:Prop):Prop:=IsD H a/\P
@[irreducible] noncomputable def rDG2(a:Addr)(y z:V)(H:Hp)(Q:VK):Prop:=∃ o,DGet H a y o/\Q (o.getD z) H
noncomputable def rDG2V(x:V)(H:Hp)(P:Addr->Prop):Prop:=match x with
 | .ref a=>rIsD a H (P a)
 | _=>False
noncomputable def tDG2(td ty tx:TE):TE:=fun σ H Q=>td σ H fun x H1=>rDG2V x H1 fun a=>ty σ H1 fun y H2=>tx σ H2 fun z H3=>rDG2 a y z H3 Q
theorem zco0(td ty tx:TE):tDG2 td ty tx=zbs8 td ty tx:=by
 funext σ H Q
 unfold tDG2 zbs8
 congr 1;funext x H1
 unfold rDG2V rIsD rDG2
 apply propext
 cases x<;>first
  | (simp only[V.ref.injEq];exact⟨fun z=>⟨_,rfl,z⟩,fun ⟨a,e,z⟩=>e▸z⟩)
  | exact⟨fun z=>z.elim,fun ⟨a,e,_⟩=>nomatch e⟩
theorem zcd6{o f:Expr}{td ty tx:TE}{apos cpos:Pos}(hu:X.A.units+40<cLine)(ho:PE X o td)(he:PE X e ty)(hf:PE X f tx)(m1:attributeBase o "get" X.env (eval o X.env)=eval o X.env:=by rfl)(m2:((backTo cpos (starEach [e,f] X.env)).all (fun x=>!x.1)&&(backToKw cpos (keywordEach [] X.env)).all (fun x=>x.1.isSome)&&decide (([e,f]:List Expr).length+([]:List Keyword).length+(if ([]:List Keyword).isEmpty then 0 else 1)<30))=true:=by rfl)(m3:(apos.endLine==cpos.line)=true:=by rfl)(m4:backTo cpos (starEach [e,f] X.env)=[(false,eval e X.env),(false,eval f X.env)]:=by rfl):PE X (.Call (.Attribute o "get" apos) [e,f] [] cpos) (tDG2 td ty tx):=
 zco0 td ty tx▸zcd9 (by omega) ho he hf ⟨m1,m2,m3,m4⟩
theorem zck1{a:Addr}{P:Prop}{kvs:List (List Key×V)}(e:H a=some (.dT kvs))(p:P):rIsD a H P:=by unfold rIsD;exact⟨.inr ⟨kvs,.inl e⟩,p⟩
theorem zcm5{a b:Addr}{z:V}{Q:VK}{kvs:List (List Key×V)}{k:List Key}(e:H a=some (.dT kvs))(eb:H b=some (.tup (k.map kV)))(q:Q ((valV kvs k).getD z) H):rDG2 a (.ref b) z H Q:=by
 unfold rDG2
 exact⟨_,DGet.t e eb,q⟩
end
section
variable {lt:Nat->Nat->Bool}{n:Nat}
theorem Pm.size{p:Array Nat}(h:Pm n p):p.size=n:=by have:=h.length_eq;rw[zda1,List.length_range] at this;exact this
end
set_option maxHeartbeats 4000000
section
variable {X:Cx}{K:zcw1}{H:Hp}{Q:VK}
noncomputable def ExA(H:Hp)(e D:Addr):Prop:=H e=some (excO e (.ref D) none)∨∃ d fs,H e=some (excO e (.ref D) (some d))/\H d=some (.xd fs)
theorem ExA.same{e D:Addr}(x:ExA H e D)(s:Same H H'):ExA H' e D:=by
 rcases x with x|⟨d,fs,x,y⟩
 ·exact .inl (s _ _ x)
 ·exact .inr ⟨d,fs,s _ _ x,s _ _ y⟩
end
mutual
inductive ShV(H:Hp):V->PyData->Prop
 | non:ShV H .non .none
 | bl (b:Bool):ShV H (.bl b) (.bool b)
 | int (i:Int):ShV H (.int i) (.int i)
 | str (x:Str):ShV H (.str x) (.str x)
 | lst {a:Addr}{xs:List V}{ds:List PyData}:H a=some (.lst xs)->ShL H xs ds->ShV H (.ref a) (.list ds)
 | tup {a:Addr}{xs:List V}{ds:List PyData}:H a=some (.tup xs)->ShL H xs ds->ShV H (.ref a) (.tuple ds)
inductive ShL(H:Hp):List V->List PyData->Prop
 | nil:ShL H [] []
 | cons {x:V}{d:PyData}{xs:List V}{ds:List PyData}:ShV H x d->ShL H xs ds->ShL H (x :: xs) (d :: ds)
end
section
variable {X:Cx}{pins:List (Addr×Obj)}{σ:St}{H H':Hp}{s:Shared}{Q:VK}
mutual
theorem ShV.same{v:V}{d:PyData}(h:ShV H v d)(k:Same H H'):ShV H' v d:=match h with
 | .non=>.non
 | .bl b=>.bl b
 | .int i=>.int i
 | .str x=>.str x
 | .lst e l=>.lst (k _ _ e) (l.same k)
 | .tup e l=>.tup (k _ _ e) (l.same k)
theorem ShL.same{xs:List V}{ds:List PyData}(h:ShL H xs ds)(k:Same H H'):ShL H' xs ds:=match h with
 | .nil=>.nil
 | .cons a b=>.cons (a.same k) (b.same k)
end
theorem ShL.len{xs:List V}{ds:List PyData}(h:ShL H xs ds):xs.length=ds.length:=match h with
 | .nil=>rfl
 | .cons _ b=>by rw[zcy0,zcy0,b.len]
mutual
theorem ShV.reads(I:Inv X pins σ H s){v:V}{d:PyData}{u:Value}(h:ShV H v d)(r:RelV v u):∃ as,Reads s.heap u d as:=match h with
 | .non=>by cases (show u=Value.none from r);exact⟨_,.none⟩
 | .bl b=>by cases (show u=Value.bool b from r);exact⟨_,.bool b⟩
 | .int i=>by obtain⟨t,q⟩:=(show ∃ t,u=Value.int i t from r);cases q;exact⟨_,.int i t⟩
 | .str x=>by obtain⟨t,q⟩:=(show ∃ t,u=Value.str x t from r);cases q;exact⟨_,.str x t⟩
 | .lst (a:=a) (xs:=xs) e l=>by
  cases (show u=Value.ref a from r)
  obtain⟨_,us,n,rv,h1⟩:=(show zk5 X.prog X.w H s.heap a (.lst xs) from I.hok a _ e)
  obtain⟨as,ra⟩:=l.reads I rv
  exact⟨_,.list h1 rfl rfl (by simpa using ra)⟩
 | .tup (a:=a) (xs:=xs) e l=>by
  cases (show u=Value.ref a from r)
  obtain⟨_,us,rv,o,h1,h2,n,h3⟩:=(show zk5 X.prog X.w H s.heap a (.tup xs) from I.hok a _ e)
  obtain⟨as,ra⟩:=l.reads I rv
  exact⟨_,.tuple h1 h2 h3 (by simpa using ra)⟩
theorem ShL.reads(I:Inv X pins σ H s){xs:List V}{ds:List PyData}{us:List Value}(h:ShL H xs ds)(r:Vals xs us):∃ as,ReadsAll s.heap us ds as:=match h,r with
 | .nil,.nil=>⟨_,.nil⟩
 | .cons a b,.cons r1 r2=>by
  obtain⟨as,ra⟩:=a.reads I r1
  obtain⟨bs,rb⟩:=b.reads I r2
  exact⟨_,.cons ra rb⟩
end
structure zm8(d:PyData)(k m:Nat):Prop where
 ok:d.showable=true
 nd:d.hasDict=false
 dp:d.depth<=k
 ln:d.shown.length<=m
theorem zm8.up{d:PyData}{k k' m':Nat}(h:zm8 d k m)(h1:k<=k')(h2:m<=m'):zm8 d k' m':=⟨h.ok,h.nd,zcy7 h.dp h1,zcy7 h.ln h2⟩
theorem zav5{k m:Nat}:∀ {ds:List PyData},(∀ d∈ds,zm8 d k m)->PyData.showableAll ds=true/\PyData.hasDictAll ds=false/\PyData.depthAll ds<=k/\piled (PyData.shownAll ds)<=ds.length*(m+2)
 | [],_=>⟨rfl,rfl,zcz6 _,by simp[PyData.shownAll,piled]⟩
 | d :: ds,h=>by
  have h0:=h d (.head _)
  obtain⟨a1,a2,a3,a4⟩:=zav5 (ds:=ds) fun x hx=>h x (.tail _ hx)
  refine⟨by simp[PyData.showableAll,h0.ok,a1],by simp[PyData.hasDictAll,h0.nd,a2],?_,?_⟩
  ·have:=h0.dp
   simp only[PyData.depthAll]
   omega
  ·have:=h0.ln
   simp only[PyData.shownAll,piled_cons,zcy0,Nat.succ_mul]
   omega
theorem zak1:∀ (ts:List Str) (k:Nat) (acc:Str),(textFrom k acc ts).length<=acc.length+piled ts
 | [],_,acc=>by simp[textFrom,piled]
 | t :: ts,k,acc=>by
  have ih:=zak1 ts (k+1) (acc++(if k>0 then ", " else "":String)++t)
  have e:(acc++(if k>0 then ", " else "":String)++t).length=acc.length+(if k>0 then 2 else 0)+t.length:=by
   rw[strLen_append,strLen_append]
   congr 2
   split<;>rfl
  rw[piled_cons]
  show (textFrom (k+1) _ ts).length<=_
  rw[e] at ih
  have e2:(if k>0 then 2 else 0)<=2:=by split<;>omega
  omega
theorem zm8.list{ds:List PyData}{k m:Nat}(h:∀ d∈ds,zm8 d k m):zm8 (.list ds) (k+1) (ds.length*(m+2)+2):=by
 obtain⟨a1,a2,a3,a4⟩:=zav5 h
 refine⟨by simpa [PyData.showable] using a1,by simpa [PyData.hasDict] using a2,by simp only[PyData.depth];omega,?_⟩
 have:=zak1 (PyData.shownAll ds) 0 "["
 have e1:((("[":String):Str)).length=1:=rfl
 have e2:((("]":String):Str)).length=1:=rfl
 simp only[PyData.shown,listText,strLen_append]
 omega
theorem zm8.tuple{ds:List PyData}{k m:Nat}(h:∀ d∈ds,zm8 d k m):zm8 (.tuple ds) (k+1) (ds.length*(m+2)+4):=by
 obtain⟨a1,a2,a3,a4⟩:=zav5 h
 refine⟨by simpa [PyData.showable] using a1,by simpa [PyData.hasDict] using a2,by simp only[PyData.depth];omega,?_⟩
 have e1:((("(":String):Str)).length=1:=rfl
 have e3:((if (PyData.shownAll ds).length==1 then ",)" else ")":String):Str).length<=2:=by split<;>decide
 have e4:(Str.join ", " (PyData.shownAll ds)).length<=piled (PyData.shownAll ds):=by
  by_cases z:PyData.shownAll ds=[]
  ·rw[z];decide
  ·have:=join_length_add _ z;omega
 simp only[PyData.shown,tupleText,strLen_append]
 omega
theorem zm8.int{i:Int}(h:-(10 ^ 100)<=i)(h':i<=10 ^ 100):zm8 (.int i) 0 1921:=by
 have hl:i.natAbs.log2<1920:=by
  by_cases z:i.natAbs=0
  ·rw[z];decide
  ·rw[Nat.log2_lt z]
   have h1:i.natAbs<=10 ^ 100:=by omega
   exact Nat.lt_of_le_of_lt h1 (by decide +kernel)
 exact⟨by simpa [PyData.showable] using hl,rfl,by simp[PyData.depth],by simpa only [PyData.shown] using PyProof.Rows.int_text_len_1921 hl⟩
theorem zm8.non:zm8 .none 0 4:=⟨rfl,rfl,by simp[PyData.depth],by decide⟩
theorem zm8.bl{b:Bool}:zm8 (.bool b) 0 5:=by cases b<;>exact⟨rfl,rfl,by simp[PyData.depth],by decide⟩
theorem zm8.str{x:Str}{m:Nat}(h:(reprText x).length<=m):zm8 (.str x) 0 m:=⟨rfl,rfl,by simp[PyData.depth],h⟩
theorem ShL.of{xs:List V}(f:V->PyData)(h:∀ x∈xs,ShV H x (f x)):ShL H xs (xs.map f):=by
 induction xs with
 | nil=>exact .nil
 | cons x xs ih=>exact .cons (h x (.head _)) (ih fun y hy=>h y (.tail _ hy))
end
mutual
noncomputable def sml:PyData->Bool
 | .none | .bool _ | .int _ | .str _=>true
 | .list xs | .tuple xs=>decide (xs.length<=1000)&&zbl0 xs
 | .dict _=>false
noncomputable def zbl0:List PyData->Bool
 | []=>true
 | x :: xs=>sml x&&zbl0 xs
end
theorem zam8:∀ {ds:List PyData},(∀ d∈ds,sml d=true)->zbl0 ds=true
 | [],_=>rfl
 | d :: ds,h=>by simp[zbl0,h d (.head _),zam8 fun x hx=>h x (.tail _ hx)]
section
variable {H H':Hp}{K:zcw1}{Q:VK}
theorem ShL.ex{P:PyData->Prop}:∀ {xs:List V},(∀ x∈xs,∃ d,ShV H x d/\P d)->∃ ds,ShL H xs ds/\∀ d∈ds,P d
 | [],_=>⟨[],.nil,fun _ h=>by cases h⟩
 | x :: xs,h=>by
  obtain⟨d,h1,h2⟩:=h x (.head _)
  obtain⟨ds,h3,h4⟩:=ShL.ex (xs:=xs) fun y hy=>h y (.tail _ hy)
  refine⟨d :: ds,.cons h1 h3,fun e he=>?_⟩
  rcases zcx2.mp he with rfl|he
  ·exact h2
  ·exact h4 e he
noncomputable def Rda(H:Hp)(v:V)(k m:Nat):Prop:=∃ d,ShV H v d/\sml d=true/\zm8 d k m
theorem Rda.same{v:V}{k m:Nat}(h:Rda H v k m)(s:Same H H'):Rda H' v k m:=by obtain⟨d,h1,h2,h3⟩:=h;exact⟨d,h1.same s,h2,h3⟩
theorem Rda.up{v:V}{k m k' m':Nat}(h:Rda H v k m)(h1:k<=k':=by omega)(h2:m<=m':=by omega):Rda H v k' m':=by obtain⟨d,a,b,c⟩:=h;exact⟨d,a,b,c.up h1 h2⟩
theorem Rda.int{i:Int}(h:-(10 ^ 100)<=i)(h':i<=10 ^ 100):Rda H (.int i) 0 1921:=⟨_,.int i,rfl,zm8.int h h'⟩
theorem Rda.non:Rda H .non 0 1921:=⟨_,.non,rfl,zm8.non.up (by omega) (by omega)⟩
theorem Rda.bl{b:Bool}:Rda H (.bl b) 0 1921:=⟨_,.bl b,rfl,zm8.bl.up (by omega) (by omega)⟩
theorem Rda.str{x:Str}(h:(reprText x).length<=1921):Rda H (.str x) 0 1921:=⟨_,.str x,rfl,zm8.str h⟩
theorem Rda.lst{a:Addr}{xs:List V}{k m:Nat}(e:H a=some (.lst xs))(l:xs.length<=1000)(h:∀ x∈xs,Rda H x k m):Rda H (.ref a) (k+1) (xs.length*(m+2)+4):=by
 obtain⟨ds,h1,h2⟩:=ShL.ex (P:=fun d=>sml d=true/\zm8 d k m) h
 have hl:=h1.len
 refine⟨.list ds,.lst e h1,?_,?_⟩
 ·simp only[sml,zdd3,decide_eq_true_eq]
  exact⟨by omega,zam8 fun d hd=>(h2 d hd).1⟩
 ·have:=zm8.list (ds:=ds) (k:=k) (m:=m) fun d hd=>(h2 d hd).2
  rw[hl]
  exact this.up (zcw4 _) (by omega)
theorem Rda.tup{a:Addr}{xs:List V}{k m:Nat}(e:H a=some (.tup xs))(l:xs.length<=1000)(h:∀ x∈xs,Rda H x k m):Rda H (.ref a) (k+1) (xs.length*(m+2)+4):=by
 obtain⟨ds,h1,h2⟩:=ShL.ex (P:=fun d=>sml d=true/\zm8 d k m) h
 have hl:=h1.len
 refine⟨.tuple ds,.tup e h1,?_,?_⟩
 ·simp only[sml,zdd3,decide_eq_true_eq]
  exact⟨by omega,zam8 fun d hd=>(h2 d hd).1⟩
 ·have:=zm8.tuple (ds:=ds) (k:=k) (m:=m) fun d hd=>(h2 d hd).2
  rw[hl]
  exact this
end
section
variable {X:Cx}{K:zcw1}{H:Hp}{Q:VK}
end
section
variable {X:Cx}{K:zcw1}{H:Hp}{Q:VK}
noncomputable def dI(kv:List (Int×Int)):List (Key×V):=kv.map fun z=>(.inl z.1,.int z.2)
noncomputable def valI(kv:List (Int×Int))(i:Int):Option Int:=(kv.find? fun z=>decide (z.1=i)).map (·.2)
theorem zbt4(i:Int):∀ kv:List (Int×Int),valV (dI kv) (.inl i)=(valI kv i).map V.int
 | []=>rfl
 | z :: kv=>by
  by_cases e:z.1=i
  ·show valV (((.inl z.1:Key),V.int z.2) :: dI kv) (.inl i)=_
   rw[zk6 (by exact congrArg Sum.inl e)]
   unfold valI
   rw[zdd1,decide_eq_true e];rfl
  ·show valV (((.inl z.1:Key),V.int z.2) :: dI kv) (.inl i)=_
   rw[zk7 (by exact fun q=>e (Sum.inl.inj q)),zbt4 i kv]
   unfold valI
   rw[zdd1,decide_eq_false e]
noncomputable def eqDI(ka kb:List (Int×Int)):Bool:=ka.length==kb.length&&ka.all fun z=>valI kb z.1==some z.2
theorem zbf9{A:Around}{s:Shared}{kb:List (Int×Int)}{ws:List (Key×Value)}(rb:KV (dI kb) ws):∀ {ka:List (Int×Int)}{vs:List (Key×Value)},KV (dI ka) vs->KeqHits A s ws vs (ka.all fun z=>valI kb z.1==some z.2)
 | [],vs,r=>by
  unfold KV dI at r
  cases r
  exact .nil
 | z :: ka,vs,r=>by
  unfold KV dI at r
  rw[zcz9] at r
  cases r with
  | @cons p q ps qs h t=>
   obtain⟨h1,h2⟩:=h
   obtain⟨k,v⟩:=q
   cases (show (Sum.inl z.1:Key)=k from h1)
   have val:=rb.val (.inl z.1)
   rw[zbt4] at val
   rw[List.all_cons]
   cases e:valI kb z.1 with
   | none=>
    rw[e] at val
    have:valueAt ws (.inl z.1)=none:=by
     cases w:valueAt ws (.inl z.1) with
     | none=>rfl
     | some y=>rw[w] at val;exact val.elim
    have f:((none:Option Int)==some z.2)=false:=rfl
    rw[f,Bool.false_and]
    exact .miss this
   | some n=>
    rw[e] at val
    obtain⟨y,ey,ry⟩:∃ y,valueAt ws (.inl z.1)=some y/\RelV (.int n) y:=by
     cases w:valueAt ws (.inl z.1) with
     | none=>rw[w] at val;exact val.elim
     | some y=>rw[w] at val;exact⟨y,rfl,val⟩
    have q:=zcg0 (A:=A) (s:=s) (show RelV (.int z.2) v from h2) ry rfl rfl
    have e2:eqV (.int z.2) (.int n)=(some n==some z.2):=by
     by_cases d:z.2=n
     ·subst d;simp[eqV]
     ·have d':¬ n=z.2:=fun x=>d x.symm
      show (z.2==n)=(some n==some z.2)
      rw[beq_eq_false_iff_ne.mpr d]
      exact (beq_eq_false_iff_ne.mpr fun x=>d' (Option.some.inj x)).symm
    rw[e2] at q
    exact .hit ey q (zbf9 rb t)
@[irreducible] noncomputable def rEqX(K:zcw1)(x y:V)(H:Hp)(Q:VK):Prop:=
 (∃ a b n c,x=.ref a/\y=.ref b/\n<=40/\EqR K H n (.ref a) (.ref b) c/\Q (.bl c) H) ∨
 (∃ a b ka kb,x=.ref a/\y=.ref b/\H a=some (.dK (dI ka))/\H b=some (.dK (dI kb))/\Q (.bl (eqDI ka kb)) H) ∨
 ∃ d e,ShV H x d/\ShV H y e/\d.canLay0=true/\e.canLay0=true/\d.depth<=40/\Q (.bl (PyData.eqv d e)) H
noncomputable def zbu8(K:zcw1):R2:=fun x y H Q=>match x,y with
 | .int i,.int j=>Q (.bl (decide (i=j))) H
 | .bl i,.bl j=>Q (.bl (decide (i=j))) H
 | .str i,.str j=>Q (.bl (decide (i=j))) H
 | x,y=>rEqX K x y H Q
noncomputable def rNeXM(K:zcw1):R2:=fun x y H Q=>zbu8 K x y H fun v H'=>match v with
 | .bl b=>Q (.bl (!b)) H'
 | _=>False
theorem oEqX(hu:X.A.units+40<cLine):OpR X (compareOp .Eq) (zbu8 X.K):=by
 intro pins s σ H x y v u Q I rx ry h
 unfold zbu8 at h
 split at h
 ·exact zbg6 pins s σ H _ _ v u Q I rx ry ⟨rfl,by rw[zp0 (f:=V.int) fun a b e=>V.int.inj e];exact h⟩
 ·exact zbg6 pins s σ H _ _ v u Q I rx ry ⟨rfl,by rw[zp0 (f:=V.bl) fun a b e=>V.bl.inj e];exact h⟩
 ·exact zbg6 pins s σ H _ _ v u Q I rx ry ⟨rfl,by rw[zp0 (f:=V.str) fun a b e=>V.str.inj e];exact h⟩
 ·unfold rEqX at h
  rcases h with ⟨a,b,n,c,rfl,rfl,hn,h1,h2⟩|⟨a,b,ka,kb,rfl,rfl,ea,eb,h⟩|⟨d,e,hd,he,cd,ce,dd,h⟩
  ·cases rx
   cases ry
   exact EqR.rc I h1 (A:=X.A) (by omega) _ _ _ _ ⟨.bl c,H,I,rfl,h2⟩
  ·cases rx
   cases ry
   obtain⟨_,sa,vs,ra,da⟩:=dk_of I.hok ea
   obtain⟨_,sb,ws,rb,db⟩:=dk_of I.hok eb
   refine keq_eq sa sb da db (by omega) (fun _=>zbf9 rb ra) ⟨.bl (eqDI ka kb),H,I,?_,h⟩
   have la:vs.length=ka.length:=by rw[← ra.length];unfold dI;rw[zcw0]
   have lb:ws.length=kb.length:=by rw[← rb.length];unfold dI;rw[zcw0]
   rw[la,lb]
   rfl
  ·obtain⟨as,r1⟩:=hd.reads I rx
   obtain⟨bs,r2⟩:=he.reads I ry
   exact SeqAt.compareEq_reads r1 r2 cd ce (by have:=Nat.min_le_left d.depth e.depth;omega) ⟨.bl (PyData.eqv d e),H,I,rfl,h⟩
theorem oNeX(hu:X.A.units+40<cLine):OpR X (compareOp .NotEq) (rNeXM X.K):=by
 intro pins s σ H x y v u Q I rx ry h
 unfold rNeXM zbu8 at h
 split at h
 ·exact zbd5 pins s σ H _ _ v u Q I rx ry ⟨rfl,by rw[zp0 (f:=V.int) fun a b e=>V.int.inj e];exact h⟩
 ·exact zbd5 pins s σ H _ _ v u Q I rx ry ⟨rfl,by rw[zp0 (f:=V.bl) fun a b e=>V.bl.inj e];exact h⟩
 ·exact zbd5 pins s σ H _ _ v u Q I rx ry ⟨rfl,by rw[zp0 (f:=V.str) fun a b e=>V.str.inj e];exact h⟩
 ·unfold rEqX at h
  rcases h with ⟨a,b,n,c,rfl,rfl,hn,h1,h2⟩|⟨a,b,ka,kb,rfl,rfl,ea,eb,h⟩|⟨d,e,hd,he,cd,ce,dd,h⟩
  ·cases rx
   cases ry
   exact EqR.rcNe I h1 (A:=X.A) (by omega) _ _ _ _ ⟨.bl (!c),H,I,rfl,h2⟩
  ·cases rx
   cases ry
   obtain⟨_,sa,vs,ra,da⟩:=dk_of I.hok ea
   obtain⟨_,sb,ws,rb,db⟩:=dk_of I.hok eb
   refine keq_ne sa sb da db (by omega) (fun _=>zbf9 rb ra) ⟨.bl (!eqDI ka kb),H,I,?_,h⟩
   have la:vs.length=ka.length:=by rw[← ra.length];unfold dI;rw[zcw0]
   have lb:ws.length=kb.length:=by rw[← rb.length];unfold dI;rw[zcw0]
   rw[la,lb]
   rfl
  ·obtain⟨as,r1⟩:=hd.reads I rx
   obtain⟨bs,r2⟩:=he.reads I ry
   exact SeqAt.compareNe_reads r1 r2 cd ce (by have:=Nat.min_le_left d.depth e.depth;omega) ⟨.bl (!PyData.eqv d e),H,I,rfl,h⟩
theorem zbt1{a b:Addr}{n:Nat}{c:Bool}(h:EqR K H n (.ref a) (.ref b) c)(q:Q (.bl c) H)(hn:n<=40:=by decide):rEqX K (.ref a) (.ref b) H Q:=by unfold rEqX;exact .inl ⟨a,b,n,c,rfl,rfl,hn,h,q⟩
end
section
variable {X:Cx}{K:zcw1}{H:Hp}{Q:VK}
noncomputable def pV(x:Int×Int):List V:=[.int x.1,.int x.2]
@[irreducible] noncomputable def rLtA(a b:Addr)(H:Hp)(Q:VK):Prop:=∃ x y:Int×Int,H a=some (.tup (pV x))/\H b=some (.tup (pV y))/\Q (.bl (ltP x y)) H
noncomputable def rLtXM:R2:=fun x y H Q=>match x,y with
 | .int i,.int j=>Q (.bl (decide (i<j))) H
 | .ref a,.ref b=>rLtA a b H Q
 | _,_=>False
@[irreducible] noncomputable def rSlX(K:zcw1)(a:Addr)(lo hi:Option Int)(H:Hp)(Q:VK):Prop:=(∃ xs,SqL K H a xs/\∀ p H',H p=none->Same H H'->H' p=some (.lst (cutV xs lo hi))->Q (.ref p) H') ∨
 ∃ xs,SqT K H a xs/\¬ (HT.sIx xs.length 0 lo=0/\HT.sIx xs.length xs.length hi=xs.length)/\∀ p H',H p=none->Same H H'->H' p=some (.tup (cutV xs lo hi))->Q (.ref p) H'
noncomputable def rSlXM(K:zcw1):V->Option Int->Option Int->Hp->VK->Prop:=fun x lo hi H Q=>match x with
 | .ref a=>rSlX K a lo hi H Q
 | _=>False
theorem slX:SlR X (rSlXM X.K):=by
 intro pins s σ H x v vl vu lo hi sl Q I rx hs pl pu h
 unfold rSlXM at h
 split at h
 ·unfold rSlX at h
  rcases h with ⟨xs,h1,q⟩|⟨xs,h1,h2,q⟩
  ·exact zby4 pins s σ H _ v vl vu lo hi sl Q I rx hs pl pu ⟨_,xs,rfl,h1,fun p hp=>q p _ hp (Same.upd hp) zc0⟩
  ·exact sl_tup pins s σ H _ v vl vu lo hi sl Q I rx hs pl pu ⟨_,xs,rfl,h1,h2,fun p hp=>q p _ hp (Same.upd hp) zc0⟩
 ·exact h.elim
theorem oEqXK(hK:X.K=K)(hu:X.A.units+40<cLine):OpR X (compareOp .Eq) (zbu8 K):=by subst hK;exact oEqX hu
theorem oNeXK(hK:X.K=K)(hu:X.A.units+40<cLine):OpR X (compareOp .NotEq) (rNeXM K):=by subst hK;exact oNeX hu
theorem slXK(hK:X.K=K):SlR X (rSlXM K):=by subst hK;exact slX
end
set_option maxHeartbeats 2000000
set_option maxHeartbeats 4000000
set_option maxHeartbeats 2000000
section
variable {X:Cx}{K:zcw1}
end
section
variable {X:Cx}{K:zcw1}
end
set_option maxHeartbeats 4000000
section
variable {X:Cx}{K:zcw1}{H:Hp}{Q:VK}
theorem zbb9:∀ {rs:List Addr}{us:List Value},Vals (rs.map V.ref) us->us=rs.map Value.ref
 | [],us,h=>by cases h;rfl
 | r :: rs,us,h=>by
  cases h with
  | cons h1 h2=>
   have h1:_=Value.ref r:=h1
   rw[zcz9,← zbb9 h2,h1]
end
noncomputable abbrev Pb:=SetTable.Probe
noncomputable def advM(mask:Nat)(p:Pb):Pb:=
 if p.more>0 then { j:=p.j+1,more:=p.more - 1,i:=p.i,perturb:=p.perturb,dummy:=p.dummy }
 else { j:=(SetTable.leap mask p.i p.perturb).1,more:=SetTable.runEnd mask (SetTable.leap mask p.i p.perturb).1 - (SetTable.leap mask p.i p.perturb).1,i:=(SetTable.leap mask p.i p.perturb).1,perturb:=(SetTable.leap mask p.i p.perturb).2,dummy:=p.dummy }
noncomputable def runS(mask:Nat)(a:Nat×Nat):Pb:={ j:=a.1,more:=SetTable.runEnd mask a.1 - a.1,i:=a.1,perturb:=a.2,dummy:=none }
noncomputable def stp(mask:Nat)(h:Int):Nat->Pb
 | 0=>runS mask (SetTable.bits h % (mask+1),SetTable.bits h)
 | k+1=>advM mask (stp mask h k)
noncomputable def wk(mask:Nat)(h:Int)(k:Nat):Nat:=(stp mask h k).j
theorem zay8(mask:Nat)(h:Int):∀ k,(stp mask h k).dummy=none
 | 0=>rfl
 | k+1=>by
  show (advM mask (stp mask h k)).dummy=none
  unfold advM
  split<;>exact zay8 mask h k
noncomputable abbrev Msk(mask:Nat):Prop:=mask=7∨mask=31
theorem least{P:Nat->Prop}[DecidablePred P]:∀ {N:Nat},(∃ k,k<N/\P k)->∃ k,k<N/\P k/\∀ k',k'<k->¬ P k'
 | 0,h=>by obtain⟨k,hk,_⟩:=h;omega
 | N+1,h=>by
  by_cases e:∃ k,k<N/\P k
  ·obtain⟨k,hk,p,q⟩:=least e
   exact⟨k,by omega,p,q⟩
  ·obtain⟨k,hk,p⟩:=h
   have:k=N:=by
    by_cases z:k<N
    ·exact absurd ⟨k,z,p⟩ e
    ·omega
   subst this
   exact⟨k,hk,p,fun k' hk' p'=>e ⟨k',hk',p'⟩⟩
theorem zau7{xs:Array Nat}{j:Nat}(srt:xs.toList.Pairwise (· < ·)):∀ (fuel lo hi:Nat),lo<=hi->hi<=xs.size->hi - lo<=fuel->(∀ (i:Nat) x,i<lo->xs[i]?=some x->x<j)->(∀ (i:Nat) x,hi<=i->xs[i]?=some x->j<=x) ->
  (SetTable.below.go xs j fuel lo hi<=xs.size/\(∀ (i:Nat) x,i<SetTable.below.go xs j fuel lo hi->xs[i]?=some x->x<j)/\∀ (i:Nat) x,SetTable.below.go xs j fuel lo hi<=i->xs[i]?=some x->j<=x)
 | 0,lo,hi,h1,h2,h3,a,b=>by
  rw[SetTable.below.go.eq_1]
  have:lo=hi:=by omega
  subst this
  exact⟨h2,a,b⟩
 | fuel+1,lo,hi,h1,h2,h3,a,b=>by
  have mono:∀ {i k:Nat}{x y:Nat},i<k->xs[i]?=some x->xs[k]?=some y->x<y:=fun {i k x y} hik e1 e2=>by
   rw[← zcy8] at e1 e2
   obtain⟨l1,g1⟩:=zcw2.mp e1
   obtain⟨l2,g2⟩:=zcw2.mp e2
   have:=List.pairwise_iff_getElem.mp srt i k l1 l2 hik
   rw[g1,g2] at this
   exact this
  rw[SetTable.below.go.eq_2]
  by_cases c:lo<hi
  ·rw[if_pos c]
   have hm:(lo+hi) / 2<xs.size:=by omega
   have em:xs[(lo+hi) / 2]?=some xs[(lo+hi) / 2]:=Array.getElem?_eq_getElem hm
   have eg:xs.getD ((lo+hi) / 2) j=xs[(lo+hi) / 2]:=by rw[Array.getD_eq_getD_getElem?,em];rfl
   show _/\_
   by_cases d:xs.getD ((lo+hi) / 2) j<j
   ·rw[if_pos d]
    rw[eg] at d
    refine zau7 srt fuel _ hi (by omega) h2 (by omega) (fun i x hi' e=>?_) b
    by_cases z:i=(lo+hi) / 2
    ·subst z;rw[em] at e;cases e;exact d
    ·exact Nat.lt_trans (mono (by omega) e em) d
   ·rw[if_neg d]
    rw[eg] at d
    refine zau7 srt fuel lo _ (by omega) (by omega) (by omega) a (fun i x hi' e=>?_)
    by_cases z:i=(lo+hi) / 2
    ·subst z;rw[em] at e;cases e;omega
    ·have:=mono (show (lo+hi) / 2<i by omega) em e
     omega
  ·rw[if_neg c]
   have:lo=hi:=by omega
   subst this
   exact⟨h2,a,b⟩
theorem zcc7{xs:Array Nat}(srt:xs.toList.Pairwise (· < ·))(j:Nat):SetTable.below xs j<=xs.size/\(∀ (i:Nat) x,i<SetTable.below xs j->xs[i]?=some x->x<j)/\∀ (i:Nat) x,SetTable.below xs j<=i->xs[i]?=some x->j<=x:=
 zau7 srt _ 0 xs.size (zcz6 _) (zcw4 _) (by omega) (fun i x h=>by omega) (fun i x h e=>by
  have:=(Array.getElem?_eq_some_iff.mp e).1
  omega)
theorem zab8{xs:Array Nat}(srt:xs.toList.Pairwise (· < ·)){j:Nat}(e:xs[i]?=some j):SetTable.below xs j=i:=by
 obtain⟨a,b,c⟩:=zcc7 srt j
 by_cases h1:i<SetTable.below xs j
 ·have:=b i j h1 e;omega
 ·by_cases h2:SetTable.below xs j<i
  ·have hs:SetTable.below xs j<xs.size:=by have:=(Array.getElem?_eq_some_iff.mp e).1;omega
   have er:xs[SetTable.below xs j]?=some xs[SetTable.below xs j]:=Array.getElem?_eq_getElem hs
   have:=c _ _ (zcw4 _) er
   rw[← zcy8] at e er
   obtain⟨l1,g1⟩:=zcw2.mp e
   obtain⟨l2,g2⟩:=zcw2.mp er
   have:=List.pairwise_iff_getElem.mp srt _ _ l2 l1 h2
   rw[g1,g2] at this
   omega
  ·omega
theorem zcj1(j:Nat):SetTable.has #[] j=false:=rfl
theorem zan0{t:SetTable}(srt:t.place.toList.Pairwise (· < ·)){j:Nat}(e:t.place[i]?=some j):t.slot j=.live i:=by
 unfold SetTable.slot
 show (if (t.place[SetTable.below t.place j]?==some j)=true then _ else _)=_
 rw[zab8 srt e,e,if_pos (beq_self_eq_true _)]
theorem zbq6{t:SetTable}(dum:t.dummies=#[]){j:Nat}(e:j ∉ t.place.toList):t.slot j=.empty:=by
 unfold SetTable.slot
 show (if (t.place[SetTable.below t.place j]?==some j)=true then _ else if SetTable.has t.dummies j=true then _ else _)=_
 have:¬ (t.place[SetTable.below t.place j]?==some j)=true:=fun h=>by
  have h:=eq_of_beq h
  rw[← zcy8] at h
  exact e (zcw6 h)
 rw[if_neg this,dum,zcj1,if_neg zcx1]
structure TOk(t:SetTable)(hs:List Int):Prop where
 msk:Msk t.mask
 dum:t.dummies=#[]
 len:t.place.toList.length=hs.length
 srt:t.place.toList.Pairwise (· < ·)
 bnd:∀ j∈t.place.toList,j<=t.mask
 rch:∀ (i:Nat) h,hs[i]?=some h->∃ k,t.place.toList[i]?=some (wk t.mask h k)/\∀ k',k'<k->wk t.mask h k'∈t.place.toList
theorem zbj4{t:SetTable}{hs:List Int}(T:TOk t hs){hashAt:Nat->Int}{h:Int}{k0:Nat}(free:wk t.mask h k0 ∉ t.place.toList)(full:∀ k',k'<k0->wk t.mask h k'∈t.place.toList):∀ (fuel k:Nat),k<=k0->k0 - k<fuel ->
  (∃ k1 i,k<=k1/\k1<k0/\t.place.toList[i]?=some (wk t.mask h k1)/\hashAt i=h/\SetTable.probe.go t hashAt h fuel (stp t.mask h k)=some (.candidate (wk t.mask h k1) i (stp t.mask h (k1+1)))/\∀ k',k<=k'->k'<k1->∀ i',t.place.toList[i']?=some (wk t.mask h k')->hashAt i'≠h) ∨
  (SetTable.probe.go t hashAt h fuel (stp t.mask h k)=some (.empty (wk t.mask h k0) none)/\∀ k',k<=k'->k'<k0->∀ i',t.place.toList[i']?=some (wk t.mask h k')->hashAt i'≠h)
 | 0,k,h1,h2=>by omega
 | fuel+1,k,h1,h2=>by
  rw[SetTable.probe.go.eq_2]
  by_cases e:k=k0
  ·subst e
   right
   rw[show t.slot (stp t.mask h k).j=.empty from zbq6 T.dum free]
   refine⟨?_,fun k' a b=>by omega⟩
   show some (SetTable.Met.empty (wk t.mask h k) (stp t.mask h k).dummy)=_
   rw[zay8]
  ·obtain⟨i,ei⟩:=zcy5 (full k (by omega))
   have ei':t.place[i]?=some (wk t.mask h k):=by rw[← zcy8];exact ei
   rw[show t.slot (stp t.mask h k).j=.live i from zan0 T.srt ei']
   show (∃ k1 i1,_/\_/\_/\_/\(if (hashAt i==h)=true then some (SetTable.Met.candidate (wk t.mask h k) i (stp t.mask h (k+1))) else SetTable.probe.go t hashAt h fuel (stp t.mask h (k+1)))=_/\_)∨((if (hashAt i==h)=true then some (SetTable.Met.candidate (wk t.mask h k) i (stp t.mask h (k+1))) else SetTable.probe.go t hashAt h fuel (stp t.mask h (k+1)))=_/\_)
   by_cases c:hashAt i=h
   ·left
    exact⟨k,i,zcw4 _,by omega,ei,c,by rw[if_pos (by rw[c];exact beq_self_eq_true _)],fun k' a b=>by omega⟩
   ·have nc:¬ (hashAt i==h)=true:=fun z=>c (eq_of_beq z)
    rw[if_neg nc]
    have here:∀ i',t.place.toList[i']?=some (wk t.mask h k)->hashAt i'≠h:=fun i' e'=>by
     have:i'=i:=by
      have b1:=zab8 T.srt (i:=i') (j:=wk t.mask h k) (by rw[← zcy8];exact e')
      have b2:=zab8 T.srt ei'
      omega
     rw[this];exact c
    rcases zbj4 T free full fuel (k+1) (by omega) (by omega) with ⟨k1,i1,a1,a2,a3,a4,a5,a6⟩|⟨a1,a2⟩
    ·left
     refine⟨k1,i1,by omega,a2,a3,a4,a5,fun k' b1 b2 i' e'=>?_⟩
     by_cases z:k'=k
     ·subst z;exact here i' e'
     ·exact a6 k' (by omega) b2 i' e'
    ·right
     refine⟨a1,fun k' b1 b2 i' e'=>?_⟩
     by_cases z:k'=k
     ·subst z;exact here i' e'
     ·exact a2 k' (by omega) b2 i' e'
theorem TOk.of{t t2:SetTable}{hs:List Int}(T:TOk t hs)(e1:t2.mask=t.mask)(e2:t2.place=t.place)(e3:t2.dummies=t.dummies):TOk t2 hs:=
 ⟨by rw[e1];exact T.msk,by rw[e3];exact T.dum,by rw[e2];exact T.len,by rw[e2];exact T.srt,by rw[e1,e2];exact T.bnd,by rw[e1,e2];exact T.rch⟩
section
variable {prog:Program}{w:World}{A:Around}{E:Value->Shared->Prop}{s:Shared}
theorem zab7{M:Model}{α β:Type}(f:α->β->Sem (ForInStep β))(I:List α->β->Shared->Prop)(Q:β->Shared->Prop)(hs:∀ (x:α) (rest:List α) (b:β) (s:Shared),I (x :: rest) b s->wpAny M A (f x b) (fun r s'=>match r with|ForInStep.yield b'=>I rest b' s' | ForInStep.done b'=>Q b' s') E s)(hd:∀ (b:β) (s:Shared),I [] b s->Q b s):∀ (xs:List α) (b:β) (s:Shared),I xs b s->wpAny M A (forIn xs b f) Q E s
 | [],b,s,h=>by rw[List.forIn_nil];exact zdf8 (hd b s h)
 | x :: xs,b,s,h=>by
  rw[zdd9]
  refine zdf7 ?_
  have:=hs x xs b s h
  revert this
  generalize f x b=m
  intro this
  refine wpAny_mono this (fun r s' hr=>?_) (fun _ _ h=>h)
  cases r with
  | done b'=>exact zdf8 hr
  | yield b'=>exact zab7 f I Q hs hd xs b' s' hr
theorem zbs2{ks:List Int}{vs:List Value}(h:PySem.ItemsAre (intKind prog w) ks vs):∀ v∈vs,carriedByValue v=true:=by
 induction h with
 | nil=>intro v hv;cases hv
 | cons h1 h2 ih=>
  intro v hv
  rcases zcx2.mp hv with rfl|hv
  ·exact (intKind prog w).byValue _ _ h1
  ·exact ih v hv
theorem noref{v:Value}(h:carriedByValue v=true):∀ a,v=Value.ref a->False:=fun a e=>by subst e;cases h
theorem zbt3{k:List Int}{p:Addr}{Q:Bool->Shared->Prop}(h:IsTupleKey (intKind prog w) s.heap k p)(q:Q false s):wpAny (model prog w) A (ofAClassStatement 8 (.ref p)) Q E s:=by
 show wpAny (model prog w) A (ofAClassStatement (7+1) (.ref p)) Q E s
 rw[ofAClassStatement.eq_2]
 refine zdf7 (wpAny_typeOf h.typeIs ?_)
 obtain⟨o,items,n,ho,hc,hd,hi⟩:=h
 show wpAny (model prog w) A (if ("tuple"=="tuple")=true then _ else _) Q E s
 refine wpAny_ite_true rfl ?_
 refine zdf7 (zdf8 ?_)
 refine zdg0 rfl ?_
 refine zdf7 (wpAny_seqItems ho hd ?_)
 refine zdf7 ?_
 refine wpAny_forIn_array' _ (fun rest b s'=>s'=s/\b=(none,())/\∀ v∈rest,carriedByValue v=true) _ ?_ ?_ items _ ⟨rfl,rfl,zbs2 hi⟩
 ·rintro x rest b s' ⟨rfl,rfl,hv⟩
  rw[ofAClassStatement.eq_3 _ _ (noref (hv x (.head _)))]
  refine zdf7 (zdf8 ?_)
  refine zdg0 rfl (zdf8 ?_)
  exact⟨rfl,rfl,fun v h=>hv v (.tail _ h)⟩
 ·rintro b s' ⟨rfl,rfl,_⟩
  exact zdf8 q
theorem zcn0{k:List Int}{q:Addr}{Q:Bool->Shared->Prop}(hk:IsTupleKey (intKind prog w) s.heap k q){vs:List Value}(hv:∀ v∈vs,∃ p k',v=.ref p/\IsTupleKey (intKind prog w) s.heap k' p)(hQ:Q false s):wpAny (model prog w) A (searchCouldBeSeen (.ref q) vs) Q E s:=by
 unfold searchCouldBeSeen
 refine zdf7 ?_
 refine zab7 _ (fun rest b s'=>s'=s/\b=(none,())/\∀ v∈rest,∃ p k',v=.ref p/\IsTupleKey (intKind prog w) s.heap k' p) _ ?_ ?_ vs _ _ ⟨rfl,rfl,hv⟩
 ·rintro x rest b s' ⟨rfl,rfl,hv⟩
  obtain⟨p,k',rfl,hp⟩:=hv x (.head _)
  have hr:∀ v∈rest,∃ p k',v=.ref p/\IsTupleKey (intKind prog w) s'.heap k' p:=fun v h=>hv v (.tail _ h)
  show wpAny (model prog w) A (if ((q==p) || carriedByValue (Value.ref q)&&carriedByValue (Value.ref p))=true then _ else _) _ E s'
  by_cases c:((q==p) || carriedByValue (Value.ref q)&&carriedByValue (Value.ref p))=true
  ·rw[if_pos c]
   exact zdf8 ⟨rfl,rfl,hr⟩
  ·rw[if_neg c]
   refine zdf7 (wpAny_eqIsQuiet_tuple hk ?_)
   refine zdg0 rfl ?_
   refine zdf7 (wpAny_eqIsQuiet_tuple hp ?_)
   refine zdg0 rfl ?_
   refine zdf7 (zbt3 hk ?_)
   refine zdg0 rfl ?_
   refine zdf7 (zbt3 hp ?_)
   refine zdg0 rfl ?_
   exact zdf8 ⟨rfl,rfl,hr⟩
 ·rintro b s' ⟨rfl,rfl,_⟩
  exact zdf8 hQ
structure SetE(prog:Program)(w:World)(h:Heap)(a:Addr)(o:Obj)(es:Array (Int×Value))(ep:Nat)(t:SetTable)(keys:List (List Int)):Prop where
 at_:h.get? a=some o
 ex:o.ExactSet
 dat:o.data=Data.set es ep t
 tab:TOk t (es.toList.map (·.1))
 few:es.size*5<t.mask*3
 sz:es.size=keys.length
 el:∀ e∈es.toList,∃ p k,k∈keys/\e=(zdg1 (intKind prog w) k,.ref p)/\IsTupleKey (intKind prog w) h k p
 all:∀ k∈keys,∃ e∈es.toList,∃ p,e=(zdg1 (intKind prog w) k,.ref p)/\IsTupleKey (intKind prog w) h k p
theorem SetE.mask{h:Heap}{a:Addr}{o:Obj}{es:Array (Int×Value)}{ep:Nat}{t:SetTable}{keys:List (List Int)}(S:SetE prog w h a o es ep t keys):Msk t.mask:=S.tab.msk
theorem TOk.fits{t:SetTable}{es:Array (Int×Value)}(T:TOk t (es.toList.map (·.1)))(few:es.size<=t.mask):t.fits es.size=true:=by
 have l:=T.len
 rw[zcw0,zda1,zda1] at l
 unfold SetTable.fits SetTable.fill
 rw[T.dum,l]
 simp
 exact few
theorem SetE.fits{h:Heap}{a:Addr}{o:Obj}{es:Array (Int×Value)}{ep:Nat}{t:SetTable}{keys:List (List Int)}(S:SetE prog w h a o es ep t keys):t.fits es.size=true:=S.tab.fits (by have:=S.few;omega)
theorem SetE.gave{a:Addr}{t:SetTable}{keys:List (List Int)}(S:SetE prog w h a o es ep t keys):t.gaveWay=false:=by
 unfold SetTable.gaveWay
 rcases S.mask with e|e<;>rw[e]<;>rfl
theorem zbj8(p:Addr):isSame (.ref p) (.ref p)=pure true:=by
 show (if (p==p)=true then pure true else _)=_
 rw[if_pos (beq_self_eq_true p)]
theorem zbj7(t:SetTable):t.sameMemory t.moves t.mask=some true:=by
 unfold SetTable.sameMemory
 rw[if_pos (beq_self_eq_true _)]
theorem zcg8{a:Addr}{o:Obj}{es:Array (Int×Value)}{ep:Nat}{t:SetTable}{keys:List (List Int)}(S:SetE prog w s.heap a o es ep t keys)(hA:A.units<cLine){k:List Int}{q:Addr}(hk:IsTupleKey (intKind prog w) s.heap k q){k0:Nat}(free:wk t.mask (zdg1 (intKind prog w) k) k0 ∉ t.place.toList)(full:∀ k',k'<k0->wk t.mask (zdg1 (intKind prog w) k) k'∈t.place.toList)(hk0:k0<10*(t.mask+14)){Q:SetFound->Shared->Prop}(q1:k∈keys->Q (.there none) s)(q2:k ∉ keys->Q (.free (wk t.mask (zdg1 (intKind prog w) k) k0) false) s) :
  ∀ (fuel n:Nat) (stand:Option SetTable.Probe),n<=k0->k0 - n<fuel->stand.getD (t.probeStart (zdg1 (intKind prog w) k))=stp t.mask (zdg1 (intKind prog w) k) n->(∀ k',k'<n->∀ (i:Nat) p,t.place.toList[i]?=some (wk t.mask (zdg1 (intKind prog w) k) k')->es.toList[i]?=some (zdg1 (intKind prog w) k,.ref p)->¬ IsTupleKey (intKind prog w) s.heap k p)->wpAny (model prog w) A (setSearchFrom a (.ref q) (zdg1 (intKind prog w) k) true fuel stand) Q E s
 | 0,n,stand,h1,h2,h3,h4=>by omega
 | fuel+1,n,stand,h1,h2,h3,h4=>by
  rw[setSearchFrom.eq_2]
  refine zdf7 (wpAny_setState_of S.at_ S.dat S.fits ?_)
  show wpAny (model prog w) A (if t.gaveWay=true then _ else _) Q E s
  rw[S.gave]
  refine zdg0 rfl ?_
  rw[h3]
  have hl:=S.tab.len
  rw[zcw0] at hl
  rcases zbj4 S.tab (hashAt:=fun i=>(Option.map (fun x=>x.fst) es[i]?).getD 0) free full (10*(t.mask+15)) n h1 (by omega) with ⟨k1,i,b1,b2,b3,b4,b5,b6⟩|⟨b1,b2⟩
  ·have b5:t.probe (fun i=>(Option.map (fun x=>x.fst) es[i]?).getD 0) (zdg1 (intKind prog w) k) (stp t.mask (zdg1 (intKind prog w) k) n)=_:=b5
   show wpAny (model prog w) A (match t.probe (fun i=>(Option.map (fun x=>x.fst) es[i]?).getD 0) (zdg1 (intKind prog w) k) (stp t.mask (zdg1 (intKind prog w) k) n) with|some met=>_|_=>_) Q E s
   rw[b5]
   have hi:i<es.size:=by
    have:=(zcw2.mp b3).1
    rw[hl,zda1] at this
    exact this
   have ei:es[i]?=some es[i]:=Array.getElem?_eq_getElem hi
   have em:es[i]∈es.toList:=by rw[zde8];exact Array.getElem_mem hi
   obtain⟨p,k',hk',eq,hp⟩:=S.el _ em
   rw[eq] at ei em
   have hh:zdg1 (intKind prog w) k'=zdg1 (intKind prog w) k:=by
    rw[ei] at b4
    exact b4
   have inv:¬ k'=k->∀ k'',k''<k1+1->∀ (i':Nat) p',t.place.toList[i']?=some (wk t.mask (zdg1 (intKind prog w) k) k'')->es.toList[i']?=some (zdg1 (intKind prog w) k,.ref p')->¬ IsTupleKey (intKind prog w) s.heap k p':=fun ne k'' hk'' i' p' e1 e2 hp'=>by
    by_cases c1:k''<n
    ·exact h4 k'' c1 i' p' e1 e2 hp'
    ·by_cases c2:k''<k1
     ·have:=b6 k'' (by omega) c2 i' e1
      rw[← zcy8,e2] at this
      exact this rfl
     ·have:k''=k1:=by omega
      subst this
      have x1:=zab8 S.tab.srt (i:=i') (by rw[← zcy8];exact e1)
      have x2:=zab8 S.tab.srt (i:=i) (by rw[← zcy8];exact b3)
      have:i'=i:=by omega
      subst this
      rw[zcy8,ei] at e2
      have:=(Prod.mk.inj (Option.some.inj e2)).2
      cases this
      exact ne (IsTupleKey.inj hp hp')
   refine wpAny_ite ?_
   split
   ·refine zdf7 (zcn0 hk (fun v hv=>?_) ?_)
    ·obtain⟨z,hz,rfl⟩:=zcz7.mp hv
     obtain⟨hz,_⟩:=Array.mem_filter.mp (zde8.mp hz)
     obtain⟨p2,k2,_,e2,h2⟩:=S.el z (zde8.mpr hz)
     exact⟨p2,k2,by rw[e2],h2⟩
    refine zdg0 rfl ?_
    rw[ei]
    refine zdf7 (zdg2 (wpAny_eqBool_tuple hA hp hk ?_))
    refine zdf7 (wpAny_setState_of S.at_ S.dat S.fits ?_)
    by_cases e:k'=k
    ·rw[decide_eq_true e]
     exact wpAny_ite_true rfl (zdf8 (q1 (e▸hk')))
    ·rw[decide_eq_false e]
     refine zdg0 rfl ?_
     rw[zbj7]
     show wpAny (model prog w) A (match t.slot (wk t.mask (zdg1 (intKind prog w) k) k1) with|SetTable.Slot.live i'=>_|x=>_) Q E s
     rw[zan0 S.tab.srt (i:=i) (by rw[← zcy8];exact b3)]
     show wpAny (model prog w) A (match es[i]? with|some (fst,y')=>_|none=>_) Q E s
     rw[ei]
     refine zdf7 (wpAny_of_eq (zbj8 p) ?_)
     refine zdf7 (zdf8 ?_)
     refine zdg0 rfl ?_
     exact zcg8 S hA hk free full hk0 q1 q2 fuel (k1+1) (some _) (by omega) (by omega) rfl (inv e)
   ·rw[ei]
    refine zdf7 (zdg2 (wpAny_eqBool_tuple hA hp hk ?_))
    refine zdf7 (wpAny_setState_of S.at_ S.dat S.fits ?_)
    by_cases e:k'=k
    ·rw[decide_eq_true e]
     exact wpAny_ite_true rfl (zdf8 (q1 (e▸hk')))
    ·rw[decide_eq_false e]
     refine zdg0 rfl ?_
     rw[zbj7]
     show wpAny (model prog w) A (match t.slot (wk t.mask (zdg1 (intKind prog w) k) k1) with|SetTable.Slot.live i'=>_|x=>_) Q E s
     rw[zan0 S.tab.srt (i:=i) (by rw[← zcy8];exact b3)]
     show wpAny (model prog w) A (match es[i]? with|some (fst,y')=>_|none=>_) Q E s
     rw[ei]
     refine zdf7 (wpAny_of_eq (zbj8 p) ?_)
     refine zdf7 (zdf8 ?_)
     refine zdg0 rfl ?_
     exact zcg8 S hA hk free full hk0 q1 q2 fuel (k1+1) (some _) (by omega) (by omega) rfl (inv e)
  ·have b1:t.probe (fun i=>(Option.map (fun x=>x.fst) es[i]?).getD 0) (zdg1 (intKind prog w) k) (stp t.mask (zdg1 (intKind prog w) k) n)=_:=b1
   show wpAny (model prog w) A (match t.probe (fun i=>(Option.map (fun x=>x.fst) es[i]?).getD 0) (zdg1 (intKind prog w) k) (stp t.mask (zdg1 (intKind prog w) k) n) with|some met=>_|_=>_) Q E s
   rw[b1]
   refine zdf8 (q2 fun hin=>?_)
   obtain⟨e,he,p,rfl,hp⟩:=S.all k hin
   obtain⟨i,ei⟩:=zcy5 he
   obtain⟨kx,r1,r2⟩:=S.tab.rch i (zdg1 (intKind prog w) k) (by rw[zcw3,ei];rfl)
   have lt:kx<k0:=by
    by_cases z:kx<k0
    ·exact z
    ·exfalso
     by_cases z2:kx=k0
     ·subst z2
      exact free (zcw6 r1)
     ·exact free (r2 k0 (by omega))
   by_cases c:kx<n
   ·exact h4 kx c i p r1 ei hp
   ·have:=b2 kx (by omega) lt i r1
    rw[← zcy8,ei] at this
    exact this rfl
end
section
variable {prog:Program}{w:World}{A:Around}{E:Value->Shared->Prop}{s:Shared}
theorem zbt8{k:List Int}{p:Addr}(hk:IsTupleKey (intKind prog w) h k p)(m:∀ o,h.get? p=some o->h'.get? p=some o):IsTupleKey (intKind prog w) h' k p:=by
 obtain⟨o,i,n,g,c,d,x⟩:=hk
 exact⟨o,i,n,m o g,c,d,x⟩
theorem SetE.mono{a:Addr}{t:SetTable}{keys:List (List Int)}(S:SetE prog w h a o es ep t keys)(m:∀ b o,h.get? b=some o->h'.get? b=some o):SetE prog w h' a o es ep t keys:=
 ⟨m _ _ S.at_,S.ex,S.dat,S.tab,S.few,S.sz,fun e he=>by obtain⟨p,k,h1,h2,h3⟩:=S.el e he;exact⟨p,k,h1,h2,zbt8 h3 fun o g=>m _ o g⟩,fun k hk=>by obtain⟨e,he,p,h2,h3⟩:=S.all k hk;exact⟨e,he,p,h2,zbt8 h3 fun o g=>m _ o g⟩⟩
end
set_option maxHeartbeats 2000000
section
variable {X:Cx}{K:zcw1}
end
section
variable {X:Cx}{K:zcw1}
noncomputable def Its(x:Str):It:=⟨fun i _=>i<x.cps.size,fun i H v H'=>H'=H/\∃ c,x.cps[i]?=some c/\v=.str ⟨#[c]⟩,fun i _=>x.cps.size<=i⟩
theorem Wk.str{x:Str}{H1:Hp}:Wk (Its x) x.cps.size H1 fun i v _=>∃ c,x.cps[i]?=some c/\v=.str ⟨#[c]⟩:=
 ⟨fun i H s hi=>hi,fun H s=>zcw4 _,fun i H v H' s _ y=>by
  obtain⟨e,y⟩:=y
  subst e
  exact⟨Same.refl _,y⟩⟩
end
section
variable {X:Cx}{K:zcw1}
end
set_option maxHeartbeats 4000000
open PySem.Calls PySem.NumText
set_option maxHeartbeats 2000000
set_option maxHeartbeats 4000000
set_option maxHeartbeats 1000000
set_option maxHeartbeats 2000000
theorem zk5.there{P:Program}{w:World}{a:Addr}{o:HO}(x:zk5 P w H h a o):∃ u,h.get? a=some u:=by
 cases o with
 | lst xs=>obtain⟨_,_,_,_,e⟩:=x;exact⟨_,e⟩
 | tup xs=>obtain⟨_,_,_,o,e,_⟩:=x;exact⟨_,e⟩
 | dK kvs=>obtain⟨_,_,_,_,o,_,_,e,_⟩:=x;exact⟨_,e⟩
 | dT kvs=>obtain⟨_,_,_,_,o,_,_,e,_⟩:=x;exact⟨_,e⟩
 | set S n=>obtain⟨o,_,_,_,e,_⟩:=x;exact⟨_,e⟩
 | ins C dx fs=>obtain⟨_,_,_,e,_⟩:=x;exact⟨_,e⟩
 | own y=>obtain⟨_,e⟩:=x;exact⟨_,e⟩
 | xd fs=>obtain⟨_,⟨_,_,_,e,_⟩,_⟩:=x;exact⟨_,e⟩
 | rng lo hi=>obtain⟨_,_,_,e⟩:=x;exact⟨_,e⟩
 | frz ob u=>obtain⟨e,_⟩:=x;exact⟨_,e⟩
 | tbl ps=>exact⟨_,show h.get? a=some _ from x⟩
 | met f y=>exact⟨_,show h.get? a=some _ from x⟩
 | ext φ=>obtain⟨_,⟨_,e⟩,_⟩:=x;exact⟨_,e⟩
noncomputable def zr2(T:Addr)(ln co:Nat)(qual:Str)(H:Hp):Prop:=∃ tab,H T=some (.tbl tab) /\
 (tab=#[]∨∃ c oc vs t,tab=#[rawInt ln,rawInt co,.ref c]/\H c=some (.frz oc (.own c))/\oc.data=.fields vs/\vs[1]?=some (.str qual t))
theorem zr2.same{ln co:Nat}(x:zr2 T ln co qual H)(s:Same H H'):zr2 T ln co qual H':=by
 obtain⟨tab,e,r⟩:=x
 refine⟨tab,s _ _ e,?_⟩
 rcases r with r|⟨c,oc,vs,t,e1,e2,r⟩
 ·exact .inl r
 ·exact .inr ⟨c,oc,vs,t,e1,s _ _ e2,r⟩
theorem zr2.chg{a:Addr}{ln co:Nat}(x:zr2 T ln co qual H)(ha:H a=some (.lst xs))(s:Chg a H H'):zr2 T ln co qual H':=by
 obtain⟨tab,e,r⟩:=x
 refine⟨tab,s _ _ (fun z=>by rw[z,ha] at e;cases e) e,?_⟩
 rcases r with r|⟨c,oc,vs,t,e1,e2,r⟩
 ·exact .inl r
 ·exact .inr ⟨c,oc,vs,t,e1,s _ _ (fun z=>by rw[z,ha] at e2;cases e2) e2,r⟩
noncomputable def Bm(mg:Str->Option Value)(base:Heap):Prop:=∃ bm ob,mg "__builtins__"=some (.ref bm)/\bm≠builtinsNs/\base.get? bm=some ob/\ob.cls=.type "module"/\ob.dict=some builtinsNs/\ob.data=.plain
section
variable {X:Cx}{K:zcw1}{pins:List (Addr×Obj)}{σ:St}{H:Hp}{s:Shared}
theorem Inv.tab{T c':Addr}{tab more:Array Value}{oc:Obj}{h':Heap}{tk:Nat}(I:Inv X pins σ H s)(hT:H T=some (.tbl tab))(hx:Heap.ExtBut T s.heap h')(hge:s.heap.objs.size<=c')(hc:h'.get? c'=some oc)(ht:h'.get? T=some (PySem.W.tabObj (tab++more))):Inv X pins σ (upd (upd H T (.tbl (tab++more))) c' (.frz oc (.own c'))) { s with heap:=h',toks:=tk }:=by
 have fc:H c'=none:=I.hok.fresh hge
 have nT:c'≠T:=fun z=>by rw[z,hT] at fc;cases fc
 have at1:∀ b o,b≠T->H b=some o->upd (upd H T (.tbl (tab++more))) c' (.frz oc (.own c')) b=some o:=fun b o n e=>by rw[zb9 (za4 e fc),zb9 n];exact e
 have at0:∀ b o,s.heap.get? b=some o->H b=none->upd (upd H T (.tbl (tab++more))) c' (.frz oc (.own c')) b=none:=fun b o e n=>by
  rw[zb9 (zcy4 (zcx5 (zcx3 e) hge)),zb9 (fun z=>by rw[z,hT] at n;cases n)];exact n
 have kp:∀ b o,s.heap.get? b=some o->H b=none->h'.get? b=some o:=fun b o e n=>hx b o (fun z=>by rw[z,hT] at n;cases n) e
 refine I.un ⟨fun b o e n _ _=>kp b o e n,fun b o e n _ _=>⟨o.slots,kp b o e n⟩,fun b o e n _=>at0 b o e n,fun b o e _=>?_,fun b xs e=>at1 b _ (fun z=>by rw[z,hT] at e;cases e) e,fun b o u e=>at1 b _ (fun z=>by rw[z,hT] at e;cases e) e,fun b ps e=>?_⟩ fun b u e=>?_
 ·by_cases z:b=T
  ·exact⟨_,z▸ht⟩
  ·exact⟨o,hx b o z e⟩
 ·by_cases z:b=T
  ·subst z
   rw[hT] at e;cases e
   exact⟨more,by rw[zb9 nT.symm,zc0]⟩
  ·exact⟨#[],by rw[Array.append_empty];exact at1 b _ z e⟩
 ·by_cases z:b=c'
  ·subst z
   rw[zc0] at e;cases e
   exact⟨hc,oc,hc⟩
  ·rw[zb9 z] at e
   by_cases z2:b=T
   ·subst z2
    rw[zc0] at e;cases e
    exact ht
   ·rw[zb9 z2] at e
    refine (I.hok b u e).stay (fun d v hd q=>hx d v (fun z3=>?_) q) (fun d q=>at1 d _ (fun z3=>by rw[z3,hT] at q;cases q) q) fun d xs q=>at1 d _ (fun z3=>by rw[z3,hT] at q;cases q) q
    rcases hd with hd|hd
    ·exact z2 (hd.symm.trans z3)
    ·rw[z3,hT] at hd;cases hd
end
theorem zbr9{P:Program}{w:World}{K:zcw1}{mg mb:Str->Option Value}{CX:CXT}{k:Nat}{fa a c:Addr}{fd:FuncData}{x:Str}{s₁:Shared}{vs:List Value}{ns:List Int}(KX:K.In s₁.heap)(hnt:PySem.W.noTabs K=true)(hns:s₁.heap.Ns zdg3 mg)(hb:s₁.heap.Ns builtinsNs mb)(hbb:∀ x:Str,x≠"__name__"->mb x=bootBuiltins x)(hlim:s₁.heap.NoLimit)(hg:s₁.gens=#[])(hC:PySem.W.CodeHd s₁.heap c T)(hT:s₁.heap.get? T=some (PySem.W.tabObj #[]))(hB:Bm mg s₁.heap)(ha:s₁.heap.get? a=some { cls:=.type "list",data:=.seq vs.toArray })(hi:IntsAre vs ns)(hl:ns.length<=sizeLine)(hr:Room k callerA)(F:∀ base:Heap,K.In base->base.Ns zdg3 mg->PySem.W.CodeHd base c T->Bm mg base->FnOk P w K mg base CX k fa fd [x] sp)(hbind:∀ (s:Shared) (u:Value),BindsTo s fd ⟨[u],[]⟩ [(x,u)])(hsp:∀ H:Hp,H T=some (.tbl #[])->SqL K H a (ns.map V.int)->sp [.ref a] H (fun v _=>v=.bl true) fun _ _ _=>False)(hCX:∀ H e s',CX [] H s₁ (fun _ _ _=>False) e s'->False) :
  codeAny (model P w) callerA (.call (.ref fa) ⟨[.ref a],[]⟩) (fun r s'=>r=.ok (.ret (.bool true))/\OldK s₁.heap s'.heap/\s'.os=s₁.os/\AllBare s'.gens) s₁:=by
 have rv:=zam1 hi
 have lenV:=hi.length
 have hKT:K.lookup T=none:=by
  cases e:K.lookup T with
  | none=>rfl
  | some o=>
   have e1:=KX T o e
   rw[hT] at e1;cases e1
   have h2:=zdd4.mp hnt _ (PySem.W.mem_of_lookupK e)
   exact absurd (show false=true from h2) zcx1
 have haT:a≠T:=fun z=>by rw[z,hT] at ha;cases ha
 have core:∀ H:Hp,H T=some (.tbl #[])->(∀ b,b=T∨H b=none∨∃ o xs,H b=some (.frz o (.lst xs)))->SqL K H a (ns.map V.int)->HOk P w H s₁.heap->(∀ b,H b≠none->b=a∨b=T)->(H a≠none->K.lookup a=none) ->
   codeAny (model P w) callerA (.call (.ref fa) ⟨[.ref a],[]⟩) (fun r s'=>r=.ok (.ret (.bool true))/\OldK s₁.heap s'.heap/\s'.os=s₁.os/\AllBare s'.gens) s₁:=by
  intro H hHT hO hS hok hA hK
  have base_of:∀ {b:Addr}{o:Obj},s₁.heap.get? b=some o->H b=none->(hidT s₁.heap H).get? b=some o:=fun e n=>zca4 e n
  have noF:∀ {b:Addr}{o:Obj},s₁.heap.get? b=some o->(∀ xs n,o.data≠.seq xs n)->o≠PySem.W.tabObj #[]->H b=none:=fun {b o} e d1 d2=>by
   cases q:H b with
   | none=>rfl
   | some u=>
    rcases hA b (by rw[q];simp) with e' | e'
    ·subst e'
     rw[ha] at e;cases e
     exact absurd rfl (d1 _ _)
    ·subst e'
     rw[hT] at e;cases e
     exact absurd rfl d2
  have nsK:∀ {b:Addr}{m:Str->Option Value},s₁.heap.Ns b m->(hidT s₁.heap H).Ns b m:=fun {b m} ⟨o,es,ep,e,d,r⟩=>⟨o,es,ep,base_of e (noF e (fun _ _ z=>by rw[d] at z;cases z) (fun z=>by rw[z] at d;cases d)),d,r⟩
  have hKb:K.In (hidT s₁.heap H):=fun b o e=>base_of (KX b o e) (by
   cases q:H b with
   | none=>rfl
   | some u=>
    rcases hA b (by rw[q];simp) with e' | e'
    ·subst e'
     rw[hK (by rw[q];simp)] at e;cases e
    ·subst e'
     rw[hKT] at e;cases e)
  have hM:Mod K mg (hidT s₁.heap H):=⟨hKb,nsK hns,⟨mb,nsK hb,hbb⟩,let ⟨mc,h1,h2⟩:=hlim;⟨mc,nsK h1,h2⟩⟩
  have hCb:PySem.W.CodeHd (hidT s₁.heap H) c T:=by
   obtain⟨o,vs,file,tf,flags,tg,inF,text,tt,e1,r1,r2,r⟩:=hC
   exact⟨o,vs,file,tf,flags,tg,inF,text,tt,base_of e1 (noF e1 (fun _ _ z=>by rw[r2] at z;cases z) (fun z=>by rw[z] at r1;cases r1)),r1,r2,r⟩
  have hBb:Bm mg (hidT s₁.heap H):=by
   obtain⟨bm,ob,b1,b2,b3,b4,b5,b6⟩:=hB
   exact⟨bm,ob,b1,b2,base_of b3 (noF b3 (fun _ _ z=>by rw[b6] at z;cases z) (fun z=>by rw[z] at b4;cases b4)),b4,b5,b6⟩
  have e0:Env0 P w K mg (hidT s₁.heap H) callerA [] s₁ H:=⟨rfl,hM,fun b o e=>zcp0 e,Nat.le_of_eq (zbr2 _ _),trivial,fun b hb=>absurd (show b∈([]:List Addr) from hb) (by simp),hok,.of_eq hg⟩
  refine codeAny_mono ((F _ hKb (nsK hns) hCb hBb).run callerA [] s₁ H ⟨[.ref a],[]⟩ [.ref a] [.ref a] _ _ hr e0 (hbind s₁ (.ref a)) (.cons rfl .nil) (hsp H hHT hS)) fun r s' h=>?_
  cases r with
  | error e=>exact (hCX H e s' h).elim
  | ok fl=>
   cases fl with
   | next=>exact False.elim h
   | brk=>exact False.elim h
   | cont=>exact False.elim h
   | ret u=>
    obtain⟨v,H',os,bare,un,hok',r',q⟩:=h
    have q':v=.bl true:=q
    subst q'
    obtain rfl:u=Value.bool true:=r'
    obtain⟨more,eT⟩:=un.tbls T _ hHT
    have eT2:s'.heap.get? T=some (PySem.W.tabObj (#[]++more)):=hok' T _ eT
    have keep:∀ b o,b≠T->s₁.heap.get? b=some o->s'.heap.get? b=some o:=fun b o nb e=>by
     cases q:H b with
     | none=>exact un.keep b o e q (by intro z;exact absurd (show b∈([]:List Addr) from z) (by simp)) (by simp)
     | some u=>
      rcases hO b with z|z|⟨ob,xs,z⟩
      ·exact absurd z nb
      ·rw[q] at z;cases z
      ·have z2:=un.frzs b ob _ z
       obtain⟨e1,_⟩:=hok b _ z
       obtain⟨e2,_⟩:=hok' b _ z2
       rw[e] at e1;cases e1
       exact e2
    refine⟨rfl,⟨fun b o e=>?_,fun b o e=>?_⟩,os,bare⟩
    ·by_cases hb:b=T
     ·subst hb
      rw[hT] at e;cases e
      exact .inr (.inl ⟨(hC.tab hT).isCodeTable,rfl,#[],more,rfl,eT2⟩)
     ·exact .inl (keep b o hb e)
    ·by_cases hb:b=T
     ·subst hb;exact⟨_,eT2⟩
     ·exact⟨o,keep b o hb e⟩
 cases hk:K.lookup a with
 | some o=>
  have e:=KX a o hk
  rw[ha] at e
  cases e
  refine core (fun b=>if b=T then some (.tbl #[]) else none) (if_pos rfl) (fun b=>?_) (.inr ⟨_,vs.toArray,_,hk,rfl,rfl,rfl,by rw[zcw8,lenV];exact hl,by simpa using rv⟩) (fun b u z=>?_) (fun b z=>?_) fun z=>absurd (if_neg haT) z
  ·by_cases hb:b=T
   ·exact .inl hb
   ·exact .inr (.inl (if_neg hb))
  ·by_cases hb:b=T
   ·have z':=(if_pos hb).symm.trans z
    cases z'
    subst hb
    exact hT
   ·have z':=(if_neg hb).symm.trans z
    cases z'
  ·by_cases hb:b=T
   ·exact .inr hb
   ·exact absurd (if_neg hb) z
 | none=>
  refine core (fun b=>if b=T then some (.tbl #[]) else if b=a then some (.frz { cls:=.type "list",data:=.seq vs.toArray } (.lst (ns.map V.int))) else none) (if_pos rfl) (fun b=>?_) (.inl (.inr ⟨{ cls:=.type "list",data:=.seq vs.toArray },(if_neg haT).trans (if_pos rfl)⟩)) (fun b u z=>?_) (fun b z=>?_) fun _=>hk
  ·by_cases hb:b=T
   ·exact .inl hb
   ·by_cases hb2:b=a
    ·exact .inr (.inr ⟨_,_,(if_neg hb).trans (if_pos hb2)⟩)
    ·exact .inr (.inl ((if_neg hb).trans (if_neg hb2)))
  ·by_cases hb:b=T
   ·have z':=(if_pos hb).symm.trans z
    cases z'
    subst hb
    exact hT
   ·have z':=(if_neg hb).symm.trans z
    by_cases hb2:b=a
    ·have z'':=(if_pos hb2).symm.trans z'
     cases z''
     subst hb2
     exact⟨ha,by rw[zcw0];exact hl,vs,_,rv,ha⟩
    ·have z'':=(if_neg hb2).symm.trans z'
     cases z''
  ·by_cases hb:b=T
   ·exact .inr hb
   ·by_cases hb2:b=a
    ·exact .inl hb2
    ·exact absurd ((if_neg hb).trans (if_neg hb2)) z
theorem walk_ofT{l:PySem.W.OpenLaw}{n k:Nat}{q:Program}{loose:List Str}{XP:(Str->Option Value)->Heap->Prop}{YP:World->Heap->Prop}{d d9:DefRec}{K:Params->zcw1}{CX:World->CXT}{sp:World->Addr->Sp}{x:Str}(hn:l.most=some n)(hn2:n<=sizeLine)(hdf:d.params.defaults=[])(hr:Room k callerA)(hY:∀ (w:World) (h:Heap),YP w h->(K w.params).In h)(xx:Str)(hnt:∀ w:World,PySem.W.noTabs (K w.params)=true)(hrec:(recsOf q).find? (fun e=>e.name==xx)=some d9)(F:∀ (w:World) (mg:Str->Option Value) (fa:Addr) (h:Heap),(K w.params).In h->h.Ns zdg3 mg->mg d.name=some (.ref fa) ->
   ∃ (c T:Addr) (fd:FuncData),zdf1 (K w.params) xx=some (c,T)/\(∀ (s:Shared) (u:Value),BindsTo s fd ⟨[u],[]⟩ [(x,u)]) /\
    ∀ base:Heap,(K w.params).In base->base.Ns zdg3 mg->PySem.W.CodeHd base c T->Bm mg base->FnOk l.prog w (K w.params) mg base (CX w) k fa fd [x] (sp w T))(hsp:∀ (w:World) (T:Addr) (H:Hp) (a:Addr) (ns:List Int),ns.length<=n->H T=some (.tbl #[])->SqL (K w.params) H a (ns.map V.int)->sp w T [.ref a] H (fun v _=>v=.bl true) fun _ _ _=>False)(hCX:∀ (w:World) (H:Hp) (s:Shared) (e:Value) (s':Shared),CX w [] H s (fun _ _ _=>False) e s'->False) :
  PySem.W.WalkO q loose XP YP l.row.toRowW d [] (fun f vs=>PySem.call f vs):=by
 refine Att.attach_call hn hdf fun w s₀ s₁ mg mb fa o pm cd doc a vs ns G Y ho hd hcd hmg hobj hints hlen hg=>?_
 have KX:=hY w _ Y
 obtain⟨c,T,fd,htab,hb,hF⟩:=F w mg fa _ KX G.T.g hmg
 obtain⟨hC,hT⟩:=PySem.W.tab_of G.T KX hrec htab
 exact zbr9 KX (hnt w) G.T.g G.T.b G.T.builtins G.T.nolimit hg hC hT G.T.bmain hobj hints (zcy7 hlen hn2) hr hF hb (fun H hO hS=>hsp w T H a ns hlen hO hS) fun H e s'=>hCX w H s₁ e s'
theorem zcb7{K:zcw1}{x:Str}{c f:Addr}{oc:Value}{od:Option Addr}{fd:FuncData}{sl:Array (Option Value)}(hT:zdf1 K x=some (c,T))(a:zcz0 K zdg3 x=some (some (.ref f)))(l:K.lookup f=some ⟨oc,od,.func fd,sl⟩):fd.code=.ref c:=by
 unfold zdf1 at hT
 rw[a] at hT
 dsimp only at hT
 rw[l] at hT
 dsimp only at hT
 split at hT
 ·rename_i c2 e
  split at hT
  ·split at hT
   ·cases hT;exact e
   ·cases hT
  ·cases hT
 ·cases hT
set_option maxHeartbeats 4000000
noncomputable def ltN(x y:Str×Int):Bool:=if (decide (x.1=y.1))=true then (if (x.2==y.2)=true then false else decide (x.2<y.2)) else decide (x.1.cps.toList<y.1.cps.toList)
theorem zbw0(l b:Addr)(x y:Str×Int)(t u t' u':Tok)(n n2:Nat)(dd dd2:Option Addr)(sl sl2:Array (Option Value)) :
  Meets (Builtin.«tuple.__lt__» ⟨[.ref l,.ref b],[]⟩)
   (fun A R s=>s.heap.get? l=some { cls:=.type "tuple",dict:=dd,data:=.seq #[.str x.1 t,.int x.2 u] n,slots:=sl }/\s.heap.get? b=some { cls:=.type "tuple",dict:=dd2,data:=.seq #[.str y.1 t',.int y.2 u'] n2,slots:=sl2 } /\
    R (.ok (.ret (.bool (ltN x y)))) s):=
 .of_wp fun prog w A R s h=>by
  obtain⟨hp,g,d,tk,os⟩:=s;obtain⟨hl,hb,h⟩:=h
  have f2:=AutoSeq1.sub_tuple_tuple
  wp_walk using wpAny_loadPart' hl,wpAny_loadPart' hb,wpAny_forIn_list _ (fun rest b s'=>b.1=none/\s'=⟨hp,g,d,tk,os⟩/\(rest=[(.str x.1 t,.str y.1 t'),(.int x.2 u,.int y.2 u')]∨(x.1=y.1/\rest=[(.int x.2 u,.int y.2 u')])∨(x.1=y.1/\x.2=y.2/\rest=[]))) _
  case turn=>
   rintro⟨p,q⟩ rest b s' ⟨hb',rfl,hz⟩
   rcases hz with hz|⟨e0,hz⟩|⟨_,_,hz⟩
   ·cases hz
    refine zdf7 (wpAny_eqBool_str ?_)
    cases e:(decide (x.1=y.1))
    ·have h':R (Except.ok (Flow.ret (Value.bool (decide (x.1.cps.toList<y.1.cps.toList))))) ⟨hp,g,d,tk,os⟩:=by
      unfold ltN at h
      rw[if_neg (by rw[e];exact zcx1)] at h
      exact h
     simp only[Bool.not_false,if_true]
     refine zdf7 (wpAny_rule ?_)
     refine zdf7 ((PyProof.Rows.lt_str (Q:=_) ?_:wpAny _ _ (compareOp .Lt _ _) _ _ _))
     wp_walk
     exact⟨_,rfl,h'⟩
    ·wp_walk
     exact⟨rfl,rfl,.inr (.inl ⟨by simpa using e,rfl⟩)⟩
   ·cases hz
    refine zdf7 (wpAny_eqBool_int ?_)
    cases e:(x.2==y.2)
    ·have h':R (Except.ok (Flow.ret (Value.bool (decide (x.2<y.2))))) ⟨hp,g,d,tk,os⟩:=by
      unfold ltN at h
      rw[if_pos (by rw[e0];exact decide_eq_true rfl),if_neg (by rw[e];exact zcx1)] at h
      exact h
     simp only[Bool.not_false,if_true]
     refine zdf7 (wpAny_rule ?_)
     refine zdf7 ((PyProof.Rows.lt_int (Q:=_) ?_:wpAny _ _ (compareOp .Lt _ _) _ _ _))
     wp_walk
     exact⟨_,rfl,h'⟩
    ·wp_walk
     exact⟨rfl,rfl,.inr (.inr ⟨e0,by simpa using e,rfl⟩)⟩
   ·cases hz
  case fin=>
   rintro⟨b1,b2⟩ s' ⟨hb',rfl,hz⟩
   simp only at hb'
   subst hb'
   rcases hz with hz|⟨e0,hz⟩|⟨e0,e1,hz⟩
   ·cases hz
   ·cases hz
   ·have h':R (Except.ok (Flow.ret (Value.bool false))) ⟨hp,g,d,tk,os⟩:=by
     unfold ltN at h
     rw[if_pos (by rw[e0];exact decide_eq_true rfl),if_pos (by rw[e1];exact beq_self_eq_true _)] at h
     exact h
    wp_walk
    exact⟨_,rfl,h'⟩
  exact⟨rfl,rfl,.inl rfl⟩
noncomputable def TupN(h:Heap)(v:Value)(x:Str×Int):Prop:=∃ a o t u n,v=.ref a/\h.get? a=some o/\o.cls=.type "tuple"/\o.data=.seq #[.str x.1 t,.int x.2 u] n
theorem TupN.to{v:Value}{x:Str×Int}(z:TupN h v x)(k:∀ b o,h.get? b=some o->h'.get? b=some o):TupN h' v x:=
 let ⟨a,o,t,u,n,e,e1,r⟩:=z;⟨a,o,t,u,n,e,k _ _ e1,r⟩
section
variable {prog:Program}{w:World}{A:Around}{E:Value->Shared->Prop}{s:Shared}
theorem zbk9{v v':Value}{x y:Str×Int}(ha:TupN s.heap v x)(hb:TupN s.heap v' y)(hu:A.units<cLine)(h:Q (.bool (ltN x y)) s):wpAny (model prog w) A (compareOp .Lt v v') Q E s:=by
 obtain⟨a,⟨cls,dd,data,sl⟩,t,u,n,rfl,ho,hc,hd⟩:=ha
 obtain⟨b,⟨cls2,dd2,data2,sl2⟩,t',u',n2,rfl,ho2,hc2,hd2⟩:=hb
 simp only at hc hd hc2 hd2
 subst hc hd hc2 hd2
 exact richCompare_meets_room (op:=.Lt) ⟨_,ho,rfl⟩ ⟨_,ho2,rfl⟩ F.slot_tuple_lt F.entry_tuple_lt (F.args_tuple_lt_2 _ _) (zbw0 a b x y t u t' u' n n2 dd dd2 sl sl2)
  ⟨ho,ho2,show Value.bool (ltN x y)≠Value.notImplemented/\Q (.bool (ltN x y)) s from ⟨(fun x=>nomatch x),h⟩⟩ hu
end
section
variable {X:Cx}{K:zcw1}{H:Hp}{Q:VK}
noncomputable def nV(x:Str×Int):List V:=[.str x.1,.int x.2]
@[irreducible] noncomputable def rLtN(a b:Addr)(H:Hp)(Q:VK):Prop:=∃ x y:Str×Int,H a=some (.tup (nV x))/\H b=some (.tup (nV y))/\Q (.bl (ltN x y)) H
noncomputable def rLtNM:R2:=fun x y H Q=>match x,y with
 | .int i,.int j=>Q (.bl (decide (i<j))) H
 | .ref a,.ref b=>rLtN a b H Q
 | _,_=>False
theorem zbc7{pins:List (Addr×Obj)}{σ:St}{a:Addr}{x:Str×Int}(I:Inv X pins σ H s)(h:H a=some (.tup (nV x))):TupN s.heap (.ref a) x:=by
 obtain⟨_,its,rv,o,h1,h2,n,h3⟩:=(show zk5 X.prog X.w H s.heap a (.tup (nV x)) from I.hok a _ h)
 unfold nV at rv
 cases rv with
 | cons r1 rv=>
  cases rv with
  | cons r2 rv=>
   cases rv
   obtain⟨t,rfl⟩:=r1
   obtain⟨u,rfl⟩:=r2
   exact⟨a,o,t,u,n,rfl,h1,h2,h3⟩
theorem oLtN(hu:X.A.units+40<cLine):OpR X (compareOp .Lt) rLtNM:=by
 intro pins s σ H x y v u Q I rx ry h
 unfold rLtNM at h
 split at h
 ·exact op_lt pins s σ H _ _ v u Q I rx ry ⟨_,_,rfl,rfl,h⟩
 ·unfold rLtN at h
  obtain⟨x,y,ea,eb,h⟩:=h
  cases rx
  cases ry
  exact zbk9 (zbc7 I ea) (zbc7 I eb) (by omega) ⟨.bl (ltN x y),H,I,rfl,h⟩
 ·exact h.elim
theorem ltN_rd{a b:Addr}{x y:Str×Int}(ha:H a=some (.tup (nV x)))(hb:H b=some (.tup (nV y)))(q:Q (.bl (ltN x y)) H):rLtN a b H Q:=by unfold rLtN;exact⟨x,y,ha,hb,q⟩
@[irreducible] noncomputable def rFld(K:zcw1)(f:Str)(a:Addr)(H:Hp)(Q:VK):Prop:=∃ C dx fs v,H a=some (.ins C dx fs)/\Cls K C/\zv7 K C f/\fs.lookup f=some v/\Q v H
noncomputable def qFld(K:zcw1)(te:TE)(f:Str):TE:=fun σ H Q=>te σ H fun x H1=>match x with
 | .ref a=>rFld K f a H1 Q
 | _=>False
theorem zo1{te:TE}{f:Str}{pos:Pos}(hK:X.K=K)(he:PE X e te)(hb:attributeBase e f X.env (eval e X.env)=eval e X.env:=by rfl):PE X (.Attribute e f pos) (qFld K te f):=by
 subst hK
 intro pins s σ H Q I h
 refine zcj6 hb (thn (he pins s σ H _ I h) fun u s1 ⟨x,H1,I1,rx,q⟩=>?_)
 dsimp only at q
 split at q
 case h_2=>exact q.elim
 rename_i a
 obtain rfl:u=Value.ref a:=rx
 unfold rFld at q
 obtain⟨C,dx,fs,v,ea,c,n,l,q⟩:=q
 exact zbo4 I1 ea c n l fun u' s2 I2 ru=>⟨v,H1,I2,ru,q⟩
theorem zf0{f:Str}{a dx:Addr}{fs:List (Str×V)}{v:V}(h:H a=some (.ins C dx fs))(c:Cls K C)(n:zv7 K C f)(e:fs.lookup f=some v)(q:Q v H):rFld K f a H Q:=by unfold rFld;exact⟨C,dx,fs,v,h,c,n,e,q⟩
@[irreducible] noncomputable def rPutF(K:zcw1)(f:Str)(a:Addr)(y:V)(H:Hp)(R:Hp->Prop):Prop:=∃ C dx fs,H a=some (.ins C dx fs)/\Cls K C/\zv7 K C f/\fs.length<1000/\∀ H',Chg a H H'->H' a=some (.ins C dx (putF f y fs))->R H'
noncomputable def sPutF(K:zcw1)(ta tv:TE)(f:Str):TS:=fun D σ H=>tv σ H fun y H1=>ta σ H1 fun x H2=>match x with
 | .ref a=>rPutF K f a y H2 fun H'=>D.nx σ H'
 | _=>False
theorem zbq0{o value:Expr}{ta tv:TE}{f:Str}{pos pos':Pos}(hK:X.K=K)(ha:PE X o ta)(hv:PE X value tv)(hs:swapsWith value (some (.Attribute o f pos')) pos.line X.env=pure false:=by rfl):PS X (.Assign [.Attribute o f pos'] value pos) (sPutF K ta tv f):=by
 subst hK
 intro pins s σ H D I h
 refine plainObj_wpAny_Assign_Attribute (thn (hv pins s σ H _ I h) fun u s1 ⟨y,H1,I1,ry,q⟩=>thn (ha pins s1 σ H1 _ I1 q) fun ov s2 ⟨x,H2,I2,rx,q2⟩=>?_) hs
 dsimp only at q2
 split at q2
 case h_2=>exact q2.elim
 rename_i a
 obtain rfl:ov=Value.ref a:=rx
 unfold rPutF at q2
 obtain⟨C,dx,fs,ea,c,n,l,q2⟩:=q2
 exact zbn7 I2 ea c n l ry fun s3 I3=>⟨σ,_,I3,q2 _ Chg.upd zc0⟩
theorem zx0{f:Str}{a dx:Addr}{fs:List (Str×V)}{R:Hp->Prop}(h:H a=some (.ins C dx fs))(c:Cls K C)(n:zv7 K C f)(q:∀ H',Chg a H H'->H' a=some (.ins C dx (putF f y fs))->R H')(hl:fs.length<1000:=by decide):rPutF K f a y H R:=by
 unfold rPutF;exact⟨C,dx,fs,h,c,n,hl,q⟩
theorem zcj5{x dx:Addr}{o1 o2:HO}(h1:H x=none)(h2:H dx=none):Same H (upd (upd H dx o1) x o2):=fun b o e=>by rw[zb9 (za4 e h1),zb9 (za4 e h2)];exact e
@[irreducible] noncomputable def rMake(C:Addr)(sp:Sp)(vs:List V)(H:Hp)(Q:VK):Prop:=∀ x dx H',H x=none->H dx=none->dx≠x->Same H H'->H' dx=some (.own x)->H' x=some (.ins C dx [])->sp (.ref x :: vs) H' (fun v H2=>v=.non/\Q (.ref x) H2) fun _ _ _=>False
noncomputable def qMake(C:Addr)(sp:Sp)(t:TA):TE:=fun σ H Q=>t σ H fun vs H1=>rMake C sp vs H1 Q
theorem peMake{CX:CXT}{k:Nat}{f:Addr}{fd:FuncData}{ps:List Str}{x:Str}{p pos:Pos}{es:List Expr}{t:TA}(M:Mk X.K C f)(F:FnOk X.prog X.w X.K X.mg X.base CX k f fd ps sp)(hr:Room (k+1) X.A)(hm:X.mg x=some (.ref C))(hb:zai3 X.K fd ps [])(hx:zal4 CX X fun _ _ _=>False)(ha:PA X (e :: es) t)(hg:Gl X x:=by rfl)(hdb:(x==("__debug__":Str))=false:=by decide)(he:starEach (e :: es) X.env=(false,eval e X.env) :: starEach es X.env:=by rfl)(hpl:(backTo pos (starEach es X.env)).any (·.1)=false:=by rfl) :
  PE X (.Call (.Name x p) (e :: es) [] pos) (qMake C sp t):=by
 intro pins s σ H Q I h
 refine wpAny_Call_Name_kw (zbi1 I hg hm ?_ hdb)
 refine PySem.W.callWith_K (h₀:=X.base) I.ok.mod.kin M.kp (thn (ha pos pins s σ H _ I h) fun us s1 ⟨vs,H1,I1,r,q⟩=>⟨I1.kIn,?_⟩) he hpl
 unfold rMake at q
 refine zce5 (dvs:=[]) M F hr hb .nil hx I1 r fun x dx h1 h2 h3=>?_
 rw[zdc8]
 exact q x dx _ h1 h2 h3 (zcj5 h1 h2) (by rw[zb9 h3,zc0]) zc0
theorem zci2{vs:List V}(q:∀ x dx H',H x=none->H dx=none->dx≠x->Same H H'->H' dx=some (.own x)->H' x=some (.ins C dx [])->sp (.ref x :: vs) H' (fun v H2=>v=.non/\Q (.ref x) H2) fun _ _ _=>False):rMake C sp vs H Q:=by unfold rMake;exact q
end
theorem min_kd(a v d:Value):argsOk "min" ⟨[a],[(Str.ofString "key",v),(Str.ofString "default",d)]⟩:=by unfold argsOk;kernel_rfl
noncomputable def Grw(h h':Heap):Prop:=∀ b o,h.get? b=some o->h'.get? b=some o
theorem Grw.trans{h'':Heap}(x:Grw h h')(y:Grw h' h''):Grw h h'':=fun b o e=>y b o (x b o e)
section
variable {prog:Program}{w:World}{A:Around}{E:Value->Shared->Prop}{s:Shared}{l q I S:Addr}{vs:List Value}{R:Result->Shared->Prop}{Q:Value->Shared->Prop}
theorem zce6(kf:Nat->Str×Int)(htr:∀ i j k,ltN (kf i) (kf j)=true->ltN (kf j) (kf k)=true->ltN (kf i) (kf k)=true)(hh:A.handled=none)(hu:A.in1.units<cLine)(hl:s.heap.IsList l vs.toArray)(hI:s.heap.objs.size<=I)(hS:s.heap.objs.size<=S)(hSI:S≠I)(turn:∀ (i:Nat) (v:Value),vs[i]?=some v->∀ (h:Heap) (tk:Nat),Grw s.heap h ->
   wpAny (model prog w) A.in1 (call (.ref q) [v]) (fun u s'=>∃ h' tk',s'={ s with heap:=h',toks:=tk' }/\TupN h' u (kf i)/\Grw h h') (fun _ _=>False) { s with heap:=h,toks:=tk })(hR:∀ i v h' tk',vs[i]?=some v->(∀ j,j<vs.length->ltN (kf j) (kf i)=false)->Grw s.heap h'->R (.ok (.ret v)) { s with heap:=h',toks:=tk' }) :
  ∀ (r j i:Nat) (h:Heap) (tk:Nat) (vb ub:Value) (c:Nat),vs.length - (j+1)=r->j+1<=vs.length->Grw s.heap h->h.get? S=some (seqObj "list" #[vb,ub] c)->TupN h ub (kf i)->h.IsListIter I l (j+1)->vs[i]?=some vb->i<=j ->
   (∀ j',j'<=j->ltN (kf j') (kf i)=false) ->
   codeAny (model prog w) A (.builtin "min.loop" ⟨[.ref I,.ref q,.ref S],[(Str.ofString "default",.none)]⟩) R { s with heap:=h,toks:=tk }:=by
 have hname:(toString "min"++toString ".loop":String)="min.loop":=by decide
 have hls:∀ h,Grw s.heap h->h.IsList l vs.toArray:=fun h g=>by obtain⟨o,e,r⟩:=hl;exact⟨o,g _ _ e,r⟩
 have hlI:l≠I:=by
  obtain⟨o,e,_⟩:=hl
  have:=zcx3 e
  intro z;rw[z] at this;exact absurd (zcx5 this hI) (zde2 _)
 have oldI:∀ b o,s.heap.get? b=some o->b≠I:=fun b o e z=>by
  have:=zcx3 e;rw[z] at this;exact absurd (zcx5 this hI) (zde2 _)
 have oldS:∀ b o,s.heap.get? b=some o->b≠S:=fun b o e z=>by
  have:=zcx3 e;rw[z] at this;exact absurd (zcx5 this hS) (zde2 _)
 have W:=Walks.list (prog:=prog) (w:=w) (A:=A.in1) hh I l hlI vs.toArray
 have hsz:vs.toArray.size=vs.length:=zcw8 ..
 intro r
 induction r with
 | zero=>
  intro j i h tk vb ub c hr hj G hS' ht hit hvb hij hbest
  have hin:j+1=vs.length:=by omega
  refine codeAny_builtin PySem.F.entry_min_loop ?_
  rw[Around.under_plainId PySem.F.plain_min_loop _]
  show wpAny _ A.in1 (seqItems? (.ref S) >>= _) _ _ _
  refine zdf7 (wpAny_seqItems hS' rfl ?_)
  show wpAny _ A.in1 (tryCatch (pyNext (.ref I)) _ >>= _) _ _ _
  refine zdf7 (wpAny_tryCatch (W.done _ _ _ ⟨by rw[hsz,← hin];exact hit,hls h G⟩ fun h' tk' hk'=>?_))
  have G1:Grw s.heap h':=fun b o e=>hk' b o (by simpa using oldI b o e) (G b o e)
  have hS2:=hk' S _ (by simpa using hSI) hS'
  have s1:=Heap.SameBut.update h' S (Obj.mapSeq fun _=>(#[]:Array Value))
  show wpAny _ A.in1 (updateSeq S (fun _=>#[]) >>= _) _ _ _
  refine zdf7 ?_
  refine wpAny_updateSeq hS2 rfl (zdf7 (wpAny_letGo (zdf8 ?_)))
  exact hR i vb _ _ hvb (fun j' hj'=>hbest j' (by omega)) fun b o e=>(s1.2 b (oldS b o e)).trans (G1 b o e)
 | succ r ih=>
  intro j i h tk vb ub c hr hj G hS' ht hit hvb hij hbest
  have hlt:j+1<vs.length:=by omega
  refine codeAny_builtin PySem.F.entry_min_loop ?_
  rw[Around.under_plainId PySem.F.plain_min_loop _]
  show wpAny _ A.in1 (seqItems? (.ref S) >>= _) _ _ _
  refine zdf7 (wpAny_seqItems hS' rfl ?_)
  show wpAny _ A.in1 (tryCatch (pyNext (.ref I)) _ >>= _) _ _ _
  refine zdf7 (wpAny_tryCatch (W.item (j+1) _ _ _ (by rw[hsz];exact hlt) ⟨hit,hls h G⟩ fun v h' tk' hP hst' hk'=>?_))
  have hv:vs[j+1]?=some v:=by simpa using hP
  have G1:Grw s.heap h':=fun b o e=>hk' b o (by simpa using oldI b o e) (G b o e)
  have hS2:=hk' S _ (by simpa using hSI) hS'
  have ht1:TupN h' ub (kf i):=by
   obtain⟨a,o,t,u,n,e,e1,e2,e3⟩:=ht
   refine⟨a,o,t,u,n,e,hk' a o (by
    intro z
    rw[zdd5.mp z] at e1
    obtain⟨oI,eI,cI,_⟩:=hit
    rw[e1] at eI;cases eI;rw[e2] at cI;injection cI with z2;exact absurd z2 (by decide)) e1,e2,e3⟩
  show wpAny _ A.in1 (tryCatch (holding [v] (call (.ref q) [v])) _ >>= _) _ _ _
  refine zdf7 (wpAny_tryCatch (zdg2 (wpAny_mono (turn (j+1) v hv h' tk' G1) (fun x s'' he=>?_) fun _ _ hF=>hF.elim)))
  obtain⟨h2,tk2,rfl,tx,G2⟩:=he
  have hS3:=G2 _ _ hS2
  have hit2:h2.IsListIter I l (j+1+1):=by
   obtain⟨oI,eI,r2⟩:=hst'.1
   exact⟨oI,G2 _ _ eI,r2⟩
  have G3:=G1.trans G2
  show wpAny _ A.in1 (tryCatch (holding [v,x] (richCompare .Lt x ub >>= _)) _ >>= _) _ _ _
  refine zdf7 (wpAny_tryCatch (zdg2 (zdf7 (zbk9 (prog:=prog) (w:=w) (A:=A.in1) tx (ht1.to G2) hu ?_))))
  refine zdf7 (zdg2 (wpAny_truthy_bool ?_))
  refine zdf7 (wpAny_letGo (zdf8 ?_))
  by_cases hb':ltN (kf (j+1)) (kf i)=true
  ·have s1:=Heap.SameBut.update h2 S (Obj.mapSeq fun _=>#[v,x])
   obtain⟨c2,hc2⟩:∃ c2,(h2.update S (Obj.mapSeq fun _=>#[v,x])).get? S=some (seqObj "list" #[v,x] c2):=⟨_,get?_update_seq hS3 fun _=>#[v,x]⟩
   simp only[hb',if_true]
   refine zdf7 ?_
   refine wpAny_updateSeq hS3 rfl (zdf7 (wpAny_letGo ?_))
   rw[hname]
   refine zdf8 ⟨plainId_quiet PySem.F.plain_min_loop _,ih (j+1) (j+1) _ _ v x c2 (by omega) hlt (fun b o e=>(s1.2 b (oldS b o e)).trans (G3 b o e)) hc2 ?_ ?_ hv (zcw4 _) fun j' hj'=>?_⟩
   ·obtain⟨a,o,t,u,n,e,e1,e2,e3⟩:=tx
    exact⟨a,o,t,u,n,e,(s1.2 a (fun z=>by rw[z,hS3] at e1;cases e1;injection e2 with z2;exact absurd z2 (by decide))).trans e1,e2,e3⟩
   ·obtain⟨oI,eI,r2⟩:=hit2
    exact⟨oI,(s1.2 I hSI.symm).trans eI,r2⟩
   ·cases e:ltN (kf j') (kf (j+1)) with
    | false=>rfl
    | true=>
     by_cases e2:j'=j+1
     ·rw[e2] at e
      unfold ltN at e
      simp at e
     ·have:=htr _ _ _ e hb'
      rw[hbest j' (by omega)] at this;cases this
  ·have hbf:ltN (kf (j+1)) (kf i)=false:=by cases e:ltN (kf (j+1)) (kf i) with
    | false=>rfl
    | true=>exact absurd e hb'
   simp only[hbf,zda7,if_false]
   refine zdf7 (wpAny_letGo ?_)
   rw[hname]
   refine zdf8 ⟨plainId_quiet PySem.F.plain_min_loop _,ih (j+1) i _ _ vb ub c (by omega) hlt G3 hS3 (ht1.to G2) hit2 hvb (by omega) fun j' hj'=>?_⟩
   by_cases e:j'=j+1
   ·subst e;exact hbf
   ·exact hbest j' (by omega)
theorem zcb0(kf:Nat->Str×Int)(htr:∀ i j k,ltN (kf i) (kf j)=true->ltN (kf j) (kf k)=true->ltN (kf i) (kf k)=true)(hh:A.handled=none)(hu:A.in1.units<cLine)(hl:s.heap.IsList l vs.toArray)(turn:∀ (i:Nat) (v:Value),vs[i]?=some v->∀ (h:Heap) (tk:Nat),Grw s.heap h ->
   wpAny (model prog w) A.in1 (call (.ref q) [v]) (fun u s'=>∃ h' tk',s'={ s with heap:=h',toks:=tk' }/\TupN h' u (kf i)/\Grw h h') (fun _ _=>False) { s with heap:=h,toks:=tk })(hQ0:vs=[]->∀ h' tk',Grw s.heap h'->Q .none { s with heap:=h',toks:=tk' })(hQ:∀ i v h' tk',vs[i]?=some v->(∀ j,j<vs.length->ltN (kf j) (kf i)=false)->Grw s.heap h'->Q v { s with heap:=h',toks:=tk' }) :
  wpAny (model prog w) A (call (.builtin "min") [.ref l] [(Str.ofString "key",.ref q),(Str.ofString "default",.none)]) Q E s:=by
 have hname:(toString "min"++toString ".loop":String)="min.loop":=by decide
 obtain⟨ol,hol,_⟩:=id hl
 have hll:l<s.heap.objs.size:=zcx3 hol
 refine kmk_tree PySem.F.kind_min PySem.F.plain_min PySem.F.entry_min (min_kd _ _ _) ?_
 show wpAny _ A.in1 (Builtin.Builtins.bindParams "min" ["key","default"] 0 ⟨[],[(Str.ofString "key",.ref q),(Str.ofString "default",.none)]⟩ >>= _) _ _ s
 refine zdf7 (wpAny_of_eq (show Builtin.Builtins.bindParams "min" ["key","default"] 0 ⟨[],[(Str.ofString "key",.ref q),(Str.ofString "default",.none)]⟩=pure [some (.ref q),some .none] from rfl) ?_)
 refine zdf7 (zdf8 ?_)
 refine zdf7 (wpAny_pyIter_list hl ?_)
 refine zdf7 (wpAny_newList ?_ (zcz6 _))
 rw[hname]
 have hSz:(s.heap.push { cls:=.type "list_iterator",data:=.fields #[.ref l,.int 0 0] }).objs.size=s.heap.objs.size+1:=size_push' ..
 have hlI:l≠s.heap.objs.size:=zcy4 hll
 have hSI:(s.heap.push { cls:=.type "list_iterator",data:=.fields #[.ref l,.int 0 0] }).objs.size≠s.heap.objs.size:=by rw[hSz];exact Nat.ne_of_gt (Nat.lt_succ_self _)
 refine zdf8 ⟨plainId_quiet PySem.F.plain_min_loop _,?_⟩
 have G0:Grw s.heap ((s.heap.push { cls:=.type "list_iterator",data:=.fields #[.ref l,.int 0 0] }).push (seqObj "list" #[] 0)):=fun b x e=>zcw5 _ (zcw5 _ e)
 have gI:((s.heap.push { cls:=.type "list_iterator",data:=.fields #[.ref l,.int 0 0] }).push (seqObj "list" #[] 0)).get? s.heap.objs.size=some { cls:=.type "list_iterator",data:=.fields #[.ref l,.int 0 0] }:=
  zcw5 _ (zcx7 _ rfl)
 have gS:((s.heap.push { cls:=.type "list_iterator",data:=.fields #[.ref l,.int 0 0] }).push (seqObj "list" #[] 0)).get? (s.heap.push { cls:=.type "list_iterator",data:=.fields #[.ref l,.int 0 0] }).objs.size=some (seqObj "list" #[] 0):=zcx7 _ rfl
 generalize hS:(s.heap.push { cls:=.type "list_iterator",data:=.fields #[.ref l,.int 0 0] }).objs.size=S at hSI gS hSz ⊢
 have hSge:s.heap.objs.size<=S:=by omega
 generalize (s.heap.push { cls:=.type "list_iterator",data:=.fields #[.ref l,.int 0 0] }).push (seqObj "list" #[] 0)=hh0 at G0 gI gS ⊢
 have oldI:∀ b o,s.heap.get? b=some o->b≠s.heap.objs.size:=fun b o e=>zcy4 (zcx3 e)
 have oldS:∀ b o,s.heap.get? b=some o->b≠S:=fun b o e=>zcy4 (zcx5 (zcx3 e) hSge)
 have W:=Walks.list (prog:=prog) (w:=w) (A:=A.in1) hh s.heap.objs.size l hlI vs.toArray
 have hsz:vs.toArray.size=vs.length:=zcw8 ..
 have hls:∀ h,Grw s.heap h->h.IsList l vs.toArray:=fun h g=>by obtain⟨o,e,r⟩:=hl;exact⟨o,g _ _ e,r⟩
 refine codeAny_builtin PySem.F.entry_min_loop ?_
 rw[Around.under_plainId PySem.F.plain_min_loop _]
 show wpAny _ A.in1 (seqItems? (.ref S) >>= _) _ _ _
 refine zdf7 (wpAny_seqItems gS rfl ?_)
 show wpAny _ A.in1 (tryCatch (pyNext (.ref s.heap.objs.size)) _ >>= _) _ _ _
 by_cases hne:vs=[]
 ·refine zdf7 (wpAny_tryCatch (W.done _ _ _ ⟨by rw[hsz,hne];exact⟨_,gI,rfl,rfl⟩,hls _ G0⟩ fun h' tk' hk'=>?_))
  refine zdf7 (wpAny_rule ?_)
  exact zdf8 (hQ0 hne _ _ fun b o e=>hk' b o (by simpa using oldI b o e) (G0 b o e))
 ·have hpos:0<vs.length:=List.length_pos_iff.mpr hne
  refine zdf7 (wpAny_tryCatch (W.item 0 _ _ _ (by rw[hsz];exact hpos) ⟨⟨_,gI,rfl,rfl⟩,hls _ G0⟩ fun v h' tk' hP hst' hk'=>?_))
  have hv:vs[0]?=some v:=by simpa using hP
  have G1:Grw s.heap h':=fun b o e=>hk' b o (by simpa using oldI b o e) (G0 b o e)
  have hS2:=hk' S _ (by simpa using hSI) gS
  show wpAny _ A.in1 (tryCatch (holding [v] (call (.ref q) [v])) _ >>= _) _ _ _
  refine zdf7 (wpAny_tryCatch (zdg2 (wpAny_mono (turn 0 v hv h' tk' G1) (fun x s'' he=>?_) fun _ _ hF=>hF.elim)))
  obtain⟨h2,tk2,rfl,tx,G2⟩:=he
  have hS3:=G2 _ _ hS2
  have s1:=Heap.SameBut.update h2 S (Obj.mapSeq fun _=>#[v,x])
  obtain⟨c2,hc2⟩:∃ c2,(h2.update S (Obj.mapSeq fun _=>#[v,x])).get? S=some (seqObj "list" #[v,x] c2):=⟨_,get?_update_seq hS3 fun _=>#[v,x]⟩
  show wpAny _ A.in1 (updateSeq S (fun _=>#[v,x]) >>= _) _ _ _
  refine zdf7 ?_
  refine wpAny_updateSeq hS3 rfl ?_
  rw[hname]
  refine zdf8 ⟨plainId_quiet PySem.F.plain_min_loop _,zce6 kf htr hh hu hl (zcw4 _) hSge hSI turn hQ _ 0 0 _ _ v x c2 rfl hpos (fun b o e=>(s1.2 b (oldS b o e)).trans (G1.trans G2 b o e)) hc2 ?_ ?_ hv (zcw4 _) fun j' hj'=>?_⟩
  ·obtain⟨a,o,t,u,n,e,e1,e2,e3⟩:=tx
   exact⟨a,o,t,u,n,e,(s1.2 a (fun z=>by rw[z,hS3] at e1;cases e1;injection e2 with z2;exact absurd z2 (by decide))).trans e1,e2,e3⟩
  ·obtain⟨oI,eI,r2⟩:=hst'.1
   exact⟨oI,(s1.2 _ hSI.symm).trans (G2 _ _ eI),r2⟩
  ·rw[show j'=0 by omega]
   unfold ltN
   simp
end
section
variable {prog:Program}{w:World}{A:Around}{E:Value->Shared->Prop}{s:Shared}{env:Env}{m:Str->Option Value}{l cA:Addr}{ws:List Value}{k:Int}{t:Tok}{u:Value}{y:Str}{p1 p2 p3:Pos}
theorem zbs3(hk:env.scope.kind=.function)(k1:env.kindOf "names"=some .free)(k2:env.kindOf y=some .local)(hc:env.cells.lookup ("names":Str)=some cA)(hcell:s.heap.IsCell cA (some (.ref l)))(hn:s.heap.Ns env.locals m)(hp:m y=some (.int k t))(hl:s.heap.IsList l ws.toArray)(h0:0<=k)(hk2:k<2 ^ 63)(hu:ws[k.toNat]?=some u)(hy:(y==("__debug__":Str))=false)(h:Q u s):wpAny (model prog w) A (eval (.Subscript (.Name "names" p1) (.Name y p2) p3) env) Q E s:=by
 refine Subscript_ (wpAny_Name (wpAny_loadName_free hk k1 hc hcell ?_) (by decide))
 refine wpAny_Name (wpAny_loadName_local hk k2 hn hp ?_) hy
 exact subscriptTail_builtinR (x:=u) (T:="list") hl.typeIs slot_list_getitem.lookup (PyProof.Rows.getItem_listL hl h0 hk2 hu ⟨rfl,h⟩) (by with_unfolding_all rfl)
end
section
variable {X:Cx}{K:zcw1}{pins:List (Addr×Obj)}{σ:St}{H:Hp}{s:Shared}
theorem zbz5{E:Value->Shared->Prop}{q c' a cA nl:Addr}{la:Arguments}{lsc:Scope}{pm ctv:Value}{y:Str}{is:List Int}{bs:List Addr}{kf:Int->Str×Int}{Q:VK}{p1 p2 p3:Pos}(hr:Room 3 X.A)(hu:X.A.units+40<cLine)(I:Inv X pins σ H s)(hq:s.heap.get? q=some (PySem.W.kla_obj "<lambda>" qual la (.Subscript (.Name "names" p1) (.Name y p2) p3) lsc [("names",cA)] pm c' ctv))(hcr:s.heap.CodeRec (.ref c') qual)(hb:∀ u:Value,bindArgs (PySem.W.kla_fn "<lambda>" qual la (.Subscript (.Name "names" p1) (.Name y p2) p3) lsc [("names",cA)] pm (.ref c') ctv) ⟨[u],[]⟩=pure [(y,u)])(s1:lsc.kind=.function)(s2:lsc.isCoroutine=false)(s3:lsc.isGenerator=false)(s4:lsc.names.lookup ("names":Str)=some .free)(s5:lsc.names.lookup y=some .local)(s7:∀ x∈lsc.names,x.2≠.cell)(hyd:(y==("__debug__":Str))=false)(hcell:s.heap.IsCell cA (some (.ref nl)))(h1:SqL X.K H a (is.map V.int))(h2:H nl=some (.lst (bs.map V.ref)))(h3:∀ k∈is,0<=k/\k<bs.length/\∀ b,bs[k.toNat]?=some b->H b=some (.tup (nV (kf k))))(htr:∀ i j k,ltN (kf i) (kf j)=true->ltN (kf j) (kf k)=true->ltN (kf i) (kf k)=true)(h5:is=[]->Q .non H)(h6:∀ k∈is,(∀ j∈is,ltN (kf j) (kf k)=false)->Q (.int k) H) :
  wpAny (model X.prog X.w) X.A (call (.builtin "min") [.ref a] [(Str.ofString "key",.ref q),(Str.ofString "default",.none)]) (EP X pins σ Q) E s:=by
 obtain⟨its,r',pl,hz⟩:=I.list h1
 obtain⟨zl,itl,nl',rl,el⟩:=I.hok nl _ h2
 have ebs:=zbb9 rl
 have hil:=zy9 r'
 have hln:=r'.length
 rw[zcw0] at hln
 have at_:∀ (i:Nat) (v:Value),its[i]?=some v->∃ k t,is[i]?=some k/\v=.int k t:=by
  intro i v hv
  obtain⟨hi,_⟩:=zcw2.mp hv
  have hi':i<is.length:=by omega
  obtain⟨u,e1,ru⟩:=r'.get (i:=i) (x:=.int is[i]) (by rw[zcw3,zcv9 hi'];rfl)
  rw[hv] at e1;cases e1
  obtain⟨t,rfl⟩:=ru
  exact⟨is[i],t,zcv9 hi',rfl⟩
 refine zcb0 (vs:=its) (fun i=>kf (is.getD i 0)) (fun i j k=>htr _ _ _) (by exact hr.hd) (by rw[zs6];omega) pl.isList (fun i v hv h tk G=>?_) (fun e h' tk' G=>?_) fun i v h' tk' hv hbest G=>?_
 ·obtain⟨k,t,hk,rfl⟩:=at_ i v hv
  obtain⟨hk0,hk1,hk2⟩:=h3 k (zcw6 hk)
  have ek:is.getD i 0=k:=by rw[zcw7,hk];rfl
  refine wpAny_call (PySem.W.kla_callFunE (o:=PySem.W.kla_obj "<lambda>" qual la _ lsc [("names",cA)] pm c' ctv) (by have:=hr.dp;show X.A.depth<_;omega) (G q _ hq) rfl s2 s3 rfl ?_ ?_)
  ·obtain⟨c2,oc,vs,t,e1,e2,e3⟩:=hcr
   cases e1
   exact⟨c',oc,vs,t,rfl,G c' _ e2,e3⟩
  ·rw[hb]
   refine zdf8 (wpAny_newFunctionEnv s7 (fun x hx=>by rw[zdd5.mp hx];exact s5) (fun h₁ hns hsb=>?_) s1)
   have hk₁:∀ b o,h.get? b=some o->h₁.get? b=some o:=fun b o e=>hsb.extBut b o (zcy4 (zcx3 e)) (zcw5 _ e)
   have ks:∀ b o,X.base.get? b=some o->h.get? b=some o:=fun b o e=>G b o (I.bk b o e)
   refine⟨(I.mod.nolimit.keeps ks).keeps hk₁,?_⟩
   show codeAny _ _ (.expr _ (PySem.W.envX qual lsc h.objs.size q (.ref c') [("names",cA)])) _ _
   have hkn:k.toNat<bs.length:=by omega
   have hb0:bs[k.toNat]?=some bs[k.toNat]:=zcv9 hkn
   refine PySem.W.kla_codeExpr ?_
   refine zbs3 (env:=PySem.W.envX qual lsc h.objs.size q (.ref c') [("names",cA)]) (l:=nl) (ws:=itl) (k:=k) (t:=t) (u:=.ref bs[k.toNat]) (m:=fun z=>[(y,Value.int k t)].reverse.lookup z) s1 s4 s5 rfl
    (by obtain⟨oc,q1,q2⟩:=hcell;exact⟨oc,hk₁ _ _ (G _ _ q1),q2⟩) hns (by simp) ⟨_,hk₁ _ _ (G _ _ el),rfl,_,rfl⟩ hk0 (by have:=zl;rw[zcw0,zdf9] at this;omega) (by rw[ebs,zcw3,hb0];rfl) hyd ?_
   rw[ek]
   exact⟨h₁,_,rfl,(zbc7 I (hk2 _ hb0)).to (fun b o e=>hk₁ b o (G b o e)),hk₁⟩
 ·have e0:is=[]:=by
   have:is.length=0:=by rw[hln,e];rfl
   exact List.length_eq_zero_iff.mp this
  exact⟨.non,H,I.kept G,rfl,h5 e0⟩
 ·obtain⟨k,t,hk,rfl⟩:=at_ i v hv
  have ek:is.getD i 0=k:=by rw[zcw7,hk];rfl
  refine⟨.int k,H,I.kept G,⟨t,rfl⟩,h6 k (zcw6 hk) fun j hj=>?_⟩
  obtain⟨n,hn⟩:=zcy5 hj
  have hnl:n<is.length:=(zcw2.mp hn).1
  have:=hbest n (by omega)
  rw[ek,zcw7,hn] at this
  exact this
@[irreducible] noncomputable def rMinK(K:zcw1)(T:Addr)(ln co:Nat)(qual:Str)(nl a:Addr)(H:Hp)(Q:VK):Prop:=∃ (is:List Int) (bs:List Addr) (kf:Int->Str×Int),SqL K H a (is.map V.int)/\H nl=some (.lst (bs.map V.ref)) /\
 (∀ k∈is,0<=k/\k<bs.length/\∀ b,bs[k.toNat]?=some b->H b=some (.tup (nV (kf k))))/\(∀ i j k,ltN (kf i) (kf j)=true->ltN (kf j) (kf k)=true->ltN (kf i) (kf k)=true)/\zr2 T ln co qual H /\
 (is=[]->∀ H',Chg T H H'->zr2 T ln co qual H'->Q .non H')/\∀ k∈is,(∀ j∈is,ltN (kf j) (kf k)=false)->∀ H',Chg T H H'->zr2 T ln co qual H'->Q (.int k) H'
noncomputable def qMinK(K:zcw1)(T:Addr)(ln co:Nat)(qual:Str)(i:Nat)(t:TA):TE:=fun σ H Q=>t σ H fun xs H1=>match xs with
 | [.ref a]=>(match σ[i]? with
  | some (some (.ref nl))=>rMinK K T ln co qual nl a H1 Q
  | _=>False)
 | _=>False
theorem peMinK{c cA:Addr}{ln co:Nat}{y:Str}{la:Arguments}{lsc:Scope}{p p1 p2 p3 p4 kp kp2 pos lpos:Pos}{t:TA}{ck:Nat}(hK:X.K=K)(hr:Room 3 X.A)(hu:X.A.units+40<cLine)(hm:X.mg "min"=none)(hC:PySem.W.CodeHd X.base c T)(hB:Bm X.mg X.base)(ha:PA X [e] t)(hcode:X.env.code=.ref c)(hN:X.N[i]?=some ("names":Str))(hkd:X.env.kindOf ("names":Str)=some .cell)(hcA:X.env.cells.lookup ("names":Str)=some cA)(hcl:closureFor lsc X.env=pure [(("names":Str),cA)])(hql:X.env.qual++"<lambda>"=qual)(hln:lpos.line=ln)(hco:lpos.col=co)(hb:∀ (pm cv ctv u:Value),bindArgs (PySem.W.kla_fn "<lambda>" qual la (.Subscript (.Name "names" p1) (.Name y p2) p3) lsc [("names",cA)] pm cv ctv) ⟨[u],[]⟩=pure [(y,u)])(s5:lsc.names.lookup y=some .local)(hyd:(y==("__debug__":Str))=false)(s1:lsc.kind=.function:=by rfl)(s2:lsc.isCoroutine=false:=by rfl)(s3:lsc.isGenerator=false:=by rfl)(s4:lsc.names.lookup ("names":Str)=some .free:=by rfl)(s7:∀ x∈lsc.names,x.2≠.cell:=by decide)(hdf:defaultsOf la X.env=([],[]):=by rfl)(hg:Gl X "min":=by rfl)(he:backTo pos (starEach [e] X.env)=(false,eval e X.env) :: backTo pos (starEach [] X.env):=by rfl)(hpl:(backTo pos (starEach [e] X.env)).any (·.1)=false:=by rfl) :
  PE X (.Call (.Name "min" p) [e] [⟨some "key",.Lambda la (.Subscript (.Name "names" p1) (.Name y p2) p3) lsc lpos,kp⟩,⟨some "default",.Constant .none ck p4,kp2⟩] pos) (qMinK K T ln co qual i t):=by
 subst hK hql hln hco
 intro pins s σ H Q I h
 refine wpAny_Call_Name_kw (zw5 I hg hm zbn2 ?_ (by decide) (by decide))
 refine callWith_kw (thn (ha pos pins s σ H _ I h) fun us s1' ⟨vs,H1,I1,r,q⟩=>?_) he hpl
 dsimp only at q
 split at q
 case h_2=>exact q.elim
 rename_i a
 split at q
 case h_2=>exact q.elim
 rename_i nl ei
 unfold rMinK at q
 obtain⟨is,bs,kf,h1,h2,h3,htr,⟨tab,hT,htab⟩,h5,h6⟩:=q
 obtain⟨u1,rfl,rx⟩:=zah1 r
 cases rx
 have hTs:s1'.heap.get? T=some (PySem.W.tabObj tab):=I1.hok T _ hT
 obtain⟨m1,hn1,hl1⟩:=id I1.loc
 obtain⟨u,ru,lk⟩:=hl1 i _ _ hN ei (.inr (.inl hkd))
 cases ru
 have hcell:s1'.heap.IsCell cA (some (.ref nl)):=by
  rcases lk with ⟨k,_⟩|⟨_,c2,e2,hc2⟩
  ·rw[hkd] at k;cases k
  ·rw[hcA] at e2;cases e2;exact hc2
 have gl:=I1.mod.glob.keeps I1.bk
 have hbT:∀ b o,X.base.get? b=some o->b≠T:=fun b o e z=>by
  have:=(I1.bs b o e).2
  rw[z,hT] at this;cases this
 have hgT:zdg3≠T:=by
  obtain⟨o,_,_,e,_⟩:=I1.mod.glob
  exact hbT _ _ e
 have hBT:s1'.heap.BuiltinsAt X.mg T:=by
  obtain⟨bm,ob,b1,b2,b3,b4,b5,b6⟩:=hB
  refine⟨bm,ob,b1,b2,fun z=>?_,hbT _ _ b3,I1.bk _ _ b3,b4,b5,b6⟩
  obtain⟨o,_,_,e,d,_⟩:=I1.mod.glob
  rw[z,e] at b3;cases b3;rw[d] at b6;cases b6
 have hCs:=hC.keeps I1.bk
 refine kws_cons (PySem.W.kla_eval hdf ?_)
 rcases htab with rfl|⟨c0,oc,vs,t0,rfl,ec,ed,ev⟩
 ·refine PySem.W.kla_makeFunction (mg:=X.mg) hcl I1.ok.glob gl hcode hCs hTs trivial rfl hgT hBT fun c' ctv h' tk hx hge hlt hrec htb=>?_
  obtain⟨c2,oc,vs,t0,e2,hoc,ed,ev⟩:=hrec
  cases e2
  have I2:=I1.tab (tk:=tk) (more:=#[rawInt lpos.line,rawInt lpos.col,.ref c']) hT hx hge hoc htb
  have fc:H1 c'=none:=I1.hok.fresh hge
  have nT:c'≠T:=fun z=>by rw[z,hT] at fc;cases fc
  generalize hF:PySem.W.kla_obj "<lambda>" (X.env.qual++"<lambda>") la _ lsc [(("names":Str),cA)] ((X.mg "__name__").getD .none) c' ctv=fo
  have I3:=I2.kept (t':=tk) (h':=h'.push fo) (fun b o e=>zcw5 _ e)
  generalize hH3:upd (upd H1 T (.tbl (#[]++#[rawInt lpos.line,rawInt lpos.col,.ref c']))) c' (.frz oc (.own c'))=H3 at I3
  have at1:∀ b o,b≠T->H1 b=some o->H3 b=some o:=fun b o n e=>by rw[← hH3,zb9 (za4 e fc),zb9 n];exact e
  have tb3:zr2 T lpos.line lpos.col (X.env.qual++"<lambda>") H3:=⟨_,by rw[← hH3,zb9 nT.symm,zc0,Array.empty_append],.inr ⟨c',oc,vs,t0,rfl,by rw[← hH3,zc0],ed,ev⟩⟩
  have sq3:SqL X.K H3 a (is.map V.int):=by
   rcases h1 with h1|h1
   ·rcases h1 with h1|⟨o,h1⟩
    ·exact .inl (.inl (at1 _ _ (fun z=>by rw[z,hT] at h1;cases h1) h1))
    ·exact .inl (.inr ⟨o,at1 _ _ (fun z=>by rw[z,hT] at h1;cases h1) h1⟩)
   ·exact .inr h1
  refine kws_cons (Constant_none (kws_nil ?_))
  subst hF
  refine zbz5 (c':=c') (cA:=cA) (nl:=nl) hr hu I3 (zcx7 _ rfl) ⟨c',oc,vs,t0,rfl,zcw5 _ hoc,ed,ev⟩ (fun u=>hb _ _ _ u) s1 s2 s3 s4 s5 s7 hyd ?_ sq3 (at1 _ _ (fun z=>by rw[z,hT] at h2;cases h2) h2) (fun k hk=>?_) htr (fun e=>h5 e _ at1 tb3) fun k hk hj=>h6 k hk hj _ at1 tb3
  ·obtain⟨o,q1,q2⟩:=hcell
   exact⟨o,zcw5 _ (hx _ _ (fun z=>by rw[z,hTs] at q1;cases q1;cases q2) q1),q2⟩
  ·obtain⟨a1,a2,a3⟩:=h3 k hk
   exact⟨a1,a2,fun b eb=>at1 _ _ (fun z=>by have:=a3 b eb;rw[z,hT] at this;cases this) (a3 b eb)⟩
 ·have hcs:s1'.heap.get? c0=some oc:=(I1.hok c0 _ ec).1
  refine PySem.W.kla_makeFunctionHit (mg:=X.mg) (cv:=.ref c0) hcl I1.ok.glob gl hcode hCs hTs ?_ ?_ hBT fun ctv h' tk hk hsz=>?_
  ·simp[TriplesOk,rawInt]
  ·simp[codeAmong,rawInt]
  ·generalize hF:({ cls:=.type "function",data:=.func (PySem.W.kla_fn "<lambda>" (X.env.qual++"<lambda>") la _ lsc [(("names":Str),cA)] ((X.mg "__name__").getD .none) (.ref c0) ctv) }:Obj)=fo
   have I3:=I1.kept (t':=tk) (h':=h'.push fo) (fun b o e=>zcw5 _ (hk b o e))
   refine kws_cons (Constant_none (kws_nil ?_))
   subst hF
   have tb:zr2 T lpos.line lpos.col (X.env.qual++"<lambda>") H1:=⟨_,hT,.inr ⟨c0,oc,vs,t0,rfl,ec,ed,ev⟩⟩
   refine zbz5 (c':=c0) (cA:=cA) (nl:=nl) hr hu I3 (zcx7 _ rfl) ⟨c0,oc,vs,t0,rfl,zcw5 _ (hk _ _ hcs),ed,ev⟩ (fun u=>hb _ _ _ u) s1 s2 s3 s4 s5 s7 hyd ?_ h1 h2 h3 htr (fun e=>h5 e _ (Chg.refl T H1) tb) fun k hk' hj=>h6 k hk' hj _ (Chg.refl T H1) tb
   obtain⟨o,q1,q2⟩:=hcell
   exact⟨o,zcw5 _ (hk _ _ q1),q2⟩
theorem zco5{ln co:Nat}{nl a:Addr}{Q:VK}{is:List Int}{bs:List Addr}(kf:Int->Str×Int)(h1:H a=some (.lst (is.map V.int)))(h2:H nl=some (.lst (bs.map V.ref)))(h3:∀ k∈is,0<=k/\k<bs.length/\∀ b,bs[k.toNat]?=some b->H b=some (.tup (nV (kf k))))(htr:∀ i j k,ltN (kf i) (kf j)=true->ltN (kf j) (kf k)=true->ltN (kf i) (kf k)=true)(h4:zr2 T ln co qual H)(h5:is=[]->∀ H',Chg T H H'->zr2 T ln co qual H'->Q .non H')(h6:∀ k∈is,(∀ j∈is,ltN (kf j) (kf k)=false)->∀ H',Chg T H H'->zr2 T ln co qual H'->Q (.int k) H'):rMinK K T ln co qual nl a H Q:=by
 unfold rMinK;exact⟨is,bs,kf,SqL.of h1,h2,h3,htr,h4,h5,h6⟩
noncomputable def DefI(P:Program)(w:World)(K:zcw1)(mg:Str->Option Value)(base:Heap)(k:Nat)(f:Addr)(ps:List Str)(sp:Sp):Prop:=∃ fd:FuncData,FnOk P w K mg base CX0 k f fd ps sp/\zai3 K fd ps []
theorem zcn3{k:Nat}{f:Addr}{ps:List Str}{x:Str}{p pos:Pos}{es:List Expr}{t:TA}(M:Mk X.K C f)(D:DefI X.prog X.w X.K X.mg X.base k f ps sp)(hr:Room (k+1) X.A)(hm:X.mg x=some (.ref C))(hx:zal4 CX0 X fun _ _ _=>False)(ha:PA X (e :: es) t)(hg:Gl X x:=by rfl)(hdb:(x==("__debug__":Str))=false:=by decide)(he:starEach (e :: es) X.env=(false,eval e X.env) :: starEach es X.env:=by rfl)(hpl:(backTo pos (starEach es X.env)).any (·.1)=false:=by rfl) :
  PE X (.Call (.Name x p) (e :: es) [] pos) (qMake C sp t):=by
 obtain⟨fd,F,hb⟩:=D
 exact peMake M F hr hm hb hx ha hg hdb he hpl
end
section
variable {P:Program}{w:World}{K:zcw1}{mg:Str->Option Value}{base:Heap}
theorem Fun.okC{x:Str}{st:Stmt}{f c:Addr}{fd:FuncData}{N ps:List Str}{k:Nat}(F:Fun K x qual st f fd)(hc:fd.code=.ref c)(S:zb0 N ps (za6 st))(len:∀ vs H Q E,sp vs H Q E->vs.length=ps.length)(hbody:∀ (A:Around) (outer:List Env) (s:Shared) (H:Hp) (vs:List V) (Q:VK) (E:XK),Room k (A.deeper (envOfC qual (za6 st) s.heap.objs.size f (.ref c)))->sp vs H Q E ->
   ∃ t,PSs (cxOf CX0 P w K mg base N qual (za6 st) f (.ref c) A outer s H E) (zn7 st) t/\t { nx:=fun _ H'=>Q .non H',rt:=Q } (start N vs) H):FnOk P w K mg base CX0 (k+1) f fd ps sp:=by
 obtain⟨oc,od,kV,doc,pm,an,cdv,ct,osl,rfl,lk,hcd⟩:=F.ex
 have:cdv=.ref c:=hc
 subst this
 exact fn_of lk hcd S len fun A outer s H vs Q E hr hsp=>hbody A outer s H vs Q E hr hsp
end
noncomputable def IsZ2(h:Heap)(z TI TO T:Addr)(b:Bool):Prop:=h.get? z=some { cls:=.type "zip",data:=.fields #[rawInt T,.bool b,.bool false,.ref TI,.ref TO] }
section
variable {prog:Program}{w:World}{A:Around}{E:Value->Shared->Prop}{s:Shared}
theorem zca6{z TI TO i1 i2 l1 l2:Addr}{b:Bool}{k1 k2:Nat}{xs ys:Array Value}{x y:Value}{oT:Obj}(D:ZipApart z TI TO i1 i2 l1 l2)(hz:IsZ2 s.heap z TI TO T b)(hT:s.heap.get? T=some oT)(hTI:IsPair s.heap TI (.ref i1) (.ref i2))(hTz:TI≠z)(h1:s.heap.IsListIter i1 l1 k1)(h2:s.heap.IsListIter i2 l2 k2)(hl1:s.heap.IsList l1 xs)(hl2:s.heap.IsList l2 ys)(hx:xs[k1]?=some x)(hy:ys[k2]?=some y)(hQ:∀ h',IsZ2 h' z TI TO T true->h'.IsListIter i1 l1 (k1+1)->h'.IsListIter i2 l2 (k2+1)->IsPair h' s.heap.objs.size x y->h'.objs.size=s.heap.objs.size+1 ->
   (∀ c o,c≠z->c≠i1->c≠i2->s.heap.get? c=some o->h'.get? c=some o)->Q (.ref s.heap.objs.size) { s with heap:=h' }) :
  wpAny (model prog w) A (Builtin.«zip.__next__» ⟨[.ref z],[]⟩) (fun fin s'=>∃ v,fin=.done (.ret v)/\Q v s') E s:=by
 show wpAny _ _ (field (.ref z) 2 >>= _) _ _ _
 refine zdf7 (wpAny_field hz rfl (x:=.bool false) rfl ?_)
 show wpAny _ _ (field (.ref z) 3 >>= _) _ _ _
 refine zdf7 (wpAny_field hz rfl (x:=.ref TI) rfl ?_)
 refine zdf7 (wpAny_seqItems hTI rfl ?_)
 show wpAny _ _ (Builtin.SmallTypes.ownedTupleIsFree (.ref z) >>= _) _ _ _
 refine zdf7 ?_
 unfold Builtin.SmallTypes.ownedTupleIsFree
 refine zdf7 (wpAny_field hz rfl (x:=rawInt T) rfl ?_)
 refine zdf7 (kdx_alive (o:=oT) hT ?_)
 simp only[Option.isNone_some,zda7,if_false]
 refine zdf7 (wpAny_field hz rfl (x:=.bool b) rfl ?_)
 cases b
 ·refine zdf7 (wpAny_setField_rec hz (by simp) fun h₁ hz₁ hs₁=>zdf8 ?_)
  replace hz₁:IsZ2 h₁ z TI TO T true:=hz₁
  have ex:∀ c o,c≠z->s.heap.get? c=some o->h₁.get? c=some o:=fun c o hc e=>hs₁.extBut _ _ hc e
  have hsz:h₁.objs.size=s.heap.objs.size:=hs₁.1
  simp only[zda7,if_false]
  rw[← Array.forIn_toList]
  simp only[zdd9,List.forIn_nil]
  refine zdf7 (zdf7 (zdf7 (zdg2 ?_)))
  show wpAny _ _ (Builtin.SmallTypes.nextOf (.ref i1) >>= _) _ _ _
  have hl1':h₁.IsList l1 xs:=by obtain⟨o,e,r⟩:=hl1;exact⟨o,ex _ _ D.l1z e,r⟩
  have hl2':h₁.IsList l2 ys:=by obtain⟨o,e,r⟩:=hl2;exact⟨o,ex _ _ D.l2z e,r⟩
  refine zdf7 (wpAny_nextOf_list_item (h1.at fun o e=>ex _ o D.i1z e) hl1' hx fun h₂ h1₂ hs₂=>zdf8 ?_)
  refine zdf8 ?_
  dsimp only
  refine zdf7 (zdf7 (zdg2 ?_))
  show wpAny _ _ (Builtin.SmallTypes.nextOf (.ref i2) >>= _) _ _ _
  refine zdf7 (wpAny_nextOf_list_item (((h2.at fun o e=>ex _ o D.i2z e)).extBut hs₂.extBut D.i12.symm) (hl2'.extBut hs₂.extBut D.l2i1) hy fun h₃ h2₃ hs₃=>zdf8 ?_)
  refine zdf8 (zdf8 ?_)
  dsimp only
  refine zdf7 (wpAny_newTuple ?_ (hsz:=(show 2<=sizeLine by decide)))
  have hsz3:h₃.objs.size=s.heap.objs.size:=by rw[hs₃.1,hs₂.1,hsz]
  have kp:∀ c o,c≠z->c≠i1->c≠i2->s.heap.get? c=some o->h₃.get? c=some o:=fun c o c1 c2 c3 e=>hs₃.extBut _ _ c3 (hs₂.extBut _ _ c2 (ex c o c1 e))
  have hz3:IsZ2 h₃ z TI TO T true:=hs₃.extBut _ _ D.i2z.symm (hs₂.extBut _ _ D.i1z.symm hz₁)
  refine zdf8 ⟨_,rfl,?_⟩
  show Q (.ref h₃.objs.size) _
  have hp:=zcx7 h₃ (o:={ cls:=.type "tuple",data:=.seq #[x,y] }) rfl
  rw[hsz3] at hp ⊢
  exact hQ _ (zcw5 _ hz3) ((h1₂.extBut hs₃.extBut D.i12).at fun o e=>zcw5 _ e) (h2₃.at fun o e=>zcw5 _ e) hp (by rw[Heap.size_push,hsz3]) fun c o c1 c2 c3 e=>zcw5 _ (kp c o c1 c2 c3 e)
 ·refine zdf8 ?_
  have hz₁:IsZ2 s.heap z TI TO T true:=hz
  have ex:∀ c o,c≠z->s.heap.get? c=some o->s.heap.get? c=some o:=fun c o hc e=>e
  have hsz:s.heap.objs.size=s.heap.objs.size:=rfl
  simp only[zda7,if_false]
  rw[← Array.forIn_toList]
  simp only[zdd9,List.forIn_nil]
  refine zdf7 (zdf7 (zdf7 (zdg2 ?_)))
  show wpAny _ _ (Builtin.SmallTypes.nextOf (.ref i1) >>= _) _ _ _
  have hl1':s.heap.IsList l1 xs:=by obtain⟨o,e,r⟩:=hl1;exact⟨o,ex _ _ D.l1z e,r⟩
  have hl2':s.heap.IsList l2 ys:=by obtain⟨o,e,r⟩:=hl2;exact⟨o,ex _ _ D.l2z e,r⟩
  refine zdf7 (wpAny_nextOf_list_item (h1.at fun o e=>ex _ o D.i1z e) hl1' hx fun h₂ h1₂ hs₂=>zdf8 ?_)
  refine zdf8 ?_
  dsimp only
  refine zdf7 (zdf7 (zdg2 ?_))
  show wpAny _ _ (Builtin.SmallTypes.nextOf (.ref i2) >>= _) _ _ _
  refine zdf7 (wpAny_nextOf_list_item (((h2.at fun o e=>ex _ o D.i2z e)).extBut hs₂.extBut D.i12.symm) (hl2'.extBut hs₂.extBut D.l2i1) hy fun h₃ h2₃ hs₃=>zdf8 ?_)
  refine zdf8 (zdf8 ?_)
  dsimp only
  refine zdf7 (wpAny_newTuple ?_ (hsz:=(show 2<=sizeLine by decide)))
  have hsz3:h₃.objs.size=s.heap.objs.size:=by rw[hs₃.1,hs₂.1,hsz]
  have kp:∀ c o,c≠z->c≠i1->c≠i2->s.heap.get? c=some o->h₃.get? c=some o:=fun c o c1 c2 c3 e=>hs₃.extBut _ _ c3 (hs₂.extBut _ _ c2 (ex c o c1 e))
  have hz3:IsZ2 h₃ z TI TO T true:=hs₃.extBut _ _ D.i2z.symm (hs₂.extBut _ _ D.i1z.symm hz₁)
  refine zdf8 ⟨_,rfl,?_⟩
  show Q (.ref h₃.objs.size) _
  have hp:=zcx7 h₃ (o:={ cls:=.type "tuple",data:=.seq #[x,y] }) rfl
  rw[hsz3] at hp ⊢
  exact hQ _ (zcw5 _ hz3) ((h1₂.extBut hs₃.extBut D.i12).at fun o e=>zcw5 _ e) (h2₃.at fun o e=>zcw5 _ e) hp (by rw[Heap.size_push,hsz3]) fun c o c1 c2 c3 e=>zcw5 _ (kp c o c1 c2 c3 e)
theorem zby0{z TI TO i1 i2 l1 l2:Addr}{b:Bool}{k1 k2:Nat}{xs ys:Array Value}{x y:Value}{oT:Obj}{Q:Option Value->Shared->Prop}(D:ZipApart z TI TO i1 i2 l1 l2)(hz:IsZ2 s.heap z TI TO T b)(hT:s.heap.get? T=some oT)(hTI:IsPair s.heap TI (.ref i1) (.ref i2))(hTz:TI≠z)(h1:s.heap.IsListIter i1 l1 k1)(h2:s.heap.IsListIter i2 l2 k2)(hl1:s.heap.IsList l1 xs)(hl2:s.heap.IsList l2 ys)(hx:xs[k1]?=some x)(hy:ys[k2]?=some y)(hQ:∀ h',IsZ2 h' z TI TO T true->h'.IsListIter i1 l1 (k1+1)->h'.IsListIter i2 l2 (k2+1)->IsPair h' s.heap.objs.size x y->h'.objs.size=s.heap.objs.size+1 ->
   (∀ c o,c≠z->c≠i1->c≠i2->s.heap.get? c=some o->h'.get? c=some o)->Q (some (.ref s.heap.objs.size)) { s with heap:=h' }) :
  wpAny (model prog w) A (pyNext (.ref z)) Q E s:=by
 have hT':s.TypeIs (.ref z) "zip":=⟨_,hz,rfl⟩
 unfold pyNext
 refine zdf7 (wpAny_attempt (wpAny_callSpecial?_slot (name:=Str.ofString "__next__") hT' F.slot_zip_next
  (wpAny_call_entry F.slot_zip_next hT' F.entry_zip_next (zca6 D hz hT hTI hTz h1 h2 hl1 hl2 hx hy fun h' a1 a2 a3 a4 a5 a6=>?_) (F.args_zip_next_1 _))))
 exact zdf8 (hQ h' a1 a2 a3 a4 a5 a6)
theorem zcb3{z TI TO i1 i2 l1 l2:Addr}{b:Bool}{k1 k2:Nat}{xs ys:Array Value}{oT:Obj}{Q:Fin->Shared->Prop}(hh:A.handled=none)(D:ZipApart z TI TO i1 i2 l1 l2)(hz:IsZ2 s.heap z TI TO T b)(hT:s.heap.get? T=some oT)(hTI:IsPair s.heap TI (.ref i1) (.ref i2))(h1:s.heap.IsListIter i1 l1 k1)(h2:s.heap.IsListIter i2 l2 k2)(hl1:s.heap.IsList l1 xs)(hl2:s.heap.IsList l2 ys)(hend:xs[k1]?=none∨ys[k2]?=none)(hE:∀ h' e,(∀ c o,c≠z->c≠i1->c≠i2->s.heap.get? c=some o->h'.get? c=some o)->(∃ o,h'.get? e=some o/\o.cls=.type "StopIteration")->E (.ref e) { s with heap:=h' }) :
  wpAny (model prog w) A (Builtin.«zip.__next__» ⟨[.ref z],[]⟩) Q E s:=by
 show wpAny _ _ (field (.ref z) 2 >>= _) _ _ _
 refine zdf7 (wpAny_field hz rfl (x:=.bool false) rfl ?_)
 show wpAny _ _ (field (.ref z) 3 >>= _) _ _ _
 refine zdf7 (wpAny_field hz rfl (x:=.ref TI) rfl ?_)
 refine zdf7 (wpAny_seqItems hTI rfl ?_)
 show wpAny _ _ (Builtin.SmallTypes.ownedTupleIsFree (.ref z) >>= _) _ _ _
 refine zdf7 ?_
 unfold Builtin.SmallTypes.ownedTupleIsFree
 refine zdf7 (wpAny_field hz rfl (x:=rawInt T) rfl ?_)
 refine zdf7 (kdx_alive (o:=oT) hT ?_)
 simp only[Option.isNone_some,zda7,if_false]
 refine zdf7 (wpAny_field hz rfl (x:=.bool b) rfl ?_)
 cases b
 ·refine zdf7 (wpAny_setField_rec hz (by simp) fun h₁ hz₁ hs₁=>zdf8 ?_)
  have ex:∀ c o,c≠z->s.heap.get? c=some o->h₁.get? c=some o:=fun c o hc e=>hs₁.extBut _ _ hc e
  simp only[zda7,if_false]
  rw[← Array.forIn_toList]
  simp only[zdd9,List.forIn_nil]
  refine zdf7 (zdf7 (zdf7 (zdg2 ?_)))
  show wpAny _ _ (Builtin.SmallTypes.nextOf (.ref i1) >>= _) _ _ _
  have hl1':h₁.IsList l1 xs:=by obtain⟨o,e,r⟩:=hl1;exact⟨o,ex _ _ D.l1z e,r⟩
  have hl2':h₁.IsList l2 ys:=by obtain⟨o,e,r⟩:=hl2;exact⟨o,ex _ _ D.l2z e,r⟩
  cases hx:xs[k1]? with
  | none=>
   refine zdf7 (wpAny_nextOf_list_end hh (h1.at fun o e=>ex _ o D.i1z e) hl1' hx fun h₂ e hs₂ he=>?_)
   exact hE h₂ e (fun c o c1 c3 _ x=>hs₂ _ _ c3 (ex c o c1 x)) he
  | some x=>
   have hy:ys[k2]?=none:=by rcases hend with h|h;rw[hx] at h;cases h;exact h
   refine zdf7 (wpAny_nextOf_list_item (h1.at fun o e=>ex _ o D.i1z e) hl1' hx fun h₂ h1₂ hs₂=>zdf8 ?_)
   refine zdf8 ?_
   dsimp only
   refine zdf7 (zdf7 (zdg2 ?_))
   show wpAny _ _ (Builtin.SmallTypes.nextOf (.ref i2) >>= _) _ _ _
   refine zdf7 (wpAny_nextOf_list_end hh (((h2.at fun o e=>ex _ o D.i2z e)).extBut hs₂.extBut D.i12.symm) (hl2'.extBut hs₂.extBut D.l2i1) hy fun h₃ e hs₃ he=>?_)
   exact hE h₃ e (fun c o c1 c2 c3 x=>hs₃ _ _ c3 (hs₂.extBut _ _ c2 (ex c o c1 x))) he
 ·refine zdf8 ?_
  have ex:∀ c o,c≠z->s.heap.get? c=some o->s.heap.get? c=some o:=fun c o hc e=>e
  simp only[zda7,if_false]
  rw[← Array.forIn_toList]
  simp only[zdd9,List.forIn_nil]
  refine zdf7 (zdf7 (zdf7 (zdg2 ?_)))
  show wpAny _ _ (Builtin.SmallTypes.nextOf (.ref i1) >>= _) _ _ _
  have hl1':s.heap.IsList l1 xs:=by obtain⟨o,e,r⟩:=hl1;exact⟨o,ex _ _ D.l1z e,r⟩
  have hl2':s.heap.IsList l2 ys:=by obtain⟨o,e,r⟩:=hl2;exact⟨o,ex _ _ D.l2z e,r⟩
  cases hx:xs[k1]? with
  | none=>
   refine zdf7 (wpAny_nextOf_list_end hh (h1.at fun o e=>ex _ o D.i1z e) hl1' hx fun h₂ e hs₂ he=>?_)
   exact hE h₂ e (fun c o c1 c3 _ x=>hs₂ _ _ c3 (ex c o c1 x)) he
  | some x=>
   have hy:ys[k2]?=none:=by rcases hend with h|h;rw[hx] at h;cases h;exact h
   refine zdf7 (wpAny_nextOf_list_item (h1.at fun o e=>ex _ o D.i1z e) hl1' hx fun h₂ h1₂ hs₂=>zdf8 ?_)
   refine zdf8 ?_
   dsimp only
   refine zdf7 (zdf7 (zdg2 ?_))
   show wpAny _ _ (Builtin.SmallTypes.nextOf (.ref i2) >>= _) _ _ _
   refine zdf7 (wpAny_nextOf_list_end hh (((h2.at fun o e=>ex _ o D.i2z e)).extBut hs₂.extBut D.i12.symm) (hl2'.extBut hs₂.extBut D.l2i1) hy fun h₃ e hs₃ he=>?_)
   exact hE h₃ e (fun c o c1 c2 c3 x=>hs₃ _ _ c3 (hs₂.extBut _ _ c2 (ex c o c1 x))) he
theorem zbv4{z TI TO i1 i2 l1 l2:Addr}{b:Bool}{k1 k2:Nat}{xs ys:Array Value}{oT:Obj}{Q:Option Value->Shared->Prop}(hh:A.handled=none)(D:ZipApart z TI TO i1 i2 l1 l2)(hz:IsZ2 s.heap z TI TO T b)(hT:s.heap.get? T=some oT)(hTI:IsPair s.heap TI (.ref i1) (.ref i2))(h1:s.heap.IsListIter i1 l1 k1)(h2:s.heap.IsListIter i2 l2 k2)(hl1:s.heap.IsList l1 xs)(hl2:s.heap.IsList l2 ys)(hend:xs[k1]?=none∨ys[k2]?=none)(hQ:∀ h',(∀ c o,c≠z->c≠i1->c≠i2->s.heap.get? c=some o->h'.get? c=some o)->Q none { s with heap:=h' }):wpAny (model prog w) A (pyNext (.ref z)) Q E s:=by
 have hT':s.TypeIs (.ref z) "zip":=⟨_,hz,rfl⟩
 unfold pyNext
 refine zdf7 (wpAny_attempt (wpAny_callSpecial?_slot (name:=Str.ofString "__next__") hT' F.slot_zip_next
  (wpAny_call_entry F.slot_zip_next hT' F.entry_zip_next (zcb3 hh D hz hT hTI h1 h2 hl1 hl2 hend fun h' e hk he=>?_) (F.args_zip_next_1 _))))
 obtain⟨o,ho,hc⟩:=he
 refine zdf7 (wpAny_isInstance (T:="StopIteration") (b:=true) ⟨o,ho,hc⟩ isSubtype_stop ?_)
 exact zdf8 (hQ _ hk)
end
theorem zce9:entryFor table "zip.__getattribute__"=some Builtin.«object.__getattribute__»:=
 entryFor_alias (id':="object.__getattribute__") (by kernel_rfl) (by decide +kernel) (by decide +kernel) (by kernel_rfl)
theorem zbp2:typeLookup (.type "zip") "__getattr__"=pure none:=by rw[typeLookup_type,builtinLookup_eq_fast];kernel_rfl
theorem zci5:typeLookup (.type "zip") "keys"=pure none:=by rw[typeLookup_type,builtinLookup_eq_fast];kernel_rfl
section
variable {prog:Program}{w:World}{A:Around}{E:Value->Shared->Prop}{h:Heap}{g:Array GenState}{d:Drawn}{t:Nat}{os:OsState}{z:Addr}{vs:Array Value}
theorem zk_get{tk:Tok}{Q:Fin->Shared->Prop}(hx:h.get? z=some { cls:=.type "zip",data:=.fields vs })(hA:A.handled=none)(hE:∀ h' tk' e,Heap.NewAttrErr h h' e (.ref z) "keys"->E (.ref e) ⟨h',g,d,tk',os⟩) :
  wpAny (model prog w) A (Builtin.«object.__getattribute__» ⟨[.ref z,.str "keys" tk],[]⟩) Q E ⟨h,g,d,t,os⟩:=by
 have hT:(⟨h,g,d,t,os⟩:Shared).TypeIs (.ref z) "zip":=⟨_,hx,rfl⟩
 have f1:=zci5
 unfold Builtin.«object.__getattribute__»
 repeat (any_goals (first|assumption|wp_step))
 exact wpAny_raiseAttrError (s:=⟨h,g,d,t,os⟩) hA hE (attrMsg_fits (by decide +kernel) (by size_fits))
theorem zcj7{tk:Tok}{R:Result->Shared->Prop}(hx:h.get? z=some { cls:=.type "zip",data:=.fields vs })(hA:A.handled=none)(hE:∀ h' tk' e,Heap.NewAttrErr h h' e (.ref z) "keys"->R (.error (.ref e)) ⟨h',g,d,tk',os⟩) :
  codeAny (model prog w) A (.call (.builtin "zip.__getattribute__") ⟨[.ref z,.str "keys" tk],[]⟩) R ⟨h,g,d,t,os⟩:=
 codeAny_call_builtin F.slot_zip_getattribute.plain zce9 (F.slot_zip_getattribute.check _ _ _ _ _ _ _ _ (show (⟨h,g,d,t,os⟩:Shared).TypeIs (.ref z) "zip" from ⟨_,hx,rfl⟩) (F.args_zip_getattribute_2 _ _) (zk_get hx hA hE))
theorem zcl3{Q:Option Value->Shared->Prop}(hx:h.get? z=some { cls:=.type "zip",data:=.fields vs })(hA:A.handled=none)(hq:∀ h' tk',Grw h h'->Q none ⟨h',g,d,tk',os⟩):wpAny (model prog w) A (getAttr? (.ref z) "keys") Q E ⟨h,g,d,t,os⟩:=by
 have hT:(⟨h,g,d,t,os⟩:Shared).TypeIs (.ref z) "zip":=⟨_,hx,rfl⟩
 have f1:=sub_AttributeError
 have f2:=F.slot_zip_getattribute.lookup
 have f3:=F.slot_zip_getattribute.bind (.ref z)
 have f5:=zbp2
 unfold getAttr? getAttrBy? getAttrBy
 repeat (any_goals (first|assumption|wp_step))
 refine zcj7 hx hA fun h' tk' e hn=>?_
 obtain⟨t',u',he⟩:=hn.there
 dsimp only
 unfold getattributeRaised
 repeat (any_goals (first|assumption|wp_step))
 exact hq _ _ hn.keeps
end
section
variable {X:Cx}{pins:List (Addr×Obj)}{σ:St}{H:Hp}{s:Shared}
theorem Inv.spun{t':Nat}{ch:List Addr}(I:Inv X pins σ H s)(hf:∀ b∈ch,FpOk X pins H b)(kp:∀ b o,b ∉ ch->s.heap.get? b=some o->h'.get? b=some o)(th:∀ b∈ch,∃ o,h'.get? b=some o) :
  Inv X pins σ H { s with heap:=h',toks:=t' }:=by
 have nof:∀ b v,H b=some v->b ∉ ch:=fun b v hb m=>by
  have:=(hf b m).1
  rw[this] at hb
  cases hb
 have chs:∀ b∈ch,(b∈X.ex∨X.s₀.heap.objs.size<=b)/\b≠X.env.locals/\(∀ x c,X.env.cells.lookup x=some c->c≠b)/\∀ p∈X.pn++pins,p.1≠b:=fun b hb=>by
  obtain⟨f0,f1,f2,f3,f4,f5⟩:=hf b hb
  exact⟨f3,f1,f4,f5⟩
 have hok:HOk X.prog X.w H h':=fun b v' hb=>by
  refine (I.hok b v' hb).stay (fun c w' hc q=>?_) (fun c q=>q) (fun c ys q=>q)
  rcases hc with rfl|hc
  ·exact kp _ _ (nof _ _ hb) q
  ·exact kp _ _ (nof _ _ hc) q
 exact I.step (g':=s.gens) (d':=s.drawn) (t':=t') (ch:=ch) chs (fun b o _ _ hb x _=>kp b o hb x) (fun b o _ _ hb x _=>⟨o.slots,kp b o hb x⟩)
  (fun b o _ x n=>n) (fun b o hb x=>⟨o,kp b o hb x⟩) (fun b ys q=>q) (fun b o v q=>q)
  (fun b ps q=>⟨#[],by rw[q];simp⟩)
  (fun m hm=>by
   obtain⟨o,es,ep,ho,r⟩:=hm
   exact⟨o,es,ep,kp _ o (fun m=>(chs _ m).2.1 rfl) ho,r⟩) hok I.bare
end
theorem zbm5:entryFor table "dict.update.loop"=some Builtin.«dict.update.loop»:=entryFor_of_tree (by kernel_rfl)
theorem zah7:plainId "dict.update.loop"=true:=by decide +kernel
theorem zcj0:bootBuiltins "dict"=some (.type "dict"):=by decide +kernel
noncomputable def dzip:List (List Key)->List V->List (List Key×V)->List (List Key×V)
 | k :: ks,v :: vs,acc=>dzip ks vs (putK acc k v)
 | _,_,acc=>acc
noncomputable def ZSt(z TI TO i1 i2 l1 l2:Addr)(i:Nat)(h:Heap):Prop:=
 ((IsZip h z TI TO .none/\∃ a b,IsPair h TO a b)∨∃ T b oT,IsZ2 h z TI TO T b/\h.get? T=some oT/\T≠z/\T≠i1/\T≠i2)/\IsPair h TI (.ref i1) (.ref i2)/\h.IsListIter i1 l1 i/\h.IsListIter i2 l2 i
section
variable {X:Cx}{pins:List (Addr×Obj)}{σ:St}{H:Hp}{s:Shared}{A:Around}{E:Value->Shared->Prop}{z TI TO i1 i2 l1 l2 d:Addr}
theorem ZSt.keep(Z:ZSt z TI TO i1 i2 l1 l2 i h)(hd:∀ b∈[z,TI,TO,i1,i2],b≠d)(hs:Heap.SameBut d h h')(he:∃ o,h'.get? d=some o):ZSt z TI TO i1 i2 l1 l2 i h':=by
 obtain⟨Z1,Z2,Z3,Z4⟩:=Z
 have kz:=hd z (by simp)
 have kTI:=hd TI (by simp)
 have kTO:=hd TO (by simp)
 have k1:=hd i1 (by simp)
 have k2:=hd i2 (by simp)
 refine⟨?_,(hs.2 _ kTI).trans Z2,Z3.extBut hs.extBut k1,Z4.extBut hs.extBut k2⟩
 rcases Z1 with ⟨a,x,y,b⟩|⟨T,b,oT,a1,a2,a3⟩
 ·exact .inl ⟨(hs.2 _ kz).trans a,x,y,(hs.2 _ kTO).trans b⟩
 ·by_cases e:T=d
  ·obtain⟨o,ho⟩:=he
   exact .inr ⟨T,b,o,(hs.2 _ kz).trans a1,by rw[e];exact ho,a3⟩
  ·exact .inr ⟨T,b,oT,(hs.2 _ kz).trans a1,(hs.2 _ e).trans a2,a3⟩
theorem zcm1{ys:List V}{x:V}(D:ZipApart z TI TO i1 i2 l1 l2)(I:Inv X pins σ H s)(fp:∀ b∈[z,TI,TO,i1,i2],FpOk X pins H b)(q1:SqL X.K H l1 xs)(q2:SqL X.K H l2 ys)(Z:ZSt z TI TO i1 i2 l1 l2 i s.heap)(hx:xs[i]?=some x)(hy:ys[i]?=some y) :
  wpAny (model X.prog X.w) A (pyNext (.ref z)) (fun o s'=>∃ t u v,o=some (.ref t)/\RelV x u/\RelV y v/\Inv X pins σ H s'/\IsPair s'.heap t u v/\ZSt z TI TO i1 i2 l1 l2 (i+1) s'.heap) E s:=by
 obtain⟨Z1,Z2,Z3,Z4⟩:=Z
 obtain⟨its1,rv1,p1,_⟩:=I.list q1
 obtain⟨its2,rv2,p2,_⟩:=I.list q2
 obtain⟨u,hu,ru⟩:=rv1.get hx
 obtain⟨v,hv,rv⟩:=rv2.get hy
 have lt:∀ {c o},s.heap.get? c=some o->s.heap.objs.size≠c:=fun e=>Nat.ne_of_gt (zcx3 e)
 have li1:s.heap.objs.size≠i1:=by obtain⟨_,e,_⟩:=Z3;exact lt e
 have li2:s.heap.objs.size≠i2:=by obtain⟨_,e,_⟩:=Z4;exact lt e
 rcases Z1 with ⟨hz,a0,b0,hTO⟩|⟨T,b,oT,hz,hT,t1,t2,t3⟩
 ·refine wpAny_pyNext_zip_item D hz Z2 hTO Z3 Z4 p1.isList p2.isList (x:=u) (y:=v) (by simpa using hu) (by simpa using hv) fun h' z3 TO3 j1 j2 T3 sz3 kp3=>?_
  have kp:∀ b o,b ∉ [z,TO,i1,i2]->s.heap.get? b=some o->h'.get? b=some o:=fun b o hb x=>by
   simp only[zcx2,zcx8,or_false,not_or] at hb
   exact kp3 b o hb.1 hb.2.1 hb.2.2.1 hb.2.2.2 x
  refine⟨_,u,v,rfl,ru,rv,I.spun (t':=s.toks) (ch:=[z,TO,i1,i2]) (fun b hb=>fp b ?_) kp (fun b hb=>?_),T3,.inr ⟨s.heap.objs.size,false,_,z3,T3,lt hz,li1,li2⟩,kp3 _ _ D.TIz D.TITO D.TIi1 D.TIi2 Z2,j1,j2⟩
  ·simp only[zcx2,zcx8,or_false] at hb ⊢
   rcases hb with h|h|h|h<;>simp[h]
  ·simp only[zcx2,zcx8,or_false] at hb
   rcases hb with rfl|rfl|rfl|rfl
   ·exact⟨_,z3⟩
   ·exact⟨_,TO3⟩
   ·obtain⟨o,e,_⟩:=j1;exact⟨o,e⟩
   ·obtain⟨o,e,_⟩:=j2;exact⟨o,e⟩
 ·refine zby0 D hz hT Z2 D.TIz Z3 Z4 p1.isList p2.isList (x:=u) (y:=v) (by simpa using hu) (by simpa using hv) fun h' z3 j1 j2 T3 sz3 kp3=>?_
  have kp:∀ b o,b ∉ [z,i1,i2]->s.heap.get? b=some o->h'.get? b=some o:=fun b o hb x=>by
   simp only[zcx2,zcx8,or_false,not_or] at hb
   exact kp3 b o hb.1 hb.2.1 hb.2.2 x
  refine⟨_,u,v,rfl,ru,rv,I.spun (t':=s.toks) (ch:=[z,i1,i2]) (fun b hb=>fp b ?_) kp (fun b hb=>?_),T3,.inr ⟨T,true,oT,z3,kp3 _ _ t1 t2 t3 hT,t1,t2,t3⟩,kp3 _ _ D.TIz D.TIi1 D.TIi2 Z2,j1,j2⟩
  ·simp only[zcx2,zcx8,or_false] at hb ⊢
   rcases hb with h|h|h<;>simp[h]
  ·simp only[zcx2,zcx8,or_false] at hb
   rcases hb with rfl|rfl|rfl
   ·exact⟨_,z3⟩
   ·obtain⟨o,e,_⟩:=j1;exact⟨o,e⟩
   ·obtain⟨o,e,_⟩:=j2;exact⟨o,e⟩
theorem dz_end{ys:List V}(hh:A.handled=none)(D:ZipApart z TI TO i1 i2 l1 l2)(I:Inv X pins σ H s)(fp:∀ b∈[z,TI,TO,i1,i2],FpOk X pins H b)(q1:SqL X.K H l1 xs)(q2:SqL X.K H l2 ys)(Z:ZSt z TI TO i1 i2 l1 l2 i s.heap)(hx:xs.length<=i∨ys.length<=i) :
  wpAny (model X.prog X.w) A (pyNext (.ref z)) (fun o s'=>o=none/\Inv X pins σ H s') E s:=by
 obtain⟨Z1,Z2,Z3,Z4⟩:=Z
 obtain⟨its1,rv1,p1,_⟩:=I.list q1
 obtain⟨its2,rv2,p2,_⟩:=I.list q2
 have hl1:=rv1.length
 have hl2:=rv2.length
 have he:its1.toArray[i]?=none∨its2.toArray[i]?=none:=by
  rcases hx with hx|hx
  ·exact .inl (by simp;omega)
  ·exact .inr (by simp;omega)
 have nof:∀ b v,H b=some v->b ∉ [z,TO,i1,i2]:=fun b v hb m=>by
  have:=(fp b (by simp only[zcx2,zcx8,or_false] at m ⊢;rcases m with h|h|h|h<;>simp[h])).1
  rw[this] at hb
  cases hb
 have fin:∀ h':Heap,(∀ b o,b ∉ [z,TO,i1,i2]->s.heap.get? b=some o->h'.get? b=some o)->Inv X pins σ H { s with heap:=h' }:=fun h' kp=>by
  have chs:∀ b∈[z,TO,i1,i2],(b∈X.ex∨X.s₀.heap.objs.size<=b)/\b≠X.env.locals/\(∀ x c,X.env.cells.lookup x=some c->c≠b)/\∀ p∈X.pn++pins,p.1≠b:=fun b hb=>by
   obtain⟨f0,f1,f2,f3,f4,f5⟩:=fp b (by simp only[zcx2,zcx8,or_false] at hb ⊢;rcases hb with h|h|h|h<;>simp[h])
   exact⟨f3,f1,f4,f5⟩
  have hok:HOk X.prog X.w H h':=fun b v' hb=>by
   refine (I.hok b v' hb).stay (fun c w' hc q=>?_) (fun c q=>q) (fun c ys q=>q)
   rcases hc with rfl|hc
   ·exact kp _ _ (nof _ _ hb) q
   ·exact kp _ _ (nof _ _ hc) q
  exact I.step (g':=s.gens) (d':=s.drawn) (t':=s.toks) (ch:=[z,TO,i1,i2]) chs (fun b o _ _ hb x _=>kp b o hb x) (fun b o _ _ hb x _=>⟨o.slots,kp b o hb x⟩)
   (fun b o _ x n=>n) (fun b o hb x=>⟨o,kp b o hb x⟩) (fun b ys q=>q) (fun b o v q=>q)
   (fun b ps q=>⟨#[],by rw[q];simp⟩)
   (fun m hm=>by
    obtain⟨o,es,ep,ho,r⟩:=hm
    exact⟨o,es,ep,kp _ o (fun m=>(chs _ m).2.1 rfl) ho,r⟩) hok I.bare
 rcases Z1 with ⟨hz,a0,b0,hTO⟩|⟨T,b,oT,hz,hT,t1,t2,t3⟩
 ·exact wpAny_pyNext_zip_end hh D hz Z2 hTO Z3 Z4 p1.isList p2.isList he fun h' kp3=>⟨rfl,fin h' fun b o hb x=>by
   simp only[zcx2,zcx8,or_false,not_or] at hb
   exact kp3 b o hb.1 hb.2.1 hb.2.2.1 hb.2.2.2 x⟩
 ·exact zbv4 hh D hz hT Z2 Z3 Z4 p1.isList p2.isList he fun h' kp3=>⟨rfl,fin h' fun b o hb x=>by
   simp only[zcx2,zcx8,or_false,not_or] at hb
   exact kp3 b o hb.1 hb.2.2.1 hb.2.2.2 x⟩
theorem zck2{R:Result->Shared->Prop}(hh:A.handled=none)(hu:A.units+5<cLine)(D:ZipApart z TI TO i1 i2 l1 l2)(hd0:H d=none)(fp:∀ b∈[z,TI,TO,i1,i2],FpOk X pins H b/\b≠d){ps:List (Addr×List Key)}{ys:List V}(q1:SqL X.K H l1 (ps.map fun p=>V.ref p.1))(q2:SqL X.K H l2 ys)(hk:∀ (i:Nat) p,ps[i]?=some p->H p.1=some (.tup (p.2.map kV)))(hl:ps.length<=ys.length)(hz:ps.length<sizeLine) :
  ∀ (m i:Nat) (acc:List (List Key×V)) (s:Shared),ps.length - i=m->i<=ps.length->acc.length<=i->Inv X pins σ (upd H d (.dT acc)) s->ZSt z TI TO i1 i2 l1 l2 i s.heap ->
   (∀ s',Inv X pins σ (upd H d (.dT (dzip ((ps.drop i).map (·.2)) (ys.drop i) acc))) s'->R (.ok (.ret .none)) s') ->
   codeAny (model X.prog X.w) A (.builtin "dict.update.loop" ⟨[.ref d,.ref z,rawInt i,.none],[]⟩) R s:=by
 intro m
 induction m with
 | zero=>
  intro i acc s hm hi hacc I Z hR
  have hin:i=ps.length:=by omega
  refine codeAny_builtin zbm5 ?_
  rw[Around.under_plainId zah7 _]
  show wpAny _ A.in1 (pyNext (.ref z) >>= _) _ _ s
  have sm:Same H (upd H d (.dT acc)):=Same.upd hd0
  refine zdf7 (thn (dz_end (A:=A.in1) hh D I (fun b hb=>⟨by rw[zb9 (fp b hb).2];exact (fp b hb).1.1,(fp b hb).1.2⟩) (sm.seq q1) (sm.seq q2) Z (.inl (by rw[zcw0];omega))) fun o s' ⟨e,I'⟩=>?_)
  subst e
  show wpAny _ A.in1 (Builtin.Dict.addKeywords d [] >>= _) _ _ _
  refine zdf7 (zdf8 (zdf8 (hR s' ?_)))
  rw[List.drop_eq_nil_of_le (by omega)]
  exact I'
 | succ m ih=>
  intro i acc s hm hi hacc I Z hR
  have hlt:i<ps.length:=by omega
  have hly:i<ys.length:=by omega
  obtain⟨a,k⟩:Addr×List Key:=ps[i]
  obtain⟨p,hp⟩:∃ p,ps[i]?=some p:=⟨ps[i],zcv9 hlt⟩
  obtain⟨y,hy⟩:∃ y,ys[i]?=some y:=⟨ys[i],zcv9 hly⟩
  refine codeAny_builtin zbm5 ?_
  rw[Around.under_plainId zah7 _]
  show wpAny _ A.in1 (pyNext (.ref z) >>= _) _ _ s
  have sm:Same H (upd H d (.dT acc)):=Same.upd hd0
  refine zdf7 (thn (zcm1 (A:=A.in1) (x:=V.ref p.1) (y:=y) D I (fun b hb=>⟨by rw[zb9 (fp b hb).2];exact (fp b hb).1.1,(fp b hb).1.2⟩) (sm.seq q1) (sm.seq q2) Z (by rw[zcw3,hp];rfl) hy) fun o s' ⟨t,u,v,e,ru,rv,I',T3,Z'⟩=>?_)
  subst e
  cases (show u=Value.ref p.1 from ru)
  dsimp only
  refine zdf7 (zdg2 ?_)
  refine zdf7 (wpAny_tryCatch ?_)
  unfold Builtin.Dict.pairItems
  refine zdf7 (wpAny_typeOf (T:="tuple") ⟨_,T3,rfl⟩ ?_)
  rw[if_pos (by decide)]
  refine zdf7 (wpAny_seqItems T3 rfl (zdf8 ?_))
  show wpAny _ A.in1 (holding [Value.ref p.1,v] (dictSet d (.ref p.1) v)) _ _ _
  refine zdg2 ?_
  have eb:(upd H d (.dT acc)) p.1=some (.tup (p.2.map kV)):=sm _ _ (hk i p hp)
  have e:(upd H d (.dT acc)) d=some (.dT acc):=zc0
  obtain⟨zl,hd,xs,rel,dd⟩:=dt_of I'.hok e
  have hzx:xs.length<=sizeLine:=by rw[← Paired.length rel];exact zl
  have hlp:(putK acc p.2 y).length<=sizeLine:=by have:=zai5 acc p.2 y;omega
  refine wpAny_dictSet_heap (hsz:=hzx) (tupleKind_room_in1 (by omega)) (zbn5 I'.hok eb) dd fun h' dd' hs=>?_
  obtain⟨q,es,ep,hq,h2,h3,h4,_,h5⟩:=dd'
  have I2:Inv X pins σ (upd (upd H d (.dT acc)) d (.dT (putK acc p.2 y))) { s' with heap:=h',toks:=s'.toks+(tupleKind (zk3 X.prog X.w)).draws p.2 }:=by
   refine zcn5 I' (by rw[e];exact True.intro) hs ⟨q,hq⟩ ⟨hlp,hd,_,(rel.put p.2 eb rv).keeps fun c ys ec=>?_,q,es,ep,hq,h2,h3,h4,h5⟩
   rw[zb9 (ne_of ec e (fun z=>nomatch z))]
   exact ec
  rw[zcm6] at I2
  have hc:((i:Int)+1)=((i+1:Nat):Int):=by push_cast;rfl
  refine zdf8 ⟨plainId_quiet zah7 _,?_⟩
  rw[hc]
  refine ih (i+1) _ _ (by omega) (by omega) (by have:=zai5 acc p.2 y;omega) I2 (Z'.keep (fun b hb=>(fp b hb).2) hs ⟨q,hq⟩) fun s'' I''=>hR s'' ?_
  rw[zdb1 hlt,zdb1 hly,zcz9]
  have e1:ps[i]=p:=by rw[zcv9 hlt] at hp;exact Option.some.inj hp
  have e2:ys[i]=y:=by rw[zcv9 hly] at hy;exact Option.some.inj hy
  rw[e1,e2]
  exact I''
end
section
variable {X:Cx}{K:zcw1}
@[irreducible] noncomputable def rDZ(K:zcw1)(a b:Addr)(H:Hp)(Q:VK):Prop:=∃ (ps:List (Addr×List Key)) (ys:List V),SqL K H a (ps.map fun p=>V.ref p.1)/\SqL K H b ys/\(∀ (i:Nat) p,ps[i]?=some p->H p.1=some (.tup (p.2.map kV)))/\ps.length<=ys.length/\ps.length<sizeLine /\
 ∀ d H',H d=none->Same H H'->H' d=some (.dT (dzip (ps.map (·.2)) ys []))->Q (.ref d) H'
noncomputable def tDZ(K:zcw1)(ta:TA):TE:=fun σ H Q=>ta σ H fun vs H1=>match vs with
 | [.ref a,.ref b]=>rDZ K a b H1 Q
 | _=>False
theorem peDZip{a b:Expr}{ta:TA}{p p2 pos pos2:Pos}(hK:X.K=K)(hu:X.A.units+40<cLine)(hl:X.mg "dict"=none)(hm:X.mg "zip"=none)(ha:PA X [a,b] ta)(hc:X.calm=true:=by rfl)(hg:Gl X "zip":=by rfl)(hg2:Gl X "dict":=by rfl)(hs:starEach [a,b] X.env=(false,eval a X.env) :: starEach [b] X.env:=by rfl)(hpl:(backTo pos2 (starEach [b] X.env)).any (·.1)=false:=by rfl)(he:starEach [.Call (.Name "zip" p2) [a,b] [] pos2] X.env=[(false,eval (.Call (.Name "zip" p2) [a,b] [] pos2) X.env)]:=by rfl) :
  PE X (.Call (.Name "dict" p) [.Call (.Name "zip" p2) [a,b] [] pos2] [] pos) (tDZ K ta):=by
 subst hK
 intro pins s σ H Q I h
 refine Call_ (zw5 I hg2 hl zcj0 ?_)
 refine PyProof.Rows.callWith_type1 ?_ (by rw[he];rfl) rfl
 rw[he]
 show wpAny _ _ (spliced ((false,eval (.Call (.Name "zip" p2) [a,b] [] pos2) X.env) :: [])) _ _ s
 refine Calls.spliced_cons ?_
 refine Call_ (zw5 I hg hm zcg2 (PyProof.Rows.callWith_type1 (thn (ha pos2 pins s σ H _ I h) fun us s1 ⟨vs,H1,I1,r1,q1⟩=>?_) hs hpl))
 dsimp only at q1
 split at q1
 ·rename_i l m
  unfold rDZ at q1
  obtain⟨ps,ys,hq1,hq2,hk,hly,hz,q⟩:=q1
  obtain⟨u1,u2,rfl,rx,ry⟩:=vals2 r1
  cases rx
  cases ry
  obtain⟨its1,rv1,p1,_⟩:=I1.list hq1
  obtain⟨its2,rv2,p2,_⟩:=I1.list hq2
  have l1:@LT.lt Nat _ l s1.heap.objs.size:=by obtain⟨o,ho,_⟩:=p1.isList;exact zcx3 ho
  have l2:@LT.lt Nat _ m s1.heap.objs.size:=by obtain⟨o,ho,_⟩:=p2.isList;exact zcx3 ho
  refine call_zip_2 p1.isList p2.isList fun h' hz' hTI hTO j1 j2 hsz hkeep=>?_
  refine Calls.spliced_nil ?_
  have I2:Inv X pins σ H1 { s1 with heap:=h' }:=I1.kept (t':=s1.toks) hkeep
  have DD:ZipApart (s1.heap.objs.size+4) (s1.heap.objs.size+2) (s1.heap.objs.size+3) s1.heap.objs.size (s1.heap.objs.size+1) l m:=by
   constructor<;>(intro z;have z:(_:Nat)=_:=z;omega)
  have inb:∀ b∈[s1.heap.objs.size+4,s1.heap.objs.size+2,s1.heap.objs.size+3,s1.heap.objs.size,s1.heap.objs.size+1],@LE.le Nat _ s1.heap.objs.size b/\@LT.lt Nat _ b h'.objs.size:=fun b hb=>by
   rw[hsz]
   simp only[zcx2,zcx8,or_false] at hb
   rcases hb with rfl|rfl|rfl|rfl|rfl<;>exact⟨by omega,by omega⟩
  refine callType_codes (Q₁:=fun obj s₁=>obj=.ref h'.objs.size/\s₁={ s1 with heap:=h'.push { cls:=.type "dict",data:=.dict #[] } }) F.kt_called_dict (F.kt_typeCall_dict_1 _) F.entry_dict_init (kt_code_dict_new _ ⟨rfl,rfl⟩) ?_
  rintro obj s₁ ⟨rfl,rfl⟩
  have hnew:(h'.push { cls:=.type "dict",data:=.dict #[] }).get? h'.objs.size=some { cls:=.type "dict",data:=.dict #[] }:=zcx7 _ rfl
  have hT:({ s1 with heap:=h'.push { cls:=.type "dict",data:=.dict #[] } }:Shared).TypeIs (.ref h'.objs.size) "dict":=⟨_,hnew,rfl⟩
  refine⟨hT,F.args_dict_init_2 _ _,?_⟩
  have zz:=zcw5 { cls:=.type "dict",data:=.dict #[] } hz'
  unfold Builtin.«dict.__init__»
  refine zdf7 ?_
  unfold Builtin.Dict.selfAndRest
  refine zdf7 (wpAny_notOrdered_dict hT ?_)
  show wpAny _ _ (pure (h'.objs.size,[Value.ref (s1.heap.objs.size+4)])) _ _ _
  refine zdf8 ?_
  show wpAny _ _ (Builtin.Dict.updateFrom "dict.__init__" h'.objs.size (.ref (s1.heap.objs.size+4)) [] .none) _ _ _
  unfold Builtin.Dict.updateFrom
  refine zdf7 (wpAny_typeOf (T:="zip") ⟨_,zz,rfl⟩ ?_)
  rw[if_pos (by decide)]
  have I3:Inv X pins σ (upd H1 h'.objs.size (.dT [])) { s1 with heap:=h'.push { cls:=.type "dict",data:=.dict #[] } }:=
   I2.laid (a:=h'.objs.size) (o:=.dT []) (t':=s1.toks) (fun _ _ q=>zcw5 _ q) (zcw4 _) (zcc5 h' I2.big)
  have hfr:H1 h'.objs.size=none:=I2.hok.fresh (zcw4 _)
  refine zdf7 (zcl3 (A:=X.A.in1.in1) zz (I1.ok.hd hc) fun h'' tk'' gr=>?_)
  have kp2:∀ b o,(h'.push { cls:=.type "dict",data:=.dict #[] }).get? b=some o->h''.get? b=some o:=gr
  have I4:Inv X pins σ (upd H1 h'.objs.size (.dT [])) { s1 with heap:=h'',toks:=tk'' }:=I3.kept kp2
  rw[if_pos (show (none:Option Value).isNone=true from rfl)]
  refine zdf7 (wpAny_rule ?_)
  refine zdf7 (wpAny_pyIter_zip (kp2 _ _ zz) ?_)
  refine zdf8 ⟨plainId_quiet zah7 _,?_⟩
  have up:∀ b o,h'.get? b=some o->h''.get? b=some o:=fun b o x=>kp2 _ _ (zcw5 _ x)
  refine zck2 (H:=H1) (ps:=ps) (ys:=ys) (A:=X.A.in1) (d:=h'.objs.size) (I1.ok.hd hc) (by rw[zs6];omega) DD hfr (fun b hb=>⟨I1.fpOk (inb b hb).1 (I1.hok.fresh (inb b hb).1),zcy4 (inb b hb).2⟩) hq1 hq2 hk hly hz (ps.length - 0) 0 [] _ rfl (zcz6 _) (zcw4 _) I4
   ⟨.inl ⟨up _ _ hz',_,_,up _ _ hTO⟩,up _ _ hTI,j1.at fun o e=>up _ o e,j2.at fun o e=>up _ o e⟩ fun s' I'=>?_
  rw[List.drop_zero,List.drop_zero] at I'
  exact⟨rfl,.ref h'.objs.size,_,I',rfl,q _ _ hfr (Same.upd hfr) zc0⟩
 ·exact q1.elim
theorem dz_rd{a b:Addr}{Q:VK}{ps:List (Addr×List Key)}{ys:List V}(h1:H a=some (.lst (ps.map fun p=>V.ref p.1)))(h2:H b=some (.lst ys))(hk:∀ (i:Nat) p,ps[i]?=some p->H p.1=some (.tup (p.2.map kV)))(hl:ps.length<=ys.length)(hz:ps.length<sizeLine)(q:∀ d H',H d=none->Same H H'->H' d=some (.dT (dzip (ps.map (·.2)) ys []))->Q (.ref d) H'):rDZ K a b H Q:=by unfold rDZ;exact⟨ps,ys,SqL.of h1,SqL.of h2,hk,hl,hz,q⟩
end
theorem zas1:∀ {ks:List (List Key)}{vs:List V}{acc:List (List Key×V)}{k:List Key},k ∉ ks->valV (dzip ks vs acc) k=valV acc k
 | [],_,_,_,_=>rfl
 | _ :: _,[],_,_,_=>rfl
 | a :: ks,v :: vs,acc,k,h=>by
  rw[zcx2,not_or] at h
  show valV (dzip ks vs (putK acc a v)) k=_
  rw[zas1 h.2,zbl2,if_neg h.1]
theorem zbw6:∀ {ks:List (List Key)}{vs:List V}{acc:List (List Key×V)}{i:Nat}{k:List Key}{v:V},ks.Nodup->ks[i]?=some k->vs[i]?=some v->valV (dzip ks vs acc) k=some v
 | [],_,_,_,_,_,_,h,_=>by simp at h
 | _ :: _,[],_,_,_,_,_,_,h=>by simp at h
 | a :: ks,b :: vs,acc,0,k,v,hn,h1,h2=>by
  simp at h1 h2
  subst h1 h2
  show valV (dzip ks vs (putK acc a b)) a=_
  rw[zas1 (zdc9.mp hn).1,zbl2,if_pos rfl]
 | a :: ks,b :: vs,acc,i+1,k,v,hn,h1,h2=>by
  simp only[List.getElem?_cons_succ] at h1 h2
  show valV (dzip ks vs (putK acc a b)) k=_
  exact zbw6 (zdc9.mp hn).2 h1 h2
end L2
set_option maxHeartbeats 1000000
set_option maxHeartbeats 0
namespace G
local macro_rules | `(tactic| eq_refl)=>`(tactic| first|exact Or.inl rfl|exact Or.inr rfl)
local macro_rules | `(tactic| ac_rfl)=>`(tactic| exact⟨rfl,rfl,rfl,by decide +kernel,rfl,by decide +kernel,by decide +kernel⟩)
open PySem L2
variable {c h i j m n:Nat}{M:Nat->Nat->Int}{u:Nat->Int}{H H':Hp}{Q:VK}{E:XK}{C T dx f l l1 l2 la ld:Addr}{fd:FuncData}{as ds ps qs:List Addr}{y:Int}{o:HO}{xs:List Nat}{L:List (List Nat)}{ts:List (Addr×Addr)}{ms:List (List Nat×Int)}
noncomputable def top(i:Nat):Stmt:=PySem.Challenge.pw_hostfields_k45_whole_worths_by_counts.main.body.getD i (.Pass ⟨0,0,0,0⟩)
noncomputable abbrev zae5:Stmt:=top 7
theorem zbg7:zb0 ["thing"] ["thing"] (za6 zae5):=by ac_rfl
noncomputable abbrev zak6:Stmt:=top 8
theorem zbp4:zb0 ["thing","least"] ["thing","least"] (za6 zak6):=by ac_rfl
noncomputable abbrev zw8:Stmt:=top 9
theorem zat1:zb0 ["thing","least","most"] ["thing","least","most"] (za6 zw8):=by ac_rfl
noncomputable abbrev zaj9:Stmt:=top 13
theorem zbn6:zb0 ["hosts","fields"] ["hosts","fields"] (za6 zaj9):=by ac_rfl
noncomputable abbrev zaa0:Stmt:=top 14
theorem zax9:zb0 ["hosts","fields"] ["hosts","fields"] (za6 zaa0):=by ac_rfl
noncomputable abbrev zt7:Stmt:=top 15
theorem zao8:zb0 ["number","many"] ["number","many"] (za6 zt7):=by ac_rfl
noncomputable abbrev zt6:Stmt:=top 16
theorem zap2:zb0 ["hosts","fields"] ["hosts","fields"] (za6 zt6):=by ac_rfl
noncomputable abbrev zu4:Stmt:=top 17
theorem zk4:zb0 ["hosts","fields","ways","table","cap"] ["hosts","fields"] (za6 zu4):=by ac_rfl
noncomputable abbrev zad9:Stmt:=top 18
theorem zt4:zb0 ["ways","cap","wider","lesser","behind"] ["ways","cap"] (za6 zad9):=by ac_rfl
noncomputable abbrev zaa1:Stmt:=top 19
theorem ze4:zb0 ["hosts","fields","number","table","counts","left","ahead","places","sent"] ["hosts","fields","number"] (za6 zaa1):=by ac_rfl
noncomputable abbrev zu2:Stmt:=top 23
theorem zr8:zb0 ["battle","number","field"] ["battle"] (za6 zu2):=by ac_rfl
noncomputable abbrev zae7:Stmt:=top 24
theorem zbf2:zb0 ["battle"] ["battle"] (za6 zae7):=by ac_rfl
noncomputable abbrev zab0:Stmt:=top 25
theorem zaz3:zb0 ["first","second"] ["first","second"] (za6 zab0):=by ac_rfl
noncomputable abbrev zaf6:Stmt:=top 26
theorem zbe8:zb0 ["first","second","field"] ["first","second","field"] (za6 zaf6):=by ac_rfl
noncomputable abbrev zaf5:Stmt:=top 27
theorem zbh9:zb0 ["many_rows","many_numbers","rows"] ["many_rows","many_numbers","rows"] (za6 zaf5):=by ac_rfl
noncomputable abbrev zr5:Stmt:=top 28
theorem zak4:zb0 ["many_numbers","row"] ["many_numbers","row"] (za6 zr5):=by ac_rfl
noncomputable abbrev s_won:Stmt:=top 29
theorem sc_won:zb0 ["field","x","y"] ["field","x","y"] (za6 s_won):=by ac_rfl
noncomputable abbrev zbh7:Stmt:=top 31
theorem zav3:zb0 ["top","bottom","divisor"] ["top","bottom"] (za6 zbh7):=by ac_rfl
noncomputable abbrev zo8:Stmt:=top 32
theorem zj2:zb0 ["one","other","rest"] ["one","other"] (za6 zo8):=by ac_rfl
noncomputable abbrev zbg8:Stmt:=top 33
theorem zcf1:zb0 ["one","other"] ["one","other"] (za6 zbg8):=by ac_rfl
noncomputable abbrev zv5:Stmt:=top 36
theorem zr1:zb0 ["grid","column"] ["grid"] (za6 zv5):=by ac_rfl
noncomputable abbrev zp1:Stmt:=top 37
theorem zn3:zb0 ["grid","names","falling"] ["grid"] (za6 zp1):=by ac_rfl
noncomputable abbrev zu9:Stmt:=top 38
theorem zo4:zb0 ["grid","column","best","row"] ["grid","column"] (za6 zu9):=by ac_rfl
noncomputable abbrev zn4:Stmt:=top 39
theorem zl7:zb0 ["grid","column","one","other","near","far"] ["grid","column","one","other"] (za6 zn4):=by ac_rfl
noncomputable abbrev zbz0:Stmt:=top 40
theorem zau5:zb0 ["grid","row","column","about","turned","name"] ["grid","row","column"] (za6 zbz0):=by ac_rfl
noncomputable abbrev zw2:Stmt:=top 41
theorem zp5:zb0 ["numbers","about","column","divisor","pivot","factor","told"] ["numbers","about","column","divisor"] (za6 zw2):=by ac_rfl
noncomputable abbrev zak9:Stmt:=top 42
theorem zbo6:zb0 ["numbers"] ["numbers"] (za6 zak9):=by ac_rfl
noncomputable abbrev zu6:Stmt:=top 43
theorem zao1:zb0 ["grid"] ["grid"] (za6 zu6):=by ac_rfl
noncomputable abbrev zo9:Stmt:=top 44
theorem zae3:zb0 ["grid"] ["grid"] (za6 zo9):=by ac_rfl
noncomputable abbrev zm7:Stmt:=top 45
theorem zq8:zb0 ["word","many","names","weights","by_name"] ["word","many","names","weights"] (za6 zm7):=by ac_rfl
noncomputable abbrev zas3:Stmt:=top 46
theorem zac8:zb0 ["weights","divisor","weight"] ["weights"] (za6 zas3):=by ac_rfl
noncomputable abbrev zv4:Stmt:=top 48
theorem zan6:zb0 ["table"] ["table"] (za6 zv4):=by ac_rfl
noncomputable abbrev zw3:Stmt:=top 49
theorem zm2:zb0 ["table","bottoms","lift","grid","little","rows"] ["table","bottoms"] (za6 zw3):=by ac_rfl
noncomputable abbrev zau6:Stmt:=top 50
theorem zbz8:zb0 ["row","lift"] ["row","lift"] (za6 zau6):=by ac_rfl
noncomputable abbrev zr0:Stmt:=top 52
theorem zl9:zb0 ["field","one","other","total","x"] ["field","one","other"] (za6 zr0):=by ac_rfl
noncomputable abbrev zo7:Stmt:=top 53
theorem zae2:zb0 ["field","ones","others"] ["field","ones","others"] (za6 zo7):=by ac_rfl
noncomputable abbrev zr3:Stmt:=top 54
theorem zai9:zb0 ["field","one","others"] ["field","one","others"] (za6 zr3):=by ac_rfl
noncomputable abbrev zaf4:Stmt:=top 56
theorem zbc9:zb0 ["battle"] ["battle"] (za6 zaf4):=by ac_rfl
noncomputable abbrev zy2:Stmt:=top 57
theorem zar9:zb0 ["battle"] ["battle"] (za6 zy2):=by ac_rfl
noncomputable abbrev zx4:Stmt:=top 58
theorem zas2:zb0 ["hosts","fields"] ["hosts","fields"] (za6 zx4):=by ac_rfl
noncomputable abbrev zs1:Stmt:=top 59
theorem zw4:zb0 ["battle","fields"] ["battle"] (za6 zs1):=by ac_rfl
noncomputable abbrev zr6:Stmt:=top 60
theorem zi4:zb0 ["battle","found","fields","one","other"] ["battle"] (za6 zr6):=by ac_rfl
noncomputable abbrev zx1:Stmt:=top 61
theorem zau4:zb0 ["hosts","fields","weights"] ["hosts","fields","weights"] (za6 zx1):=by ac_rfl
noncomputable abbrev zx7:Stmt:=top 63
theorem zu8:zb0 ["_law_script","_law_cells"] ["_law_script"] (za6 zx7):=by ac_rfl
noncomputable abbrev zaa3:Stmt:=top 64
theorem ze2:zb0 ["_law_purse_here","_law_out_of","_law_cells","_law_turn","_law_at","_law_cell","_law_number","_law_other"] ["_law_purse_here","_law_out_of"] (za6 zaa3):=by ac_rfl
noncomputable abbrev zw1:Stmt:=top 65
theorem zat4:zb0 ["_law_found"] ["_law_found"] (za6 zw1):=by ac_rfl
noncomputable abbrev zw0:Stmt:=top 66
theorem zf5:zb0 ["_law_purse_here","_law_first","_law_second","_law_kind","_law_worth","_law_tie","_law_near","_law_rows","_law_top","_law_x"] ["_law_purse_here","_law_first","_law_second"] (za6 zw0):=by ac_rfl
noncomputable abbrev zaa2:Stmt:=top 67
theorem zba4:zb0 ["_law_field_here"] ["_law_field_here"] (za6 zaa2):=by ac_rfl
noncomputable abbrev zt8:Stmt:=top 68
theorem zg9:zb0 ["_law_purse_here","_law_wide","_law_first","_law_second","_law_many","_law_field_here"] ["_law_purse_here"] (za6 zt8):=by ac_rfl
noncomputable abbrev zaf8:Stmt:=top 69
theorem zbd3:zb0 ["_law_field_here","_law_x","_law_y"] ["_law_field_here","_law_x","_law_y"] (za6 zaf8):=by ac_rfl
noncomputable abbrev zu3:Stmt:=top 70
theorem zs0:zb0 ["_law_top","_law_bottom","_law_one","_law_other"] ["_law_top","_law_bottom"] (za6 zu3):=by ac_rfl
noncomputable abbrev zq5:Stmt:=top 71
theorem zah4:zb0 ["_law_found"] ["_law_found"] (za6 zq5):=by ac_rfl
noncomputable abbrev zaf3:Stmt:=top 72
theorem zq2:zb0 ["_law_hosts","_law_fields","_law_most","_law_found","_law_one","_law_rest"] ["_law_hosts","_law_fields","_law_most"] (za6 zaf3):=by ac_rfl
noncomputable abbrev zu5:Stmt:=top 73
theorem zz4:zb0 ["_law_mix","_law_hosts","_law_many","_law_part"] ["_law_mix","_law_hosts","_law_many"] (za6 zu5):=by ac_rfl
noncomputable abbrev zad3:Stmt:=top 74
theorem zv1:zb0 ["_law_field_here","_law_one","_law_other","_law_total","_law_x"] ["_law_field_here","_law_one","_law_other"] (za6 zad3):=by ac_rfl
noncomputable abbrev zw7:Stmt:=top 75
theorem zc7:zb0 ["_law_battle_here","_law_found","_law_first","_law_second","_law_fields","_law_worth","_law_mix","_law_other_mix","_law_top","_law_other","_law_comes","_law_one"] ["_law_battle_here","_law_found"] (za6 zw7):=by ac_rfl
noncomputable abbrev zx3:Stmt:=top 76
theorem zt3:zb0 ["_law_lists","_law_sizes","_law_k"] ["_law_lists"] (za6 zx3):=by ac_rfl
noncomputable abbrev zbe6:Stmt:=top 77
theorem zai7:zb0 ["_law_script","_law_purse_here","_law_battle_here","_law_handed","_law_found","_law_mixes","_law_kept"] ["_law_script"] (za6 zbe6):=by ac_rfl
noncomputable abbrev zl2:Stmt:=zck6 (top 35) 0
theorem zaf9:zb0 ["self","table","bottoms","width"] ["self","table","bottoms"] (za6 zl2):=by ac_rfl
theorem nb_0:(["number"]:List Str).Nodup:=by decide +kernel
theorem nb_1:(["number","there","pivot","factor","divisor"]:List Str).Nodup:=by decide +kernel
theorem nb_2:(["numbers","about","column","grid"]:List Str).Nodup:=by decide +kernel
theorem nb_3:(["numbers"]:List Str).Nodup:=by decide +kernel
theorem nb_4:(["column","grid"]:List Str).Nodup:=by decide +kernel
theorem nb_5:(["row","bottom"]:List Str).Nodup:=by decide +kernel
theorem nb_6:(["number"]:List Str).Nodup:=by decide +kernel
theorem nb_7:(["weight","divisor"]:List Str).Nodup:=by decide +kernel
theorem nb_8:(["number","lift"]:List Str).Nodup:=by decide +kernel
theorem nb_9:(["number","by_name","word"]:List Str).Nodup:=by decide +kernel
theorem nb_10:(["row"]:List Str).Nodup:=by decide +kernel
theorem nb_11:(["row","bottom"]:List Str).Nodup:=by decide +kernel
theorem nb_12:(["row","bottom","lift"]:List Str).Nodup:=by decide +kernel
theorem nb_13:(["weight","bottom"]:List Str).Nodup:=by decide +kernel
theorem nb_14:(["total","many","cap","behind"]:List Str).Nodup:=by decide +kernel
theorem nb_15:(["place","hosts"]:List Str).Nodup:=by decide +kernel
theorem nb_16:(["number"]:List Str).Nodup:=by decide +kernel
theorem nb_17:(["row","many_numbers"]:List Str).Nodup:=by decide +kernel
theorem nb_18:(["y","field","x"]:List Str).Nodup:=by decide +kernel
theorem nb_19:(["other","field","one"]:List Str).Nodup:=by decide +kernel
theorem nb_20:(["one","field","others"]:List Str).Nodup:=by decide +kernel
theorem nb_21:(["field","battle"]:List Str).Nodup:=by decide +kernel
theorem nb_22:(["number","hosts","fields"]:List Str).Nodup:=by decide +kernel
theorem nb_23:(["_law_y","_law_purse_here","_law_top"]:List Str).Nodup:=by decide +kernel
theorem nb_24:(["_law_row"]:List Str).Nodup:=by decide +kernel
theorem nb_25:(["number","weight","hosts","fields"]:List Str).Nodup:=by decide +kernel
theorem nb_26:(["_law_k","_law_field_here"]:List Str).Nodup:=by decide +kernel
theorem nb_27:(["_law_one"]:List Str).Nodup:=by decide +kernel
theorem nb_28:(["_law_y","_law_field_here","_law_x"]:List Str).Nodup:=by decide +kernel
theorem nb_29:(["_law_counts","_law_weight","_law_fields","_law_other"]:List Str).Nodup:=by decide +kernel
theorem nb_30:(["_law_counts","_law_weight"]:List Str).Nodup:=by decide +kernel
theorem nb_31:(["_law_counts","_law_weight","_law_fields","_law_one"]:List Str).Nodup:=by decide +kernel
theorem nb_32:(["_law_some"]:List Str).Nodup:=by decide +kernel
theorem nb_33:(["_law_field_here"]:List Str).Nodup:=by decide +kernel
theorem nb_34:(["_law_mix"]:List Str).Nodup:=by decide +kernel
theorem nb_35:(["_law_counts","_law_weight"]:List Str).Nodup:=by decide +kernel
theorem nb_36:(["_law_part"]:List Str).Nodup:=by decide +kernel
structure Pz(K:zcw1)(mg:Str->Option Value)(zcp2 zcq5:Addr):Prop where
 g_Grid:mg "Grid"=some (.ref zcp2)
 mk_Grid:Mk K zcp2 zcq5
 cl_Grid:Cls K zcp2
 na_Grid_numbers:zv7 K zcp2 "numbers"
 na_Grid_divisor:zv7 K zcp2 "divisor"
 na_Grid_across:zv7 K zcp2 "across"
 na_Grid_down:zv7 K zcp2 "down"
structure Nm(mg:Str->Option Value):Prop where
 abs_:mg "abs"=none
 all_:mg "all"=none
 bool_:mg "bool"=none
 dict_:mg "dict"=none
 enumerate_:mg "enumerate"=none
 int_:mg "int"=none
 isinstance_:mg "isinstance"=none
 len_:mg "len"=none
 list_:mg "list"=none
 min_:mg "min"=none
 range_:mg "range"=none
 sorted_:mg "sorted"=none
 sum_:mg "sum"=none
 tuple_:mg "tuple"=none
 zip_:mg "zip"=none
local macro_rules | `(tactic| walk_at "hp")=>`(tactic| first|assumption|(refine Same.at (H:=?H) ?s ?e;(case s=>assumption);(case e=>walk_at "hp"))|(refine Chg.at (a:=?a) (H:=?H) ?c ?e ?n;(case c=>assumption);(case n=>walk_at "ne");(case e=>walk_at "hp"))|fail "hp")
local macro_rules | `(tactic| walk_at "ne")=>`(tactic| first|assumption|(apply Ne.symm;assumption)|fail "ne")
local macro_rules | `(tactic| ac_nf)=>`(tactic| (conv=>whnf))
local macro_rules | `(tactic| walk_at "st")=>`(tactic| (conv=>whnf);first
 | refine zbf0 (by omega) (by omega) ?_
 | refine zas4 (by omega) (by omega) ?_
 | refine zcn4 (by omega) (fun r h0 h1=>?_)
 | refine div_rd (by omega) (by omega) ?_
 | (refine zcf8 ⟨by decide,by decide,by decide⟩ ?_;simp only[Int.reduceToNat,Int.reducePow])
 | (refine za9 (xs:=?xs) (v:=?v) ?hp ?ev ?_;(case hp=>walk_at "hp");(case ev=>rfl))
 | (refine zb5 (xs:=?xs) (v:=?v) ?hp ?ev ?_;(case hp=>walk_at "hp");(case ev=>rfl))
 | refine zh9 (fun p H' hf hs ha=>?_)
 | refine zc3 (fun p H' hf hs ha=>?_)
 | refine zco7 ?_
 | (refine zz9 (xs:=?xs) ?hp ?_;(case hp=>walk_at "hp"))
 | (refine zaj8 (xs:=?xs) ?hp ?_;(case hp=>walk_at "hp"))
 | (refine zr7 (xs:=?xs) ?hp ?_;(case hp=>walk_at "hp"))
 | (refine zf2 (xs:=?xs) ?hp ?_;(case hp=>walk_at "hp"))
 | refine zci6 ?_
 | refine br_T ?_
 | refine br_F ?_
 | refine zl5 (by omega) ?_
 | refine zt1 (by omega) ?_
 | fail "st")
noncomputable def stp(g:Nat->Nat->Int)(c:Nat):Nat->Nat->Int
 | 0,t=>g 0 t
 | f+1,t=>g (f+1) t+if c<=t then stp g c f (t - c) else 0
noncomputable def g0(f t:Nat):Int:=if f=0/\t=0 then 1 else 0
noncomputable def Wn:Nat->Nat->Nat->Int
 | 0=>g0
 | c+1=>stp (Wn c) c
noncomputable def sxS:Nat->(Nat->Int)->Int
 | 0,_=>0
 | n+1,f=>sxS n f+f n
theorem zb3{f g:Nat->Int}:∀ {n:Nat},(∀ i,i<n->f i=g i)->sxS n f=sxS n g
 | 0,_=>rfl
 | n+1,h=>by
  show sxS n f+f n=sxS n g+g n
  rw[zb3 (fun i hi=>h i (by omega)),h n (by omega)]
theorem zu7(f g:Nat->Int):∀ n:Nat,sxS n (fun i=>f i+g i)=sxS n f+sxS n g
 | 0=>rfl
 | n+1=>by
  show sxS n _+(f n+g n)=sxS n f+f n+(sxS n g+g n)
  rw[zu7 f g n];omega
theorem zr4(a:Int)(f:Nat->Int):∀ n:Nat,sxS n (fun i=>a*f i)=a*sxS n f
 | 0=>by show (0:Int)=a*0;omega
 | n+1=>by
  show sxS n _+a*f n=a*(sxS n f+f n)
  rw[zr4 a f n,Int.mul_add]
theorem zaf0(f:Nat->Int):∀ n:Nat,sxS n (fun i=>- f i)=- sxS n f
 | 0=>rfl
 | n+1=>by
  show sxS n _+- f n=- (sxS n f+f n)
  rw[zaf0 f n];omega
theorem zi0{f:Nat->Int}:∀ {n:Nat},(∀ i,i<n->f i=0)->sxS n f=0
 | 0,_=>rfl
 | n+1,h=>by
  show sxS n f+f n=0
  rw[zi0 (fun i hi=>h i (by omega)),h n (by omega)];rfl
theorem zy5(f:Nat->Nat->Int)(m:Nat):∀ n:Nat,sxS n (fun i=>sxS m (fun j=>f i j))=sxS m (fun j=>sxS n (fun i=>f i j))
 | 0=>(zi0 (fun _ _=>rfl)).symm
 | n+1=>by
  show sxS n _+sxS m _=sxS m (fun j=>sxS n (fun i=>f i j)+f n j)
  rw[zy5 f m n,zu7]
theorem zo2{f:Nat->Int}{k:Nat}:∀ {n:Nat},k<n->(∀ i,i<n->i≠k->f i=0)->sxS n f=f k
 | 0,h,_=>by omega
 | n+1,hk,h=>by
  show sxS n f+f n=f k
  by_cases e:n=k
  ·subst e
   rw[zi0 (fun i hi=>h i (by omega) (by omega))];omega
  ·rw[zo2 (by omega) (fun i hi hne=>h i (by omega) hne),h n (by omega) e];omega
theorem zbz1{f:Nat->Int}{r:Nat}:∀ {n:Nat},r+1<n->(∀ i,i<n->i≠r->i≠r+1->f i=0)->sxS n f=f r+f (r+1)
 | 0,h,_=>by omega
 | n+1,hk,h=>by
  show sxS n f+f n=_
  by_cases e:n=r+1
  ·subst e
   rw[zo2 (k:=r) (by omega) (fun i hi hne=>h i (by omega) hne (by omega))]
  ·rw[zbz1 (by omega) (fun i hi h1 hh2=>h i (by omega) h1 hh2),h n (by omega) (by omega) e];omega
noncomputable def sxK(k l:Nat):Nat:=if l<k then l else l+1
noncomputable def sxP(k b:Nat):Nat:=if b<k then b else b - 1
theorem zbz3(k l:Nat):sxK k l≠k:=by unfold sxK;split<;>omega
theorem zcg5(k l:Nat):sxP k (sxK k l)=l:=by unfold sxP sxK;(repeat' split)<;>omega
theorem zch1{k b:Nat}(h:b≠k):sxK k (sxP k b)=b:=by unfold sxP sxK;(repeat' split)<;>omega
theorem zcf7{k l:Nat}(h:l<n):sxK k l<n+1:=by unfold sxK;split<;>omega
theorem zbm9(g:Nat->Int)(k:Nat):∀ n:Nat,k<=n->sxS n (fun l=>g (sxK k l))=sxS (n+1) (fun b=>if b=k then 0 else g b)
 | 0,h=>by
  have:k=0:=by omega
  subst this
  rfl
 | n+1,h=>by
  show sxS n _+g (sxK k n)=sxS (n+1) _+(if n+1=k then 0 else g (n+1))
  by_cases e:k=n+1
  ·subst e
   rw[if_pos rfl]
   have e1:sxS n (fun l=>g (sxK (n+1) l))=sxS n g:=zb3 fun i hi=>by unfold sxK;rw[if_pos (by omega)]
   have e2:sxS (n+1) (fun b=>if b=n+1 then 0 else g b)=sxS (n+1) g:=zb3 fun i hi=>by rw[if_neg (by omega)]
   rw[e1,e2]
   have:sxK (n+1) n=n:=by unfold sxK;rw[if_pos (by omega)]
   rw[this]
   show sxS n g+g n=sxS n g+g n+0
   omega
  ·rw[zbm9 g k n (by omega),if_neg (by omega)]
   have:sxK k n=n+1:=by unfold sxK;rw[if_neg (by omega)]
   rw[this]
noncomputable def sxG:Nat->Int
 | 0=>1
 | n+1=>- sxG n
theorem zcf3:∀ n:Nat,sxG n*sxG n=1
 | 0=>rfl
 | n+1=>by show -sxG n*-sxG n=1;rw[Int.neg_mul_neg];exact zcf3 n
noncomputable def sxD:Nat->(Nat->Nat->Int)->Int
 | 0,_=>1
 | n+1,M=>sxS (n+1) fun i=>sxG i*M i 0*sxD n (fun r c=>M (sxK i r) (c+1))
theorem zo3(n:Nat)(M:Nat->Nat->Int):sxD (n+1) M=sxS (n+1) fun i=>sxG i*M i 0*sxD n (fun r c=>M (sxK i r) (c+1)):=rfl
theorem zac7:∀ {n:Nat}{M M':Nat->Nat->Int},(∀ r c,r<n->c<n->M r c=M' r c)->sxD n M=sxD n M'
 | 0,_,_,_=>rfl
 | n+1,M,M',h=>by
  rw[zo3,zo3]
  refine zb3 fun i hi=>?_
  rw[h i 0 hi (by omega),zac7 (fun r c hr hc=>h (sxK i r) (c+1) (zcf7 hr) (by omega))]
noncomputable def sxU(M:Nat->Nat->Int)(k:Nat)(v:Nat->Int):Nat->Nat->Int:=fun r=>if r=k then v else M r
theorem zg6(M:Nat->Nat->Int)(k:Nat)(v:Nat->Int):sxU M k v k=v:=if_pos rfl
theorem zd9{k r:Nat}{v:Nat->Int}(h:r≠k):sxU M k v r=M r:=if_neg h
theorem zv2(M:Nat->Nat->Int)(k:Nat):sxU M k (M k)=M:=by
 funext r;by_cases h:r=k
 ·subst h;exact zg6 _ _ _
 ·exact zd9 h
theorem sxU_up(M:Nat->Nat->Int)(k:Nat)(u v:Nat->Int):sxU (sxU M k u) k v=sxU M k v:=by
 funext r;by_cases h:r=k
 ·subst h;rw[zg6,zg6]
 ·rw[zd9 h,zd9 h,zd9 h]
theorem zt5{k l:Nat}{v:Nat->Int}(h:k≠l):sxU (sxU M k u) l v=sxU (sxU M l v) k u:=by
 funext r
 by_cases h1:r=k
 ·subst h1;rw[zd9 h,zg6,zg6]
 ·by_cases hh2:r=l
  ·subst hh2;rw[zg6,zd9 h1,zg6]
  ·rw[zd9 hh2,zd9 h1,zd9 h1,zd9 hh2]
theorem zcd4(M:Nat->Nat->Int)(k:Nat)(v:Nat->Int):(fun r c=>sxU M k v (sxK k r) (c+1))=fun r c=>M (sxK k r) (c+1):=by
 funext r c;rw[zd9 (zbz3 k r)]
theorem zav6{k:Nat}{v:Nat->Int}(h:k≠i):(fun r c=>sxU M k v (sxK i r) (c+1))=sxU (fun r c=>M (sxK i r) (c+1)) (sxP i k) (fun c=>v (c+1)):=by
 funext r c
 by_cases e:r=sxP i k
 ·subst e;rw[zg6,zch1 h,zg6]
 ·rw[zd9 e,zd9]
  intro e2
  exact e (by rw[← e2,zcg5])
theorem zad5{a b:Int}{v:Nat->Int}:∀ {n:Nat}{M:Nat->Nat->Int}{k:Nat},k<n ->
  sxD n (sxU M k (fun c=>a*u c+b*v c))=a*sxD n (sxU M k u)+b*sxD n (sxU M k v):=by
 intro n
 induction n generalizing u v with
 | zero=>intro M k h;omega
 | succ n ih=>
  intro M k hk
  rw[zo3,zo3,zo3,← zr4,← zr4,← zu7]
  refine zb3 fun i hi=>?_
  by_cases e:k=i
  ·subst e
   simp only[zcd4,zg6]
   generalize sxD n _=D
   simp only[Int.mul_add,Int.add_mul,zda9,zcz3]
  ·rw[zav6 e,zav6 e,zav6 e,zd9 (Ne.symm e),zd9 (Ne.symm e),zd9 (Ne.symm e)]
   have hp:sxP i k<n:=by unfold sxP;split<;>omega
   rw[ih hp]
   generalize sxD n _=D1
   generalize sxD n _=D2
   simp only[Int.mul_add,zda9,zcz3]
theorem zbj0:∀ {n:Nat}{M:Nat->Nat->Int}{r:Nat},r+1<n->M r=M (r+1)->sxD n M=0
 | 0,_,_,h,_=>by omega
 | n+1,M,r,h,he=>by
  rw[zo3,zbz1 (r:=r) h]
  ·have:(fun l c=>M (sxK r l) (c+1))=fun l c=>M (sxK (r+1) l) (c+1):=by
    funext l c
    by_cases e:l=r
    ·subst e
     have e1:sxK l l=l+1:=by unfold sxK;rw[if_neg (by omega)]
     have e2:sxK (l+1) l=l:=by unfold sxK;rw[if_pos (by omega)]
     rw[e1,e2,he]
    ·have:sxK r l=sxK (r+1) l:=by unfold sxK;(repeat' split)<;>omega
     rw[this]
   rw[this,he]
   show sxG r*_*_+-sxG r*_*_=(0:Int)
   rw[zdc6,zdc6]
   omega
  ·intro i hi h1 hh2
   rw[zbj0 (n:=n) (r:=sxP i r)]
   ·exact zdc4 _
   ·unfold sxP;split<;>omega
   ·funext c
    show M (sxK i (sxP i r)) (c+1)=M (sxK i (sxP i r+1)) (c+1)
    have e1:sxK i (sxP i r)=r:=zch1 (Ne.symm h1)
    have e2:sxK i (sxP i r+1)=r+1:=by unfold sxK sxP;(repeat' split)<;>omega
    rw[e1,e2,he]
theorem zbi8{r:Nat}{v:Nat->Int}(h:r+1<n) :
  sxD n (sxU (sxU M r u) (r+1) v)=- sxD n (sxU (sxU M r v) (r+1) u):=by
 have lin1:∀ (x y z:Nat->Int),sxD n (sxU (sxU M r (fun c=>1*x c+1*y c)) (r+1) z)=sxD n (sxU (sxU M r x) (r+1) z)+sxD n (sxU (sxU M r y) (r+1) z):=by
  intro x y z
  have hne:r≠r+1:=by omega
  rw[zt5 hne,zt5 hne,zt5 hne,zad5 (by omega)]
  omega
 have lin2:∀ (x y z:Nat->Int),sxD n (sxU (sxU M r z) (r+1) (fun c=>1*x c+1*y c))=sxD n (sxU (sxU M r z) (r+1) x)+sxD n (sxU (sxU M r z) (r+1) y):=by
  intro x y z
  rw[zad5 h]
  omega
 have zero:∀ x:Nat->Int,sxD n (sxU (sxU M r x) (r+1) x)=0:=fun x=>zbj0 h (by rw[zd9 (by omega),zg6,zg6])
 have:=zero (fun c=>1*u c+1*v c)
 rw[lin1,lin2,lin2,zero,zero] at this
 omega
theorem zag0{r:Nat}{M':Nat->Nat->Int}(h:r+1<n)(h1:M' r=M (r+1))(hh2:M' (r+1)=M r)(h3:∀ i,i≠r->i≠r+1->M' i=M i) :
  sxD n M'=- sxD n M:=by
 have e1:M=sxU (sxU M r (M r)) (r+1) (M (r+1)):=by rw[zv2,zv2]
 have e2:M'=sxU (sxU M r (M (r+1))) (r+1) (M r):=by
  funext i
  by_cases a:i=r+1
  ·subst a;rw[zg6,hh2]
  ·rw[zd9 a]
   by_cases b:i=r
   ·subst b;rw[zg6,h1]
   ·rw[zd9 b,h3 i b a]
 rw[e2,zbi8 h,← e1]
theorem zaj7{n:Nat}:∀ (g:Nat) {M:Nat->Nat->Int}{r:Nat},r+1+g<n->M r=M (r+1+g)->sxD n M=0
 | 0,_,_,h,he=>zbj0 h he
 | g+1,M,r,h,he=>by
  have:=zag0 (n:=n) (r:=r+1+g) (M:=M) (M':=sxU (sxU M (r+1+g) (M (r+1+g+1))) (r+1+g+1) (M (r+1+g))) (by omega)
   (by rw[zd9 (by omega),zg6]) (by rw[zg6]) (fun i h1 hh2=>by rw[zd9 hh2,zd9 h1])
  have z:=zaj7 (n:=n) g (M:=sxU (sxU M (r+1+g) (M (r+1+g+1))) (r+1+g+1) (M (r+1+g))) (r:=r) (by omega)
   (by rw[zd9 (by omega),zd9 (by omega),zd9 (by omega),zg6];exact he)
  omega
theorem zai1{r s:Nat}(hr:r<n)(hs:s<n)(hne:r≠s)(he:M r=M s):sxD n M=0:=by
 rcases Nat.lt_or_ge r s with h|h
 ·exact zaj7 (s - (r+1)) (r:=r) (by omega) (by rw[show r+1+(s - (r+1))=s by omega];exact he)
 ·exact zaj7 (r - (s+1)) (r:=s) (by omega) (by rw[show s+1+(r - (s+1))=r by omega];exact he.symm)
theorem zbj2{r s:Nat}{v:Nat->Int}(hr:r<n)(hs:s<n)(hne:r≠s) :
  sxD n (sxU (sxU M r u) s v)=- sxD n (sxU (sxU M r v) s u):=by
 have lin1:∀ (x y z:Nat->Int),sxD n (sxU (sxU M r (fun c=>1*x c+1*y c)) s z)=sxD n (sxU (sxU M r x) s z)+sxD n (sxU (sxU M r y) s z):=by
  intro x y z
  rw[zt5 hne,zt5 hne,zt5 hne,zad5 hr]
  omega
 have lin2:∀ (x y z:Nat->Int),sxD n (sxU (sxU M r z) s (fun c=>1*x c+1*y c))=sxD n (sxU (sxU M r z) s x)+sxD n (sxU (sxU M r z) s y):=by
  intro x y z
  rw[zad5 hs]
  omega
 have zero:∀ x:Nat->Int,sxD n (sxU (sxU M r x) s x)=0:=fun x=>zai1 hr hs hne (by rw[zd9 hne,zg6,zg6])
 have:=zero (fun c=>1*u c+1*v c)
 rw[lin1,lin2,lin2,zero,zero] at this
 omega
theorem zcb8(φ:Nat->Nat->Int)(n:Nat) :
  sxS (n+1) (fun k=>sxS n fun l=>sxG k*sxG l*φ k (sxK k l))=- sxS (n+1) (fun k=>sxS n fun l=>sxG k*sxG l*φ (sxK k l) k):=by
 have full:∀ ψ:Nat->Nat->Int,sxS (n+1) (fun k=>sxS n fun l=>sxG k*sxG l*ψ k (sxK k l))
   = sxS (n+1) (fun k=>sxS (n+1) fun b=>if b=k then 0 else sxG k*sxG (sxP k b)*ψ k b):=by
  intro ψ
  refine zb3 fun k hk=>?_
  rw[← zbm9 (fun b=>sxG k*sxG (sxP k b)*ψ k b) k n (by omega)]
  exact zb3 fun l _=>by rw[zcg5]
 rw[full φ,full (fun a b=>φ b a),zy5 (fun k b=>if b=k then 0 else sxG k*sxG (sxP k b)*φ b k),← zaf0]
 refine zb3 fun k hk=>?_
 rw[← zaf0]
 refine zb3 fun b hb=>?_
 by_cases e:b=k
 ·rw[if_pos e,if_pos e.symm];rfl
 ·rw[if_neg e,if_neg (Ne.symm e),← zdc6]
  congr 1
  rcases Nat.lt_or_ge b k with h|h
  ·obtain⟨k',rfl⟩:∃ k',k=k'+1:=⟨k - 1,by omega⟩
   have e1:sxP (k'+1) b=b:=by unfold sxP;rw[if_pos h]
   have e2:sxP b (k'+1)=k':=by unfold sxP;rw[if_neg (by omega)];omega
   rw[e1,e2]
   show -sxG k'*sxG b=-(sxG b*sxG k')
   rw[zdc6,zdc5]
  ·obtain⟨b',rfl⟩:∃ b',b=b'+1:=⟨b - 1,by omega⟩
   have e1:sxP k (b'+1)=b':=by unfold sxP;rw[if_neg (by omega)];omega
   have e2:sxP (b'+1) k=k:=by unfold sxP;rw[if_pos (by omega)]
   rw[e1,e2]
   show sxG k*sxG b'=-(-sxG b'*sxG k)
   rw[zdc6,Int.neg_neg,zdc5]
noncomputable def sxH(w:Nat->Nat->Int)(n a b:Nat):Int:=sxD n fun r c=>w (if a<b then sxK a (sxK (b - 1) r) else sxK b (sxK (a - 1) r)) (c+1)
theorem zbk5{w:Nat->Nat->Int}{a b:Nat}(h:a≠b):sxH w n a b=sxH w n b a:=by
 unfold sxH
 rcases Nat.lt_or_ge a b with h1|h1
 ·simp only[if_pos h1,if_neg (show ¬ b<a by omega)]
 ·simp only[if_neg (show ¬ a<b by omega),if_pos (show b<a by omega)]
theorem zcf6(w:Nat->Nat->Int)(n k l:Nat):sxD n (fun r c=>w (sxK k (sxK l r)) (c+1))=sxH w n k (sxK k l):=by
 unfold sxH
 congr 1
 funext r c
 congr 1
 unfold sxK
 (repeat' split)<;>omega
theorem zbk3:∀ (n:Nat) (w:Nat->Nat->Int) (j:Nat),j<n->sxS (n+1) (fun k=>sxG k*w k j*sxD n (fun r c=>w (sxK k r) c))=0
 | 0,_,_,h=>by omega
 | n+1,w,j,hj=>by
  have e1:sxS (n+1+1) (fun k=>sxG k*w k j*sxD (n+1) (fun r c=>w (sxK k r) c))
    = sxS (n+1+1) (fun k=>sxS (n+1) fun l=>sxG k*sxG l*(fun a b=>w a j*w b 0*sxH w n a b) k (sxK k l)):=by
   refine zb3 fun k _=>?_
   rw[zo3,← zr4]
   refine zb3 fun l _=>?_
   rw[zcf6]
   dsimp only
   generalize sxH w n k (sxK k l)=D
   simp only[zda9,zcz3]
  have anti:=zcb8 (fun a b=>w a j*w b 0*sxH w n a b) (n+1)
  rw[e1]
  cases j with
  | zero=>
   have e2:sxS (n+1+1) (fun k=>sxS (n+1) fun l=>sxG k*sxG l*(fun a b=>w a 0*w b 0*sxH w n a b) (sxK k l) k)
     = sxS (n+1+1) (fun k=>sxS (n+1) fun l=>sxG k*sxG l*(fun a b=>w a 0*w b 0*sxH w n a b) k (sxK k l)):=by
    refine zb3 fun k _=>zb3 fun l _=>?_
    dsimp only
    rw[zbk5 (zbz3 k l),zdc5 (w (sxK k l) 0)]
   have key:∀ x y:Int,x=-y->y=x->x=0:=by omega
   exact key _ _ anti e2
  | succ j=>
   rw[anti]
   have e2:sxS (n+1+1) (fun k=>sxS (n+1) fun l=>sxG k*sxG l*(fun a b=>w a (j+1)*w b 0*sxH w n a b) (sxK k l) k)=0:=by
    refine zi0 fun k _=>?_
    have:=zbk3 n (fun l c=>w (sxK k l) (c+1)) j (by omega)
    have e3:sxS (n+1) (fun l=>sxG k*sxG l*(fun a b=>w a (j+1)*w b 0*sxH w n a b) (sxK k l) k)
      =(sxG k*w k 0)*sxS (n+1) (fun l=>sxG l*w (sxK k l) (j+1)*sxD n (fun r c=>w (sxK k (sxK l r)) (c+1))):=by
     rw[← zr4]
     refine zb3 fun l _=>?_
     rw[zcf6,zbk5 (Ne.symm (zbz3 k l))]
     dsimp only
     generalize sxH w n (sxK k l) k=D
     simp only[zda9,zcz3]
    rw[e3,this,zdc4]
   rw[e2];rfl
noncomputable def sxI(B:Nat->Nat->Int)(v:Nat->Int)(p k:Nat):Nat->Nat->Int:=fun r=>if r<p then B r else if r=p then v else if r<=k then B (r - 1) else B r
theorem zbr3{n k:Nat}(B:Nat->Nat->Int)(v:Nat->Int)(hk:k<n):∀ p,p<=k->sxD n (sxI B v 0 k)=sxG p*sxD n (sxI B v p k)
 | 0,_=>by show _=1*_;omega
 | p+1,h=>by
  rw[zbr3 B v hk p (by omega)]
  have:=zag0 (n:=n) (r:=p) (M:=sxI B v (p+1) k) (M':=sxI B v p k) (by omega)
   (by unfold sxI;rw[if_neg (by omega),if_pos rfl,if_neg (by omega),if_pos rfl])
   (by unfold sxI;rw[if_neg (by omega),if_neg (by omega),if_pos (by omega),if_pos (by omega)];rfl)
   (fun i h1 hh2=>by unfold sxI;(repeat' split)<;>first|rfl|omega)
  rw[this]
  show sxG p*- _=-sxG p*_
  rw[Int.mul_neg,zdc6]
noncomputable def sxR(v:Nat->Int)(B:Nat->Nat->Int):Nat->Nat->Int
 | 0=>v
 | r+1=>B r
theorem zaj0(f:Nat->Int):∀ m:Nat,sxS (m+1) f=f 0+sxS m (fun k=>f (k+1))
 | 0=>by show 0+f 0=f 0+0;omega
 | m+1=>by show sxS (m+1) f+f (m+1)=f 0+(sxS m _+f (m+1));rw[zaj0 f m];omega
theorem zat6(B:Nat->Nat->Int)(v:Nat->Int)(hj:j<n):sxD n B*v j=sxS n fun k=>sxD n (sxU B k v)*B k j:=by
 have over:=zbk3 n (sxR v B) j hj
 rw[zaj0] at over
 have e0:(fun r c=>sxR v B (sxK 0 r) c)=B:=by
  funext r c
  have:sxK 0 r=r+1:=by unfold sxK;rw[if_neg (by omega)]
  rw[this];rfl
 rw[e0] at over
 have e1:sxS n (fun k=>sxG (k+1)*sxR v B (k+1) j*sxD n (fun r c=>sxR v B (sxK (k+1) r) c))=- sxS n (fun k=>sxD n (sxU B k v)*B k j):=by
  rw[← zaf0]
  refine zb3 fun k hk=>?_
  have e2:(fun r c=>sxR v B (sxK (k+1) r) c)=sxI B v 0 k:=by
   funext r c
   unfold sxI sxK
   rw[if_neg (show ¬ r<0 by omega)]
   by_cases h0:r=0
   ·subst h0;rw[if_pos rfl,if_pos (by omega)];rfl
   ·rw[if_neg h0]
    obtain⟨r',rfl⟩:∃ r',r=r'+1:=⟨r - 1,by omega⟩
    by_cases h1:r'+1<=k
    ·rw[if_pos h1,if_pos (by omega)];rfl
    ·rw[if_neg h1,if_neg (by omega)];rfl
  have e3:sxI B v k k=sxU B k v:=by
   funext r
   unfold sxI sxU
   (repeat' split)<;>first|rfl|omega
  rw[e2,zbr3 B v hk k (zcw4 _),e3]
  show -sxG k*B k j*(sxG k*_)=-(_*B k j)
  rw[zdc6,zdc6]
  congr 1
  generalize sxD n (sxU B k v)=D
  rw[show sxG k*B k j*(sxG k*D)=(sxG k*sxG k)*(D*B k j) by simp only[zda9,zcz3,zdc5],zcf3,zdd6]
 rw[e1] at over
 have e4:sxG 0*sxR v B 0 j*sxD n B=sxD n B*v j:=by
  show 1*v j*sxD n B=_
  rw[zdd6,zdc5]
 rw[e4] at over
 omega
theorem zah8{k:Nat}(a:Int)(u:Nat->Int)(hk:k<n):sxD n (sxU M k (fun c=>a*u c))=a*sxD n (sxU M k u):=by
 have h:=zad5 (a:=a) (b:=0) (u:=u) (v:=u) (M:=M) hk
 have e:(fun c=>a*u c+0*u c)=fun c=>a*u c:=by funext c;omega
 rw[e] at h
 rw[h];omega
theorem zbk7{k:Nat}(u v:Nat->Int)(hk:k<n):sxD n (sxU M k (fun c=>u c+v c))=sxD n (sxU M k u)+sxD n (sxU M k v):=by
 have h:=zad5 (a:=1) (b:=1) (u:=u) (v:=v) (M:=M) hk
 have e:(fun c=>1*u c+1*v c)=fun c=>u c+v c:=by funext c;omega
 rw[e] at h
 rw[h];omega
theorem zax0{k:Nat}{v:Nat->Int}(h:∀ c,c<n->u c=v c):sxD n (sxU M k u)=sxD n (sxU M k v):=by
 refine zac7 fun r c _ hc=>?_
 by_cases e:r=k
 ·subst e;rw[zg6,zg6];exact h c hc
 ·rw[zd9 e,zd9 e]
theorem zbi6{n k:Nat}{M:Nat->Nat->Int}(a:Nat->Int)(W:Nat->Nat->Int)(hk:k<n):∀ m:Nat,
  sxD n (sxU M k (fun c=>sxS m fun l=>a l*W l c))=sxS m fun l=>a l*sxD n (sxU M k (W l))
 | 0=>by
  show sxD n (sxU M k (fun _=>0))=0
  have:=zah8 (M:=M) 0 (fun _=>0) hk
  rw[show (fun c=>(0:Int)*(fun _:Nat=>(0:Int)) c)=fun _=>0 from rfl] at this
  omega
 | m+1=>by
  show sxD n (sxU M k (fun c=>(sxS m fun l=>a l*W l c)+a m*W m c))=sxS m _+_
  rw[zbk7 _ _ hk,zbi6 a W hk m,zah8 _ _ hk]
theorem zbd8{k:Nat}(B M:Nat->Nat->Int)(v:Nat->Int)(hk:k<n) :
  sxD n B*sxD n (sxU M k v)=sxS n fun l=>sxD n (sxU B l v)*sxD n (sxU M k (B l)):=by
 rw[← zah8 _ _ hk,← zbi6 (fun l=>sxD n (sxU B l v)) B hk n]
 exact zax0 fun c hc=>zat6 B v hc
theorem zcl8{r k:Nat}(B:Nat->Nat->Int)(u v:Nat->Int)(hr:r<n)(hk:k<n)(hne:r≠k) :
  sxD n B*sxD n (sxU (sxU B r u) k v)=sxD n (sxU B r u)*sxD n (sxU B k v) - sxD n (sxU B r v)*sxD n (sxU B k u):=by
 rw[zbd8 B (sxU B r u) v hk]
 have e1:sxD n (sxU (sxU B r u) k (B k))=sxD n (sxU B r u):=by
  rw[zt5 hne,zv2]
 have e2:sxD n (sxU (sxU B r u) k (B r))=- sxD n (sxU B k u):=by
  rw[zbj2 hr hk hne,zv2]
 have e3:∀ l,l<n->l≠r->l≠k->sxD n (sxU (sxU B r u) k (B l))=0:=fun l hl h1 hh2=>zai1 hl hk hh2 (by rw[zd9 hh2,zd9 h1,zg6])
 have two:∀ (m:Nat) (f:Nat->Int),r<m->k<m->(∀ i,i<m->i≠r->i≠k->f i=0)->sxS m f=f r+f k:=by
  intro m
  induction m with
  | zero=>intro f h1;omega
  | succ m ih=>
   intro f h1 hh2 h3
   show sxS m f+f m=_
   by_cases a:m=r
   ·subst a
    rw[zo2 (k:=k) (by omega) (fun i hi hn=>h3 i (by omega) (by omega) hn)];omega
   ·by_cases b:m=k
    ·subst b
     rw[zo2 (k:=r) (by omega) (fun i hi hn=>h3 i (by omega) hn (by omega))]
    ·rw[ih f (by omega) (by omega) (fun i hi hr' hk'=>h3 i (by omega) hr' hk'),h3 m (by omega) a b];omega
 rw[two n _ hr hk (fun i hi h1 hh2=>by rw[e3 i hi h1 hh2,zdc4]),e1,e2]
 rw[Int.mul_neg,zdc5 (sxD n (sxU B k v))]
 omega
theorem zbj9{x:Int}:∀ {n:Nat}{B:Nat->Nat->Int},(∀ c,c<n->B n c=0)->B n n=x->sxD (n+1) B=x*sxD n B
 | 0,B,_,hx=>by
  show 0+sxG 0*B 0 0*1=x*1
  rw[hx];show 0+1*x*1=x*1;omega
 | n+1,B,h0,hx=>by
  rw[zo3]
  show sxS (n+1) _+_=_
  dsimp only
  rw[h0 0 (by omega),zdc4,zdf6,Int.add_zero,zo3 n B,← zr4]
  refine zb3 fun i hi=>?_
  have hs:sxK i n=n+1:=by unfold sxK;rw[if_neg (by omega)]
  rw[zbj9 (x:=x) (n:=n) (B:=fun r c=>B (sxK i r) (c+1)) (fun c hc=>by rw[hs];exact h0 (c+1) (by omega)) (by rw[hs];exact hx)]
  simp only[zcz3]
theorem zav8:∀ n:Nat,sxD n (fun r c=>if r=c then 1 else 0)=1
 | 0=>rfl
 | n+1=>by
  rw[zbj9 (x:=1) (fun c hc=>if_neg (by omega)) (if_pos rfl),zav8 n];rfl
theorem zbr8{f:Nat->Int}{b:Nat}:∀ {n:Nat},(∀ i,i<n->(f i).natAbs<=b)->(sxS n f).natAbs<=n*b
 | 0,_=>by show (0:Int).natAbs<=_;simp
 | n+1,h=>by
  show (sxS n f+f n).natAbs<=_
  have h1:=zbr8 (fun i hi=>h i (by omega)) (n:=n)
  have hh2:=h n (by omega)
  have h3:=Int.natAbs_add_le (sxS n f) (f n)
  rw[Nat.succ_mul];omega
theorem zbv5:∀ n,(sxG n).natAbs=1
 | 0=>rfl
 | n+1=>by show (-sxG n).natAbs=1;rw[Int.natAbs_neg];exact zbv5 n
noncomputable def zj1:Nat->Nat
 | 0=>1
 | n+1=>(n+1)*zj1 n
theorem zbg2{b:Nat}:∀ {n:Nat}{M:Nat->Nat->Int},(∀ r c,r<n->c<n->(M r c).natAbs<=b)->(sxD n M).natAbs<=zj1 n*b ^ n
 | 0,_,_=>zcw4 _
 | n+1,M,h=>by
  rw[zo3]
  have:(sxS (n+1) fun i=>sxG i*M i 0*sxD n (fun r c=>M (sxK i r) (c+1))).natAbs<=(n+1)*(b*(zj1 n*b ^ n)):=by
   refine zbr8 fun i hi=>?_
   rw[zdb3,zdb3,zbv5,Nat.one_mul]
   exact zdc2 (h i 0 hi (by omega)) (zbg2 fun r c hr hc=>h _ _ (zcf7 hr) (by omega))
  refine zcy7 this (Nat.le_of_eq ?_)
  show (n+1)*(b*(zj1 n*b ^ n))=(n+1)*zj1 n*(b ^ n*b)
  simp only[Nat.mul_assoc,Nat.mul_left_comm,Nat.mul_comm]
noncomputable abbrev SxN:=Bool×Nat
noncomputable def sxF(A:Nat->Nat->Int)(x:SxN)(c:Nat):Int:=if x.1=true then (if c=x.2+1 then 1 else 0) else (if c=0 then -1 else A (c - 1) x.2)
noncomputable def sxB(b:Nat->Int)(c:Nat):Int:=if c=0 then 0 else b (c - 1)
noncomputable def sxE(c:Nat):Int:=if c=0 then 1 else 0
noncomputable def sxM(A:Nat->Nat->Int)(dn:Nat->SxN)(p:Nat):Nat->Int:=if p=0 then sxE else sxF A (dn (p - 1))
noncomputable def sxC(A:Nat->Nat->Int)(b:Nat->Int)(n:Nat)(ac:Nat->SxN)(c:Nat):Nat->Int:=if c=n then sxB b else sxF A (ac c)
noncomputable def sxO(m k:Nat):Nat:=if k=m then 0 else k+1
noncomputable def zq3(f:Nat->SxN)(k:Nat)(x:SxN)(i:Nat):SxN:=if i=k then x else f i
structure SxT(A:Nat->Nat->Int)(b:Nat->Int)(m n:Nat)(dn ac:Nat->SxN)(N:Nat->Nat->Int)(d:Int):Prop where
 pos:0<d
 sgn:∃ e:Int,e*e=1/\d=e*sxD (m+1) (sxM A dn)/\∀ k c,k<=m->c<=n->N k c=e*sxD (m+1) (sxU (sxM A dn) (sxO m k) (sxC A b n ac c))
noncomputable def zn8(p:Int):Int:=if 0<p then 1 else -1
noncomputable def zm4(N:Nat->Nat->Int)(d:Int)(r c k l:Nat):Int:=
 zn8 (N r c)*(if k=r then (if l=c then d else N r l) else if l=c then - N k c else (N k l*N r c - N k c*N r l) / d)
theorem zcc6(p:Int):zn8 p*zn8 p=1:=by unfold zn8;split<;>rfl
theorem zbw4{p:Int}(h:p≠0):0<zn8 p*p:=by unfold zn8;split<;>omega
theorem zbv2(A:Nat->Nat->Int)(dn:Nat->SxN)(r:Nat)(x:SxN):sxM A (zq3 dn r x)=sxU (sxM A dn) (r+1) (sxF A x):=by
 funext p
 by_cases h:p=r+1
 ·subst h
  rw[zg6]
  unfold sxM zq3
  rw[if_neg (by omega),if_pos (by omega)]
 ·rw[zd9 h]
  unfold sxM zq3
  by_cases h0:p=0
  ·rw[if_pos h0,if_pos h0]
  ·rw[if_neg h0,if_neg h0,if_neg (by omega)]
theorem zbr0{A:Nat->Nat->Int}{b:Nat->Int}{ac:Nat->SxN}{l:Nat}{x:SxN}(h:l≠c):sxC A b n (zq3 ac c x) l=sxC A b n ac l:=by
 unfold sxC zq3
 rw[if_neg h]
theorem zaq0{A:Nat->Nat->Int}{b:Nat->Int}{ac:Nat->SxN}{x:SxN}(h:c<n):sxC A b n (zq3 ac c x) c=sxF A x:=by
 unfold sxC zq3
 rw[if_neg (by omega),if_pos rfl]
theorem SxT.exact{A:Nat->Nat->Int}{b:Nat->Int}{dn ac:Nat->SxN}{N:Nat->Nat->Int}{d:Int}(T:SxT A b m n dn ac N d){r k l:Nat}(hr:r<m)(hc:c<n)(hk:k<=m)(hl:l<=n)(hkr:k≠r) :
  ∃ e:Int,e*e=1/\d=e*sxD (m+1) (sxM A dn)/\(∀ k c,k<=m->c<=n->N k c=e*sxD (m+1) (sxU (sxM A dn) (sxO m k) (sxC A b n ac c))) /\
   N k l*N r c - N k c*N r l=d*(e*sxD (m+1) (sxU (sxU (sxM A dn) (r+1) (sxF A (ac c))) (sxO m k) (sxC A b n ac l))):=by
 obtain⟨e,he,hd,hN⟩:=T.sgn
 refine⟨e,he,hd,hN,?_⟩
 have hcC:sxC A b n ac c=sxF A (ac c):=by unfold sxC;rw[if_neg (by omega)]
 have hOr:sxO m r=r+1:=by unfold sxO;rw[if_neg (by omega)]
 have hOk:sxO m k<m+1:=by unfold sxO;split<;>omega
 have hne:r+1≠sxO m k:=by unfold sxO;split<;>omega
 have pl:=zcl8 (sxM A dn) (sxF A (ac c)) (sxC A b n ac l) (show r+1<m+1 by omega) hOk hne
 rw[hN k l hk hl,hN r c (by omega) (by omega),hN k c hk (by omega),hN r l (by omega) hl,hOr,hcC]
 generalize sxD (m+1) (sxU (sxU (sxM A dn) (r+1) (sxF A (ac c))) (sxO m k) (sxC A b n ac l))=x at pl ⊢
 generalize sxD (m+1) (sxU (sxM A dn) (r+1) (sxF A (ac c)))=x1 at pl ⊢
 generalize sxD (m+1) (sxU (sxM A dn) (sxO m k) (sxC A b n ac l))=x2 at pl ⊢
 generalize sxD (m+1) (sxU (sxM A dn) (r+1) (sxC A b n ac l))=x3 at pl ⊢
 generalize sxD (m+1) (sxU (sxM A dn) (sxO m k) (sxF A (ac c)))=x4 at pl ⊢
 rw[hd]
 generalize sxD (m+1) (sxM A dn)=D at pl ⊢
 have e1:e*D*(e*x)=(e*e)*(D*x):=by simp only[zda9,zcz3]
 have e2:e*x2*(e*x1)=(e*e)*(x1*x2):=by simp only[zcz3,zdc5]
 have e3:e*x4*(e*x3)=(e*e)*(x3*x4):=by simp only[zcz3,zdc5]
 rw[e1,e2,e3,he,pl]
 omega
theorem SxT.turn{A:Nat->Nat->Int}{b:Nat->Int}{dn ac:Nat->SxN}{N:Nat->Nat->Int}{d:Int}(T:SxT A b m n dn ac N d){r:Nat}(hr:r<m)(hc:c<n)(hp:N r c≠0) :
  SxT A b m n (zq3 dn r (ac c)) (zq3 ac c (dn r)) (zm4 N d r c) (zn8 (N r c)*N r c):=by
 refine⟨zbw4 hp,?_⟩
 obtain⟨e,he,hd,hN⟩:=T.sgn
 have hcC:sxC A b n ac c=sxF A (ac c):=by unfold sxC;rw[if_neg (by omega)]
 have hOr:sxO m r=r+1:=by unfold sxO;rw[if_neg (by omega)]
 have hBr:sxM A dn (r+1)=sxF A (dn r):=by unfold sxM;rw[if_neg (by omega)];rfl
 refine⟨zn8 (N r c)*e,?_,?_,?_⟩
 ·have:zn8 (N r c)*e*(zn8 (N r c)*e)=(zn8 (N r c)*zn8 (N r c))*(e*e):=by simp only[zda9,zcz3]
  rw[this,zcc6,he];rfl
 ·rw[zda9,zbv2]
  congr 1
  rw[hN r c (by omega) (by omega),hOr,hcC]
 ·intro k l hk hl
  unfold zm4
  rw[zda9,zbv2]
  congr 1
  by_cases hkr:k=r
  ·subst hkr
   rw[if_pos rfl,hOr,sxU_up]
   by_cases hlc:l=c
   ·subst hlc
    rw[if_pos rfl,zaq0 hc,hd,← hBr,zv2]
   ·rw[if_neg hlc,zbr0 hlc,hN k l hk hl,hOr]
  ·rw[if_neg hkr]
   have hOk:sxO m k<m+1:=by unfold sxO;split<;>omega
   have hne:r+1≠sxO m k:=by unfold sxO;split<;>omega
   by_cases hlc:l=c
   ·subst hlc
    rw[if_pos rfl,zaq0 hc,zbj2 (by omega) hOk hne,← hBr,zv2,hN k l hk hl,hcC,Int.mul_neg]
   ·rw[if_neg hlc,zbr0 hlc]
    obtain⟨e2,he2,hd2,hN2,ex⟩:=T.exact hr hc hk hl hkr
    have:e2=e:=by
     have h1:e2*sxD (m+1) (sxM A dn)=e*sxD (m+1) (sxM A dn):=hd2.symm.trans hd
     have h2:sxD (m+1) (sxM A dn)≠0:=by
      intro h0;have:=T.pos;rw[hd,h0] at this;omega
     exact Int.eq_of_mul_eq_mul_right h2 h1
    subst this
    rw[ex,Int.mul_ediv_cancel_left _ (by have:=T.pos;omega)]
noncomputable def ze8(A:Nat->Nat->Int)(m:Nat)(dn:Nat->SxN)(k:Nat)(x:Nat->Int):Int:=zn8 (sxD (m+1) (sxM A dn))*sxD (m+1) (sxU (sxM A dn) (sxO m k) x)
theorem zar2{k:Nat}(h:k<=m):sxO m k<m+1:=by unfold sxO;split<;>omega
theorem zbm8(m:Nat):sxO m m=0:=if_pos rfl
theorem zcg1{k:Nat}(h:k<m):sxO m k=k+1:=if_neg (by omega)
theorem zay0{A:Nat->Nat->Int}{dn:Nat->SxN}{k:Nat}(hk:k<=m)(x y:Nat->Int):ze8 A m dn k (fun c=>x c+y c)=ze8 A m dn k x+ze8 A m dn k y:=by
 unfold ze8;rw[zbk7 _ _ (zar2 hk),Int.mul_add]
theorem zae1{A:Nat->Nat->Int}{dn:Nat->SxN}{k:Nat}(hk:k<=m)(a:Int)(x:Nat->Int):ze8 A m dn k (fun c=>a*x c)=a*ze8 A m dn k x:=by
 unfold ze8;rw[zah8 _ _ (zar2 hk),zcz3]
theorem zaj3{A:Nat->Nat->Int}{dn:Nat->SxN}{k:Nat}(hk:k<=m)(a:Nat->Int)(W:Nat->Nat->Int)(q:Nat):ze8 A m dn k (fun c=>sxS q fun l=>a l*W l c)=sxS q fun l=>a l*ze8 A m dn k (W l):=by
 unfold ze8;rw[zbi6 _ _ (zar2 hk),← zr4]
 exact zb3 fun l _=>zcz3 _ _ _
theorem zaa6{A:Nat->Nat->Int}{dn:Nat->SxN}{k:Nat}{x y:Nat->Int}(h:∀ c,c<m+1->x c=y c):ze8 A m dn k x=ze8 A m dn k y:=by
 unfold ze8;rw[zax0 h]
local macro_rules | `(tactic| rfl')=>`(tactic| first|decide|omega)
section
variable {A:Nat->Nat->Int}{b:Nat->Int}{m n:Nat}{dn ac:Nat->SxN}{N:Nat->Nat->Int}{d:Int}
theorem SxT.eps(T:SxT A b m n dn ac N d):d=zn8 (sxD (m+1) (sxM A dn))*sxD (m+1) (sxM A dn)/\∀ k c,k<=m->c<=n->N k c=ze8 A m dn k (sxC A b n ac c):=by
 obtain⟨e,he,hd,hN⟩:=T.sgn
 have hp:=T.pos
 have:e=zn8 (sxD (m+1) (sxM A dn)):=by
  have h1:e=1∨e=-1:=by
   rcases Int.lt_trichotomy e 0 with h|h|h
   ·right
    by_cases h2:e<=-2
    ·have h4:=Int.mul_le_mul_of_nonneg_left (show 2<=-e by rfl') (show 0<=-e by rfl')
     rw[Int.neg_mul_neg,he] at h4;omega
    ·omega
   ·rw[h] at he;simp at he
   ·left
    by_cases h2:2<=e
    ·have:=Int.mul_le_mul_of_nonneg_left h2 (show 0<=e by rfl')
     rw[he] at this;omega
    ·omega
  unfold zn8
  rcases h1 with h|h
  ·rw[h] at hd ⊢;rw[if_pos (by rfl')]
  ·rw[h] at hd ⊢;rw[if_neg (by rfl')]
 unfold ze8
 rw[← this]
 exact⟨hd,hN⟩
theorem SxT.acr(T:SxT A b m n dn ac N d){k:Nat}(hk:k<=m)(hc:c<n):ze8 A m dn k (sxF A (ac c))=N k c:=by
 rw[T.eps.2 k c hk (by rfl')];unfold sxC;rw[if_neg (by rfl')]
theorem SxT.rhs(T:SxT A b m n dn ac N d){k:Nat}(hk:k<=m):ze8 A m dn k (sxB b)=N k n:=by
 rw[T.eps.2 k n hk (by rfl')];unfold sxC;rw[if_pos rfl]
theorem SxT.e0(T:SxT A b m n dn ac N d):ze8 A m dn m sxE=d:=by
 unfold ze8
 rw[zbm8]
 have:sxE=sxM A dn 0:=rfl
 rw[this,zv2];exact T.eps.1.symm
theorem zat3{k l:Nat}(hk:k<=m)(hl:l<m)(hne:k≠l):ze8 A m dn k (sxF A (dn l))=0:=by
 unfold ze8
 have h2:l+1≠sxO m k:=by unfold sxO;split<;>omega
 have:sxD (m+1) (sxU (sxM A dn) (sxO m k) (sxF A (dn l)))=0:=zai1 (r:=l+1) (s:=sxO m k) (by rfl') (zar2 hk) h2 (by
  rw[zd9 h2,zg6];unfold sxM;rw[if_neg (by rfl')];rfl)
 rw[this,zdc4]
theorem sxRow_e0{k:Nat}(hk:k<m):ze8 A m dn k sxE=0:=by
 unfold ze8
 have h2:0≠sxO m k:=by rw[zcg1 hk];omega
 have:sxD (m+1) (sxU (sxM A dn) (sxO m k) sxE)=0:=zai1 (r:=0) (s:=sxO m k) (by rfl') (zar2 (by rfl')) h2 (by
  rw[zd9 h2,zg6];rfl)
 rw[this,zdc4]
theorem SxT.by_basis(T:SxT A b m n dn ac N d)(x:Nat->Int)(hj:j<m+1) :
  d*x j=ze8 A m dn m x*sxE j+sxS m fun k=>ze8 A m dn k x*sxF A (dn k) j:=by
 have:=zat6 (sxM A dn) x hj
 rw[T.eps.1,zda9,this,zaj0,Int.mul_add,← zr4]
 congr 1
 ·unfold ze8;rw[zbm8,zda9];rfl
 ·refine zb3 fun k hk=>?_
  unfold ze8;rw[zcg1 hk,zda9]
  congr 2
theorem SxT.by_row(T:SxT A b m n dn ac N d)(x:Nat->Int){dn':Nat->SxN}{k':Nat}(hk':k'<=m) :
  d*ze8 A m dn' k' x=ze8 A m dn m x*ze8 A m dn' k' sxE+sxS m fun k=>ze8 A m dn k x*ze8 A m dn' k' (sxF A (dn k)):=by
 rw[← zae1 hk',← zaj3 hk' (fun k=>ze8 A m dn k x) (fun k=>sxF A (dn k)),← zae1 hk',← zay0 hk']
 exact zaa6 fun c hc=>T.by_basis x hc
theorem zcn9(A:Nat->Nat->Int)(m j:Nat)(hc:c<m+1):sxF A (false,j) c=(-1)*sxE c+sxS m fun i=>A i j*sxF A (true,i) c:=by
 unfold sxF sxE
 simp only[zda7,if_false,if_true]
 by_cases h:c=0
 ·rw[if_pos h,if_pos h,zi0 (fun i _=>by rw[if_neg (by rfl')];omega)];omega
 ·rw[if_neg h,if_neg h,zo2 (k:=c - 1) (by rfl') (fun i _ hne=>by rw[if_neg (by rfl')];omega),if_pos (by rfl')];omega
theorem zca7(A:Nat->Nat->Int)(b:Nat->Int)(m:Nat)(hc:c<m+1):sxB b c=sxS m fun i=>b i*sxF A (true,i) c:=by
 unfold sxB sxF
 simp only[if_true]
 by_cases h:c=0
 ·rw[if_pos h,zi0 (fun i _=>by rw[if_neg (by rfl')];omega)]
 ·rw[if_neg h,zo2 (k:=c - 1) (by rfl') (fun i _ hne=>by rw[if_neg (by rfl')];omega),if_pos (by rfl')];omega
theorem SxT.dual(T:SxT A b m n dn ac N d)(j:Nat):ze8 A m dn m (sxF A (false,j))+d=sxS m fun i=>A i j*ze8 A m dn m (sxF A (true,i)):=by
 rw[zaa6 (fun c hc=>zcn9 A m j hc),zay0 (zcw4 m) (fun c=>(-1)*sxE c),zae1 (zcw4 m),T.e0,zaj3 (zcw4 m) (fun i=>A i j) (fun i=>sxF A (true,i))]
 omega
theorem SxT.dualWorth(T:SxT A b m n dn ac N d):N m n=sxS m fun i=>b i*ze8 A m dn m (sxF A (true,i)):=by
 rw[← T.rhs (zcw4 m),zaa6 (fun c hc=>zca7 A b m hc),zaj3 (zcw4 m) b (fun i=>sxF A (true,i))]
theorem SxT.prim(T:SxT A b m n dn ac N d)(hi:i<m):d*b i=sxS m fun k=>N k n*sxF A (dn k) (i+1):=by
 have:=T.by_basis (sxB b) (j:=i+1) (by rfl')
 unfold sxE at this
 rw[if_neg (by rfl'),zdc4,Int.zero_add] at this
 rw[show d*b i=d*sxB b (i+1) by unfold sxB;rw[if_neg (by rfl')];rfl,this]
 exact zb3 fun k hk=>by rw[T.rhs (by rfl')]
theorem SxT.primWorth(T:SxT A b m n dn ac N d):N m n=sxS m fun k=>N k n*(if (dn k).1=true then 0 else 1):=by
 have:=T.by_basis (sxB b) (j:=0) (by rfl')
 rw[show sxB b 0=0 from rfl,show sxE 0=1 from rfl,T.rhs (zcw4 m)] at this
 have e:(sxS m fun k=>ze8 A m dn k (sxB b)*sxF A (dn k) 0)=- sxS m fun k=>N k n*(if (dn k).1=true then 0 else 1):=by
  rw[← zaf0]
  refine zb3 fun k hk=>?_
  rw[T.rhs (by rfl')]
  unfold sxF
  split
  ·rw[if_neg (by rfl')];omega
  ·rw[if_pos rfl];omega
 rw[e] at this
 omega
end
noncomputable def sxLt(x y:SxN):Prop:=(x.1=false/\y.1=true)∨(x.1=y.1/\x.2<y.2)
theorem zaa7(x:SxN):¬ sxLt x x:=by
 rintro (⟨h1,h2⟩|⟨_,h⟩)
 ·rw[h1] at h2;exact absurd h2 (by decide)
 ·omega
theorem zae8{x y z:SxN}(h:sxLt x y)(h':sxLt y z):sxLt x z:=by
 rcases h with ⟨a1,a2⟩|⟨a1,a2⟩<;>rcases h' with ⟨b1,b2⟩|⟨b1,b2⟩
 ·rw[a2] at b1;exact absurd b1 (by decide)
 ·exact .inl ⟨a1,by rw[← b1];exact a2⟩
 ·exact .inl ⟨by rw[a1];exact b1,b2⟩
 ·exact .inr ⟨a1.trans b1,by rfl'⟩
theorem zaw4(x y:SxN):sxLt x y∨x=y∨sxLt y x:=by
 obtain⟨p,i⟩:=x
 obtain⟨q,j⟩:=y
 unfold sxLt
 cases p<;>cases q<;>simp
 all_goals omega
theorem sxTop(t:Nat->SxN):∀ L,0<L->∃ a,a<L/\∀ i,i<L->¬ sxLt (t a) (t i)
 | 0,h=>by rfl'
 | 1,_=>⟨0,by rfl',fun i hi=>by rw[show i=0 by rfl'];exact zaa7 _⟩
 | L+2,_=>by
  obtain⟨a,ha,hm⟩:=sxTop t (L+1) (by rfl')
  by_cases h:sxLt (t a) (t (L+1))
  ·refine⟨L+1,by rfl',fun i hi hlt=>?_⟩
   by_cases e:i=L+1
   ·subst e;exact zaa7 _ hlt
   ·exact hm i (by rfl') (zae8 h hlt)
  ·refine⟨a,by rfl',fun i hi hlt=>?_⟩
   by_cases e:i=L+1
   ·subst e;exact h hlt
   ·exact hm i (by rfl') hlt
theorem zcj4{L:Nat}{t q:Nat->SxN}{Ok:SxN->Prop}{In Z P Ng:Nat->SxN->Prop}{R:Nat->SxN->Int}(hL:0<L)(hstep:∀ i,i<L->∀ x,In (i+1) x↔(In i x/\x≠q i)∨x=t i)(hq:∀ i,i<L->In i (q i))(ht:∀ i,i<L->¬ In i (t i))(hR:∀ i,i<L->∀ x,In i x->R i x=0)(hRt:∀ i,i<L->R i (t i)<0)(hR1:∀ i,i<L->∀ x,Ok x->R i x<0->¬ sxLt x (t i))(hP:∀ i,i<L->P i (q i))(hPN:∀ i,i<L->∀ x,P i x->¬ Ng i x)(hZ0:∀ i,i<L->∀ x,¬ In i x->Z i x)(hZ:∀ i j,i<L->j<L->∀ x,Z i x->Z j x)(hR2:∀ i,i<L->∀ x,In i x->P i x->Z i x->¬ sxLt x (q i))(hW:∀ i j,i<L->j<L->0<=R i (t j)->∃ u,Ok u/\In j u/\((0<R i u/\P j u)∨(R i u<0/\Ng j u)))(hcyc:∀ x,In L x↔In 0 x)(hOk:∀ i,i<L->Ok (t i)):False:=by
 have gained:∀ a b u,a<L->b<L->¬ In a u->In b u->∃ i,i<L/\t i=u:=by
  intro a b u ha hb h1 h2
  refine Classical.byContradiction fun hno=>?_
  have back:∀ i j,i<=j->j<=L->In j u->In i u:=by
   intro i j hij
   induction j with
   | zero=>intro _ h;rw[show i=0 by rfl'];exact h
   | succ j ih=>
    intro hj h
    by_cases e:i=j+1
    ·rw[e];exact h
    ·refine ih (by rfl') (by rfl') ?_
     rcases (hstep j (by rfl') u).mp h with h' | h'
     ·exact h'.1
     ·exact absurd ⟨j,by rfl',h'.symm⟩ hno
  exact h1 (back a L (by rfl') (zcw4 _) ((hcyc u).mpr (back 0 b (by rfl') (by rfl') h2)))
 obtain⟨a,ha,hm⟩:=sxTop t L hL
 obtain⟨b,hb,hqb⟩:∃ b,b<L/\q b=t a:=by
  refine Classical.byContradiction fun hno=>?_
  have fwd:∀ i j,i<=j->j<=L->In i (t a)->In j (t a):=by
   intro i j hij
   induction j with
   | zero=>intro _ h;rw[show 0=i by rfl'];exact h
   | succ j ih=>
    intro hj h
    by_cases e:i=j+1
    ·rw[← e];exact h
    ·exact (hstep j (by rfl') _).mpr (.inl ⟨ih (by rfl') (by rfl') h,fun e2=>hno ⟨j,by rfl',e2.symm⟩⟩)
  have h1:In (a+1) (t a):=(hstep a ha _).mpr (.inr rfl)
  exact ht a ha (fwd 0 a (by rfl') (by rfl') ((hcyc _).mp (fwd (a+1) L (by rfl') (zcw4 _) h1)))
 have below:∀ i,i<L->t i≠t a->sxLt (t i) (t a):=by
  intro i hi hne
  rcases zaw4 (t i) (t a) with h|h|h
  ·exact h
  ·exact absurd h hne
  ·exact absurd h (hm i hi)
 have htb:sxLt (t b) (t a):=below b hb fun e=>ht b hb (by rw[e,← hqb];exact hq b hb)
 have h0:0<=R a (t b):=by
  refine Int.not_lt.mp fun h=>?_
  exact hR1 a ha _ (hOk b hb) h htb
 obtain⟨u,hu,hIn,hor⟩:=hW a b ha hb h0
 have hna:¬ In a u:=fun h=>by
  have:=hR a ha u h
  rcases hor with ⟨h1,_⟩|⟨h1,_⟩<;>omega
 obtain⟨i,hi,rfl⟩:=gained a b u ha hb hna hIn
 rcases hor with ⟨h1,h2⟩|⟨h1,h2⟩
 ·have hne:t i≠t a:=fun e=>by rw[e] at h1;have:=hRt a ha;omega
  exact hR2 b hb _ hIn h2 (hZ a b ha hb _ (hZ0 a ha _ hna)) (by rw[hqb];exact below i hi hne)
 ·by_cases e:t i=t a
  ·rw[e,← hqb] at h2
   exact hPN b hb _ (hP b hb) h2
  ·exact hR1 a ha _ hu h1 (below i hi e)
theorem zaj6{a b c d e f:Int}(hb:0<b)(hd:0<d)(hf:0<f)(h1:a*d<=c*b)(h2:c*f<=e*d):a*f<=e*b:=by
 have k1:=zcy3 h1 (zcz5 hf)
 have k2:=zcy3 h2 (zcz5 hb)
 have e1:a*f*d=a*d*f:=by rw[zda8]
 have e2:c*b*f=c*f*b:=by rw[zda8]
 have e3:e*b*d=e*d*b:=by rw[zda8]
 exact Int.le_of_mul_le_mul_right (by rw[e1,e3];omega) hd
theorem zak2{a b c d e f:Int}(hb:0<b)(hd:0<d)(hf:0<f)(h1:a*d<=c*b)(h2:c*f<e*d):a*f<e*b:=by
 have k1:=zcy3 h1 (zcz5 hf)
 have k2:=Int.mul_lt_mul_of_pos_right h2 hb
 have e1:a*f*d=a*d*f:=by rw[zda8]
 have e2:c*b*f=c*f*b:=by rw[zda8]
 have e3:e*b*d=e*d*b:=by rw[zda8]
 exact Int.lt_of_mul_lt_mul_right (by rw[e1,e3];omega) (zcz5 hd)
theorem zaq6{a b c d e f:Int}(hb:0<b)(hd:0<d)(hf:0<f)(h1:a*d<c*b)(h2:c*f<=e*d):a*f<e*b:=by
 have k1:=Int.mul_lt_mul_of_pos_right h1 hf
 have k2:=zcy3 h2 (zcz5 hb)
 have e1:a*f*d=a*d*f:=by rw[zda8]
 have e2:c*b*f=c*f*b:=by rw[zda8]
 have e3:e*b*d=e*d*b:=by rw[zda8]
 exact Int.lt_of_mul_lt_mul_right (by rw[e1,e3];omega) (zcz5 hd)
theorem zck7{L:Nat}{w d:Nat->Int}(hd:∀ i,i<=L->0<d i)(hm:∀ i,i<L->w i*d (i+1)<=w (i+1)*d i)(hc:w 0*d L=w L*d 0) :
  ∀ i,i<L->w i*d (i+1)=w (i+1)*d i:=by
 have chain:∀ i j,i<=j->j<=L->w i*d j<=w j*d i:=by
  intro i j hij
  induction j with
  | zero=>intro _;rw[show i=0 by rfl'];exact zdb5 _
  | succ j ih=>
   intro hj
   by_cases e:i=j+1
   ·rw[e];exact zdb5 _
   ·exact zaj6 (hd i (by rfl')) (hd j (by rfl')) (hd (j+1) hj) (ih (by rfl') (by rfl')) (hm j (by rfl'))
 intro i hi
 refine Int.le_antisymm (hm i hi) (Int.not_lt.mp fun h=>?_)
 have h1:=zak2 (hd 0 (by rfl')) (hd i (by rfl')) (hd (i+1) hi) (chain 0 i (by rfl') (by rfl')) h
 have h2:=zaq6 (hd 0 (by rfl')) (hd (i+1) hi) (hd L (zcw4 _)) h1 (chain (i+1) L hi (zcw4 _))
 omega
theorem zaa9{f:Nat->Int}:∀ {m:Nat},0<sxS m f->∃ k,k<m/\0<f k
 | 0,h=>by exact absurd h (by show ¬ (0:Int)<0;omega)
 | m+1,h=>by
  have h':0<sxS m f+f m:=h
  by_cases e:0<f m
  ·exact⟨m,by rfl',e⟩
  ·obtain⟨k,hk,hf⟩:=zaa9 (m:=m) (f:=f) (by rfl')
   exact⟨k,by rfl',hf⟩
structure SxGr where
 dn:Nat->SxN
 ac:Nat->SxN
 N:Nat->Nat->Int
 d:Int
noncomputable def SxGr.turn(s:SxGr)(r c:Nat):SxGr:=⟨zq3 s.dn r (s.ac c),zq3 s.ac c (s.dn r),zm4 s.N s.d r c,zn8 (s.N r c)*s.N r c⟩
noncomputable def sxOk(m n:Nat)(x:SxN):Prop:=(x.1=true->x.2<m)/\(x.1=false->x.2<n)
structure SxNm(m n:Nat)(dn ac:Nat->SxN):Prop where
 dinj:∀ k l,k<m->l<m->dn k=dn l->k=l
 ainj:∀ k l,k<n->l<n->ac k=ac l->k=l
 disj:∀ k c,k<m->c<n->dn k≠ac c
 all:∀ x,sxOk m n x->(∃ k,k<m/\dn k=x)∨∃ c,c<n/\ac c=x
 dok:∀ k,k<m->sxOk m n (dn k)
 aok:∀ c,c<n->sxOk m n (ac c)
theorem zf1(f:Nat->SxN)(k:Nat)(x:SxN):zq3 f k x k=x:=if_pos rfl
theorem zd0{f:Nat->SxN}{k:Nat}{x:SxN}(h:i≠k):zq3 f k x i=f i:=if_neg h
theorem SxNm.turn{dn ac:Nat->SxN}(H:SxNm m n dn ac){r:Nat}(hr:r<m)(hc:c<n):SxNm m n (zq3 dn r (ac c)) (zq3 ac c (dn r)) where
 dinj:=by
  intro k l hk hl h
  by_cases e1:k=r<;>by_cases e2:l=r
  ·omega
  ·subst e1;rw[zf1,zd0 e2] at h;exact absurd h.symm (H.disj l c hl hc)
  ·subst e2;rw[zf1,zd0 e1] at h;exact absurd h (H.disj k c hk hc)
  ·rw[zd0 e1,zd0 e2] at h;exact H.dinj k l hk hl h
 ainj:=by
  intro k l hk hl h
  by_cases e1:k=c<;>by_cases e2:l=c
  ·omega
  ·subst e1;rw[zf1,zd0 e2] at h;exact absurd h (H.disj r l hr hl)
  ·subst e2;rw[zf1,zd0 e1] at h;exact absurd h.symm (H.disj r k hr hk)
  ·rw[zd0 e1,zd0 e2] at h;exact H.ainj k l hk hl h
 disj:=by
  intro k l hk hl h
  by_cases e1:k=r<;>by_cases e2:l=c
  ·subst e1;subst e2;rw[zf1,zf1] at h;exact absurd h.symm (H.disj k l hk hl)
  ·subst e1;rw[zf1,zd0 e2] at h;exact e2 (H.ainj _ _ hc hl h).symm
  ·subst e2;rw[zf1,zd0 e1] at h;exact e1 (H.dinj _ _ hk hr h)
  ·rw[zd0 e1,zd0 e2] at h;exact H.disj k l hk hl h
 all:=by
  intro x hx
  rcases H.all x hx with ⟨k,hk,e⟩|⟨l,hl,e⟩
  ·by_cases e1:k=r
   ·subst e1;exact .inr ⟨c,hc,by rw[zf1];exact e⟩
   ·exact .inl ⟨k,hk,by rw[zd0 e1];exact e⟩
  ·by_cases e1:l=c
   ·subst e1;exact .inl ⟨r,hr,by rw[zf1];exact e⟩
   ·exact .inr ⟨l,hl,by rw[zd0 e1];exact e⟩
 dok:=by
  intro k hk
  by_cases e1:k=r
  ·subst e1;rw[zf1];exact H.aok c hc
  ·rw[zd0 e1];exact H.dok k hk
 aok:=by
  intro k hk
  by_cases e1:k=c
  ·subst e1;rw[zf1];exact H.dok r hr
  ·rw[zd0 e1];exact H.aok k hk
structure SxOk(A:Nat->Nat->Int)(b:Nat->Int)(m n:Nat)(s:SxGr):Prop where
 t:SxT A b m n s.dn s.ac s.N s.d
 nm:SxNm m n s.dn s.ac
section
variable {A:Nat->Nat->Int}{b:Nat->Int}{m n:Nat}
theorem SxOk.turn{s:SxGr}(H:SxOk A b m n s){r c:Nat}(hr:r<m)(hc:c<n)(hp:s.N r c≠0):SxOk A b m n (s.turn r c):=
 ⟨H.t.turn hr hc hp,H.nm.turn hr hc⟩
theorem SxT.turned{dn ac:Nat->SxN}{N:Nat->Nat->Int}{d:Int}(T:SxT A b m n dn ac N d){r k l:Nat}(hr:r<m)(hc:c<n)(hk:k<=m)(hl:l<=n)(hkr:k≠r)(hlc:l≠c) :
  d*zm4 N d r c k l=zn8 (N r c)*(N k l*N r c - N k c*N r l):=by
 obtain⟨e,_,_,_,ex⟩:=T.exact hr hc hk hl hkr
 unfold zm4
 rw[if_neg hkr,if_neg hlc,ex,Int.mul_ediv_cancel_left _ (by have:=T.pos;omega),zcz3]
theorem zar0{dn dn':Nat->SxN}(h:∀ k,k<m->dn k=dn' k)(k:Nat)(x:Nat->Int):ze8 A m dn k x=ze8 A m dn' k x:=by
 have e:∀ r c,r<m+1->sxM A dn r c=sxM A dn' r c:=by
  intro r c hr
  unfold sxM
  by_cases h0:r=0
  ·rw[if_pos h0,if_pos h0]
  ·rw[if_neg h0,if_neg h0,h (r - 1) (by rfl')]
 unfold ze8
 rw[zac7 (fun r c hr _=>e r c hr)]
 congr 1
 refine zac7 fun r c hr _=>?_
 unfold sxU
 split
 ·rfl
 ·exact e r c hr
theorem SxT.same_d{dn ac dn' ac':Nat->SxN}{N N':Nat->Nat->Int}{d d':Int}(T:SxT A b m n dn ac N d)(T':SxT A b m n dn' ac' N' d')(h:∀ k,k<m->dn k=dn' k):d=d':=by
 rw[← T.e0,← T'.e0];exact zar0 h _ _
theorem SxT.same_g{dn ac dn' ac':Nat->SxN}{N N':Nat->Nat->Int}{d d':Int}(T:SxT A b m n dn ac N d)(T':SxT A b m n dn' ac' N' d')(h:∀ k,k<m->dn k=dn' k){k:Nat}(hk:k<=m):N k n=N' k n:=by
 rw[← T.rhs hk,← T'.rhs hk];exact zar0 h _ _
structure SxPr(m n:Nat)(s:SxGr)(r c:Nat):Prop where
 hr:r<m
 hc:c<n
 neg:s.N m c<0
 least:∀ l,l<n->s.N m l<0->¬ sxLt (s.ac l) (s.ac c)
 pos:0<s.N r c
 binds:∀ k,k<m->0<s.N k c->s.N r n*s.N k c<s.N k n*s.N r c∨(s.N r n*s.N k c=s.N k n*s.N r c/\¬ sxLt (s.dn k) (s.dn r))
theorem zac0{p:Int}(h:0<p):zn8 p=1:=if_pos h
theorem zaj5{p:Int}(h:p<0):zn8 p=-1:=if_neg (by rfl')
theorem SxPr.feas{s:SxGr}(H:SxOk A b m n s){r:Nat}(h:SxPr m n s r c)(hf:∀ k,k<m->0<=s.N k n):∀ k,k<m->0<=(s.turn r c).N k n:=by
 intro k hk
 show 0<=zm4 s.N s.d r c k n
 have hne:n≠c:=by have:=h.hc;omega
 by_cases hkr:k=r
 ·subst hkr
  unfold zm4
  rw[if_pos rfl,if_neg hne,zac0 h.pos,zdd6]
  exact hf k hk
 ·have e:=H.t.turned h.hr h.hc (zde7 hk) (zcw4 n) hkr hne
  rw[zac0 h.pos,zdd6] at e
  have h1:0<=s.N k n*s.N r c - s.N k c*s.N r n:=by
   have hkn:=hf k hk
   have hrn:=hf r h.hr
   by_cases hkc:0<s.N k c
   ·have:=h.binds k hk hkc
    rw[zdc5 (s.N k c)]
    omega
   ·have a1:=zda2 hkn (zcz5 h.pos)
    have a2:=zda2 (show 0<=- s.N k c by rfl') hrn
    rw[zdc6] at a2
    omega
  have hd:=H.t.pos
  refine Int.not_lt.mp fun hlt=>?_
  have:=Int.mul_neg_of_pos_of_neg hd hlt
  omega
theorem zcc9{L:Nat}{s:Nat->SxGr}{r c:Nat->Nat}(hok:∀ i,i<=L->SxOk A b m n (s i))(hf:∀ i,i<=L->∀ k,k<m->0<=(s i).N k n)(hr:∀ i,i<L->SxPr m n (s i) (r i) (c i))(hs:∀ i,i<L->s (i+1)=(s i).turn (r i) (c i))(hL:0<L)(hc:∀ k,k<m->(s 0).dn k=(s L).dn k):False:=by
 have zstep:∀ i,i<L->(s i).d*(s (i+1)).N m n=(s i).N m n*(s (i+1)).d - (s i).N m (c i)*(s i).N (r i) n:=by
  intro i hi
  have R:=hr i hi
  rw[hs i hi]
  show (s i).d*zm4 (s i).N (s i).d (r i) (c i) m n=(s i).N m n*(zn8 ((s i).N (r i) (c i))*(s i).N (r i) (c i)) - _
  rw[(hok i (by rfl')).t.turned R.hr R.hc (zcw4 m) (zcw4 n) (by have:=R.hr;omega) (by have:=R.hc;omega),zac0 R.pos,zdd6,zdd6]
 have lev:=zck7 (L:=L) (w:=fun i=>(s i).N m n) (d:=fun i=>(s i).d) (fun i hi=>(hok i hi).t.pos)
  (fun i hi=>by
   have R:=hr i hi
   have:=zstep i hi
   have a:=zda2 (show 0<=- (s i).N m (c i) by have:=R.neg;omega) (hf i (by rfl') (r i) R.hr)
   rw[zdc6] at a
   try dsimp only
   rw[zdc5 ((s (i+1)).N m n)]
   omega)
  (by
   try dsimp only
   rw[(hok 0 (by rfl')).t.same_d (hok L (zcw4 _)).t hc,(hok 0 (by rfl')).t.same_g (hok L (zcw4 _)).t hc (zcw4 m)])
 have deg:∀ i,i<L->(s i).N (r i) n=0:=by
  intro i hi
  have R:=hr i hi
  have h1:=zstep i hi
  have h2:=lev i hi
  try dsimp only at h2
  rw[zdc5 ((s (i+1)).N m n)] at h2
  have h3:(s i).N m (c i)*(s i).N (r i) n=0:=by rfl'
  rcases Int.mul_eq_zero.mp h3 with h|h
  ·have:=R.neg;omega
  ·exact h
 refine zcj4 (L:=L) (t:=fun i=>(s i).ac (c i)) (q:=fun i=>(s i).dn (r i)) (Ok:=sxOk m n) (In:=fun i x=>∃ k,k<m/\(s i).dn k=x)
  (Z:=fun i x=>∀ k,k<m->(s i).dn k=x->(s i).N k n=0) (P:=fun i x=>∃ k,k<m/\(s i).dn k=x/\0<(s i).N k (c i))
  (Ng:=fun i x=>∃ k,k<m/\(s i).dn k=x/\(s i).N k (c i)<0) (R:=fun i x=>ze8 A m (s i).dn m (sxF A x)) hL ?step ?q ?t ?R ?Rt ?R1 ?P ?PN ?Z0 ?Z ?R2 ?W ?cyc ?ok
 case step=>
  intro i hi x
  try dsimp only
  rw[hs i hi]
  have R:=hr i hi
  have Nn:=(hok i (by rfl')).nm
  constructor
  ·rintro⟨k,hk,e⟩
   have e':zq3 (s i).dn (r i) ((s i).ac (c i)) k=x:=e
   by_cases e1:k=r i
   ·subst e1;rw[zf1] at e';exact .inr e'.symm
   ·rw[zd0 e1] at e'
    exact .inl ⟨⟨k,hk,e'⟩,fun e2=>e1 (Nn.dinj _ _ hk R.hr (e'.trans e2))⟩
  ·rintro (⟨⟨k,hk,e⟩,hne⟩|e)
   ·refine⟨k,hk,?_⟩
    show zq3 (s i).dn (r i) ((s i).ac (c i)) k=x
    rw[zd0];exact e
    rintro rfl
    exact hne e.symm
   ·exact⟨r i,R.hr,by show zq3 (s i).dn (r i) ((s i).ac (c i)) (r i)=x;rw[zf1];exact e.symm⟩
 case q=>exact fun i hi=>⟨r i,(hr i hi).hr,rfl⟩
 case t=>
  rintro i hi ⟨k,hk,e⟩
  exact (hok i (by rfl')).nm.disj k (c i) hk (hr i hi).hc e
 case R=>
  rintro i hi x ⟨k,hk,rfl⟩
  exact zat3 (zcw4 m) hk (by rfl')
 case Rt=>
  intro i hi
  try dsimp only
  rw[(hok i (by rfl')).t.acr (zcw4 m) (hr i hi).hc]
  exact (hr i hi).neg
 case R1=>
  intro i hi x hx h
  try dsimp only at h
  rcases (hok i (by rfl')).nm.all x hx with ⟨k,hk,rfl⟩|⟨l,hl,rfl⟩
  ·rw[zat3 (zcw4 m) hk (by rfl')] at h;omega
  ·rw[(hok i (by rfl')).t.acr (zcw4 m) hl] at h
   exact (hr i hi).least l hl h
 case P=>exact fun i hi=>⟨r i,(hr i hi).hr,rfl,(hr i hi).pos⟩
 case PN=>
  rintro i hi x ⟨k,hk,e,h⟩ ⟨k',hk',e',h'⟩
  have:=(hok i (by rfl')).nm.dinj _ _ hk hk' (e.trans e'.symm)
  subst this;omega
 case Z0=>exact fun i hi x hn k hk e=>absurd ⟨k,hk,e⟩ hn
 case Z=>
  have fwd1:∀ i,i<L->∀ x,(∀ k,k<m->(s i).dn k=x->(s i).N k n=0)->∀ k,k<m->(s (i+1)).dn k=x->(s (i+1)).N k n=0:=by
   intro i hi x h k hk e
   have R:=hr i hi
   rw[hs i hi] at e ⊢
   have e':zq3 (s i).dn (r i) ((s i).ac (c i)) k=x:=e
   show zm4 (s i).N (s i).d (r i) (c i) k n=0
   unfold zm4
   by_cases e1:k=r i
   ·rw[if_pos e1,if_neg (by have:=R.hc;omega),deg i hi,zdc4]
   ·rw[zd0 e1] at e'
    rw[if_neg e1,if_neg (by have:=R.hc;omega),h k hk e',deg i hi]
    simp
  have fwd:∀ i j,i<=j->j<=L->∀ x,(∀ k,k<m->(s i).dn k=x->(s i).N k n=0)->∀ k,k<m->(s j).dn k=x->(s j).N k n=0:=by
   intro i j hij
   induction j with
   | zero=>intro _ x h;rw[show 0=i by rfl'];exact h
   | succ j ih=>
    intro hj x h
    by_cases e:i=j+1
    ·rw[← e];exact h
    ·exact fwd1 j (by rfl') x (ih (by rfl') (by rfl') x h)
  intro i j hi hj x h
  refine fwd 0 j (by rfl') (by rfl') x ?_
  have hLz:=fwd i L (by rfl') (zcw4 _) x h
  intro k hk e
  rw[(hok 0 (by rfl')).t.same_g (hok L (zcw4 _)).t hc (zde7 hk)]
  exact hLz k hk (by rw[← hc k hk];exact e)
 case R2=>
  rintro i hi x ⟨k0,hk0,_⟩ ⟨k,hk,rfl,hp⟩ hz
  have R:=hr i hi
  have z:=hz k hk rfl
  rcases R.binds k hk hp with h|h
  ·rw[z,deg i hi,zdf6,zdf6] at h;omega
  ·exact h.2
 case W=>
  intro i j hi hj h0
  try dsimp only at h0
  have R:=hr j hj
  have Tj:=(hok j (by rfl')).t
  have Ti:=(hok i (by rfl')).t
  have by1:=Tj.by_row (sxF A ((s j).ac (c j))) (dn':=(s i).dn) (k':=m) (zcw4 m)
  rw[Tj.acr (zcw4 m) R.hc,Ti.e0] at by1
  have h1:=zda2 (zcz5 Tj.pos) h0
  have h2:=Int.mul_neg_of_neg_of_pos R.neg Ti.pos
  obtain⟨k,hk,hkp⟩:=zaa9 (m:=m) (f:=fun k=>ze8 A m (s j).dn k (sxF A ((s j).ac (c j)))*ze8 A m (s i).dn m (sxF A ((s j).dn k))) (by rfl')
  try dsimp only at hkp
  rw[Tj.acr (zde7 hk) R.hc] at hkp
  refine⟨(s j).dn k,(hok j (by rfl')).nm.dok k hk,⟨k,hk,rfl⟩,?_⟩
  rcases Int.lt_trichotomy ((s j).N k (c j)) 0 with a|a|a
  ·right
   refine⟨Int.not_le.mp fun hle=>?_,k,hk,rfl,a⟩
   have:=zda2 (show 0<=- (s j).N k (c j) by rfl') hle
   rw[zdc6] at this;omega
  ·rw[a,zdf6] at hkp;omega
  ·left
   refine⟨Int.not_le.mp fun hle=>?_,k,hk,rfl,a⟩
   have:=zda2 (zcz5 a) (show 0<=- ze8 A m (s i).dn m (sxF A ((s j).dn k)) by rfl')
   rw[Int.mul_neg] at this;omega
 case cyc=>
  intro x
  constructor
  ·rintro⟨k,hk,e⟩;exact⟨k,hk,by rw[hc k hk];exact e⟩
  ·rintro⟨k,hk,e⟩;exact⟨k,hk,by rw[← hc k hk];exact e⟩
 case ok=>exact fun i hi=>(hok i (by rfl')).nm.aok _ (hr i hi).hc
end
section
variable {A:Nat->Nat->Int}{b:Nat->Int}{m n:Nat}
structure SxDl(m n:Nat)(s:SxGr)(r c:Nat):Prop where
 hr:r<m
 hc:c<n
 neg:s.N r n<0
 least:∀ k,k<m->s.N k n<0->¬ sxLt (s.dn k) (s.dn r)
 pos:s.N r c<0
 binds:∀ l,l<n->s.N r l<0->s.N m l*s.N r c<s.N m c*s.N r l∨(s.N m l*s.N r c=s.N m c*s.N r l/\¬ sxLt (s.ac l) (s.ac c))
theorem SxDl.feas{s:SxGr}(H:SxOk A b m n s){r:Nat}(h:SxDl m n s r c)(hf:∀ l,l<n->0<=s.N m l):∀ l,l<n->0<=(s.turn r c).N m l:=by
 intro l hl
 show 0<=zm4 s.N s.d r c m l
 have hne:m≠r:=by have:=h.hr;omega
 by_cases hlc:l=c
 ·subst hlc
  unfold zm4
  rw[if_neg hne,if_pos rfl,zaj5 h.pos]
  have:=hf l hl
  omega
 ·have e:=H.t.turned h.hr h.hc (zcw4 m) (zde7 hl) hne hlc
  rw[zaj5 h.pos] at e
  have h1:0<=s.N m c*s.N r l - s.N m l*s.N r c:=by
   have hml:=hf l hl
   have hmc:=hf c h.hc
   by_cases hrl:s.N r l<0
   ·have:=h.binds l hl hrl
    omega
   ·have a1:=zda2 hmc (show 0<=s.N r l by rfl')
    have a2:=zda2 hml (show 0<=- s.N r c by have:=h.pos;omega)
    rw[Int.mul_neg] at a2
    omega
  have hd:=H.t.pos
  refine Int.not_lt.mp fun hlt=>?_
  have:=Int.mul_neg_of_pos_of_neg hd hlt
  omega
theorem sxVal{dn:Nat->SxN}{g:Nat->Int}(hinj:∀ k l,k<m->l<m->dn k=dn l->k=l){k:Nat}(hk:k<m):(sxS m fun l=>if dn l=dn k then g l else 0)=g k:=by
 rw[zo2 (k:=k) hk (fun i hi hne=>if_neg fun e=>hne (hinj i k hi hk e)),if_pos rfl]
theorem zz1{dn:Nat->SxN}{g:Nat->Int}{x:SxN}(h:∀ k,k<m->dn k≠x):(sxS m fun l=>if dn l=x then g l else 0)=0:=
 zi0 fun i hi=>if_neg (h i hi)
end
theorem zbm1:∀ (W:Nat) (f:Nat->Nat),(∀ i,i<=W->f i<W)->∃ i j,i<j/\j<=W/\f i=f j
 | 0,f,h=>absurd (h 0 (zcw4 0)) (by rfl')
 | W+1,f,h=>by
  by_cases hx:∃ i,i<=W/\f i=f (W+1)
  ·obtain⟨i,hi,e⟩:=hx
   exact⟨i,W+1,by rfl',zcw4 _,e⟩
  ·have hne:∀ i,i<=W->f i≠f (W+1):=fun i hi e=>hx ⟨i,hi,e⟩
   obtain⟨i,j,hij,hj,e⟩:=zbm1 W (fun i=>if f i=W then f (W+1) else f i) (fun i hi=>by
    have h1:=h i (by rfl')
    have h2:=h (W+1) (zcw4 _)
    have h3:=hne i hi
    try dsimp only
    split<;>omega)
   refine⟨i,j,hij,by rfl',?_⟩
   have h3:=hne i (by rfl')
   have h4:=hne j hj
   try dsimp only at e
   by_cases a:f i=W<;>by_cases c:f j=W
   ·omega
   ·rw[if_pos a,if_neg c] at e;omega
   ·rw[if_neg a,if_pos c] at e;omega
   ·rw[if_neg a,if_neg c] at e;exact e
noncomputable def zq0(w:Nat)(f:Nat->Nat):Nat->Nat
 | 0=>0
 | q+1=>zq0 w f q*w+f q
theorem zax8{w:Nat}{f:Nat->Nat}:∀ {q:Nat},(∀ k,k<q->f k<w)->zq0 w f q<w ^ q
 | 0,_=>by show 0<1;omega
 | q+1,h=>by
  have h1:=zax8 (fun k hk=>h k (by rfl')) (q:=q)
  have h2:=h q (by rfl')
  show zq0 w f q*w+f q<w ^ q*w
  have:(zq0 w f q+1)*w<=w ^ q*w:=zdb0 w h1
  rw[Nat.succ_mul] at this
  omega
theorem zaq3{w:Nat}{f g:Nat->Nat}:∀ {q:Nat},(∀ k,k<q->f k<w)->(∀ k,k<q->g k<w)->zq0 w f q=zq0 w g q->∀ k,k<q->f k=g k
 | 0,_,_,_,k,hk=>by rfl'
 | q+1,hf,hg,e,k,hk=>by
  have e':zq0 w f q*w+f q=zq0 w g q*w+g q:=e
  have h1:=hf q (by rfl')
  have h2:=hg q (by rfl')
  have h3:f q=g q:=by
   have:=congrArg (· % w) e'
   simp only[Nat.mul_add_mod_self_right] at this
   rwa [Nat.mod_eq_of_lt h1,Nat.mod_eq_of_lt h2] at this
  have h4:zq0 w f q=zq0 w g q:=by
   have:zq0 w f q*w=zq0 w g q*w:=by rfl'
   exact Nat.eq_of_mul_eq_mul_right (by rfl') this
  by_cases a:k=q
  ·rw[a];exact h3
  ·exact zaq3 (fun k hk=>hf k (by rfl')) (fun k hk=>hg k (by rfl')) h4 k (by rfl')
noncomputable def zbd4(n:Nat)(x:SxN):Nat:=if x.1=true then n+x.2 else x.2
theorem zbn1{x:SxN}(h:sxOk m n x):zbd4 n x<m+n:=by
 unfold zbd4
 obtain⟨p,i⟩:=x
 cases p
 ·have:=h.2 rfl;simp at this ⊢;omega
 ·have:=h.1 rfl;simp at this ⊢;omega
theorem zbb1{x y:SxN}(h:sxOk m n x)(h':sxOk m n y)(e:zbd4 n x=zbd4 n y):x=y:=by
 obtain⟨p,i⟩:=x
 obtain⟨q,j⟩:=y
 unfold zbd4 at e
 cases p<;>cases q<;>simp at e
 ·rw[e]
 ·have:=h.2 rfl;simp at this;omega
 ·have:=h'.2 rfl;simp at this;omega
 ·rw[e]
noncomputable def zbf6(m n:Nat)(s:SxGr)(k:Nat):Nat:=if k<m then zbd4 n (s.dn k) else zbd4 n (s.ac (k - m))
section
variable {A:Nat->Nat->Int}{b:Nat->Int}{m n:Nat}
theorem zav7{s:SxGr}(H:SxNm m n s.dn s.ac):∀ k,k<m+n->zbf6 m n s k<m+n:=by
 intro k hk
 unfold zbf6
 split
 ·exact zbn1 (H.dok k (by rfl'))
 ·exact zbn1 (H.aok (k - m) (by rfl'))
theorem zcl1{s s':SxGr}(H:SxNm m n s.dn s.ac)(H':SxNm m n s'.dn s'.ac)(e:zq0 (m+n) (zbf6 m n s) (m+n)=zq0 (m+n) (zbf6 m n s') (m+n)) :
  (∀ k,k<m->s.dn k=s'.dn k)/\∀ c,c<n->s.ac c=s'.ac c:=by
 have all:=zaq3 (zav7 H) (zav7 H') e
 refine⟨fun k hk=>?_,fun c hc=>?_⟩
 ·have:=all k (by rfl')
  unfold zbf6 at this
  rw[if_pos hk,if_pos hk] at this
  exact zbb1 (H.dok k hk) (H'.dok k hk) this
 ·have:=all (m+c) (by rfl')
  unfold zbf6 at this
  rw[if_neg (by rfl'),if_neg (by rfl'),show m+c - m=c by rfl'] at this
  exact zbb1 (H.aok c hc) (H'.aok c hc) this
structure zz6(A:Nat->Nat->Int)(b:Nat->Int)(m n L:Nat)(s:Nat->SxGr):Prop where
 ok:∀ i,i<=L->SxOk A b m n (s i)
 feas:∀ i,i<=L->∀ k,k<m->0<=(s i).N k n
 rule:∀ i,i<L->∃ r c,SxPr m n (s i) r c/\s (i+1)=(s i).turn r c
structure zbl5(A:Nat->Nat->Int)(b:Nat->Int)(m n L:Nat)(s:Nat->SxGr):Prop where
 ok:∀ i,i<=L->SxOk A b m n (s i)
 feas:∀ i,i<=L->∀ l,l<n->0<=(s i).N m l
 rule:∀ i,i<L->∃ r c,SxDl m n (s i) r c/\s (i+1)=(s i).turn r c
theorem zz6.bound{L:Nat}{s:Nat->SxGr}(H:zz6 A b m n L s):L<(m+n) ^ (m+n):=by
 refine Nat.not_le.mp fun hle=>?_
 obtain⟨i,j,hij,hj,e⟩:=zbm1 ((m+n) ^ (m+n)) (fun i=>if i<=L then zq0 (m+n) (zbf6 m n (s i)) (m+n) else 0) (fun i hi=>by
  try dsimp only
  rw[if_pos (by rfl')]
  exact zax8 (zav7 (H.ok i (by rfl')).nm))
 try dsimp only at e
 rw[if_pos (by rfl'),if_pos (by rfl')] at e
 obtain⟨e1,e2⟩:=zcl1 (H.ok i (by rfl')).nm (H.ok j (by rfl')).nm e
 have hrc:∀ l,l<j - i->∃ p:Nat×Nat,SxPr m n (s (i+l)) p.1 p.2/\s (i+l+1)=(s (i+l)).turn p.1 p.2:=fun l hl=>by
  obtain⟨r,c,h1,h2⟩:=H.rule (i+l) (by rfl');exact⟨(r,c),h1,h2⟩
 let rc:Nat->Nat×Nat:=fun l=>if h:l<j - i then Classical.choose (hrc l h) else (0,0)
 have hrc':∀ l,l<j - i->SxPr m n (s (i+l)) (rc l).1 (rc l).2/\s (i+l+1)=(s (i+l)).turn (rc l).1 (rc l).2:=fun l hl=>by
  show SxPr m n (s (i+l)) (if h:l<j - i then Classical.choose (hrc l h) else (0,0)).1 _/\_
  have:rc l=Classical.choose (hrc l hl):=dif_pos hl
  have h2:=Classical.choose_spec (hrc l hl)
  rw[← this] at h2;exact h2
 exact zcc9 (L:=j - i) (s:=fun l=>s (i+l)) (r:=fun l=>(rc l).1) (c:=fun l=>(rc l).2) (fun l hl=>H.ok (i+l) (by rfl')) (fun l hl=>H.feas (i+l) (by rfl'))
  (fun l hl=>(hrc' l hl).1) (fun l hl=>(hrc' l hl).2) (by rfl') (fun k hk=>by
   show (s (i+0)).dn k=(s (i+(j - i))).dn k
   rw[show i+(j - i)=j by rfl'];exact e1 k hk)
noncomputable def zv6(s:Nat->SxGr)(L:Nat)(g:SxGr)(i:Nat):SxGr:=if i<=L then s i else g
theorem zz6.start{g:SxGr}(h:SxOk A b m n g)(hf:∀ k,k<m->0<=g.N k n):zz6 A b m n 0 (fun _=>g):=
 ⟨fun _ _=>h,fun _ _=>hf,fun i hi=>by rfl'⟩
theorem zz6.turn{L:Nat}{s:Nat->SxGr}(H:zz6 A b m n L s){r c:Nat}(h:SxPr m n (s L) r c):zz6 A b m n (L+1) (zv6 s L ((s L).turn r c)):=by
 have e1:∀ i,i<=L->zv6 s L ((s L).turn r c) i=s i:=fun i hi=>if_pos hi
 have e2:zv6 s L ((s L).turn r c) (L+1)=(s L).turn r c:=if_neg (by rfl')
 have hok:=(H.ok L (zcw4 _)).turn h.hr h.hc (by have:=h.pos;omega)
 have hfe:=h.feas (H.ok L (zcw4 _)) (H.feas L (zcw4 _))
 refine⟨fun i hi=>?_,fun i hi=>?_,fun i hi=>?_⟩
 ·by_cases e:i=L+1
  ·rw[e,e2];exact hok
  ·rw[e1 i (by rfl')];exact H.ok i (by rfl')
 ·by_cases e:i=L+1
  ·rw[e,e2];exact hfe
  ·rw[e1 i (by rfl')];exact H.feas i (by rfl')
 ·by_cases e:i=L
  ·rw[e,e2,e1 L (zcw4 _)];exact⟨r,c,h,rfl⟩
  ·rw[e1 i (by rfl'),e1 (i+1) (by rfl')];exact H.rule i (by rfl')
theorem zbl5.turn{L:Nat}{s:Nat->SxGr}(H:zbl5 A b m n L s){r c:Nat}(h:SxDl m n (s L) r c):zbl5 A b m n (L+1) (zv6 s L ((s L).turn r c)):=by
 have e1:∀ i,i<=L->zv6 s L ((s L).turn r c) i=s i:=fun i hi=>if_pos hi
 have e2:zv6 s L ((s L).turn r c) (L+1)=(s L).turn r c:=if_neg (by rfl')
 have hok:=(H.ok L (zcw4 _)).turn h.hr h.hc (by have:=h.pos;omega)
 have hfe:=h.feas (H.ok L (zcw4 _)) (H.feas L (zcw4 _))
 refine⟨fun i hi=>?_,fun i hi=>?_,fun i hi=>?_⟩
 ·by_cases e:i=L+1
  ·rw[e,e2];exact hok
  ·rw[e1 i (by rfl')];exact H.ok i (by rfl')
 ·by_cases e:i=L+1
  ·rw[e,e2];exact hfe
  ·rw[e1 i (by rfl')];exact H.feas i (by rfl')
 ·by_cases e:i=L
  ·rw[e,e2,e1 L (zcw4 _)];exact⟨r,c,h,rfl⟩
  ·rw[e1 i (by rfl'),e1 (i+1) (by rfl')];exact H.rule i (by rfl')
end
theorem zbh8{p:Nat}(x:Nat->Int)(hp:p<n):sxD n (sxU (fun r c=>if r=c then 1 else 0) p x)=x p:=by
 have h:=zat6 (n:=n) (fun r c=>if r=c then 1 else 0) x hp
 rw[zav8,zdd6] at h
 rw[h,zo2 (k:=p) hp (fun i hi hne=>by rw[if_neg hne,zdc4]),if_pos rfl,zdf5]
noncomputable def zk2(A:Nat->Nat->Int)(b:Nat->Int)(m n:Nat):SxGr:=
 ⟨fun k=>(true,k),fun c=>(false,c),fun k c=>if k=m then (if c=n then 0 else -1) else (if c=n then b k else A k c),1⟩
section
variable {A:Nat->Nat->Int}{b:Nat->Int}{m n:Nat}
theorem zbp0(A:Nat->Nat->Int)(b:Nat->Int)(m n:Nat):SxOk A b m n (zk2 A b m n):=by
 have hM:sxM A (zk2 A b m n).dn=fun r c=>if r=c then 1 else 0:=by
  funext r c
  unfold sxM
  by_cases h:r=0
  ·rw[if_pos h,h];unfold sxE
   by_cases e:c=0
   ·rw[if_pos e,if_pos e.symm]
   ·rw[if_neg e,if_neg (Ne.symm e)]
  ·rw[if_neg h]
   unfold sxF
   show (if true=true then (if c=r - 1+1 then (1:Int) else 0) else _)=_
   rw[if_pos rfl]
   by_cases e:r=c
   ·rw[if_pos e,if_pos (by rfl')]
   ·rw[if_neg e,if_neg (by rfl')]
 refine⟨⟨by show (0:Int)<1;omega,1,rfl,?_,?_⟩,?_⟩
 ·rw[hM,zav8];rfl
 ·intro k c hk hc
  rw[hM,zbh8 _ (zar2 hk),zdd6]
  show (if k=m then (if c=n then (0:Int) else -1) else (if c=n then b k else A k c))=_
  unfold sxC sxO
  by_cases e1:k=m<;>by_cases e2:c=n
  ·rw[if_pos e1,if_pos e2,if_pos e1,if_pos e2];rfl
  ·rw[if_pos e1,if_neg e2,if_pos e1,if_neg e2];rfl
  ·rw[if_neg e1,if_pos e2,if_neg e1,if_pos e2];unfold sxB;rw[if_neg (by rfl')];rfl
  ·rw[if_neg e1,if_neg e2,if_neg e1,if_neg e2]
   unfold sxF
   show _=if false=true then _ else (if k+1=0 then (-1:Int) else A (k+1 - 1) c)
   rw[if_neg (by decide),if_neg (by rfl')];rfl
 ·refine⟨fun k l _ _ e=>congrArg Prod.snd e,fun k l _ _ e=>congrArg Prod.snd e,fun k c _ _ e=>absurd (congrArg Prod.fst e) (by show ¬ true=false;decide),?_,?_,?_⟩
  ·rintro⟨p,i⟩ hx
   cases p
   ·exact .inr ⟨i,hx.2 rfl,rfl⟩
   ·exact .inl ⟨i,hx.1 rfl,rfl⟩
  ·exact fun k hk=>⟨fun _=>hk,fun e=>absurd e (by show ¬ true=false;decide)⟩
  ·exact fun k hk=>⟨fun e=>absurd e (by show ¬ false=true;decide),fun _=>hk⟩
theorem zba8(hb:∀ i,i<m->0<=b i):∀ k,k<m->0<=(zk2 A b m n).N k n:=by
 intro k hk
 show 0<=(if k=m then (if n=n then (0:Int) else -1) else (if n=n then b k else A k n))
 rw[if_neg (by rfl'),if_pos rfl];exact hb k hk
theorem SxNm.sum{dn ac:Nat->SxN}(H:SxNm m n dn ac)(g:SxN->Int) :
  (sxS m fun k=>g (dn k))+(sxS n fun c=>g (ac c))=(sxS m fun i=>g (true,i))+sxS n fun j=>g (false,j):=by
 have one:∀ x,sxOk m n x->g x=(sxS m fun i=>if x=(true,i) then g (true,i) else 0)+sxS n fun j=>if x=(false,j) then g (false,j) else 0:=by
  rintro⟨p,i⟩ hx
  cases p
  ·rw[zi0 (n:=m) (fun k _=>if_neg (by simp)),zo2 (k:=i) (hx.2 rfl) (fun j _ hne=>if_neg (by simp;omega)),if_pos rfl];omega
  ·rw[zi0 (n:=n) (fun k _=>if_neg (by simp)),zo2 (k:=i) (hx.1 rfl) (fun j _ hne=>if_neg (by simp;omega)),if_pos rfl];omega
 have e1:(sxS m fun k=>g (dn k))=(sxS m fun i=>sxS m fun k=>if dn k=(true,i) then g (true,i) else 0)+sxS n fun j=>sxS m fun k=>if dn k=(false,j) then g (false,j) else 0:=by
  rw[← zy5 (fun k i=>if dn k=(true,i) then g (true,i) else 0),← zy5 (fun k j=>if dn k=(false,j) then g (false,j) else 0),← zu7]
  exact zb3 fun k hk=>one _ (H.dok k hk)
 have e2:(sxS n fun k=>g (ac k))=(sxS m fun i=>sxS n fun k=>if ac k=(true,i) then g (true,i) else 0)+sxS n fun j=>sxS n fun k=>if ac k=(false,j) then g (false,j) else 0:=by
  rw[← zy5 (fun k i=>if ac k=(true,i) then g (true,i) else 0),← zy5 (fun k j=>if ac k=(false,j) then g (false,j) else 0),← zu7]
  exact zb3 fun k hk=>one _ (H.aok k hk)
 have cnt:∀ x,sxOk m n x->(sxS m fun k=>if dn k=x then g x else 0)+(sxS n fun c=>if ac c=x then g x else 0)=g x:=by
  intro x hx
  rcases H.all x hx with ⟨k,hk,rfl⟩|⟨c,hc,rfl⟩
  ·rw[zo2 (k:=k) hk (fun i hi hne=>if_neg fun e=>hne (H.dinj i k hi hk e)),if_pos rfl,zi0 (fun c hc=>if_neg fun e=>H.disj k c hk hc e.symm)];omega
  ·rw[zi0 (fun k hk=>if_neg (H.disj k c hk hc)),zo2 (k:=c) hc (fun i hi hne=>if_neg fun e=>hne (H.ainj i c hi hc e)),if_pos rfl];omega
 rw[e1,e2]
 have f1:(sxS m fun i=>g (true,i))=(sxS m fun i=>sxS m fun k=>if dn k=(true,i) then g (true,i) else 0)+sxS m fun i=>sxS n fun k=>if ac k=(true,i) then g (true,i) else 0:=by
  rw[← zu7];exact zb3 fun i hi=>(cnt (true,i) ⟨fun _=>hi,fun e=>by simp at e⟩).symm
 have f2:(sxS n fun j=>g (false,j))=(sxS n fun j=>sxS m fun k=>if dn k=(false,j) then g (false,j) else 0)+sxS n fun j=>sxS n fun k=>if ac k=(false,j) then g (false,j) else 0:=by
  rw[← zu7];exact zb3 fun j hj=>(cnt (false,j) ⟨fun e=>by simp at e,fun _=>hj⟩).symm
 rw[f1,f2]
 omega
noncomputable def sxWr(n:Nat)(s:SxGr)(m:Nat)(x:SxN):Int:=sxS n fun c=>if s.ac c=x then s.N m c else 0
noncomputable def sxWc(n:Nat)(s:SxGr)(m:Nat)(x:SxN):Int:=sxS m fun k=>if s.dn k=x then s.N k n else 0
theorem SxOk.wr_row{s:SxGr}(H:SxOk A b m n s){x:SxN}(hx:sxOk m n x):sxWr n s m x=ze8 A m s.dn m (sxF A x):=by
 unfold sxWr
 rcases H.nm.all x hx with ⟨k,hk,rfl⟩|⟨c,hc,rfl⟩
 ·rw[zi0 (fun c hc=>if_neg fun e=>H.nm.disj k c hk hc e.symm),zat3 (zcw4 m) hk (by rfl')]
 ·rw[zo2 (k:=c) hc (fun i hi hne=>if_neg fun e=>hne (H.nm.ainj i c hi hc e)),if_pos rfl,H.t.acr (zcw4 m) hc]
theorem zp6{f:Nat->Int}:∀ {n:Nat},(∀ i,i<n->0<=f i)->0<=sxS n f
 | 0,_=>zdb5 _
 | n+1,h=>by
  show 0<=sxS n f+f n
  have h1:=zp6 (fun i hi=>h i (by rfl')) (n:=n)
  have h2:=h n (by rfl')
  omega
theorem zk8{s:SxGr}(hh:∀ c,c<n->0<=s.N m c)(x:SxN):0<=sxWr n s m x:=zp6 fun c hc=>by split;exact hh c hc;exact zdb5 _
theorem zv0{s:SxGr}(hg:∀ k,k<m->0<=s.N k n)(x:SxN):0<=sxWc n s m x:=zp6 fun k hk=>by split;exact hg k hk;exact zdb5 _
theorem SxOk.rows_win{s:SxGr}(H:SxOk A b m n s)(hh:∀ c,c<n->0<=s.N m c)(hj:j<n):s.d<=sxS m fun i=>A i j*sxWr n s m (true,i):=by
 have e:(sxS m fun i=>A i j*sxWr n s m (true,i))=sxS m fun i=>A i j*ze8 A m s.dn m (sxF A (true,i)):=zb3 fun i hi=>by rw[H.wr_row ⟨fun _=>hi,fun e=>by simp at e⟩]
 rw[e,← H.t.dual j,← H.wr_row ⟨fun e=>by simp at e,fun _=>hj⟩]
 have:=zk8 hh (false,j)
 omega
theorem SxOk.rows_worth{s:SxGr}(H:SxOk A b m n s):s.N m n=sxS m fun i=>b i*sxWr n s m (true,i):=by
 rw[H.t.dualWorth]
 exact zb3 fun i hi=>by rw[H.wr_row ⟨fun _=>hi,fun e=>by simp at e⟩]
theorem zbl9{s:SxGr}(H:SxOk A b m n s)(f:SxN->Int):(sxS m fun k=>s.N k n*f (s.dn k))=(sxS m fun i=>sxWc n s m (true,i)*f (true,i))+sxS n fun j=>sxWc n s m (false,j)*f (false,j):=by
 have h:=H.nm.sum (fun x=>sxWc n s m x*f x)
 have e1:(sxS m fun k=>sxWc n s m (s.dn k)*f (s.dn k))=sxS m fun k=>s.N k n*f (s.dn k):=zb3 fun k hk=>by
  unfold sxWc;rw[sxVal H.nm.dinj hk]
 have e2:(sxS n fun c=>sxWc n s m (s.ac c)*f (s.ac c))=0:=zi0 fun c hc=>by
  unfold sxWc;rw[zz1 fun k hk=>H.nm.disj k c hk hc,zdf6]
 try dsimp only at h
 rw[e1,e2] at h
 omega
theorem SxOk.cols_lose{s:SxGr}(H:SxOk A b m n s)(hg:∀ k,k<m->0<=s.N k n)(hi:i<m):(sxS n fun j=>A i j*sxWc n s m (false,j))<=s.d*b i:=by
 rw[H.t.prim hi,zbl9 H (fun x=>sxF A x (i+1))]
 have e:(sxS n fun j=>A i j*sxWc n s m (false,j))=sxS n fun j=>sxWc n s m (false,j)*sxF A (false,j) (i+1):=zb3 fun j _=>by
  unfold sxF
  rw[if_neg (by simp),if_neg (by rfl'),zdc5];rfl
 rw[e]
 have:0<=sxS m fun l=>sxWc n s m (true,l)*sxF A (true,l) (i+1):=zp6 fun l _=>by
  refine zda2 (zv0 hg _) ?_
  unfold sxF
  rw[if_pos rfl]
  split<;>omega
 omega
theorem SxOk.cols_worth{s:SxGr}(H:SxOk A b m n s):s.N m n=sxS n fun j=>sxWc n s m (false,j):=by
 rw[H.t.primWorth,zbl9 H (fun x=>if x.1=true then 0 else 1)]
 rw[zi0 (n:=m) (fun i _=>by rw[if_pos rfl,zdc4]),Int.zero_add]
 exact zb3 fun j _=>by rw[if_neg (by simp),zdf5]
theorem zbq1{f:Nat->Int}(h:∀ i,i<n->f i<=0):sxS n f<=0:=by
 have:=zp6 (f:=fun i=>- f i) (n:=n) (fun i hi=>by have:=h i hi;omega)
 rw[zaf0] at this;omega
theorem SxOk.bound_row{s:SxGr}(H:SxOk A b m n s)(hA:∀ i j,i<m->j<n->0<A i j)(hm:0<m)(hc:c<n):∃ k,k<m/\0<s.N k c:=by
 refine Classical.byContradiction fun hno=>?_
 have hle:∀ k,k<m->s.N k c<=0:=fun k hk=>Int.not_lt.mp fun h=>hno ⟨k,hk,h⟩
 have hF:∀ x i,sxOk m n x->i<m->0<=sxF A x (i+1):=by
  rintro⟨p,l⟩ i hx hi
  unfold sxF
  cases p
  ·rw[if_neg (by simp),if_neg (by rfl')];exact zcz5 (hA _ _ (by rfl') (hx.2 rfl))
  ·rw[if_pos rfl];split<;>omega
 obtain⟨i,hi,hpos⟩:∃ i,i<m/\0<sxF A (s.ac c) (i+1):=by
  have hx:=H.nm.aok c hc
  generalize s.ac c=x at hx
  obtain⟨p,l⟩:=x
  unfold sxF
  cases p
  ·exact⟨0,hm,by rw[if_neg (by simp),if_neg (by rfl')];exact hA _ _ (by rfl') (hx.2 rfl)⟩
  ·exact⟨l,hx.1 rfl,by rw[if_pos rfl,if_pos rfl];omega⟩
 have h:=H.t.by_basis (sxF A (s.ac c)) (j:=i+1) (by rfl')
 have h1:=zdd7 H.t.pos hpos
 have h2:(sxS m fun k=>ze8 A m s.dn k (sxF A (s.ac c))*sxF A (s.dn k) (i+1))<=0:=zbq1 fun k hk=>by
  rw[H.t.acr (zde7 hk) hc]
  have:=zda2 (show 0<=- s.N k c by have:=hle k hk;omega) (hF _ i (H.nm.dok k hk) hi)
  rw[zdc6] at this;omega
 have h3:sxE (i+1)=0:=if_neg (by rfl')
 rw[h3,zdc4] at h
 omega
theorem SxOk.small{s:SxGr}(H:SxOk A b m n s){M:Nat}(hM:1<=M)(hA:∀ i j,i<m->j<n->(A i j).natAbs<=M)(hb:∀ i,i<m->(b i).natAbs<=M) :
  (∀ k c,k<=m->c<=n->(s.N k c).natAbs<=zj1 (m+1)*M ^ (m+1))/\s.d.natAbs<=zj1 (m+1)*M ^ (m+1):=by
 have hF:∀ x c,sxOk m n x->c<m+1->(sxF A x c).natAbs<=M:=by
  rintro⟨p,l⟩ c hx hc
  unfold sxF
  cases p
  ·rw[if_neg (by simp)]
   by_cases e:c=0
   ·rw[if_pos e];exact hM
   ·rw[if_neg e];exact hA _ _ (by rfl') (hx.2 rfl)
  ·rw[if_pos rfl];split<;>simp;exact hM
 have hMr:∀ r c,r<m+1->c<m+1->(sxM A s.dn r c).natAbs<=M:=by
  intro r c hr hc
  unfold sxM
  by_cases e:r=0
  ·rw[if_pos e];unfold sxE;split<;>simp;exact hM
  ·rw[if_neg e];exact hF _ c (H.nm.dok _ (by rfl')) hc
 have hs:∀ p:Int,(zn8 p).natAbs=1:=fun p=>by unfold zn8;split<;>rfl
 refine⟨fun k c hk hc=>?_,?_⟩
 ·rw[H.t.eps.2 k c hk hc]
  unfold ze8
  rw[zdb3,hs,Nat.one_mul]
  refine zbg2 fun r l hr hl=>?_
  unfold sxU
  split
  ·unfold sxC
   split
   ·unfold sxB;split
    ·simp
    ·exact hb _ (by rfl')
   ·exact hF _ l (H.nm.aok c (by rfl')) hl
  ·exact hMr r l hr hl
 ·rw[H.t.eps.1,zdb3,hs,Nat.one_mul]
  exact zbg2 hMr
end
section
variable {A:Nat->Nat->Int}{b:Nat->Int}{m n:Nat}
end
section
variable {A:Nat->Nat->Int}{b:Nat->Int}{m n:Nat}
theorem SxPr.uniq{s:SxGr}(H:SxNm m n s.dn s.ac){r r' c':Nat}(h:SxPr m n s r c)(h':SxPr m n s r' c'):r=r'/\c=c':=by
 have hc:c=c':=by
  rcases zaw4 (s.ac c) (s.ac c') with e|e|e
  ·exact absurd e (h'.least c h.hc h.neg)
  ·exact H.ainj c c' h.hc h'.hc e
  ·exact absurd e (h.least c' h'.hc h'.neg)
 subst hc
 refine⟨?_,rfl⟩
 have h1:=h.binds r' h'.hr h'.pos
 have h2:=h'.binds r h.hr h.pos
 rcases zaw4 (s.dn r) (s.dn r') with e|e|e
 ·rcases h2 with a|⟨a,a'⟩
  ·rcases h1 with k|⟨k,_⟩<;>omega
  ·exact absurd e a'
 ·exact H.dinj r r' h.hr h'.hr e
 ·rcases h1 with a|⟨a,a'⟩
  ·rcases h2 with k|⟨k,_⟩<;>omega
  ·exact absurd e a'
noncomputable def zt0(A:Nat->Nat->Int)(b:Nat->Int)(m n:Nat)(g e:SxGr):Prop:=∃ L s,zz6 A b m n L s/\s 0=g/\s L=e/\∀ c,c<n->0<=e.N m c
noncomputable def SxMen(A:Nat->Nat->Int)(b:Nat->Int)(m n:Nat)(g e:SxGr):Prop:=∃ L s,zbl5 A b m n L s/\s 0=g/\s L=e/\∀ k,k<m->0<=e.N k n
theorem zt0.uniq{g e e':SxGr}(h:zt0 A b m n g e)(h':zt0 A b m n g e'):e=e':=by
 obtain⟨L,s,H,h0,hL,hE⟩:=h
 obtain⟨L',s',H',h0',hL',hE'⟩:=h'
 have same:∀ i,i<=L->i<=L'->s i=s' i:=by
  intro i
  induction i with
  | zero=>intro _ _;rw[h0,h0']
  | succ i ih=>
   intro h1 h2
   have e:=ih (by rfl') (by rfl')
   obtain⟨r,c,p,q⟩:=H.rule i (by rfl')
   obtain⟨r',c',p',q'⟩:=H'.rule i (by rfl')
   rw[← e] at p' q'
   obtain⟨e1,e2⟩:=p.uniq (H.ok i (by rfl')).nm p'
   rw[q,q',e1,e2]
 rcases Nat.lt_trichotomy L L' with a|a|a
 ·exfalso
  obtain⟨r',c',p',_⟩:=H'.rule L a
  rw[← same L (zcw4 _) (by rfl'),hL] at p'
  have:=hE c' p'.hc
  have:=p'.neg
  omega
 ·rw[← hL,← hL',← a];exact same L (zcw4 _) (by rfl')
 ·exfalso
  obtain⟨r,c,p,_⟩:=H.rule L' a
  rw[same L' (by rfl') (zcw4 _),hL'] at p
  have:=hE' c p.hc
  have:=p.neg
  omega
theorem zt0.ok{g e:SxGr}(h:zt0 A b m n g e):SxOk A b m n e:=by
 obtain⟨L,s,H,_,hL,_⟩:=h
 rw[← hL];exact H.ok L (zcw4 _)
theorem zt0.feas{g e:SxGr}(h:zt0 A b m n g e):∀ k,k<m->0<=e.N k n:=by
 obtain⟨L,s,H,_,hL,_⟩:=h
 rw[← hL];exact H.feas L (zcw4 _)
theorem zt0.last{g e:SxGr}(h:zt0 A b m n g e):∀ c,c<n->0<=e.N m c:=by
 obtain⟨L,s,H,_,hL,hE⟩:=h
 exact hE
theorem SxMen.ok{g e:SxGr}(h:SxMen A b m n g e):SxOk A b m n e:=by
 obtain⟨L,s,H,_,hL,_⟩:=h
 rw[← hL];exact H.ok L (zcw4 _)
theorem SxMen.feas{g e:SxGr}(h:SxMen A b m n g e):∀ k,k<m->0<=e.N k n:=by
 obtain⟨L,s,H,_,hL,hE⟩:=h
 exact hE
theorem zbx5{t:Nat->Nat->Int}{l:Int}(hA:∀ i j,i<m->j<n->A i j=t i j+l*b i){e:SxGr}(H:SxOk A b m n e)(hg:∀ k,k<m->0<=e.N k n)(hh:∀ c,c<n->0<=e.N m c) :
  (∀ j,j<n->e.d - l*e.N m n<=sxS m fun i=>t i j*sxWr n e m (true,i))/\(∀ i,i<m->(sxS n fun j=>t i j*sxWc n e m (false,j))<=(e.d - l*e.N m n)*b i) /\
  (e.N m n=sxS m fun i=>b i*sxWr n e m (true,i))/\e.N m n=sxS n fun j=>sxWc n e m (false,j):=by
 refine⟨fun j hj=>?_,fun i hi=>?_,H.rows_worth,H.cols_worth⟩
 ·have h:=H.rows_win hh hj
  have e1:(sxS m fun i=>A i j*sxWr n e m (true,i))=(sxS m fun i=>t i j*sxWr n e m (true,i))+l*sxS m fun i=>b i*sxWr n e m (true,i):=by
   rw[← zr4,← zu7]
   exact zb3 fun i hi=>by rw[hA i j hi hj,Int.add_mul,zda9]
  rw[e1,← H.rows_worth] at h
  omega
 ·have h:=H.cols_lose hg hi
  have e1:(sxS n fun j=>A i j*sxWc n e m (false,j))=(sxS n fun j=>t i j*sxWc n e m (false,j))+(l*b i)*sxS n fun j=>sxWc n e m (false,j):=by
   rw[← zr4,← zu7]
   exact zb3 fun j hj=>by rw[hA i j hi hj,Int.add_mul]
  rw[e1,← H.cols_worth] at h
  rw[Int.sub_mul,zda8]
  omega
theorem zak0{e:SxGr}(H:SxOk A b m n e)(hh:∀ c,c<n->0<=e.N m c)(hn:0<n)(hA:∀ i j,i<m->j<n->0<A i j)(hb:∀ i,i<m->1<=b i):0<e.N m n:=by
 have h:=H.rows_win hh hn
 have hd:=H.t.pos
 obtain⟨i,hi,hp⟩:=zaa9 (m:=m) (f:=fun i=>A i 0*sxWr n e m (true,i)) (by rfl')
 have hx:0<sxWr n e m (true,i):=by
  refine Int.not_le.mp fun hle=>?_
  have:=zda2 (zcz5 (hA i 0 hi hn)) (show 0<=- sxWr n e m (true,i) by rfl')
  rw[Int.mul_neg] at this
  omega
 rw[H.rows_worth]
 have nn:∀ l,l<m->0<=b l*sxWr n e m (true,l):=fun l hl=>zda2 (by have:=hb l hl;omega) (zk8 hh _)
 refine Int.not_le.mp fun hle=>?_
 have hpos:=zdd7 (show 0<b i by have:=hb i hi;omega) hx
 have:∀ (q:Nat) (f:Nat->Int),(∀ l,l<q->0<=f l)->i<q->f i<=sxS q f:=by
  intro q f hf hq
  induction q with
  | zero=>omega
  | succ q ih=>
   show f i<=sxS q f+f q
   by_cases e1:i=q
   ·rw[e1]
    have:=zp6 (f:=f) (n:=q) (fun l hl=>hf l (by rfl'))
    omega
   ·have:=ih (fun l hl=>hf l (by rfl')) (by rfl')
    have:=hf q (by rfl')
    omega
 have:=this m _ nn hi
 omega
end
section
variable {P:Program}{w:World}{K:zcw1}{mg:Str->Option Value}{base:Heap}  {a_tab:Addr}{a_cod:Addr}{zcp2:Addr}{zcq5:Addr}
noncomputable def Sm(i:Int):Prop:=i.natAbs<2 ^ 9000
theorem Sm.log{i:Int}(h:Sm i):i.natAbs.log2<9000:=log2_lt h (by decide)
theorem Sm.neg{i:Int}(h:Sm i):Sm (-i):=by unfold Sm;rw[Int.natAbs_neg];exact h
theorem zf8{i j:Int}(h1:Sm i)(h2:Sm j)(q:Q (.int (i*j)) H):zbh5 i j H Q:=by
 have f:∀ {k:Int},Sm k->Builtin.Int.intBits k<=2 ^ 20:=fun {k} a=>by
  have h:=a.log
  unfold Builtin.Int.intBits
  have e:(2:Nat) ^ 20=1048576:=by decide
  rw[e]
  split<;>omega
 exact zca2 (.of_bits (f h1) (f h2)) q
theorem zav0{i j:Int}(h1:0<j)(h2:Sm j)(q:Q (.int (i / j)) H):zax3 i j H Q:=by
 unfold zax3
 refine⟨⟨by rfl',h2.log⟩,?_⟩
 rw[Int.fdiv_eq_ediv_of_nonneg _ (by rfl')];exact q
@[irreducible] noncomputable def zp8:Sp:=fun vs H Q _=>∃ (r:Addr) (n:Nat) (g:Nat->Int),vs=[.ref r]/\H r=some (.lst (rowV n g))/\n<=100/\∀ r' H',H r'=none->Same H H'->H' r'=some (.lst (rowV n fun i=>- g i))->Q (.ref r') H'
theorem zbp8{r:Addr}{g:Nat->Int}(h:H r=some (.lst (rowV n g)))(hn:n<=100)(q:∀ r' H',H r'=none->Same H H'->H' r'=some (.lst (rowV n fun i=>- g i))->Q (.ref r') H'):zp8 [.ref r] H Q E:=by
 unfold zp8;exact⟨r,n,g,rfl,h,hn,q⟩
theorem zbp3(F:Fun K "negated" "negated" zak9 f fd)(N:Nm mg):FnOk P w K mg base CX0 1 f fd ["numbers"] zp8:=by
 refine F.ok zbo6 (fun vs H Q E h=>by unfold zp8 at h;obtain⟨_,_,_,rfl,_⟩:=h;rfl) fun _ _ _ s H vs Q E hr h=>?_
 unfold zp8 at h
 obtain⟨r,n,g,rfl,h,hn,q⟩:=h
 refine⟨_,(za5 (zb1 (zd6 (N:=["number"]) (ks:=[none]) (zd8 (K:=K) rfl (pq 0)) (fun _ _ _ _ _=>(za7 (i:=0) nb_0 rfl (by eq_refl))) (fun _ _ _ _ _=>zc1) (fun _ _ _ _ _=>(zw6 uNeg (pq 0))) (.skip .nil)))),?_⟩
 refine zb6 h ?_
 have W:=Wk.list (K:=K) (SqL.of h)
 rw[zb7] at W
 refine zi1 (n:=n) W (by rw[zdf9];omega) (fun i=>.int (- g i)) (fun _=>true) (fun j σ=>∃ t:Option V,σ=[t]) ⟨none,rfl⟩ ?_ ?_
 ·rintro j v σ H1 R S hj s1 hx ⟨t,rfl⟩ k' _
  rw[zd3 hj] at hx
  cases hx
  refine br_T ?_
  ac_nf
  exact k' rfl _ _ (Same.refl _) ⟨_,rfl⟩
 intro acc H1 f1 s1 h1'
 rw[zd2] at h1'
 ac_nf
 exact q _ _ f1 s1 h1'
@[irreducible] noncomputable def zj6:Sp:=fun vs H Q _=>∃ (a b:Addr) (n c:Nat) (f g:Nat->Int) (d:Int),vs=[.ref a,.ref b,.int c,.int d]/\H a=some (.lst (rowV n f))/\H b=some (.lst (rowV n g))/\n<=100/\c<n/\0<d/\Sm d/\(∀ i,i<n->Sm (f i)/\Sm (g i)) /\
 ∀ r' H',H r'=none->Same H H'->H' r'=some (.lst (rowV n fun l=>if l=c then - f c else (f l*g c - f c*g l) / d))->Q (.ref r') H'
theorem zau8{a b:Addr}{f g:Nat->Int}{d:Int}(ha:H a=some (.lst (rowV n f)))(hb:H b=some (.lst (rowV n g)))(hn:n<=100)(hc:c<n)(hd:0<d)(hs:Sm d)(hz:∀ i,i<n->Sm (f i)/\Sm (g i))(q:∀ r' H',H r'=none->Same H H'->H' r'=some (.lst (rowV n fun l=>if l=c then - f c else (f l*g c - f c*g l) / d))->Q (.ref r') H'):zj6 [.ref a,.ref b,.int c,.int d] H Q E:=by
 unfold zj6;exact⟨a,b,n,c,f,g,d,rfl,ha,hb,hn,hc,hd,hs,hz,q⟩
theorem zas5(F:Fun K "turned_row" "turned_row" zw2 f fd)(N:Nm mg):FnOk P w K mg base CX0 1 f fd ["numbers","about","column","divisor"] zj6:=by
 refine F.ok zp5 (fun vs H Q E h=>by unfold zj6 at h;obtain⟨_,_,_,_,_,_,_,rfl,_⟩:=h;rfl) fun _ _ _ s H vs Q E hr h=>?_
 unfold zj6 at h
 obtain⟨a,b,n,c,f,g,d,rfl,ha,hb,hn,hc,hd,hs,hz,q⟩:=h
 refine⟨_,(za2 (psS (i:=4) zp5.nd (za8 (K:=K) rfl (pq 1) (pq 2)))
   (za2 (psS (i:=5) zp5.nd (za8 (K:=K) rfl (pq 0) (pq 2)))
   (za2 (psC (i:=6) (N:=["number","there","pivot","factor","divisor"]) (ks:=[none,none,some 4,some 5,some 3]) zp5.nd (zay9 (K:=K) rfl N.zip_ (za0 (pq 0) (za0 (pq 1) za1))) (fun _ _ _ _ _=>(zp4 (K:=K) (n:=2) rfl rfl (zc2 (za7 (i:=0) nb_1 rfl (by eq_refl)) (zc2 (za7 (i:=1) nb_1 rfl (by eq_refl)) zp2)))) (fun _ _ _ _ _=>zc1) (fun _ _ _ _ _=>(zb2 oDiv (zb2 oSub (zb2 oMul (pq 0) (pq 2)) (zb2 oMul (pq 3) (pq 1))) (pq 4))) (.skip (.skip (.take rfl rfl (by eq_refl) (.take rfl rfl (by eq_refl) (.take rfl rfl (by eq_refl) .nil))))))
   (za2 (zx2 (zw6 uNeg (pq 5)) (zag1 (pq 6) (pq 2) setM))
   (za5 (zb1 (pq 6))))))),?_⟩
 refine zb5 hb (zm1 (by rfl') (by rfl')) ?_
 refine zb5 ha (zm1 (by rfl') (by rfl')) ?_
 refine zbb8 (SqL.of ha) (SqL.of hb) ?_
 refine zi1 (n:=n) (Wk.zip (SqL.of ha) (SqL.of hb) (zb7 n f) (zb7 n g)) (by rw[zdf9];omega) (fun l=>.int ((f l*g c - f c*g l) / d)) (fun _=>true) (fun j σ=>∃ t u:Option V,σ=[t,u,some (.int (g c)),some (.int (f c)),some (.int d)]) ⟨none,none,rfl⟩ ?_ ?_
 ·rintro j v σ H1 R S hj s1 ⟨p,x,y,rfl,hp,hx,hy⟩ ⟨t,u,rfl⟩ k' _
  rw[zd3 hj] at hx hy
  cases hx
  cases hy
  refine zk9 hp ?_
  refine br_T ?_
  refine zf8 (hz j hj).1 (hz c hc).2 ?_
  refine zf8 (hz c hc).1 (hz j hj).2 ?_
  refine zav0 hd hs ?_
  ac_nf
  exact k' rfl _ _ (Same.refl _) ⟨_,_,rfl⟩
 intro acc H1 f1 s1 h1'
 rw[zd2] at h1'
 refine zz8 (j:=c) h1' (by rw[zcw0,List.length_range];exact zag6 (by rfl') (by rfl')) (fun H2 c2 h2=>?_)
 ac_nf
 refine q _ _ f1 (s1.chg f1 c2) ?_
 have e:((List.range n).map fun l=>V.int ((f l*g c - f c*g l) / d))=rowV n fun l=>(f l*g c - f c*g l) / d:=rfl
 rw[e,zas9] at h2
 exact h2
noncomputable def nmT(x:SxN):Str×Int:=(if x.1=true then "row" else "column",(x.2:Int))
structure GrAt(C:Addr)(H:Hp)(g:Addr)(m n:Nat)(s:SxGr)(dx ln la ld:Addr)(ps as ds:List Addr):Prop where
 out:H g=some (.ins C dx [("numbers",.ref ln),("divisor",.int s.d),("across",.ref la),("down",.ref ld)])
 num:zd4 H ln ps (m+1) (n+1) s.N
 acl:H la=some (.lst (as.map V.ref))
 alen:as.length=n
 acn:∀ (c:Nat) (p:Addr),as[c]?=some p->H p=some (.tup (nV (nmT (s.ac c))))
 dnl:H ld=some (.lst (ds.map V.ref))
 dlen:ds.length=m
 dnn:∀ (k:Nat) (p:Addr),ds[k]?=some p->H p=some (.tup (nV (nmT (s.dn k))))
 ne1:la≠ld
 ne2:ln≠la
 ne3:ln≠ld
 ne4:la ∉ ps
 ne5:ld ∉ ps
theorem GrAt.same{g:Addr}{s:SxGr}{ln:Addr}(G:GrAt C H g m n s dx ln la ld ps as ds)(x:Same H H'):GrAt C H' g m n s dx ln la ld ps as ds:=
 ⟨x _ _ G.out,⟨x _ _ G.num.out,G.num.len,fun i p e=>x _ _ (G.num.row i p e)⟩,x _ _ G.acl,G.alen,fun c p e=>x _ _ (G.acn c p e),x _ _ G.dnl,G.dlen,fun c p e=>x _ _ (G.dnn c p e),G.ne1,G.ne2,G.ne3,G.ne4,G.ne5⟩
noncomputable def Chg3(a b c:Addr)(H H':Hp):Prop:=∀ x o,x≠a->x≠b->x≠c->H x=some o->H' x=some o
@[irreducible] noncomputable def zae9(zcp2:Addr):Sp:=fun vs H Q _=>∃ (g:Addr) (m n r c:Nat) (s:SxGr) (dx ln la ld:Addr) (ps as ds:List Addr),vs=[.ref g,.int r,.int c]/\GrAt zcp2 H g m n s dx ln la ld ps as ds/\r<m/\c<n/\m<=90/\n<=90/\0<s.d/\Sm s.d/\s.N r c≠0 /\
 (∀ k l,k<=m->l<=n->Sm (s.N k l))/\∀ H' ln' ps' as' ds',Chg3 g la ld H H'->GrAt zcp2 H' g m n (s.turn r c) dx ln' la ld ps' as' ds'->Q .non H'
theorem zbt0{g:Addr}{r:Nat}{s:SxGr}{ln:Addr}(G:GrAt C H g m n s dx ln la ld ps as ds)(hr:r<m)(hc:c<n)(hm:m<=90)(hn:n<=90)(hd:0<s.d)(hs:Sm s.d)(hp:s.N r c≠0)(hz:∀ k l,k<=m->l<=n->Sm (s.N k l))(q:∀ H' ln' ps' as' ds',Chg3 g la ld H H'->GrAt C H' g m n (s.turn r c) dx ln' la ld ps' as' ds'->Q .non H'):zae9 C [.ref g,.int r,.int c] H Q E:=by
 unfold zae9;exact⟨g,m,n,r,c,s,dx,ln,la,ld,ps,as,ds,rfl,G,hr,hc,hm,hn,hd,hs,hp,hz,q⟩
theorem zco1(F:Fun K "turn" "turn" zbz0 f fd)(N:Nm mg)(Y:Pz K mg zcp2 zcq5)(zcv4:Def P w K mg base CX0 1 "negated" ["numbers"] zp8)(zct3:Def P w K mg base CX0 1 "turned_row" ["numbers","about","column","divisor"] zj6):FnOk P w K mg base CX0 2 f fd ["grid","row","column"] (zae9 zcp2):=by
 refine F.ok zau5 (fun vs H Q E h=>by unfold zae9 at h;obtain⟨_,_,_,_,_,_,_,_,_,_,_,_,_,rfl,_⟩:=h;rfl) (fun cdv A outer st H vs Q E hr' h=>?_)
 unfold zae9 at h
 obtain⟨g,m,n,r,c,s,dx,ln,la,ld,ps,as,ds,rfl,G,hr,hc,hm,hn,hd,hs,hp,hz,q⟩:=h
 have pl:=G.num.len
 have hrm:=hr
 have hr:=hr'
 obtain⟨pr,epr⟩:∃ pr,ps[r]?=some pr:=⟨_,zcv9 (by rfl')⟩
 have hpr:=G.num.row r pr epr
 refine⟨_,(za2 (psS (i:=3) zau5.nd (za8 (K:=K) rfl (zo1 (K:=K) rfl (pq 0)) (pq 1)))
   (za2 (psC (i:=4) (N:=["numbers","about","column","grid"]) (ks:=[none,some 3,some 2,some 0]) zau5.nd (zd8 (K:=K) rfl (zo1 (K:=K) rfl (pq 0))) (fun _ _ _ _ _=>(za7 (i:=0) nb_2 rfl (by eq_refl))) (fun _ _ _ _ _=>zc1) (fun _ _ _ _ _=>(pD zct3 hr zb4 (za0 (pq 0) (za0 (pq 1) (za0 (pq 2) (za0 (zo1 (K:=K) rfl (pq 3)) za1)))))) (.skip (.take rfl rfl (by eq_refl) (.take rfl rfl (by eq_refl) (.take rfl rfl (by eq_refl) .nil)))))
   (za2 (zx2 (pT (zbl3 (K:=K) rfl) N.list_ zy1 (za0 (pq 3) za1)) (zag1 (pq 4) (pq 1) setM))
   (za2 (zx2 (zo1 (K:=K) rfl (pq 0)) (zag1 (za8 (K:=K) rfl (pq 4) (pq 1)) (pq 2) setM))
   (za2 (zbq0 (K:=K) rfl (pq 0) (peIf (ptC oGt (za8 (K:=K) rfl (pq 3) (pq 2)) za3) (pq 4) (zd6 (N:=["numbers"]) (ks:=[none]) (zd8 (K:=K) rfl (pq 4)) (fun _ _ _ _ _=>(za7 (i:=0) nb_3 rfl (by eq_refl))) (fun _ _ _ _ _=>zc1) (fun _ _ _ _ _=>(pD zcv4 hr zb4 (za0 (pq 0) za1))) (.skip .nil))))
   (za2 (zbq0 (K:=K) rfl (pq 0) (pB cAbs N.abs_ zbk8 (za0 (za8 (K:=K) rfl (pq 3) (pq 2)) za1)))
   (za2 (psS (i:=5) zau5.nd (za8 (K:=K) rfl (zo1 (K:=K) rfl (pq 0)) (pq 1)))
   (za2 (zx2 (za8 (K:=K) rfl (zo1 (K:=K) rfl (pq 0)) (pq 2)) (zag1 (zo1 (K:=K) rfl (pq 0)) (pq 1) setM))
   (za5 (zx2 (pq 5) (zag1 (zo1 (K:=K) rfl (pq 0)) (pq 2) setM))))))))))),?_⟩
 refine zf0 G.out Y.cl_Grid Y.na_Grid_numbers rfl ?_
 refine zb5 G.num.out (zc9 (by rw[zcw3,epr];rfl)) ?_
 refine zf0 G.out Y.cl_Grid Y.na_Grid_numbers rfl ?_
 refine zb6 G.num.out ?_
 have W:=Wk.list (K:=K) (SqL.of G.num.out)
 rw[zcw0,pl] at W
 refine zab9 (n:=m+1) W (by rw[zdf9];omega) (fun i=>.lst (rowV (n+1) fun l=>if l=c then - s.N i c else (s.N i l*s.N r c - s.N i c*s.N r l) / s.d)) (fun j σ=>∃ t:Option V,σ=[t,some (.ref pr),some (.int c),some (.ref g)]) ⟨none,rfl⟩ ?_ ?_
 ·rintro j v σ H1 R S hj s1 hx ⟨t,rfl⟩ k'
  rw[zcw3] at hx
  obtain⟨p,ep,rfl⟩:=zcx0.mp hx
  refine br_T ?_
  refine zf0 (s1 _ _ G.out) Y.cl_Grid Y.na_Grid_divisor rfl ?_
  refine zau8 (s1 _ _ (G.num.row j p ep)) (s1 _ _ hpr) (by rfl') (by rfl') hd hs (fun i hi=>⟨hz j i (by rfl') (by rfl'),hz r i (by rfl') (by rfl')⟩) (fun r' H2 f2 s2 h2=>?_)
  ac_nf
  exact k' _ _ _ f2 s2 h2 ⟨_,rfl⟩
 rintro acc qs H1 F1
 have ng:∀ {b:Addr}{xs:List V},H b=some (.lst xs)->b≠g:=fun {b xs} e z=>by rw[z,G.out] at e;cases e
 have nt:∀ {b:Addr}{xs:List V},H b=some (.tup xs)->b≠g:=fun {b xs} e z=>by rw[z,G.out] at e;cases e
 obtain⟨dr,edr⟩:∃ dr,ds[r]?=some dr:=⟨_,zcv9 (by rw[G.dlen];omega)⟩
 obtain⟨acx,eac⟩:∃ acx,as[c]?=some acx:=⟨_,zcv9 (by rw[G.alen];omega)⟩
 obtain⟨qr,eqr,_⟩:=F1.some (i:=r) (by rfl')
 refine zai0 (SqL.of (F1.same _ _ hpr)) (fun pc H2 f2 s2 h2=>?_)
 ac_nf
 have nacc:pc≠acc:=Ne.symm (za4 F1.out f2)
 refine zz8 (j:=r) (s2 _ _ F1.out) (by rw[zcw0,F1.len];exact zag6 (by rfl') (by rfl')) (fun H3 c3 h3=>?_)
 ac_nf
 have S3:Same H H3:=(F1.same.trans s2).chg F1.facc c3
 refine zf0 (S3 _ _ G.out) Y.cl_Grid Y.na_Grid_divisor rfl ?_
 refine zb5 (v:=.ref pc) h3 (zc9 (by rw[List.getElem?_set_self (by rw[zcw0,F1.len];omega)])) ?_
 refine zz8 (j:=c) (c3 _ _ nacc h2) (by rw[zb7];exact zag6 (by rfl') (by rfl')) (fun H4 c4 h4=>?_)
 rw[zas9] at h4
 ac_nf
 have fpc:H pc=none:=F1.same.free f2
 have S4:Same H H4:=S3.chg fpc c4
 have h4a:=c4 _ _ (Ne.symm nacc) h3
 have hq:(qs.map V.ref).set r (V.ref pc)=(qs.set r pc).map V.ref:=by rw[List.map_set]
 rw[hq] at h4a
 have G1:zd4 H4 acc (qs.set r pc) (m+1) (n+1) (fun k l=>if k=r then (if l=c then s.d else s.N r l) else if l=c then - s.N k c else (s.N k l*s.N r c - s.N k c*s.N r l) / s.d):=by
  refine⟨h4a,by rw[zdd0];exact F1.len,fun i p e=>?_⟩
  rw[zdd8] at e
  by_cases z:r=i
  ·rw[if_pos z,if_pos (by rw[F1.len];omega)] at e
   cases e
   rw[h4]
   simp only[z,if_true]
  ·rw[if_neg z] at e
   obtain⟨x1,x2⟩:=F1.row i p e
   have np:p≠acc:=fun y=>F1.nin (y▸zcw6 e)
   have npc:p≠pc:=fun y=>by rw[y,f2] at x2;cases x2
   rw[c4 _ _ npc (c3 _ _ np (s2 _ _ x2))]
   simp only[if_neg (Ne.symm z)]
 have free1:∀ p∈qs.set r pc,H p=none:=fun p hp=>by
  rcases List.mem_or_eq_of_mem_set hp with h|h
  ·exact F1.free h
  ·rw[h];exact fpc
 refine zb5 (S4 _ _ hpr) (zm1 (by rfl') (by rfl')) ?_
 refine zk1 (fun hpos=>?_) (fun hneg=>?_)
 ·have S5:=S4
  have Gd:zd4 H4 acc (qs.set r pc) (m+1) (n+1) (zm4 s.N s.d r c):=by
   have e:zm4 s.N s.d r c=(fun k l=>if k=r then (if l=c then s.d else s.N r l) else if l=c then - s.N k c else (s.N k l*s.N r c - s.N k c*s.N r l) / s.d):=by
    funext k l
    unfold zm4
    rw[zac0 (by simpa using hpos),zdd6]
   rw[e];exact G1
  have free5:=free1
  have facc5:=F1.facc
  generalize H4=H5 at S5 Gd ⊢
  generalize qs.set r pc=ps' at Gd free5
  generalize acc=ln' at Gd facc5 ⊢
  refine zx0 (S5 _ _ G.out) Y.cl_Grid Y.na_Grid_numbers (hl:=(show (4:Nat)<1000 by decide)) (fun H6 c6 h6=>?_)
  replace h6:H6 g=some (.ins zcp2 dx [("numbers",.ref ln'),("divisor",.int s.d),("across",.ref la),("down",.ref ld)]):=h6
  ac_nf
  have e6:∀ b o,b≠g->H5 b=some o->H6 b=some o:=c6
  refine zb5 (e6 _ _ (ng hpr) (S5 _ _ hpr)) (zm1 (by rfl') (by rfl')) ?_
  refine zx0 h6 Y.cl_Grid Y.na_Grid_divisor (hl:=(show (4:Nat)<1000 by decide)) (fun H7 c7 h7=>?_)
  replace h7:H7 g=some (.ins zcp2 dx [("numbers",.ref ln'),("divisor",.int ((s.N r c).natAbs:Int)),("across",.ref la),("down",.ref ld)]):=h7
  rw[show ((s.N r c).natAbs:Int)=zn8 (s.N r c)*s.N r c by unfold zn8;split<;>omega] at h7
  ac_nf
  have e7:∀ b o,b≠g->H5 b=some o->H7 b=some o:=fun b o hb e=>c7 b o hb (c6 b o hb e)
  refine zf0 h7 Y.cl_Grid Y.na_Grid_down rfl ?_
  refine zb5 (e7 _ _ (ng G.dnl) (S5 _ _ G.dnl)) (zc9 (by rw[zcw3,edr];rfl)) ?_
  refine zf0 h7 Y.cl_Grid Y.na_Grid_across rfl ?_
  refine zb5 (e7 _ _ (ng G.acl) (S5 _ _ G.acl)) (zc9 (by rw[zcw3,eac];rfl)) ?_
  refine zf0 h7 Y.cl_Grid Y.na_Grid_down rfl ?_
  refine zz8 (j:=r) (e7 _ _ (ng G.dnl) (S5 _ _ G.dnl)) (by rw[zcw0,G.dlen];exact zag6 (by rfl') (by rfl')) (fun H8 c8 h8=>?_)
  refine zf0 (c8 _ _ (Ne.symm (ng G.dnl)) h7) Y.cl_Grid Y.na_Grid_across rfl ?_
  refine zz8 (j:=c) (c8 _ _ G.ne1 (e7 _ _ (ng G.acl) (S5 _ _ G.acl))) (by rw[zcw0,G.alen];exact zag6 (by rfl') (by rfl')) (fun H9 c9 h9=>?_)
  ac_nf
  have e9:∀ b o,b≠g->b≠la->b≠ld->H5 b=some o->H9 b=some o:=fun b o h1 h2 h3 e=>c9 b o h2 (c8 b o h3 (e7 b o h1 e))
  have nla:∀ {b:Addr}{o:HO},H b=some o->(∀ xs,o≠.lst xs)->b≠la/\b≠ld:=fun {b o} e no=>⟨fun z=>by rw[z,G.acl] at e;cases e;exact no _ rfl,fun z=>by rw[z,G.dnl] at e;cases e;exact no _ rfl⟩
  refine q H9 ln' ps' (as.set c dr) (ds.set r acx) (fun b o h1 h2 h3 e=>e9 b o h1 h2 h3 (S5 b o e)) ⟨?_,⟨?_,Gd.len,fun i p e=>?_⟩,?_,by rw[zdd0];exact G.alen,fun k p e=>?_,?_,by rw[zdd0];exact G.dlen,fun k p e=>?_,G.ne1,?_,?_,?_,?_⟩
  ·exact c9 _ _ (Ne.symm (ng G.acl)) (c8 _ _ (Ne.symm (ng G.dnl)) h7)
  ·exact e9 _ _ (Ne.symm (za4 G.out facc5)) (Ne.symm (za4 G.acl facc5)) (Ne.symm (za4 G.dnl facc5)) Gd.out
  ·have fp:=free5 p (zcw6 e)
   exact e9 _ _ (Ne.symm (za4 G.out fp)) (Ne.symm (za4 G.acl fp)) (Ne.symm (za4 G.dnl fp)) (Gd.row i p e)
  ·rw[List.map_set];exact h9
  ·rw[zdd8] at e
   show H9 p=some (.tup (nV (nmT (zq3 s.ac c (s.dn r) k))))
   by_cases z:c=k
   ·rw[if_pos z,if_pos (by rw[G.alen];omega)] at e
    cases e
    rw[← z,zf1]
    have hd':=G.dnn r _ edr
    exact e9 _ _ (nt hd') (nla hd' (fun _ y=>nomatch y)).1 (nla hd' (fun _ y=>nomatch y)).2 (S5 _ _ hd')
   ·rw[if_neg z] at e
    rw[zd0 (Ne.symm z)]
    have ha':=G.acn k p e
    exact e9 _ _ (nt ha') (nla ha' (fun _ y=>nomatch y)).1 (nla ha' (fun _ y=>nomatch y)).2 (S5 _ _ ha')
  ·rw[List.map_set];exact c9 _ _ (Ne.symm G.ne1) h8
  ·rw[zdd8] at e
   show H9 p=some (.tup (nV (nmT (zq3 s.dn r (s.ac c) k))))
   by_cases z:r=k
   ·rw[if_pos z,if_pos (by rw[G.dlen];omega)] at e
    cases e
    rw[← z,zf1]
    have hd':=G.acn c _ eac
    exact e9 _ _ (nt hd') (nla hd' (fun _ y=>nomatch y)).1 (nla hd' (fun _ y=>nomatch y)).2 (S5 _ _ hd')
   ·rw[if_neg z] at e
    rw[zd0 (Ne.symm z)]
    have ha':=G.dnn k p e
    exact e9 _ _ (nt ha') (nla ha' (fun _ y=>nomatch y)).1 (nla ha' (fun _ y=>nomatch y)).2 (S5 _ _ ha')
  ·exact Ne.symm (za4 G.acl facc5)
  ·exact Ne.symm (za4 G.dnl facc5)
  ·exact fun y=>by have:=free5 _ y;rw[G.acl] at this;cases this
  ·exact fun y=>by have:=free5 _ y;rw[G.dnl] at this;cases this
 ·ac_nf
  refine zb6 h4a ?_
  have W2:=Wk.list (K:=K) (SqL.of h4a)
  rw[zcw0,G1.len] at W2
  refine zab9 (n:=m+1) W2 (by rw[zdf9];omega) (fun i=>.lst (rowV (n+1) (zm4 s.N s.d r c i))) (fun j σ=>∃ t:Option V,σ=[t]) ⟨none,rfl⟩ ?_ ?_
  ·rintro j v σ Hx R S hj s1 hx ⟨t,rfl⟩ k'
   rw[zcw3] at hx
   obtain⟨p,ep,rfl⟩:=zcx0.mp hx
   refine br_T ?_
   refine zbp8 (s1 _ _ (G1.row j p ep)) (by rfl') (fun r' Hy f2 s2 h2=>?_)
   ac_nf
   refine k' _ _ _ f2 s2 ?_ ⟨_,rfl⟩
   rw[h2]
   congr 2
   unfold rowV
   refine zdb8 fun l _=>?_
   congr 1
   unfold zm4
   have h0:¬ 0<s.N r c:=by simpa using hneg
   rw[zaj5 (by rfl'),zdc6,zdd6]
  rintro ln' ps' H5 F2
  have S5:Same H H5:=S4.trans F2.same
  have Gd:zd4 H5 ln' ps' (m+1) (n+1) (zm4 s.N s.d r c):=⟨F2.out,F2.len,fun i p e=>(F2.row i p e).2⟩
  have free5:∀ p∈ps',H p=none:=fun p hp=>S4.free (F2.free hp)
  have facc5:H ln'=none:=S4.free F2.facc
  refine zx0 (S5 _ _ G.out) Y.cl_Grid Y.na_Grid_numbers (hl:=(show (4:Nat)<1000 by decide)) (fun H6 c6 h6=>?_)
  replace h6:H6 g=some (.ins zcp2 dx [("numbers",.ref ln'),("divisor",.int s.d),("across",.ref la),("down",.ref ld)]):=h6
  ac_nf
  have e6:∀ b o,b≠g->H5 b=some o->H6 b=some o:=c6
  refine zb5 (e6 _ _ (ng hpr) (S5 _ _ hpr)) (zm1 (by rfl') (by rfl')) ?_
  refine zx0 h6 Y.cl_Grid Y.na_Grid_divisor (hl:=(show (4:Nat)<1000 by decide)) (fun H7 c7 h7=>?_)
  replace h7:H7 g=some (.ins zcp2 dx [("numbers",.ref ln'),("divisor",.int ((s.N r c).natAbs:Int)),("across",.ref la),("down",.ref ld)]):=h7
  rw[show ((s.N r c).natAbs:Int)=zn8 (s.N r c)*s.N r c by unfold zn8;split<;>omega] at h7
  ac_nf
  have e7:∀ b o,b≠g->H5 b=some o->H7 b=some o:=fun b o hb e=>c7 b o hb (c6 b o hb e)
  refine zf0 h7 Y.cl_Grid Y.na_Grid_down rfl ?_
  refine zb5 (e7 _ _ (ng G.dnl) (S5 _ _ G.dnl)) (zc9 (by rw[zcw3,edr];rfl)) ?_
  refine zf0 h7 Y.cl_Grid Y.na_Grid_across rfl ?_
  refine zb5 (e7 _ _ (ng G.acl) (S5 _ _ G.acl)) (zc9 (by rw[zcw3,eac];rfl)) ?_
  refine zf0 h7 Y.cl_Grid Y.na_Grid_down rfl ?_
  refine zz8 (j:=r) (e7 _ _ (ng G.dnl) (S5 _ _ G.dnl)) (by rw[zcw0,G.dlen];exact zag6 (by rfl') (by rfl')) (fun H8 c8 h8=>?_)
  refine zf0 (c8 _ _ (Ne.symm (ng G.dnl)) h7) Y.cl_Grid Y.na_Grid_across rfl ?_
  refine zz8 (j:=c) (c8 _ _ G.ne1 (e7 _ _ (ng G.acl) (S5 _ _ G.acl))) (by rw[zcw0,G.alen];exact zag6 (by rfl') (by rfl')) (fun H9 c9 h9=>?_)
  ac_nf
  have e9:∀ b o,b≠g->b≠la->b≠ld->H5 b=some o->H9 b=some o:=fun b o h1 h2 h3 e=>c9 b o h2 (c8 b o h3 (e7 b o h1 e))
  have nla:∀ {b:Addr}{o:HO},H b=some o->(∀ xs,o≠.lst xs)->b≠la/\b≠ld:=fun {b o} e no=>⟨fun z=>by rw[z,G.acl] at e;cases e;exact no _ rfl,fun z=>by rw[z,G.dnl] at e;cases e;exact no _ rfl⟩
  refine q H9 ln' ps' (as.set c dr) (ds.set r acx) (fun b o h1 h2 h3 e=>e9 b o h1 h2 h3 (S5 b o e)) ⟨?_,⟨?_,Gd.len,fun i p e=>?_⟩,?_,by rw[zdd0];exact G.alen,fun k p e=>?_,?_,by rw[zdd0];exact G.dlen,fun k p e=>?_,G.ne1,?_,?_,?_,?_⟩
  ·exact c9 _ _ (Ne.symm (ng G.acl)) (c8 _ _ (Ne.symm (ng G.dnl)) h7)
  ·exact e9 _ _ (Ne.symm (za4 G.out facc5)) (Ne.symm (za4 G.acl facc5)) (Ne.symm (za4 G.dnl facc5)) Gd.out
  ·have fp:=free5 p (zcw6 e)
   exact e9 _ _ (Ne.symm (za4 G.out fp)) (Ne.symm (za4 G.acl fp)) (Ne.symm (za4 G.dnl fp)) (Gd.row i p e)
  ·rw[List.map_set];exact h9
  ·rw[zdd8] at e
   show H9 p=some (.tup (nV (nmT (zq3 s.ac c (s.dn r) k))))
   by_cases z:c=k
   ·rw[if_pos z,if_pos (by rw[G.alen];omega)] at e
    cases e
    rw[← z,zf1]
    have hd':=G.dnn r _ edr
    exact e9 _ _ (nt hd') (nla hd' (fun _ y=>nomatch y)).1 (nla hd' (fun _ y=>nomatch y)).2 (S5 _ _ hd')
   ·rw[if_neg z] at e
    rw[zd0 (Ne.symm z)]
    have ha':=G.acn k p e
    exact e9 _ _ (nt ha') (nla ha' (fun _ y=>nomatch y)).1 (nla ha' (fun _ y=>nomatch y)).2 (S5 _ _ ha')
  ·rw[List.map_set];exact c9 _ _ (Ne.symm G.ne1) h8
  ·rw[zdd8] at e
   show H9 p=some (.tup (nV (nmT (zq3 s.dn r (s.ac c) k))))
   by_cases z:r=k
   ·rw[if_pos z,if_pos (by rw[G.dlen];omega)] at e
    cases e
    rw[← z,zf1]
    have hd':=G.acn c _ eac
    exact e9 _ _ (nt hd') (nla hd' (fun _ y=>nomatch y)).1 (nla hd' (fun _ y=>nomatch y)).2 (S5 _ _ hd')
   ·rw[if_neg z] at e
    rw[zd0 (Ne.symm z)]
    have ha':=G.dnn k p e
    exact e9 _ _ (nt ha') (nla ha' (fun _ y=>nomatch y)).1 (nla ha' (fun _ y=>nomatch y)).2 (S5 _ _ ha')
  ·exact Ne.symm (za4 G.acl facc5)
  ·exact Ne.symm (za4 G.dnl facc5)
  ·exact fun y=>by have:=free5 _ y;rw[G.acl] at this;cases this
  ·exact fun y=>by have:=free5 _ y;rw[G.dnl] at this;cases this
theorem zar3(x y:SxN):ltN (nmT x) (nmT y)=true↔sxLt x y:=by
 obtain⟨p,i⟩:=x
 obtain⟨q,j⟩:=y
 unfold ltN nmT sxLt
 have h1:((("column":Str)).cps.toList<(("row":Str)).cps.toList):=by decide
 have h2:¬ ((("row":Str)).cps.toList<(("column":Str)).cps.toList):=by decide
 have h3:¬ (("column":Str)=("row":Str)):=by decide
 have h4:¬ (("row":Str)=("column":Str)):=by decide
 cases p<;>cases q<;>simp[h1,h2,h3,h4]
 all_goals omega
theorem zcp1(x y:SxN):ltN (nmT x) (nmT y)=false↔¬ sxLt x y:=by
 rw[← zar3];cases ltN (nmT x) (nmT y)<;>simp
noncomputable def Ahd(n:Nat)(s:SxGr)(c i j:Nat):Prop:=s.N i n*s.N j c<s.N j n*s.N i c∨(s.N i n*s.N j c=s.N j n*s.N i c/\sxLt (s.dn i) (s.dn j))
@[irreducible] noncomputable def zd7(zcp2:Addr):Sp:=fun vs H Q _=>∃ (g:Addr) (m n c i j:Nat) (s:SxGr) (dx ln la ld:Addr) (ps as ds:List Addr),vs=[.ref g,.int c,.int i,.int j]/\GrAt zcp2 H g m n s dx ln la ld ps as ds/\c<n/\i<m/\j<m/\m<=90/\n<=90 /\
 (∀ k l,k<=m->l<=n->Sm (s.N k l))/\∀ (bb:Bool),(bb=true↔Ahd n s c i j)->Q (.bl bb) H
theorem zab1{g:Addr}{s:SxGr}{ln:Addr}(G:GrAt C H g m n s dx ln la ld ps as ds)(hc:c<n)(hi:i<m)(hj:j<m)(hm:m<=90)(hn:n<=90)(hz:∀ k l,k<=m->l<=n->Sm (s.N k l))(q:∀ (bb:Bool),(bb=true↔Ahd n s c i j)->Q (.bl bb) H):zd7 C [.ref g,.int c,.int i,.int j] H Q E:=by
 unfold zd7;exact⟨g,m,n,c,i,j,s,dx,ln,la,ld,ps,as,ds,rfl,G,hc,hi,hj,hm,hn,hz,q⟩
theorem zab5{f:Nat->Int}:atI (rowV (n+1) f) (-1)=some (.int (f n)):=zaf1 (zb7 _ _) (zd3 (by rfl'))
theorem zad1(F:Fun K "row_binds_ahead" "row_binds_ahead" zn4 f fd)(N:Nm mg)(Y:Pz K mg zcp2 zcq5):FnOk P w K mg base CX0 1 f fd ["grid","column","one","other"] (zd7 zcp2):=by
 refine F.ok zl7 (fun vs H Q E h=>by unfold zd7 at h;obtain⟨_,_,_,_,_,_,_,_,_,_,_,_,_,_,rfl,_⟩:=h;rfl) (fun cdv A outer st H vs Q E hr h=>?_)
 unfold zd7 at h
 obtain⟨g,m,n,c,i,j,s,dx,ln,la,ld,ps,as,ds,rfl,G,hc,hi,hj,hm,hn,hz,q⟩:=h
 have hu:=hu40 hr
 have pl:=G.num.len
 obtain⟨pi,epi⟩:∃ pi,ps[i]?=some pi:=⟨_,zcv9 (by rfl')⟩
 obtain⟨pj,epj⟩:∃ pj,ps[j]?=some pj:=⟨_,zcv9 (by rfl')⟩
 obtain⟨di,edi⟩:∃ di,ds[i]?=some di:=⟨_,zcv9 (by rw[G.dlen];omega)⟩
 obtain⟨dj,edj⟩:∃ dj,ds[j]?=some dj:=⟨_,zcv9 (by rw[G.dlen];omega)⟩
 refine⟨_,(za2 (psS (i:=4) zl7.nd (zb2 oMul (za8 (K:=K) rfl (za8 (K:=K) rfl (zo1 (K:=K) rfl (pq 0)) (pq 2)) (zw6 uNeg za3)) (za8 (K:=K) rfl (za8 (K:=K) rfl (zo1 (K:=K) rfl (pq 0)) (pq 3)) (pq 1))))
   (za2 (psS (i:=5) zl7.nd (zb2 oMul (za8 (K:=K) rfl (za8 (K:=K) rfl (zo1 (K:=K) rfl (pq 0)) (pq 3)) (zw6 uNeg za3)) (za8 (K:=K) rfl (za8 (K:=K) rfl (zo1 (K:=K) rfl (pq 0)) (pq 2)) (pq 1))))
   (za5 (zb1 (peOr (peC (oLtN (by exact hu)) (pq 4) (pq 5)) (zq6 (zab6 (peC (oEqK (K:=K) rfl (by exact hu)) (pq 4) (pq 5)) (zq6 (peC (oLtN (by exact hu)) (za8 (K:=K) rfl (zo1 (K:=K) rfl (pq 0)) (pq 2)) (za8 (K:=K) rfl (zo1 (K:=K) rfl (pq 0)) (pq 3))))))))))),?_⟩
 refine zf0 G.out Y.cl_Grid Y.na_Grid_numbers rfl ?_
 refine zb5 G.num.out (zc9 (by rw[zcw3,epi];rfl)) ?_
 refine zb5 (G.num.row i pi epi) zab5 ?_
 refine zf0 G.out Y.cl_Grid Y.na_Grid_numbers rfl ?_
 refine zb5 G.num.out (zc9 (by rw[zcw3,epj];rfl)) ?_
 refine zb5 (G.num.row j pj epj) (zm1 (by rfl') (by rfl')) ?_
 refine zf8 (hz i n (by rfl') (by rfl')) (hz j c (by rfl') (by rfl')) ?_
 refine zf0 G.out Y.cl_Grid Y.na_Grid_numbers rfl ?_
 refine zb5 G.num.out (zc9 (by rw[zcw3,epj];rfl)) ?_
 refine zb5 (G.num.row j pj epj) zab5 ?_
 refine zf0 G.out Y.cl_Grid Y.na_Grid_numbers rfl ?_
 refine zb5 G.num.out (zc9 (by rw[zcw3,epi];rfl)) ?_
 refine zb5 (G.num.row i pi epi) (zm1 (by rfl') (by rfl')) ?_
 refine zf8 (hz j n (by rfl') (by rfl')) (hz i c (by rfl') (by rfl')) ?_
 ac_nf
 simp only[zcz4]
 refine zk1 (fun e1=>?_) (fun e1=>?_)
 ·ac_nf
  exact q true ⟨fun _=>.inl e1,fun _=>rfl⟩
 refine zk1 (fun e2=>?_) (fun e2=>?_)
 ·ac_nf
  refine zf0 G.out Y.cl_Grid Y.na_Grid_down rfl ?_
  refine zb5 G.dnl (zc9 (by rw[zcw3,edi];rfl)) ?_
  refine zf0 G.out Y.cl_Grid Y.na_Grid_down rfl ?_
  refine zb5 G.dnl (zc9 (by rw[zcw3,edj];rfl)) ?_
  refine ltN_rd (G.dnn i di edi) (G.dnn j dj edj) ?_
  refine q _ ⟨fun h=>.inr ⟨e2,(zar3 _ _).mp h⟩,fun h=>?_⟩
  rcases h with h|h
  ·exact absurd h e1
  ·exact (zar3 _ _).mpr h.2
 ·refine q false ⟨(fun h=>nomatch h),fun h=>?_⟩
  rcases h with h|h
  ·exact absurd h e1
  ·exact absurd h.1 e2
noncomputable def zag9(n:Nat)(s:SxGr)(c i:Nat)(v:V):Prop:=(v=.non/\∀ k,k<i->¬ 0<s.N k c)∨∃ r:Nat,v=.int r/\r<i/\0<s.N r c/\∀ k,k<i->0<s.N k c->s.N r n*s.N k c<s.N k n*s.N r c∨(s.N r n*s.N k c=s.N k n*s.N r c/\¬ sxLt (s.dn k) (s.dn r))
theorem zag9.take{s:SxGr}{v:V}(h:zag9 n s c i v)(hp:0<s.N i c)(ha:∀ r:Nat,v=.int r->Ahd n s c i r):zag9 n s c (i+1) (.int i):=by
 refine .inr ⟨i,rfl,by rfl',hp,fun k hk hkp=>?_⟩
 by_cases e:k=i
 ·subst e;exact .inr ⟨rfl,zaa7 _⟩
 rcases h with ⟨rfl,h⟩|⟨r,rfl,hr,hrp,h⟩
 ·exact absurd hkp (h k (by rfl'))
 ·have h1:=ha r rfl
  have h2:=h k (by rfl') hkp
  unfold Ahd at h1
  rcases h1 with h1|⟨h1,l1⟩
  ·rcases h2 with h2|⟨h2,_⟩
   ·exact .inl (zak2 hp hrp hkp (zcz5 h1) h2)
   ·exact .inl (zaq6 hp hrp hkp h1 (Int.le_of_eq h2))
  ·rcases h2 with h2|⟨h2,l2⟩
   ·exact .inl (zak2 hp hrp hkp (Int.le_of_eq h1) h2)
   ·refine .inr ⟨Int.le_antisymm (zaj6 hp hrp hkp (Int.le_of_eq h1) (Int.le_of_eq h2)) ?_,fun l3=>l2 (zae8 l3 l1)⟩
    exact zaj6 hkp hrp hp (Int.le_of_eq h2.symm) (Int.le_of_eq h1.symm)
theorem zag9.skip{s:SxGr}{v:V}(h:zag9 n s c i v)(hs:¬ 0<s.N i c):zag9 n s c (i+1) v:=by
 rcases h with ⟨e,h⟩|⟨r,e,hr,hrp,h⟩
 ·exact .inl ⟨e,fun k hk=>by by_cases z:k=i;exact z▸hs;exact h k (by rfl')⟩
 ·exact .inr ⟨r,e,by rfl',hrp,fun k hk hkp=>by by_cases z:k=i;exact absurd hkp (z▸hs);exact h k (by rfl') hkp⟩
theorem zag9.keep{s:SxGr}{r:Nat}(h:zag9 n s c i (.int r))(hs:¬ Ahd n s c i r):zag9 n s c (i+1) (.int r):=by
 rcases h with ⟨e,h⟩|⟨r',e,hr,hrp,h⟩
 ·cases e
 ·have:r=r':=by injection e with e;omega
  subst this
  refine .inr ⟨r,rfl,by rfl',hrp,fun k hk hkp=>?_⟩
  by_cases z:k=i
  ·subst z
   unfold Ahd at hs
   rcases Int.lt_trichotomy (s.N r n*s.N k c) (s.N k n*s.N r c) with a|a|a
   ·exact .inl a
   ·exact .inr ⟨a,fun l=>hs (.inr ⟨a.symm,l⟩)⟩
   ·exact absurd (.inl a) hs
  ·exact h k (by rfl') hkp
@[irreducible] noncomputable def zh4(zcp2:Addr):Sp:=fun vs H Q _=>∃ (g:Addr) (m n c:Nat) (s:SxGr) (dx ln la ld:Addr) (ps as ds:List Addr),vs=[.ref g,.int c]/\GrAt zcp2 H g m n s dx ln la ld ps as ds/\c<n/\m<=90/\n<=90 /\
 (∀ k l,k<=m->l<=n->Sm (s.N k l))/\∀ v,zag9 n s c m v->Q v H
theorem zz7{g:Addr}{s:SxGr}{ln:Addr}(G:GrAt C H g m n s dx ln la ld ps as ds)(hc:c<n)(hm:m<=90)(hn:n<=90)(hz:∀ k l,k<=m->l<=n->Sm (s.N k l))(q:∀ v,zag9 n s c m v->Q v H):zh4 C [.ref g,.int c] H Q E:=by
 unfold zh4;exact⟨g,m,n,c,s,dx,ln,la,ld,ps,as,ds,rfl,G,hc,hm,hn,hz,q⟩
theorem zap8(F:Fun K "row_to_turn" "row_to_turn" zu9 f fd)(N:Nm mg)(Y:Pz K mg zcp2 zcq5)(zcq6:Def P w K mg base CX0 1 "row_binds_ahead" ["grid","column","one","other"] (zd7 zcp2)):FnOk P w K mg base CX0 2 f fd ["grid","column"] (zh4 zcp2):=by
 refine F.ok zo4 (fun vs H Q E h=>by unfold zh4 at h;obtain⟨_,_,_,_,_,_,_,_,_,_,_,_,rfl,_⟩:=h;rfl) (fun cdv A outer st H vs Q E hr h=>?_)
 unfold zh4 at h
 obtain⟨g,m,n,c,s,dx,ln,la,ld,ps,as,ds,rfl,G,hc,hm,hn,hz,q⟩:=h
 have hu:=hu40 hr
 have pl:=G.num.len
 refine⟨_,(za2 (psS (i:=2) zo4.nd zbl1)
   (za2 (zaa4 PassesOwn.never rfl (zs5 N.range_ (za0 (pB (zm3 (K:=K) rfl) N.len_ zf7 (za0 (zo1 (K:=K) rfl (pq 0)) za1)) za1)) (za7 (i:=3) zo4.nd rfl (by eq_refl)) (za5 (psIf (ptW (pwAnd (ptC oGt (za8 (K:=K) rfl (za8 (K:=K) rfl (zo1 (K:=K) rfl (pq 0)) (pq 3)) (pq 1)) za3) (zat5 (ptW (pwOr (ptC oIs (pq 2) zbl1) (zz3 (ptV (pD zcq6 hr zb4 (za0 (pq 0) (za0 (pq 1) (za0 (pq 3) (za0 (pq 2) za1)))))))))))) (za5 (psS (i:=2) zo4.nd (pq 3))) zb8)))
   (za5 (zb1 (pq 2))))),?_⟩
 refine zf0 G.out Y.cl_Grid Y.na_Grid_down rfl ?_
 refine zf2 G.dnl ?_
 refine zj5 (by decide) (by decide) (by rw[zcw0,G.dlen];omega) (by rw[zcw0,G.dlen];omega) ?_
 rw[show ((((ds.map V.ref).length:Nat):Int) - 0).toNat=m by rw[zcw0,G.dlen];omega]
 refine zs9 (fun i σ H1=>H1=H/\∃ (v:V) (t:Option V),σ=[some (.ref g),some (.int c),some v,t]/\zag9 n s c i v) ⟨rfl,.non,none,rfl,.inl ⟨rfl,fun k hk=>by rfl'⟩⟩ ?_ ?_
 ·rintro i σ H1 hi ⟨rfl,v,t,rfl,B⟩
  obtain⟨pi,epi⟩:∃ pi,ps[i]?=some pi:=⟨_,zcv9 (by rfl')⟩
  rw[show (0:Int)+(i:Int)=(i:Int) by rfl']
  refine zf0 G.out Y.cl_Grid Y.na_Grid_numbers rfl ?_
  refine zb5 G.num.out (zc9 (by rw[zcw3,epi];rfl)) ?_
  refine zb5 (G.num.row i pi epi) (zm1 (by rfl') (by rfl')) ?_
  ac_nf
  simp only[zcz4]
  refine zk1 (fun hp=>?_) (fun hp=>?_)
  ·have hp:0<s.N i c:=hp
   rcases id B with ⟨rfl,_⟩|⟨r,rfl,hr2,_⟩
   ·ac_nf
    refine zl5 rfl ?_
    refine br_T ?_
    ac_nf
    exact⟨rfl,_,_,rfl,B.take hp fun r e=>nomatch e⟩
   ·ac_nf
    refine zt1 (fun e=>nomatch e) ?_
    refine zab1 G hc hi (by rfl') hm hn hz (fun bb hb=>?_)
    ac_nf
    cases bb with
    | true=>
     refine br_T ?_
     ac_nf
     refine⟨rfl,_,_,rfl,B.take hp fun r' e=>?_⟩
     injection e with e
     rw[show r'=r by rfl']
     exact hb.mp rfl
    | false=>
     refine br_F ?_
     ac_nf
     exact⟨rfl,_,_,rfl,B.keep fun h=>nomatch hb.mpr h⟩
  ·ac_nf
   refine br_F ?_
   ac_nf
   exact⟨rfl,_,_,rfl,B.skip (fun h=>hp h)⟩
 ·rintro σ H1 ⟨rfl,v,t,rfl,B⟩
  ac_nf
  exact q v B
theorem GrAt.tab{C T:Addr}{ln0 co:Nat}{qual:Str}{H H':Hp}{g:Addr}{m n:Nat}{s:SxGr}{dx ln la ld:Addr}{ps as ds:List Addr}(G:GrAt C H g m n s dx ln la ld ps as ds)(x:zr2 T ln0 co qual H)(c:Chg T H H'):GrAt C H' g m n s dx ln la ld ps as ds:=by
 obtain⟨tab,e,_⟩:=x
 have f:∀ b o,H b=some o->(∀ t,o≠.tbl t)->H' b=some o:=fun b o h no=>c b o (fun z=>by rw[z,e] at h;cases h;exact no _ rfl) h
 exact⟨f _ _ G.out (fun _ y=>nomatch y),⟨f _ _ G.num.out (fun _ y=>nomatch y),G.num.len,fun i p e=>f _ _ (G.num.row i p e) (fun _ y=>nomatch y)⟩,f _ _ G.acl (fun _ y=>nomatch y),G.alen,fun c p e=>f _ _ (G.acn c p e) (fun _ y=>nomatch y),f _ _ G.dnl (fun _ y=>nomatch y),G.dlen,fun c p e=>f _ _ (G.dnn c p e) (fun _ y=>nomatch y),G.ne1,G.ne2,G.ne3,G.ne4,G.ne5⟩
noncomputable def lamQ:Str:=("column_to_turn":Str)++".<locals>."++"<lambda>"
noncomputable abbrev TabG(T:Addr)(H:Hp):Prop:=zr2 T 135 28 lamQ H
@[irreducible] noncomputable def ze9(zcp2 a_tab:Addr):Sp:=fun vs H Q _=>∃ (g:Addr) (m n:Nat) (s:SxGr) (dx ln la ld:Addr) (ps as ds:List Addr),vs=[.ref g]/\GrAt zcp2 H g m n s dx ln la ld ps as ds/\m<=90/\n<=90/\TabG a_tab H /\
 ((∀ l,l<n->0<=s.N m l)->∀ H',Chg a_tab H H'->TabG a_tab H'->Q .non H')/\∀ c:Nat,c<n->s.N m c<0->(∀ l,l<n->s.N m l<0->¬ sxLt (s.ac l) (s.ac c))->∀ H',Chg a_tab H H'->TabG a_tab H'->Q (.int c) H'
theorem zn9{g:Addr}{s:SxGr}{ln:Addr}(G:GrAt C H g m n s dx ln la ld ps as ds)(hm:m<=90)(hn:n<=90)(hT:TabG T H)(q1:(∀ l,l<n->0<=s.N m l)->∀ H',Chg T H H'->TabG T H'->Q .non H')(q2:∀ c:Nat,c<n->s.N m c<0->(∀ l,l<n->s.N m l<0->¬ sxLt (s.ac l) (s.ac c))->∀ H',Chg T H H'->TabG T H'->Q (.int c) H'):ze9 C T [.ref g] H Q E:=by
 unfold ze9;exact⟨g,m,n,s,dx,ln,la,ld,ps,as,ds,rfl,G,hm,hn,hT,q1,q2⟩
theorem zaf7(F:Fun K "column_to_turn" "column_to_turn" zp1 f fd)(N:Nm mg)(Y:Pz K mg zcp2 zcq5)(hcd:fd.code=.ref a_cod)(hCH:PySem.W.CodeHd base a_cod a_tab)(hBM:Bm mg base):FnOk P w K mg base CX0 4 f fd ["grid"] (ze9 zcp2 a_tab):=by
 refine F.okC hcd zn3 (fun vs H Q E h=>by unfold ze9 at h;obtain⟨_,_,_,_,_,_,_,_,_,_,_,rfl,_⟩:=h;rfl) (fun A outer st H vs Q E hr h=>?_)
 unfold ze9 at h
 obtain⟨g,m,n,s,dx,ln,la,ld,ps,as,ds,rfl,G,hm,hn,hT,q1,q2⟩:=h
 have hu:=hu40 hr
 have pl:=G.num.len
 refine⟨_,(za2 (psS (i:=1) zn3.nd (zo1 (K:=K) rfl (pq 0)))
   (za2 (psC (i:=2) (N:=["column","grid"]) (ks:=[none,some 0]) zn3.nd (zs5 N.range_ (za0 (pB (zm3 (K:=K) rfl) N.len_ zf7 (za0 (pq 1) za1)) za1)) (fun _ _ _ _ _=>(za7 (i:=0) nb_4 rfl (by eq_refl))) (fun _ _ _ _ _=>(zbd9 (ptC oLt (za8 (K:=K) rfl (za8 (K:=K) rfl (zo1 (K:=K) rfl (pq 1)) (zw6 uNeg za3)) (pq 0)) za3))) (fun _ _ _ _ _=>(pq 0)) (.skip (.take rfl rfl (by eq_refl) .nil)))
   (za5 (zb1 (peMinK (K:=K) (T:=a_tab) (c:=a_cod) (i:=1) (ln:=135) (co:=28) (qual:=lamQ) rfl (hr.mono (by decide)) (by exact hu) N.min_ hCH hBM (za0 (pq 2) za1) rfl rfl rfl rfl rfl rfl rfl rfl (fun _ _ _ _=>rfl) rfl (by decide)))))),?_⟩
 refine zf0 G.out Y.cl_Grid Y.na_Grid_across rfl ?_
 refine zf2 G.acl ?_
 refine zj5 (by decide) (by decide) (by rw[zcw0,G.alen];omega) (by rw[zcw0,G.alen];omega) ?_
 rw[show ((((as.map V.ref).length:Nat):Int) - 0).toNat=n by rw[zcw0,G.alen];omega]
 obtain⟨pm,epm⟩:∃ pm,ps[m]?=some pm:=⟨_,zcv9 (by rfl')⟩
 refine zi1 (n:=n) Wk.range (by rw[zdf9];omega) (fun i=>.int ((i:Nat):Int)) (fun i=>decide (s.N m i<0)) (fun j σ=>∃ t:Option V,σ=[t,some (.ref g)]) ⟨none,rfl⟩ ?_ ?_
 ·rintro j v σ H1 R S hj s1 hx ⟨t,rfl⟩ k1 k2
  obtain rfl:v=.int ((j:Nat):Int):=by first|(rw[hx];congr 1;omega)|exact hx
  refine zf0 (s1 _ _ G.out) Y.cl_Grid Y.na_Grid_numbers rfl ?_
  refine zb5 (v:=.ref pm) (s1 _ _ G.num.out) (zaf1 (n:=m) (by rw[zcw0,pl]) (by rw[zcw3,epm];rfl)) ?_
  refine zb5 (s1 _ _ (G.num.row m pm epm)) (zm1 (by rfl') (by rfl')) ?_
  ac_nf
  simp only[zcz4]
  refine zk1 (fun e=>?_) (fun e=>?_)
  ·exact k1 (decide_eq_true e) _ _ (Same.refl _) ⟨_,rfl⟩
  ·exact k2 (decide_eq_false e) _ _ (Same.refl _) ⟨_,rfl⟩
 intro acc H1 f1 s1 h1
 have em:((List.range n).filter fun i=>decide (s.N m i<0)).map (fun i=>V.int ((i:Nat):Int))=(((List.range n).filter fun i=>decide (s.N m i<0)).map fun i=>((i:Nat):Int)).map V.int:=by rw[zdf0];rfl
 rw[em] at h1
 have memI:∀ k:Int,k∈(((List.range n).filter fun i=>decide (s.N m i<0)).map fun i=>((i:Nat):Int))↔∃ l:Nat,l<n/\s.N m l<0/\k=l:=by
  intro k
  rw[zcz7]
  constructor
  ·rintro⟨l,hl,rfl⟩
   rw[List.mem_filter,zda0] at hl
   exact⟨l,hl.1,of_decide_eq_true hl.2,rfl⟩
  ·rintro⟨l,h1,h2,rfl⟩
   exact⟨l,by rw[List.mem_filter,zda0];exact⟨h1,decide_eq_true h2⟩,rfl⟩
 refine zco5 (fun k=>nmT (s.ac k.toNat)) h1 (s1 _ _ G.acl) (fun k hk=>?_) (fun i j k a b=>(zar3 _ _).mpr (zae8 ((zar3 _ _).mp a) ((zar3 _ _).mp b))) (hT.same s1) (fun e H2 c2 t2=>?_) (fun k hk hb H2 c2 t2=>?_)
 ·obtain⟨l,h2,_,rfl⟩:=(memI k).mp hk
  refine⟨by rfl',by rw[G.alen];omega,fun b eb=>?_⟩
  rw[zcz4] at eb ⊢
  exact s1 _ _ (G.acn l b eb)
 ·refine q1 (fun l hl=>Int.not_lt.mp fun h=>?_) H2 (fun b o hb e=>c2 b o hb (s1 b o e)) t2
  have:=(memI l).mpr ⟨l,hl,h,rfl⟩
  rw[e] at this;cases this
 ·obtain⟨l,h2,h3,rfl⟩:=(memI k).mp hk
  refine q2 l h2 h3 (fun x hx hn'=>?_) H2 (fun b o hb e=>c2 b o hb (s1 b o e)) t2
  have:=hb x ((memI x).mpr ⟨x,hx,hn',rfl⟩)
  rw[zcz4,zcz4] at this
  exact (zcp1 _ _).mp this
noncomputable def Chg4(a b c T:Addr)(H H':Hp):Prop:=∀ x o,x≠a->x≠b->x≠c->x≠T->H x=some o->H' x=some o
theorem zr2.chg3{a b c:Addr}{ln co:Nat}{qual:Str}(x:zr2 T ln co qual H)(ha:∀ t,H a≠some (.tbl t))(hb:∀ t,H b≠some (.tbl t))(hc:∀ t,H c≠some (.tbl t))(ha':∀ o u,H a≠some (.frz o u))(hb':∀ o u,H b≠some (.frz o u))(hc':∀ o u,H c≠some (.frz o u))(s:Chg3 a b c H H'):zr2 T ln co qual H':=by
 obtain⟨tab,e,r⟩:=x
 refine⟨tab,s _ _ (fun z=>ha tab (z▸e)) (fun z=>hb tab (z▸e)) (fun z=>hc tab (z▸e)) e,?_⟩
 rcases r with r|⟨c0,oc,vs,t,e1,e2,r⟩
 ·exact .inl r
 ·exact .inr ⟨c0,oc,vs,t,e1,s _ _ (fun z=>ha' _ _ (z▸e2)) (fun z=>hb' _ _ (z▸e2)) (fun z=>hc' _ _ (z▸e2)) e2,r⟩
theorem zaz1{c:TT}{tb:TS}{D:Ends}{σ:St}(W:Nat->St->Hp->Prop)(h0:∃ m,W m σ H)(hs:∀ m σ H,W m σ H->c σ H fun b H1=>wIf W m tb D σ b H1):zaq5 c tb D σ H:=by unfold zaq5;exact⟨W,h0,hs⟩
theorem zby8{W:Nat->St->Hp->Prop}{tb:TS}{D:Ends}{σ:St}{H1:Hp}(h:tb { D with nx:=fun σ' H'=>∃ m',m'<m/\W m' σ' H',ct:=fun σ' H'=>∃ m',m'<m/\W m' σ' H',bk:=D.nx } σ H1):wIf W m tb D σ true H1:=by
 unfold wIf;rw[if_pos rfl];exact⟨_,fun _ _ x=>x,h⟩
theorem zbt7{W:Nat->St->Hp->Prop}{tb:TS}{D:Ends}{σ:St}{H1:Hp}(h:D.nx σ H1):wIf W m tb D σ false H1:=by
 unfold wIf;rw[if_neg zcx1];exact h
noncomputable def ColI(m n:Nat)(s:SxGr)(v:V):Prop:=(v=.non/\∀ l,l<n->0<=s.N m l)∨∃ c:Nat,v=.int c/\c<n/\s.N m c<0/\∀ l,l<n->s.N m l<0->¬ sxLt (s.ac l) (s.ac c)
noncomputable def WayW(C T g la ld dx:Addr)(A:Nat->Nat->Int)(b:Nat->Int)(m n:Nat)(s:SxGr)(H:Hp):Nat->St->Hp->Prop:=fun μ σ H1=>∃ (v:V) (L:Nat) (S:Nat->SxGr) (ln1:Addr) (ps1 as1 ds1:List Addr),
 σ=[some (.ref g),some v]/\Chg4 g la ld T H H1/\TabG T H1/\GrAt C H1 g m n (S L) dx ln1 la ld ps1 as1 ds1/\zz6 A b m n L S/\S 0=s/\ColI m n (S L) v/\μ=(m+n) ^ (m+n) - L
@[irreducible] noncomputable def zh5(zcp2 a_tab:Addr):Sp:=fun vs H Q _=>∃ (g:Addr) (A:Nat->Nat->Int) (b:Nat->Int) (m n:Nat) (s:SxGr) (dx ln la ld:Addr) (ps as ds:List Addr),vs=[.ref g]/\GrAt zcp2 H g m n s dx ln la ld ps as ds/\0<m/\m<=90/\n<=90/\TabG a_tab H /\
 SxOk A b m n s/\(∀ k,k<m->0<=s.N k n)/\(∀ i j,i<m->j<n->0<A i j)/\(∀ s',SxOk A b m n s'->(∀ k l,k<=m->l<=n->Sm (s'.N k l))/\Sm s'.d) /\
 ∀ H' e ln' ps' as' ds',Chg4 g la ld a_tab H H'->TabG a_tab H'->GrAt zcp2 H' g m n e dx ln' la ld ps' as' ds'->zt0 A b m n s e->Q .non H'
theorem zan9{g:Addr}{A:Nat->Nat->Int}{b:Nat->Int}{s:SxGr}{ln:Addr}(G:GrAt C H g m n s dx ln la ld ps as ds)(hm0:0<m)(hm:m<=90)(hn:n<=90)(hT:TabG T H)(ok:SxOk A b m n s)(hf:∀ k,k<m->0<=s.N k n)(hA:∀ i j,i<m->j<n->0<A i j)(hz:∀ s',SxOk A b m n s'->(∀ k l,k<=m->l<=n->Sm (s'.N k l))/\Sm s'.d)(q:∀ H' e ln' ps' as' ds',Chg4 g la ld T H H'->TabG T H'->GrAt C H' g m n e dx ln' la ld ps' as' ds'->zt0 A b m n s e->Q .non H'):zh5 C T [.ref g] H Q E:=by
 unfold zh5;exact⟨g,A,b,m,n,s,dx,ln,la,ld,ps,as,ds,rfl,G,hm0,hm,hn,hT,ok,hf,hA,hz,q⟩
theorem zao5(F:Fun K "turn_to_end" "turn_to_end" zv5 f fd)(N:Nm mg)(zcq3:Def P w K mg base CX0 4 "column_to_turn" ["grid"] (ze9 zcp2 a_tab))(zcs4:Def P w K mg base CX0 2 "row_to_turn" ["grid","column"] (zh4 zcp2))(zcv8:Def P w K mg base CX0 2 "turn" ["grid","row","column"] (zae9 zcp2)):FnOk P w K mg base CX0 5 f fd ["grid"] (zh5 zcp2 a_tab):=by
 refine F.ok zr1 (fun vs H Q E h=>by unfold zh5 at h;obtain⟨_,_,_,_,_,_,_,_,_,_,_,_,_,rfl,_⟩:=h;rfl) (fun cdv A' outer st H vs Q E hr h=>?_)
 unfold zh5 at h
 obtain⟨g,A,b,m,n,s,dx,ln,la,ld,ps,as,ds,rfl,G,hm0,hm,hn,hT,ok,hf,hA,hz,q⟩:=h
 have hu:=hu40 hr
 have way:∀ {H1:Hp}{L:Nat}{S:Nat->SxGr}{ln1:Addr}{ps1 as1 ds1:List Addr},GrAt zcp2 H1 g m n (S L) dx ln1 la ld ps1 as1 ds1->TabG a_tab H1 ->
   (∀ t,H1 g≠some (.tbl t))/\(∀ t,H1 la≠some (.tbl t))/\(∀ t,H1 ld≠some (.tbl t))/\(∀ o u,H1 g≠some (.frz o u))/\(∀ o u,H1 la≠some (.frz o u))/\(∀ o u,H1 ld≠some (.frz o u)):=by
  intro H1 L S ln1 ps1 as1 ds1 G1 _
  refine⟨fun t e=>?_,fun t e=>?_,fun t e=>?_,fun o u e=>?_,fun o u e=>?_,fun o u e=>?_⟩
  ·rw[G1.out] at e;cases e
  ·rw[G1.acl] at e;cases e
  ·rw[G1.dnl] at e;cases e
  ·rw[G1.out] at e;cases e
  ·rw[G1.acl] at e;cases e
  ·rw[G1.dnl] at e;cases e
 refine⟨_,(za2 (psS (i:=1) zr1.nd (pD zcq3 hr zb4 (za0 (pq 0) za1)))
   (za5 (zas8 PassesOwn.never (ptC oIsNot (pq 1) zbl1) (za2 (zl8 (pD zcv8 hr zb4 (za0 (pq 0) (za0 (pD zcs4 hr zb4 (za0 (pq 0) (za0 (pq 1) za1))) (za0 (pq 1) za1)))))
   (za5 (psS (i:=1) zr1.nd (pD zcq3 hr zb4 (za0 (pq 0) za1)))))))),?_⟩
 ac_nf
 have P0:=zz6.start ok hf
 refine zn9 G hm hn hT (fun a H1 c1 t1=>?_) (fun c hc hneg hl H1 c1 t1=>?_)
 ·have I0:ColI m n s .non:=.inl ⟨rfl,a⟩
  refine zaz1 (WayW zcp2 a_tab g la ld dx A b m n s H) ⟨_,.non,0,fun _=>s,ln,ps,as,ds,rfl,(fun x o _ _ _ h4 e=>c1 x o h4 e),t1,G.tab hT c1,P0,rfl,I0,rfl⟩ ?_
  rintro μ σ H2 ⟨v,L,S,ln2,ps2,as2,ds2,rfl,C2,T2,G2,P2,S0,I2,rfl⟩
  have ok2:=P2.ok L (zcw4 _)
  rcases I2 with ⟨rfl,hall⟩|⟨c',rfl,hc',hneg',hl'⟩
  ·ac_nf
   refine zbt7 ?_
   ac_nf
   exact q H2 (S L) ln2 ps2 as2 ds2 C2 T2 G2 ⟨L,S,P2,S0,rfl,hall⟩
  ·ac_nf
   refine zby8 ?_
   ac_nf
   obtain⟨hz2,hzd⟩:=hz _ ok2
   refine zz7 G2 hc' hm hn hz2 (fun v B=>?_)
   obtain⟨k0,hk0,hp0⟩:=ok2.bound_row hA hm0 hc'
   rcases B with ⟨_,B⟩|⟨r,rfl,hrm,hrp,B⟩
   ·exact absurd hp0 (B k0 hk0)
   have PR:SxPr m n (S L) r c':=⟨hrm,hc',hneg',hl',hrp,B⟩
   refine zbt0 G2 hrm hc' hm hn ok2.t.pos hzd (by rfl') hz2 (fun H3 ln3 ps3 as3 ds3 c3 G3=>?_)
   obtain⟨w1,w2,w3,w4,w5,w6⟩:=way G2 T2
   have T3:TabG a_tab H3:=zr2.chg3 T2 w1 w2 w3 w4 w5 w6 c3
   have P3:=P2.turn PR
   have e3:zv6 S L ((S L).turn r c') (L+1)=(S L).turn r c':=if_neg (by rfl')
   have e0:zv6 S L ((S L).turn r c') 0=s:=by rw[← S0];exact if_pos (zcz6 _)
   have lt3:=P3.bound
   have more:∀ {H4:Hp}{v4:V},Chg a_tab H3 H4->TabG a_tab H4->ColI m n ((S L).turn r c') v4->∃ m',m'<(m+n) ^ (m+n) - L/\WayW zcp2 a_tab g la ld dx A b m n s H m' [some (.ref g),some v4] H4:=by
    intro H4 v4 c4 T4 I4
    refine⟨(m+n) ^ (m+n) - (L+1),by rfl',v4,L+1,zv6 S L ((S L).turn r c'),ln3,ps3,as3,ds3,rfl,?_,T4,?_,P3,e0,?_,rfl⟩
    ·exact fun x o h1 h2 h3 h4 e=>c4 x o h4 (c3 x o h1 h2 h3 (C2 x o h1 h2 h3 h4 e))
    ·rw[e3];exact G3.tab T3 c4
    ·rw[e3];exact I4
   refine zn9 G3 hm hn T3 (fun a H4 c4 T4=>?_) (fun c hc hneg hl H4 c4 T4=>?_)
   ·ac_nf
    exact more c4 T4 (.inl ⟨rfl,a⟩)
   ·ac_nf
    exact more c4 T4 (.inr ⟨c,rfl,hc,hneg,hl⟩)
 ·have I0:ColI m n s (.int c):=.inr ⟨c,rfl,hc,hneg,hl⟩
  refine zaz1 (WayW zcp2 a_tab g la ld dx A b m n s H) ⟨_,.int c,0,fun _=>s,ln,ps,as,ds,rfl,(fun x o _ _ _ h4 e=>c1 x o h4 e),t1,G.tab hT c1,P0,rfl,I0,rfl⟩ ?_
  rintro μ σ H2 ⟨v,L,S,ln2,ps2,as2,ds2,rfl,C2,T2,G2,P2,S0,I2,rfl⟩
  have ok2:=P2.ok L (zcw4 _)
  rcases I2 with ⟨rfl,hall⟩|⟨c',rfl,hc',hneg',hl'⟩
  ·ac_nf
   refine zbt7 ?_
   ac_nf
   exact q H2 (S L) ln2 ps2 as2 ds2 C2 T2 G2 ⟨L,S,P2,S0,rfl,hall⟩
  ·ac_nf
   refine zby8 ?_
   ac_nf
   obtain⟨hz2,hzd⟩:=hz _ ok2
   refine zz7 G2 hc' hm hn hz2 (fun v B=>?_)
   obtain⟨k0,hk0,hp0⟩:=ok2.bound_row hA hm0 hc'
   rcases B with ⟨_,B⟩|⟨r,rfl,hrm,hrp,B⟩
   ·exact absurd hp0 (B k0 hk0)
   have PR:SxPr m n (S L) r c':=⟨hrm,hc',hneg',hl',hrp,B⟩
   refine zbt0 G2 hrm hc' hm hn ok2.t.pos hzd (by rfl') hz2 (fun H3 ln3 ps3 as3 ds3 c3 G3=>?_)
   obtain⟨w1,w2,w3,w4,w5,w6⟩:=way G2 T2
   have T3:TabG a_tab H3:=zr2.chg3 T2 w1 w2 w3 w4 w5 w6 c3
   have P3:=P2.turn PR
   have e3:zv6 S L ((S L).turn r c') (L+1)=(S L).turn r c':=if_neg (by rfl')
   have e0:zv6 S L ((S L).turn r c') 0=s:=by rw[← S0];exact if_pos (zcz6 _)
   have lt3:=P3.bound
   have more:∀ {H4:Hp}{v4:V},Chg a_tab H3 H4->TabG a_tab H4->ColI m n ((S L).turn r c') v4->∃ m',m'<(m+n) ^ (m+n) - L/\WayW zcp2 a_tab g la ld dx A b m n s H m' [some (.ref g),some v4] H4:=by
    intro H4 v4 c4 T4 I4
    refine⟨(m+n) ^ (m+n) - (L+1),by rfl',v4,L+1,zv6 S L ((S L).turn r c'),ln3,ps3,as3,ds3,rfl,?_,T4,?_,P3,e0,?_,rfl⟩
    ·exact fun x o h1 h2 h3 h4 e=>c4 x o h4 (c3 x o h1 h2 h3 (C2 x o h1 h2 h3 h4 e))
    ·rw[e3];exact G3.tab T3 c4
    ·rw[e3];exact I4
   refine zn9 G3 hm hn T3 (fun a H4 c4 T4=>?_) (fun c hc hneg hl H4 c4 T4=>?_)
   ·ac_nf
    exact more c4 T4 (.inl ⟨rfl,a⟩)
   ·ac_nf
    exact more c4 T4 (.inr ⟨c,rfl,hc,hneg,hl⟩)
@[irreducible] noncomputable def zi3(zcp2:Addr):Sp:=fun vs H Q _=>∃ (x dx t bt:Addr) (ps:List Addr) (m n:Nat) (A:Nat->Nat->Int) (b:Nat->Int),vs=[.ref x,.ref t,.ref bt]/\H x=some (.ins zcp2 dx [])/\zd4 H t ps m n A/\H bt=some (.lst (rowV m b))/\0<m/\m<=90/\0<n/\n<=90 /\
 ∀ H' ln la ld qs as ds,Chg x H H'->GrAt zcp2 H' x m n (zk2 A b m n) dx ln la ld qs as ds->H ln=none->H la=none->H ld=none->Q .non H'
theorem zba3{x t bt:Addr}{A:Nat->Nat->Int}{b:Nat->Int}(hx:H x=some (.ins C dx []))(G:zd4 H t ps m n A)(hb:H bt=some (.lst (rowV m b)))(hm0:0<m)(hm:m<=90)(hn0:0<n)(hn:n<=90)(q:∀ H' ln la ld qs as ds,Chg x H H'->GrAt C H' x m n (zk2 A b m n) dx ln la ld qs as ds->H ln=none->H la=none->H ld=none->Q .non H'):zi3 C [.ref x,.ref t,.ref bt] H Q E:=by
 unfold zi3;exact⟨x,dx,t,bt,ps,m,n,A,b,rfl,hx,G,hb,hm0,hm,hn0,hn,q⟩
theorem zbb5(F:Fun K "__init__" "Grid.__init__" zl2 f fd)(N:Nm mg)(Y:Pz K mg zcp2 zcq5):FnOk P w K mg base CX0 1 f fd ["self","table","bottoms"] (zi3 zcp2):=by
 refine F.ok zaf9 (fun vs H Q E h=>by unfold zi3 at h;obtain⟨_,_,_,_,_,_,_,_,_,rfl,_⟩:=h;rfl) (fun cdv A' outer st H vs Q E hr h=>?_)
 unfold zi3 at h
 obtain⟨x,dx,t,bt,ps,m,n,A,b,rfl,hx,G,hb,hm0,hm,hn0,hn,q⟩:=h
 have gl:=G.len
 obtain⟨p0,ep0⟩:∃ p0,ps[0]?=some p0:=⟨_,zcv9 (by rfl')⟩
 have nx:∀ {y:Addr}{xs:List V},H y=some (.lst xs)->y≠x:=fun {y xs} e z=>by rw[z,hx] at e;cases e
 refine⟨_,(za2 (psS (i:=3) zaf9.nd (pB (zm3 (K:=K) rfl) N.len_ zf7 (za0 (za8 (K:=K) rfl (pq 1) za3) za1)))
   (za2 (zbq0 (K:=K) rfl (pq 0) (zd6 (N:=["row","bottom"]) (ks:=[none,none]) (zay9 (K:=K) rfl N.zip_ (za0 (pq 1) (za0 (pq 2) za1))) (fun _ _ _ _ _=>(zp4 (K:=K) (n:=2) rfl rfl (zc2 (za7 (i:=0) nb_5 rfl (by eq_refl)) (zc2 (za7 (i:=1) nb_5 rfl (by eq_refl)) zp2)))) (fun _ _ _ _ _=>zc1) (fun _ _ _ _ _=>(zb2 oAdd (pq 0) (zl1 (za0 (pq 1) za1)))) (.skip (.skip .nil))))
   (za2 (zl8 (zn2 (zo1 (K:=K) rfl (pq 0)) (za0 (zb2 oAdd (zb2 oMul (zl1 (za0 (zw6 uNeg za3) za1)) (pq 3)) (zl1 (za0 za3 za1))) za1)))
   (za2 (zbq0 (K:=K) rfl (pq 0) za3)
   (za2 (zbq0 (K:=K) rfl (pq 0) (zd6 (N:=["number"]) (ks:=[none]) (zs5 N.range_ (za0 (pq 3) za1)) (fun _ _ _ _ _=>(za7 (i:=0) nb_6 rfl (by eq_refl))) (fun _ _ _ _ _=>zc1) (fun _ _ _ _ _=>(zx8 (za0 zp3 (za0 (pq 0) za1)))) (.skip .nil)))
   (za5 (zbq0 (K:=K) rfl (pq 0) (zd6 (N:=["number"]) (ks:=[none]) (zs5 N.range_ (za0 (pB (zm3 (K:=K) rfl) N.len_ zf7 (za0 (pq 1) za1)) za1)) (fun _ _ _ _ _=>(za7 (i:=0) nb_6 rfl (by eq_refl))) (fun _ _ _ _ _=>zc1) (fun _ _ _ _ _=>(zx8 (za0 zp3 (za0 (pq 0) za1)))) (.skip .nil))))))))),?_⟩
 refine zb5 G.out (show atI (ps.map V.ref) 0=some (.ref p0) from zc9 (j:=0) (by rw[zcw3,ep0];rfl)) ?_
 refine zf2 (G.row 0 p0 ep0) ?_
 rw[zb7]
 refine zbb8 (SqL.of G.out) (SqL.of hb) ?_
 refine zab9 (n:=m) (Wk.zip (SqL.of G.out) (SqL.of hb) (by rw[zcw0,gl]) (zb7 m b)) (by rw[zdf9];omega) (fun i=>.lst (rowV (n+1) fun l=>if l=n then b i else A i l)) (fun j σ=>∃ t u:Option V,σ=[t,u]) ⟨none,none,rfl⟩ ?_ ?_
 ·rintro j v σ H1 R S hj s1 ⟨p,y,z,rfl,hp,hy,hz⟩ ⟨t',u',rfl⟩ k'
  rw[zcw3] at hy
  obtain⟨pj,epj,rfl⟩:=zcx0.mp hy
  rw[zd3 hj] at hz
  cases hz
  refine zk9 hp ?_
  refine br_T ?_
  refine zc3 (fun p2 H2 f2 s2 h2=>?_)
  refine zag5 (s2 _ _ (s1 _ _ (G.row j pj epj))) h2 (by rw[zb7,zdf9];simp;omega) (fun p3 H3 f3 s3 h3=>?_)
  ac_nf
  refine k' _ _ _ (s2.free f3) (s2.trans s3) ?_ ⟨_,_,rfl⟩
  rw[h3]
  congr 2
  rw[zl6]
  simp only[if_true]
  congr 1
  unfold rowV
  exact zdb8 fun l hl=>by
   show V.int (A j l)=V.int (if l=n then b j else A j l)
   rw[if_neg (by have:=zda0.mp hl;omega)]
 rintro ln qs H1 F1
 refine zx0 (F1.same _ _ hx) Y.cl_Grid Y.na_Grid_numbers (hl:=(show (0:Nat)<1000 by decide)) (fun H2 c2 h2=>?_)
 replace h2:H2 x=some (.ins zcp2 dx [("numbers",.ref ln)]):=h2
 have e2:∀ y o,y≠x->H1 y=some o->H2 y=some o:=c2
 have flx:ln≠x:=Ne.symm (za4 hx F1.facc)
 refine zf0 h2 Y.cl_Grid Y.na_Grid_numbers rfl ?_
 refine zai6 (e2 _ _ flx F1.out) ?_
 refine zc3 (fun p3 H3 f3 s3 h3=>?_)
 refine zaq7 h3 (by rfl') (by rfl') (by rw[zdf9];simp;omega) (fun p4 H4 f4 s4 h4=>?_)
 refine zc3 (fun p5 H5 f5 s5 h5=>?_)
 refine zag5 (s5 _ _ h4) h5 (by rw[zdf9];simp;omega) (fun p6 H6 f6 s6 h6=>?_)
 ac_nf
 have s26:Same H2 H6:=((s3.trans s4).trans s5).trans s6
 refine zan1 (s26 _ _ (e2 _ _ flx F1.out)) (by rw[zcw0,F1.len,zdf9];omega) (fun H7 c7 h7=>?_)
 ac_nf
 have h7x:H7 x=some (.ins zcp2 dx [("numbers",.ref ln)]):=c7 _ _ (Ne.symm flx) (s26 _ _ h2)
 refine zx0 h7x Y.cl_Grid Y.na_Grid_divisor (hl:=(show (1:Nat)<1000 by decide)) (fun H8 c8 h8=>?_)
 replace h8:H8 x=some (.ins zcp2 dx [("numbers",.ref ln),("divisor",.int 1)]):=h8
 refine zj5 (by decide) (by decide) (by rfl') (by rfl') ?_
 rw[show ((((n:Nat):Int)) - 0).toNat=n by rfl']
 refine zab9 (n:=n) Wk.range (by rw[zdf9];omega) (fun i=>.tup (nV (nmT (false,i)))) (fun j σ=>∃ t:Option V,σ=[t]) ⟨none,rfl⟩ ?_ ?_
 ·rintro j v σ Hx R S hj s1 hx' ⟨t',rfl⟩ k'
  subst hx'
  refine br_T ?_
  refine zh9 (fun p2 Hy f2 s2 h2=>?_)
  ac_nf
  refine k' _ _ _ f2 s2 ?_ ⟨_,rfl⟩
  rw[h2]
  unfold nV nmT
  simp
 rintro la as H9 F9
 refine zx0 (F9.same _ _ h8) Y.cl_Grid Y.na_Grid_across (hl:=(show (2:Nat)<1000 by decide)) (fun H10 c10 h10=>?_)
 replace h10:H10 x=some (.ins zcp2 dx [("numbers",.ref ln),("divisor",.int 1),("across",.ref la)]):=h10
 have up1:∀ y o,y≠x->y≠ln->H1 y=some o->H8 y=some o:=fun y o n1 n2 e=>c8 y o n1 (c7 y o n2 (s26 y o (c2 y o n1 e)))
 have up0:∀ y o,y≠x->H y=some o->H8 y=some o:=fun y o n1 e=>up1 y o n1 (za4 e F1.facc) (F1.same y o e)
 have up9:∀ y o,y≠x->H8 y=some o->H10 y=some o:=fun y o n1 e=>c10 y o n1 (F9.same y o e)
 have ht10:=up9 _ _ (nx G.out) (up0 _ _ (nx G.out) G.out)
 refine zf2 ht10 ?_
 refine zj5 (by decide) (by decide) (by rw[zcw0,gl];omega) (by rw[zcw0,gl];omega) ?_
 rw[show ((((ps.map V.ref).length:Nat):Int) - 0).toNat=m by rw[zcw0,gl];omega]
 refine zab9 (n:=m) Wk.range (by rw[zdf9];omega) (fun i=>.tup (nV (nmT (true,i)))) (fun j σ=>∃ t:Option V,σ=[t]) ⟨none,rfl⟩ ?_ ?_
 ·rintro j v σ Hx R S hj s1 hx' ⟨t',rfl⟩ k'
  subst hx'
  refine br_T ?_
  refine zh9 (fun p2 Hy f2 s2 h2=>?_)
  ac_nf
  refine k' _ _ _ f2 s2 ?_ ⟨_,rfl⟩
  rw[h2]
  unfold nV nmT
  simp
 rintro ld ds H11 F11
 refine zx0 (F11.same _ _ h10) Y.cl_Grid Y.na_Grid_down (hl:=(show (3:Nat)<1000 by decide)) (fun H12 c12 h12=>?_)
 replace h12:H12 x=some (.ins zcp2 dx [("numbers",.ref ln),("divisor",.int 1),("across",.ref la),("down",.ref ld)]):=h12
 ac_nf
 have up11:∀ y o,y≠x->H10 y=some o->H12 y=some o:=fun y o n1 e=>c12 y o n1 (F11.same y o e)
 have up12:∀ y o,y≠x->H8 y=some o->H12 y=some o:=fun y o n1 e=>up11 y o n1 (up9 y o n1 e)
 have nx8:∀ {y:Addr},H8 y=none->y≠x:=fun e z=>by rw[z,h8] at e;cases e
 have nx10:∀ {y:Addr},H10 y=none->y≠x:=fun e z=>by rw[z,h10] at e;cases e
 have hln8:H8 ln=some (.lst ((qs++[p6]).map V.ref)):=by
  rw[zcx9];exact c8 _ _ flx h7
 have n6ln:p6≠ln:=fun z=>by
  have:=s26 _ _ (e2 _ _ flx F1.out)
  have f6':H5 ln=none:=z▸f6
  rw[(((s3.trans s4).trans s5) _ _ (e2 _ _ flx F1.out))] at f6';cases f6'
 have n6x:p6≠x:=fun z=>by
  have f6':H5 x=none:=z▸f6
  rw[((s3.trans s4).trans s5) _ _ h2] at f6';cases f6'
 have h68:H8 p6=some (.lst (rowV (n+1) fun c=>if c=n then 0 else -1)):=by
  rw[c8 _ _ n6x (c7 _ _ n6ln h6)]
  congr 2
  rw[zl6]
  simp only[if_true]
  congr 1
  have er:∀ k:Nat,(List.replicate k [V.int (-1)]).flatten=rowV k fun _=>-1:=by
   intro k
   induction k with
   | zero=>rfl
   | succ k ih=>rw[List.replicate_succ',List.flatten_append,ih,zl6];rfl
  rw[show ((n:Nat):Int).toNat=n by rfl']
  refine (er n).trans ?_
  unfold rowV
  exact zdb8 fun l hl=>by
   show V.int (-1)=V.int (if l=n then 0 else -1)
   rw[if_neg (by have:=zda0.mp hl;omega)]
 have row8:∀ i p,(qs++[p6])[i]?=some p->p≠x/\H8 p=some (.lst (rowV (n+1) ((zk2 A b m n).N i))):=by
  intro i p e
  by_cases hi:i<m
  ·rw[zcx4 (by rw[F1.len];exact hi)] at e
   obtain⟨z1,z2⟩:=F1.row i p e
   have npx:p≠x:=Ne.symm (za4 hx z1)
   refine⟨npx,?_⟩
   rw[up1 _ _ npx (fun z=>F1.nin (z▸zcw6 e)) z2]
   congr 2
   unfold rowV zk2
   refine zdb8 fun l _=>?_
   show V.int _=V.int (if i=m then _ else _)
   rw[if_neg (by rfl')]
  ·have hl:=(zcw2.mp e).1
   rw[zcw9,F1.len,zcy1] at hl
   have him:i=m:=by rfl'
   rw[him,zcx6 (by rw[F1.len];omega),F1.len,Nat.sub_self] at e
   cases e
   refine⟨n6x,?_⟩
   rw[h68,him]
   congr 2
   unfold rowV zk2
   refine zdb8 fun l _=>?_
   show V.int _=V.int (if m=m then _ else _)
   rw[if_pos rfl]
 refine q H12 ln la ld (qs++[p6]) as ds (fun y o n1 e=>up12 y o n1 (up0 y o n1 e)) ⟨h12,⟨up12 _ _ flx hln8,by rw[zcw9,F1.len];rfl,fun i p e=>up12 _ _ (row8 i p e).1 (row8 i p e).2⟩,?_,F9.len,fun c p e=>?_,?_,F11.len,fun k p e=>?_,?_,?_,?_,?_,?_⟩ F1.facc ?_ ?_
 ·exact up11 _ _ (nx8 F9.facc) (c10 _ _ (nx8 F9.facc) F9.out)
 ·have z:=F9.row c p e
  exact up11 _ _ (nx8 z.1) (c10 _ _ (nx8 z.1) z.2)
 ·exact c12 _ _ (nx10 F11.facc) F11.out
 ·have z:=F11.row k p e
  exact c12 _ _ (nx10 z.1) z.2
 ·exact za4 (c10 _ _ (nx8 F9.facc) F9.out) F11.facc
 ·exact za4 hln8 F9.facc
 ·exact za4 (up9 _ _ flx hln8) F11.facc
 ·intro z
  obtain⟨i,hi⟩:=zcy5 z
  have:=(row8 i _ hi).2
  rw[F9.facc] at this;cases this
 ·intro z
  obtain⟨i,hi⟩:=zcy5 z
  have:=up9 _ _ (row8 i _ hi).1 (row8 i _ hi).2
  rw[F11.facc] at this;cases this
 ·cases e:H la with
  | none=>rfl
  | some o=>have:=up0 _ _ (nx8 F9.facc) e;rw[F9.facc] at this;cases this
 ·cases e:H ld with
  | none=>rfl
  | some o=>have:=up9 _ _ (nx10 F11.facc) (up0 _ _ (nx10 F11.facc) e);rw[F11.facc] at this;cases this
noncomputable def lg(t b:Int):Int:=if b<0 then 0 - (t.gcd b:Int) else (t.gcd b:Int)
noncomputable def lowT(t b:Int):Int:=t.fdiv (lg t b)
noncomputable def lowB(t b:Int):Int:=b.fdiv (lg t b)
theorem zal1{t b:Int}(h:b≠0):0<(t.gcd b:Int):=by
 have:0<t.gcd b:=Int.gcd_pos_of_ne_zero_right _ h
 omega
theorem zch7{t b:Int}(h:b≠0):(t.gcd b:Int)<=b.natAbs:=by
 have:=Int.gcd_le_natAbs_right t h
 omega
theorem zbj5(t b:Int):lg t b∣t:=by
 unfold lg;split
 ·rw[Int.zero_sub];exact Int.neg_dvd.mpr (Int.gcd_dvd_left _ _)
 ·exact Int.gcd_dvd_left _ _
theorem zbj3(t b:Int):lg t b∣b:=by
 unfold lg;split
 ·rw[Int.zero_sub];exact Int.neg_dvd.mpr (Int.gcd_dvd_right _ _)
 ·exact Int.gcd_dvd_right _ _
theorem zbd6(t b:Int):lowT t b=t / lg t b:=Int.fdiv_eq_ediv_of_dvd (zbj5 t b)
theorem zbg1(t b:Int):lowB t b=b / lg t b:=Int.fdiv_eq_ediv_of_dvd (zbj3 t b)
theorem zby3(t b:Int):(lowT t b).natAbs<=t.natAbs:=by rw[zbd6];exact Int.natAbs_ediv_le_natAbs _ _
theorem zbf7(t b:Int):(lowB t b).natAbs<=b.natAbs:=by rw[zbg1];exact Int.natAbs_ediv_le_natAbs _ _
theorem zy6(t b:Int):b=lg t b*lowB t b:=by rw[zbg1];exact (Int.mul_ediv_cancel' (zbj3 t b)).symm
theorem zac3(t b:Int):t=lg t b*lowT t b:=by rw[zbd6];exact (Int.mul_ediv_cancel' (zbj5 t b)).symm
theorem zah9{t b:Int}(h:b≠0):0<lowB t b:=by
 have e:=zy6 t b
 have g:=zal1 (t:=t) h
 by_cases hb:b<0
 ·have hl:lg t b<0:=by unfold lg;rw[if_pos hb];omega
  by_cases hk:0<lowB t b
  ·exact hk
  ·have:=Int.mul_nonneg_of_nonpos_of_nonpos (zcz5 hl) (show lowB t b<=0 by rfl')
   omega
 ·have hl:0<lg t b:=by unfold lg;rw[if_neg hb];omega
  by_cases hk:0<lowB t b
  ·exact hk
  ·have:=zda3 (zcz5 hl) (show lowB t b<=0 by rfl')
   omega
theorem zbm0{x:Int}(hx:0<=x)(hy:0<y):y.gcd (x % y)=x.gcd y:=by
 rw[zda4,zda4,Int.natAbs_emod_of_nonneg hx]
 exact (Nat.gcd_comm _ _).trans ((Nat.gcd_rec _ _).symm.trans (Nat.gcd_comm _ _))
theorem zci9(t b:Int):Int.gcd (t.natAbs:Int) (b.natAbs:Int)=t.gcd b:=by
 rw[zda4,zda4];simp
theorem zbv6{x:Int}(hx:0<=x)(hy:y=0):((x.gcd y:Nat):Int)=x:=by
 subst hy;rw[Int.gcd_zero_right];omega
theorem zcm7{t b:Int}(h:b≠0):Int.gcd (lowT t b) (lowB t b)=1:=by
 have e1:=zac3 t b
 have e2:=zy6 t b
 have g:=zal1 (t:=t) h
 have k:(lg t b).natAbs=t.gcd b:=by unfold lg;split<;>omega
 have z:t.gcd b=t.gcd b*Int.gcd (lowT t b) (lowB t b):=by
  have:=Int.gcd_mul_left (lg t b) (lowT t b) (lowB t b)
  rw[← e1,← e2,k] at this
  exact this
 have g':0<t.gcd b:=by rfl'
 exact (Nat.eq_of_mul_eq_mul_left g' (by rfl':t.gcd b*1=t.gcd b*Int.gcd (lowT t b) (lowB t b))).symm
@[irreducible] noncomputable def zd1:Sp:=fun vs H Q _=>∃ x y:Int,vs=[.int x,.int y]/\0<=x/\0<=y/\Q (.int (x.gcd y:Int)) H
theorem zs7{x:Int}(hx:0<=x)(hy:0<=y)(q:Q (.int (x.gcd y:Int)) H):zd1 [.int x,.int y] H Q E:=by
 unfold zd1;exact⟨x,y,rfl,hx,hy,q⟩
theorem zae6(F:Fun K "common_divisor" "common_divisor" zo8 f fd)(N:Nm mg):FnOk P w K mg base CX0 1 f fd ["one","other"] zd1:=by
 refine F.ok zj2 (fun vs H Q E h=>by unfold zd1 at h;obtain⟨n,k,rfl,_⟩:=h;rfl) fun _ _ _ s H vs Q E hr h=>?_
 unfold zd1 at h
 obtain⟨t,b,rfl,ht,hb,q⟩:=h
 have hu:=hu40 hr
 refine⟨_,(za2 (zas8 PassesOwn.never (ptC (oNeK (K:=K) rfl (by exact hu)) (pq 1) za3) (za2 (psS (i:=2) zj2.nd (zb2 oMod (pq 0) (pq 1)))
   (za2 (psS (i:=0) zj2.nd (pq 1))
   (za5 (psS (i:=1) zj2.nd (pq 2))))))
   (za5 (zb1 (pq 0)))),?_⟩
 refine zat9 (fun σ H2=>∃ (x y:Int) (r:Option V),σ=[some (.int x),some (.int y),r]/\H=H2/\0<=x/\0<=y/\x.gcd y=t.gcd b) (fun σ _=>match σ with | [_,some (.int y),_]=>y.toNat|_=>0) ?_ ?_
 ·exact⟨_,_,_,rfl,rfl,ht,hb,rfl⟩
 ·rintro σ H2 ⟨x,y,r,rfl,rfl,hx,hy,hg⟩
  ac_nf
  refine zcf2 (fun h=>?_) (fun h=>?_)
  ·have h:0<y:=by rfl'
   refine zbk6 (by rfl') ?_
   ac_nf
   have h1:=Int.emod_nonneg x (show y≠0 by rfl')
   have h2:=Int.emod_lt_of_pos x h
   refine⟨⟨_,_,_,rfl,rfl,hy,h1,?_⟩,?_⟩
   ·rw[zbm0 hx h];exact hg
   ·show (x % y).toNat<y.toNat
    omega
  ·ac_nf
   have e:x=(t.gcd b:Int):=by rw[← hg];exact (zbv6 hx h).symm
   rw[e];exact q
noncomputable def gcdR:Nat->(Nat->Int)->Int
 | 0,_=>0
 | n+1,f=>((gcdR n f).gcd (f n):Int)
theorem zu1(f:Nat->Int):∀ n,0<=gcdR n f
 | 0=>zdb5 _
 | n+1=>by unfold gcdR;exact Int.natCast_nonneg _
theorem zac1(f:Nat->Int):∀ {n i:Nat},i<n->gcdR n f∣f i
 | 0,_,h=>by rfl'
 | n+1,i,h=>by
  unfold gcdR
  by_cases e:i=n
  ·rw[e];exact Int.gcd_dvd_right ..
  ·exact Int.dvd_trans (Int.gcd_dvd_left ..) (zac1 f (by rfl'))
theorem zac6{f:Nat->Int}(hi:i<n)(h:0<f i):0<gcdR n f:=by
 have h1:=zu1 f n
 have h2:=zac1 f hi
 rcases Int.lt_or_eq_of_le h1 with h3|h3
 ·exact h3
 ·rw[← h3] at h2;have:=Int.zero_dvd.mp h2;omega
theorem zcm9{f:Nat->Int}(hi:i<n)(h:0<f i):gcdR n f<=f i:=Int.le_of_dvd h (zac1 f hi)
theorem Sm.le{i j:Int}(h:Sm j)(h0:0<=i)(h1:i<=j):Sm i:=by
 unfold Sm at h ⊢
 generalize 2 ^ 9000=B at h ⊢
 omega
@[irreducible] noncomputable def zo5:Sp:=fun vs H Q _=>∃ (w:Addr) (n i0:Nat) (f:Nat->Int),vs=[.ref w]/\H w=some (.lst (rowV n f))/\n<=100/\(∀ i,i<n->0<=f i)/\i0<n/\0<f i0/\Sm (f i0)/\∀ r H',H r=none->Same H H'->H' r=some (.lst (rowV n fun i=>f i / gcdR n f))->Q (.ref r) H'
theorem zam7{w:Addr}{i0:Nat}{f:Nat->Int}(h:H w=some (.lst (rowV n f)))(hn:n<=100)(h0:∀ i,i<n->0<=f i)(hi:i0<n)(hp:0<f i0)(hs:Sm (f i0))(q:∀ r H',H r=none->Same H H'->H' r=some (.lst (rowV n fun i=>f i / gcdR n f))->Q (.ref r) H'):zo5 [.ref w] H Q E:=by
 unfold zo5;exact⟨w,n,i0,f,rfl,h,hn,h0,hi,hp,hs,q⟩
theorem zbs5(F:Fun K "lowest" "lowest" zas3 f fd)(N:Nm mg)(zcp6:Def P w K mg base CX0 1 "common_divisor" ["one","other"] zd1):FnOk P w K mg base CX0 2 f fd ["weights"] zo5:=by
 refine F.ok zac8 (fun vs H Q E h=>by unfold zo5 at h;obtain⟨_,_,_,_,rfl,_⟩:=h;rfl) (fun cdv A outer st H vs Q E hr h=>?_)
 unfold zo5 at h
 obtain⟨w,n,i0,f,rfl,h,hn,h0,hi,hp,hs,q⟩:=h
 refine⟨_,(za2 (psS (i:=1) zac8.nd za3)
   (za2 (zaa4 PassesOwn.never rfl (zd8 (K:=K) rfl (pq 0)) (za7 (i:=2) zac8.nd rfl (by eq_refl)) (za5 (psS (i:=1) zac8.nd (pD zcp6 hr zb4 (za0 (pq 1) (za0 (pq 2) za1))))))
   (za5 (zb1 (zd6 (N:=["weight","divisor"]) (ks:=[none,some 1]) (zd8 (K:=K) rfl (pq 0)) (fun _ _ _ _ _=>(za7 (i:=0) nb_7 rfl (by eq_refl))) (fun _ _ _ _ _=>zc1) (fun _ _ _ _ _=>(zb2 oDiv (pq 0) (pq 1))) (.skip (.take rfl rfl (by eq_refl) .nil))))))),?_⟩
 refine zb6 h ?_
 refine zo6 (xs:=rowV n f) (fun i σ H1=>H1=H/\∃ t:Option V,σ=[some (.ref w),some (.int (gcdR i f)),t]) ⟨rfl,none,rfl⟩ ?_ ?_ ?_
 ·rintro i σ H1 _ ⟨rfl,_,_⟩
  exact SqL.of h
 ·rintro i v σ H1 hiv ⟨rfl,t,rfl⟩
  have hin:i<n:=by have:=(zcw2.mp hiv).1;rwa [zb7] at this
  rw[zd3 hin] at hiv
  cases hiv
  refine zs7 (zu1 f i) (h0 i hin) ?_
  ac_nf
  exact⟨rfl,_,rfl⟩
 ·rintro σ H1 ⟨rfl,t,rfl⟩
  rw[zb7]
  refine zb6 h ?_
  have W:=Wk.list (K:=K) (SqL.of h)
  rw[zb7] at W
  refine zi1 (n:=n) W (by rw[zdf9];omega) (fun i=>.int (f i / gcdR n f)) (fun _=>true) (fun j σ=>∃ t:Option V,σ=[t,some (.int (gcdR n f))]) ⟨none,rfl⟩ ?_ ?_
  ·rintro j v σ H2 R S hj s1 hx ⟨t,rfl⟩ k' _
   rw[zd3 hj] at hx
   cases hx
   refine br_T ?_
   refine zav0 (zac6 hi hp) (hs.le (zu1 f n) (zcm9 hi hp)) ?_
   ac_nf
   exact k' rfl _ _ (Same.refl _) ⟨_,rfl⟩
  intro acc H2 f1 s1 h1'
  rw[zd2] at h1'
  ac_nf
  exact q _ _ f1 s1 h1'
@[irreducible] noncomputable def zs3:Sp:=fun vs H Q _=>∃ (r:Addr) (n:Nat) (g:Nat->Int) (l:Int),vs=[.ref r,.int l]/\H r=some (.lst (rowV n g))/\n<=100/\∀ r' H',H r'=none->Same H H'->H' r'=some (.lst (rowV n fun i=>g i+l))->Q (.ref r') H'
theorem zbw7{r:Addr}{g:Nat->Int}{l:Int}(h:H r=some (.lst (rowV n g)))(hn:n<=100)(q:∀ r' H',H r'=none->Same H H'->H' r'=some (.lst (rowV n fun i=>g i+l))->Q (.ref r') H'):zs3 [.ref r,.int l] H Q E:=by
 unfold zs3;exact⟨r,n,g,l,rfl,h,hn,q⟩
theorem zbv7(F:Fun K "lifted" "lifted" zau6 f fd)(N:Nm mg):FnOk P w K mg base CX0 1 f fd ["row","lift"] zs3:=by
 refine F.ok zbz8 (fun vs H Q E h=>by unfold zs3 at h;obtain⟨_,_,_,_,rfl,_⟩:=h;rfl) (fun cdv A outer st H vs Q E hr h=>?_)
 unfold zs3 at h
 obtain⟨r,n,g,l,rfl,h,hn,q⟩:=h
 refine⟨_,(za5 (zb1 (zd6 (N:=["number","lift"]) (ks:=[none,some 1]) (zd8 (K:=K) rfl (pq 0)) (fun _ _ _ _ _=>(za7 (i:=0) nb_8 rfl (by eq_refl))) (fun _ _ _ _ _=>zc1) (fun _ _ _ _ _=>(zb2 oAdd (pq 0) (pq 1))) (.skip (.take rfl rfl (by eq_refl) .nil))))),?_⟩
 refine zb6 h ?_
 have W:=Wk.list (K:=K) (SqL.of h)
 rw[zb7] at W
 refine zi1 (n:=n) W (by rw[zdf9];omega) (fun i=>.int (g i+l)) (fun _=>true) (fun j σ=>∃ t:Option V,σ=[t,some (.int l)]) ⟨none,rfl⟩ ?_ ?_
 ·rintro j v σ H1 R S hj s1 hx ⟨t,rfl⟩ k' _
  rw[zd3 hj] at hx
  cases hx
  refine br_T ?_
  ac_nf
  exact k' rfl _ _ (Same.refl _) ⟨_,rfl⟩
 intro acc H1 f1 s1 h1'
 rw[zd2] at h1'
 ac_nf
 exact q _ _ f1 s1 h1'
noncomputable def nmK(x:SxN):List Key:=[.inr (nmT x).1,.inl (nmT x).2]
theorem zcd8{b:Bool}(h:(i:Int)=j):(b,i)=(b,j):=by rw[show i=j by rfl']
theorem zbt5{x y:SxN}(h:nmK x=nmK y):x=y:=by
 obtain⟨p,i⟩:=x
 obtain⟨q,j⟩:=y
 unfold nmK nmT at h
 have h3:¬ (("column":Str)=("row":Str)):=by decide
 have h4:¬ (("row":Str)=("column":Str)):=by decide
 cases p<;>cases q<;>simp[h3,h4] at h
 all_goals exact zcd8 h
theorem zck5(x:SxN):(nmK x).map kV=nV (nmT x):=rfl
noncomputable def nmP(as:List Addr)(n:Nat)(ac:Nat->SxN):List (Addr×List Key):=(List.range n).map fun c=>(as.getD c 0,nmK (ac c))
theorem zbg0(as:List Addr)(n:Nat)(ac:Nat->SxN):(nmP as n ac).length=n:=by unfold nmP;simp
theorem zca5(h:as.length=n)(ac:Nat->SxN):(nmP as n ac).map (fun p=>V.ref p.1)=as.map V.ref:=by
 unfold nmP
 apply zdc1
 intro i
 rw[zcw3,zcw3,zcw3]
 by_cases hi:i<n
 ·rw[zdb9 hi,zcv9 (show i<as.length by rfl')]
  simp[zcw7,zcv9 (show i<as.length by rfl')]
 ·rw[zcy2 (by simp;omega),zcy2 (by rfl')];rfl
theorem nmP_at(h:as.length=n){ac:Nat->SxN}{p:Addr×List Key}(e:(nmP as n ac)[i]?=some p):i<n/\as[i]?=some p.1/\p.2=nmK (ac i):=by
 have hi:=(zcw2.mp e).1
 rw[zbg0] at hi
 unfold nmP at e
 rw[zcw3,zdb9 hi] at e
 cases e
 refine⟨hi,?_,rfl⟩
 show as[i]?=some (as.getD i 0)
 rw[zcw7,zcv9 (show i<as.length by rfl')];rfl
theorem zce4(as:List Addr)(n:Nat)(ac:Nat->SxN):(nmP as n ac).map (·.2)=(List.range n).map fun c=>nmK (ac c):=by unfold nmP;rw[zdf0];rfl
theorem zy0{α:Type}{f:Nat->α}:∀ {n:Nat},(∀ i j,i<n->j<n->f i=f j->i=j)->((List.range n).map f).Nodup
 | 0,_=>List.nodup_nil
 | n+1,h=>by
  rw[zde6,zcx9,List.nodup_append]
  refine⟨zy0 fun i j hi hj e=>h i j (by rfl') (by rfl') e,by simp,fun a ha b hb e=>?_⟩
  simp only[zcz9,zde9,zdd5] at hb
  obtain⟨i,hi,rfl⟩:=zcz7.mp ha
  have hi:=zda0.mp hi
  have:=h i n (by rfl') (by rfl') (e.trans hb)
  omega
theorem zck4{n':Nat}{ac:Nat->SxN}{f:Nat->Int}(hinj:∀ i j,i<n->j<n->ac i=ac j->i=j)(hn:n<=n')(x:SxN) :
  ((valV (dzip ((nmP as n ac).map (·.2)) (rowV n' f) []) (nmK x)).getD (.int 0))=.int (sxS n fun c=>if ac c=x then f c else 0):=by
 rw[zce4]
 by_cases h:∃ c,c<n/\ac c=x
 ·obtain⟨c,hc,rfl⟩:=h
  rw[sxVal hinj hc,zbw6 (i:=c) (v:=.int (f c)) (zy0 fun i j hi hj e=>hinj i j hi hj (zbt5 e)) (by rw[zcw3,zdb9 hc];rfl) (zd3 (by rfl'))]
  rfl
 ·rw[zz1 fun k hk e=>h ⟨k,hk,e⟩,zas1 (fun hm=>?_)]
  ·rfl
  ·obtain⟨c,hc,e⟩:=zcz7.mp hm
   exact h ⟨c,zda0.mp hc,zbt5 e⟩
@[irreducible] noncomputable def zc8:Sp:=fun vs H Q _=>∃ (la lw:Addr) (as:List Addr) (n n' many:Nat) (bw:Bool) (ac:Nat->SxN) (f:Nat->Int),vs=[.str (nmT (bw,0)).1,.int many,.ref la,.ref lw]/\H la=some (.lst (as.map V.ref))/\as.length=n/\(∀ (c:Nat) (p:Addr),as[c]?=some p->H p=some (.tup (nV (nmT (ac c)))))/\(∀ i j,i<n->j<n->ac i=ac j->i=j) /\
 H lw=some (.lst (rowV n' f))/\n<=n'/\n<=100/\many<=100/\∀ r H',H r=none->Same H H'->H' r=some (.lst (rowV many fun i=>sxS n fun c=>if ac c=(bw,i) then f c else 0))->Q (.ref r) H'
theorem zq7{lw:Addr}{n' many:Nat}{ac:Nat->SxN}{f:Nat->Int}{wd:Str}(bw:Bool)(hw:wd=(nmT (bw,0)).1)(h1:H la=some (.lst (as.map V.ref)))(h2:as.length=n)(h3:∀ (c:Nat) (p:Addr),as[c]?=some p->H p=some (.tup (nV (nmT (ac c)))))(h4:∀ i j,i<n->j<n->ac i=ac j->i=j)(h5:H lw=some (.lst (rowV n' f)))(h6:n<=n')(h7:n<=100)(h8:many<=100)(q:∀ r H',H r=none->Same H H'->H' r=some (.lst (rowV many fun i=>sxS n fun c=>if ac c=(bw,i) then f c else 0))->Q (.ref r) H'):zc8 [.str wd,.int many,.ref la,.ref lw] H Q E:=by
 subst hw
 unfold zc8;exact⟨la,lw,as,n,n',many,bw,ac,f,rfl,h1,h2,h3,h4,h5,h6,h7,h8,q⟩
theorem zac2(F:Fun K "weights_by_name" "weights_by_name" zm7 f fd)(N:Nm mg):FnOk P w K mg base CX0 1 f fd ["word","many","names","weights"] zc8:=by
 refine F.ok zq8 (fun vs H Q E h=>by unfold zc8 at h;obtain⟨_,_,_,_,_,_,_,_,_,rfl,_⟩:=h;rfl) fun _ _ _ s H vs Q E hr h=>?_
 unfold zc8 at h
 obtain⟨la,lw,as,n,n',many,bw,ac,f,rfl,h1,h2,h3,h4,h5,h6,h7,h8,q⟩:=h
 have hu:=hu40 hr
 refine⟨_,(za2 (psS (i:=4) zq8.nd (peDZip (K:=K) rfl (by exact hu) N.dict_ N.zip_ (za0 (pq 2) (za0 (pq 3) za1))))
   (za5 (zb1 (zd6 (N:=["number","by_name","word"]) (ks:=[none,some 4,some 0]) (zs5 N.range_ (za0 (pq 1) za1)) (fun _ _ _ _ _=>(za7 (i:=0) nb_9 rfl (by eq_refl))) (fun _ _ _ _ _=>zc1) (fun _ _ _ _ _=>(zcd6 (by exact hu) (pq 1) (zx8 (za0 (pq 2) (za0 (pq 0) za1))) za3)) (.skip (.take rfl rfl (by eq_refl) (.take rfl rfl (by eq_refl) .nil))))))),?_⟩
 refine dz_rd (ps:=nmP as n ac) (by rw[zca5 h2];exact h1) h5 (fun i p e=>?_) (by rw[zbg0,zb7];exact h6) (by rw[zbg0,zdf9];omega) (fun d H1 f1 s1 hd=>?_)
 ·obtain⟨e1,e2,e3⟩:=nmP_at h2 e
  rw[e3,zck5];exact h3 i _ e2
 refine zj5 (by decide) (by decide) (by rfl') (by rfl') ?_
 rw[show ((((many:Nat):Int)) - 0).toNat=many by rfl']
 refine zi1 (n:=many) Wk.range (by rw[zdf9];omega) (fun i=>.int (sxS n fun c=>if ac c=(bw,i) then f c else 0)) (fun _=>true) (fun j σ=>∃ t:Option V,σ=[t,some (.ref d),some (.str (nmT (bw,0)).1)]) ⟨none,rfl⟩ ?_ ?_
 ·rintro j v σ H2 R S hj s2 hx ⟨t,rfl⟩ k' _
  obtain rfl:v=.int ((j:Nat):Int):=by first|(rw[hx];congr 1;omega)|exact hx
  refine br_T ?_
  refine zck1 (s2 _ _ hd) ?_
  refine zh9 (fun p3 H3 f3 s3 h3'=>?_)
  refine zcm5 (s3 _ _ (s2 _ _ hd)) (k:=nmK (bw,j)) h3' ?_
  rw[zck4 h4 h6]
  ac_nf
  exact k' rfl _ _ s3 ⟨_,rfl⟩
 intro acc H2 f2 s2 h2'
 rw[zd2] at h2'
 ac_nf
 exact q _ _ (s1.free f2) (s1.trans s2) h2'
theorem zbc6{s:SxGr}(hinj:∀ i j,i<n->j<n->s.ac i=s.ac j->i=j)(x:SxN):sxWr n s m x=0∨∃ c,c<n/\sxWr n s m x=s.N m c:=by
 unfold sxWr
 by_cases h:∃ c,c<n/\s.ac c=x
 ·obtain⟨c,hc,rfl⟩:=h
  exact .inr ⟨c,hc,sxVal hinj hc⟩
 ·exact .inl (zz1 fun k hk e=>h ⟨k,hk,e⟩)
theorem zbs0{s:SxGr}(hinj:∀ i j,i<m->j<m->s.dn i=s.dn j->i=j)(x:SxN):sxWc n s m x=0∨∃ k,k<m/\sxWc n s m x=s.N k n:=by
 unfold sxWc
 by_cases h:∃ c,c<m/\s.dn c=x
 ·obtain⟨c,hc,rfl⟩:=h
  exact .inr ⟨c,hc,sxVal hinj hc⟩
 ·exact .inl (zz1 fun k hk e=>h ⟨k,hk,e⟩)
theorem Sm.zero:Sm 0:=by unfold Sm;exact Nat.pow_pos (by decide)
noncomputable def wrL(n:Nat)(s:SxGr)(m:Nat)(i:Nat):Int:=sxWr n s m (true,i) / gcdR m fun i=>sxWr n s m (true,i)
noncomputable def wcL(n:Nat)(s:SxGr)(m:Nat)(j:Nat):Int:=sxWc n s m (false,j) / gcdR n fun j=>sxWc n s m (false,j)
@[irreducible] noncomputable def zh8(zcp2:Addr):Sp:=fun vs H Q _=>∃ (g:Addr) (m n i0:Nat) (s:SxGr) (dx ln la ld:Addr) (ps as ds:List Addr),vs=[.ref g]/\GrAt zcp2 H g m n s dx ln la ld ps as ds/\m<=90/\n<=90/\(∀ i j,i<n->j<n->s.ac i=s.ac j->i=j)/\(∀ c,c<n->0<=s.N m c)/\(∀ c,c<n->Sm (s.N m c))/\i0<m/\0<sxWr n s m (true,i0) /\
 ∀ r H',H r=none->Same H H'->H' r=some (.lst (rowV m (wrL n s m)))->Q (.ref r) H'
theorem zan4{g:Addr}{i0:Nat}{s:SxGr}{ln:Addr}(G:GrAt C H g m n s dx ln la ld ps as ds)(hm:m<=90)(hn:n<=90)(hi:∀ i j,i<n->j<n->s.ac i=s.ac j->i=j)(h0:∀ c,c<n->0<=s.N m c)(hz:∀ c,c<n->Sm (s.N m c))(h1:i0<m)(h2:0<sxWr n s m (true,i0))(q:∀ r H',H r=none->Same H H'->H' r=some (.lst (rowV m (wrL n s m)))->Q (.ref r) H'):zh8 C [.ref g] H Q E:=by
 unfold zh8;exact⟨g,m,n,i0,s,dx,ln,la,ld,ps,as,ds,rfl,G,hm,hn,hi,h0,hz,h1,h2,q⟩
theorem zap0(F:Fun K "row_weights" "row_weights" zu6 f fd)(N:Nm mg)(Y:Pz K mg zcp2 zcq5)(zcr3:Def P w K mg base CX0 2 "lowest" ["weights"] zo5)(zcp5:Def P w K mg base CX0 1 "weights_by_name" ["word","many","names","weights"] zc8):FnOk P w K mg base CX0 3 f fd ["grid"] (zh8 zcp2):=by
 refine F.ok zao1 (fun vs H Q E h=>by unfold zh8 at h;obtain⟨_,_,_,_,_,_,_,_,_,_,_,_,rfl,_⟩:=h;rfl) (fun cdv A outer st H vs Q E hr h=>?_)
 unfold zh8 at h
 obtain⟨g,m,n,i0,s,dx,ln,la,ld,ps,as,ds,rfl,G,hm,hn,hi,h0,hz,h1,h2,q⟩:=h
 have hu:=hu40 hr
 have pl:=G.num.len
 obtain⟨pm,epm⟩:∃ pm,ps[m]?=some pm:=⟨_,zcv9 (by rfl')⟩
 refine⟨_,(za5 (zb1 (pD zcr3 hr zb4 (za0 (pD zcp5 hr zb4 (za0 zp3 (za0 (pB (zm3 (K:=K) rfl) N.len_ zf7 (za0 (zo1 (K:=K) rfl (pq 0)) za1)) (za0 (zo1 (K:=K) rfl (pq 0)) (za0 (za8 (K:=K) rfl (zo1 (K:=K) rfl (pq 0)) (zw6 uNeg za3)) za1))))) za1)))),?_⟩
 refine zf0 G.out Y.cl_Grid Y.na_Grid_down rfl ?_
 refine zf2 G.dnl ?_
 rw[zcw0,G.dlen]
 refine zf0 G.out Y.cl_Grid Y.na_Grid_across rfl ?_
 refine zf0 G.out Y.cl_Grid Y.na_Grid_numbers rfl ?_
 refine zb5 G.num.out (zaf1 (n:=m) (by rw[zcw0,pl]) (by rw[zcw3,epm];rfl)) ?_
 refine zq7 true rfl G.acl G.alen G.acn hi (G.num.row m pm epm) (by rfl') (by rfl') (by rfl') (fun r1 H1 f1 s1 h1'=>?_)
 ac_nf
 have hz2:Sm (sxWr n s m (true,i0)):=by
  rcases zbc6 hi (m:=m) (true,i0) with e|⟨c,hc,e⟩
  ·rw[e];exact Sm.zero
  ·rw[e];exact hz c hc
 refine zam7 (f:=fun i=>sxWr n s m (true,i)) h1' (by rfl') (fun i _=>zk8 h0 _) h1 h2 hz2 (fun r2 H2 f2 s2 h2'=>?_)
 ac_nf
 exact q _ _ (s1.free f2) (s1.trans s2) h2'
@[irreducible] noncomputable def ze6(zcp2:Addr):Sp:=fun vs H Q _=>∃ (g:Addr) (m n j0:Nat) (s:SxGr) (dx ln la ld:Addr) (ps as ds:List Addr),vs=[.ref g]/\GrAt zcp2 H g m n s dx ln la ld ps as ds/\m<=90/\n<=90/\(∀ i j,i<m->j<m->s.dn i=s.dn j->i=j)/\(∀ k,k<m->0<=s.N k n)/\(∀ k,k<m->Sm (s.N k n))/\j0<n/\0<sxWc n s m (false,j0) /\
 ∀ r H',H r=none->Same H H'->H' r=some (.lst (rowV n (wcL n s m)))->Q (.ref r) H'
theorem zae0{g:Addr}{j0:Nat}{s:SxGr}{ln:Addr}(G:GrAt C H g m n s dx ln la ld ps as ds)(hm:m<=90)(hn:n<=90)(hi:∀ i j,i<m->j<m->s.dn i=s.dn j->i=j)(h0:∀ k,k<m->0<=s.N k n)(hz:∀ k,k<m->Sm (s.N k n))(h1:j0<n)(h2:0<sxWc n s m (false,j0))(q:∀ r H',H r=none->Same H H'->H' r=some (.lst (rowV n (wcL n s m)))->Q (.ref r) H'):ze6 C [.ref g] H Q E:=by
 unfold ze6;exact⟨g,m,n,j0,s,dx,ln,la,ld,ps,as,ds,rfl,G,hm,hn,hi,h0,hz,h1,h2,q⟩
theorem zae4(F:Fun K "column_weights" "column_weights" zo9 f fd)(N:Nm mg)(Y:Pz K mg zcp2 zcq5)(zcr3:Def P w K mg base CX0 2 "lowest" ["weights"] zo5)(zcp5:Def P w K mg base CX0 1 "weights_by_name" ["word","many","names","weights"] zc8):FnOk P w K mg base CX0 3 f fd ["grid"] (ze6 zcp2):=by
 refine F.ok zae3 (fun vs H Q E h=>by unfold ze6 at h;obtain⟨_,_,_,_,_,_,_,_,_,_,_,_,rfl,_⟩:=h;rfl) (fun cdv A outer st H vs Q E hr h=>?_)
 unfold ze6 at h
 obtain⟨g,m,n,j0,s,dx,ln,la,ld,ps,as,ds,rfl,G,hm,hn,hi,h0,hz,h1,h2,q⟩:=h
 have hu:=hu40 hr
 have pl:=G.num.len
 refine⟨_,(za5 (zb1 (pD zcr3 hr zb4 (za0 (pD zcp5 hr zb4 (za0 zp3 (za0 (pB (zm3 (K:=K) rfl) N.len_ zf7 (za0 (zo1 (K:=K) rfl (pq 0)) za1)) (za0 (zo1 (K:=K) rfl (pq 0)) (za0 (zd6 (N:=["row"]) (ks:=[none]) (zd8 (K:=K) rfl (zo1 (K:=K) rfl (pq 0))) (fun _ _ _ _ _=>(za7 (i:=0) nb_10 rfl (by eq_refl))) (fun _ _ _ _ _=>zc1) (fun _ _ _ _ _=>(za8 (K:=K) rfl (pq 0) (zw6 uNeg za3))) (.skip .nil)) za1))))) za1)))),?_⟩
 refine zf0 G.out Y.cl_Grid Y.na_Grid_across rfl ?_
 refine zf2 G.acl ?_
 rw[zcw0,G.alen]
 refine zf0 G.out Y.cl_Grid Y.na_Grid_down rfl ?_
 refine zf0 G.out Y.cl_Grid Y.na_Grid_numbers rfl ?_
 refine zb6 G.num.out ?_
 have W:=Wk.list (K:=K) (SqL.of G.num.out)
 rw[zcw0,pl] at W
 refine zi1 (n:=m+1) W (by rw[zdf9];omega) (fun k=>.int (s.N k n)) (fun _=>true) (fun j σ=>∃ t:Option V,σ=[t]) ⟨none,rfl⟩ ?_ ?_
 ·rintro j v σ H1 R S hj s1 hx ⟨t,rfl⟩ k' _
  rw[zcw3] at hx
  obtain⟨p,ep,rfl⟩:=zcx0.mp hx
  refine br_T ?_
  refine zb5 (s1 _ _ (G.num.row j p ep)) zab5 ?_
  ac_nf
  exact k' rfl _ _ (Same.refl _) ⟨_,rfl⟩
 intro acc H1 f1 s1 h1'
 rw[zd2] at h1'
 have G1:=G.same s1
 refine zq7 (n':=m+1) (f:=fun k=>s.N k n) false rfl G1.dnl G1.dlen G1.dnn hi h1' (by rfl') (by rfl') (by rfl') (fun r2 H2 f2 s2 h2'=>?_)
 ac_nf
 have hz2:Sm (sxWc n s m (false,j0)):=by
  rcases zbs0 hi (n:=n) (false,j0) with e|⟨c,hc,e⟩
  ·rw[e];exact Sm.zero
  ·rw[e];exact hz c hc
 refine zam7 (f:=fun i=>sxWc n s m (false,i)) h2' (by rfl') (fun i _=>zv0 h0 _) h1 h2 hz2 (fun r3 H3 f3 s3 h3'=>?_)
 ac_nf
 exact q _ _ (s1.free (s2.free f3)) ((s1.trans s2).trans s3) h3'
noncomputable def mnR(f:Nat->Int):Nat->Int
 | 0=>f 0
 | k+1=>if f (k+1)<mnR f k then f (k+1) else mnR f k
theorem zbm6(f:Nat->Int):∀ {k i:Nat},i<=k->mnR f k<=f i
 | 0,i,h=>by rw[show i=0 by rfl'];exact zdb5 _
 | k+1,i,h=>by
  unfold mnR
  by_cases e:i=k+1
  ·rw[e];split<;>omega
  ·have:=zbm6 f (k:=k) (i:=i) (by rfl')
   split<;>omega
theorem zbl4(f:Nat->Int):∀ k:Nat,∃ i,i<=k/\mnR f k=f i
 | 0=>⟨0,zcw4 _,rfl⟩
 | k+1=>by
  unfold mnR
  split
  ·exact⟨k+1,zcw4 _,rfl⟩
  ·obtain⟨i,h,e⟩:=zbl4 f k
   exact⟨i,by rfl',e⟩
theorem zcg7{f:Nat->Int}{M:Int}(hn:0<n)(h1:M∈(List.range n).map f)(h2:∀ a∈(List.range n).map f,M<=a):M=mnR f (n - 1):=by
 obtain⟨i,hi,rfl⟩:=zcz7.mp h1
 have hi:=zda0.mp hi
 have a:=zbm6 f (k:=n - 1) (i:=i) (by rfl')
 obtain⟨j,hj,e⟩:=zbl4 f (n - 1)
 have:=h2 (f j) (zcz7.mpr ⟨j,zda0.mpr (by rfl'),rfl⟩)
 omega
theorem zat0(n:Nat)(f:Nat->Int):rowV n f=((List.range n).map f).map V.int:=by unfold rowV;rw[zdf0];rfl
noncomputable def zad8(t:Nat->Nat->Int)(b:Nat->Int)(m n:Nat):Int:=1 - mnR (fun i=>mnR (t i) (n - 1) / b i) (m - 1)
noncomputable def sxAf(t:Nat->Nat->Int)(b:Nat->Int)(m n:Nat):Nat->Nat->Int:=fun i j=>t i j+zad8 t b m n*b i
theorem zau3{t:Nat->Nat->Int}{b:Nat->Int}(hb:1<=b i)(hi:i<m)(hj:j<n):0<sxAf t b m n i j:=by
 unfold sxAf zad8
 have h1:=zbm6 (t i) (k:=n - 1) (i:=j) (by rfl')
 have h2:=zbm6 (fun i=>mnR (t i) (n - 1) / b i) (k:=m - 1) (i:=i) (by rfl')
 have h3:=Int.ediv_mul_le (mnR (t i) (n - 1)) (show b i≠0 by rfl')
 generalize mnR (fun i=>mnR (t i) (n - 1) / b i) (m - 1)=lo at *
 generalize mnR (t i) (n - 1) / b i=x at *
 have h4:=zcy3 h2 (show 0<=b i by rfl')
 have e:(1 - lo)*b i=b i - lo*b i:=by rw[Int.sub_mul,zdd6]
 rw[e];omega
instance:Nonempty SxGr:=⟨⟨fun _=>(true,0),fun _=>(true,0),fun _ _=>0,0⟩⟩
noncomputable def zc5(t:Nat->Nat->Int)(b:Nat->Int)(m n:Nat):SxGr:=Classical.epsilon fun e=>zt0 (sxAf t b m n) b m n (zk2 (sxAf t b m n) b m n) e
theorem zcb5{t:Nat->Nat->Int}{b:Nat->Int}{e:SxGr}(h:zt0 (sxAf t b m n) b m n (zk2 (sxAf t b m n) b m n) e):e=zc5 t b m n:=
 zt0.uniq h (Classical.epsilon_spec (p:=fun e=>zt0 (sxAf t b m n) b m n (zk2 (sxAf t b m n) b m n) e) ⟨e,h⟩)
noncomputable def wtT(t:Nat->Nat->Int)(b:Nat->Int)(m n:Nat):Int:=(zc5 t b m n).d - zad8 t b m n*(zc5 t b m n).N m n
noncomputable def wtB(t:Nat->Nat->Int)(b:Nat->Int)(m n:Nat):Int:=(zc5 t b m n).N m n
noncomputable def wtR(t:Nat->Nat->Int)(b:Nat->Int)(m n:Nat)(i:Nat):Int:=wrL n (zc5 t b m n) m i*b i / gcdR m fun i=>wrL n (zc5 t b m n) m i*b i
noncomputable def wtC(t:Nat->Nat->Int)(b:Nat->Int)(m n:Nat)(j:Nat):Int:=wcL n (zc5 t b m n) m j
theorem zac9{f:Nat->Int}(hi:i<n)(h:0<f i):0<f i / gcdR n f:=by
 have h1:=zac6 hi h
 exact Int.ediv_pos_of_pos_of_dvd h (zcz5 h1) (zac1 f hi)
theorem zf3{f:Nat->Int}(h:0<=f i):0<=f i / gcdR n f:=Int.ediv_nonneg h (zu1 f n)
theorem zq9{f:Nat->Int}(h:0<=f i):f i / gcdR n f<=f i:=Int.ediv_le_self _ h
structure Bnd(t:Nat->Nat->Int)(b:Nat->Int)(m n M:Nat):Prop where
 one:1<=M
 ab:∀ i j,i<m->j<n->(sxAf t b m n i j).natAbs<=M
 bb:∀ i,i<m->(b i).natAbs<=M
 lb:(zad8 t b m n).natAbs<=M
 big:M*(zj1 (m+1)*M ^ (m+1))<2 ^ 9000
theorem zba0:∀ n,1<=zj1 n
 | 0=>zcw4 _
 | n+1=>by
  have:=zba0 n
  unfold zj1
  exact Nat.mul_pos (Nat.succ_pos _) this
theorem Bnd.pw{t:Nat->Nat->Int}{b:Nat->Int}{M:Nat}(B:Bnd t b m n M):1<=zj1 (m+1)*M ^ (m+1):=Nat.mul_pos (zba0 _) (Nat.pow_pos B.one)
theorem Bnd.sm{t:Nat->Nat->Int}{b:Nat->Int}{M:Nat}(B:Bnd t b m n M){x:Int}(h:x.natAbs<=M):Sm x:=by
 unfold Sm
 have:=Nat.mul_le_mul_left M B.pw
 have:=B.big
 omega
theorem Bnd.sm2{t:Nat->Nat->Int}{b:Nat->Int}{M:Nat}(B:Bnd t b m n M){x:Int}(h:x.natAbs<=zj1 (m+1)*M ^ (m+1)):Sm x:=by
 unfold Sm
 have:=zdb0 (zj1 (m+1)*M ^ (m+1)) B.one
 have:=B.big
 omega
theorem Bnd.sm3{t:Nat->Nat->Int}{b:Nat->Int}{M:Nat}(B:Bnd t b m n M){x:Int}(h:x.natAbs<=zj1 (m+1)*M ^ (m+1))(h':y.natAbs<=M):Sm (x*y):=by
 unfold Sm
 rw[zdb3,Nat.mul_comm]
 exact Nat.lt_of_le_of_lt (zdc2 h' h) B.big
theorem Bnd.all{t:Nat->Nat->Int}{b:Nat->Int}{M:Nat}(B:Bnd t b m n M):∀ s',SxOk (sxAf t b m n) b m n s'->(∀ k l,k<=m->l<=n->Sm (s'.N k l))/\Sm s'.d:=fun s' ok=>by
 have z:=ok.small B.one B.ab B.bb
 exact⟨fun k l hk hl=>B.sm2 (z.1 k l hk hl),B.sm2 z.2⟩
@[irreducible] noncomputable def zt9:Sp:=fun vs H Q _=>∃ t b:Int,vs=[.int t,.int b]/\0<b/\Sm b/\∀ p H',H p=none->Same H H'->H' p=some (.tup [.int (lowT t b),.int (lowB t b)])->Q (.ref p) H'
theorem zbm7{t b:Int}(h0:0<b)(h1:Sm b)(q:∀ p H',H p=none->Same H H'->H' p=some (.tup [.int (lowT t b),.int (lowB t b)])->Q (.ref p) H'):zt9 [.int t,.int b] H Q E:=by
 unfold zt9;exact⟨t,b,rfl,h0,h1,q⟩
theorem zab2{i j:Int}(h1:0<j)(h2:Sm j)(q:Q (.int (i.fdiv j)) H):zax3 i j H Q:=by
 unfold zax3
 exact⟨⟨by rfl',h2.log⟩,q⟩
theorem zcd0(F:Fun K "ratio" "ratio" zbh7 f fd)(N:Nm mg)(zcp6:Def P w K mg base CX0 1 "common_divisor" ["one","other"] zd1):FnOk P w K mg base CX0 2 f fd ["top","bottom"] zt9:=by
 refine F.ok zav3 (fun vs H Q E h=>by unfold zt9 at h;obtain⟨n,k,rfl,_⟩:=h;rfl) fun _ _ _ s H vs Q E hr h=>?_
 unfold zt9 at h
 obtain⟨t,b,rfl,hb,hs,q⟩:=h
 have hu:=hu40 hr
 have hb0:b≠0:=by rfl'
 refine⟨_,(za2 (psIf (ptC (oEqK (K:=K) rfl (by exact hu)) (pq 1) za3) (za5 zy7) zb8)
   (za2 (psS (i:=2) zav3.nd (pD zcp6 hr zb4 (za0 (pB cAbs N.abs_ zbk8 (za0 (pq 0) za1)) (za0 (pB cAbs N.abs_ zbk8 (za0 (pq 1) za1)) za1))))
   (za2 (psCut (psIf (ptC oLt (pq 1) za3) (za5 (psS (i:=2) zav3.nd (zw6 uNeg (pq 2)))) zb8))
   (za5 (zb1 (zx8 (za0 (zb2 oDiv (pq 0) (pq 2)) (za0 (zb2 oDiv (pq 1) (pq 2)) za1)))))))),?_⟩
 refine zt1 hb0 ?_
 refine zs7 (by rfl') (by rfl') ?_
 rw[zci9]
 have g1:=zal1 (t:=t) hb0
 have g2:=zch7 (t:=t) hb0
 have g3:Sm ((t.gcd b:Nat):Int):=hs.le (by rfl') (by rfl')
 have el:((t.gcd b:Nat):Int)=lg t b:=by unfold lg;rw[if_neg (by rfl')]
 ac_nf
 refine cut_id ?_
 refine zt1 (by rfl') ?_
 refine zab2 g1 g3 ?_
 refine zab2 g1 g3 ?_
 refine zh9 (fun p H' hf hs ha=>?_)
 rw[el] at ha
 exact q _ _ hf hs ha
theorem TabG.ne{x:Addr}(t:TabG T H)(h:H x=some o)(no:∀ u,o≠.tbl u):x≠T:=fun z=>by
 obtain⟨tab,e,_⟩:=t
 rw[z,e] at h;cases h;exact no _ rfl
theorem TabG.free{x:Addr}(c:Chg T H H')(t:TabG T H')(h:H' x=none):H x=none:=by
 cases e:H x with
 | none=>rfl
 | some o=>
  by_cases z:x=T
  ·obtain⟨tab,e',_⟩:=t
   rw[z,e'] at h;cases h
  ·rw[c x o z e] at h;cases h
theorem TabG.chg1{x:Addr}(t:TabG T H)(h:H x=some o)(no:∀ u,o≠.tbl u)(nf:∀ a u,o≠.frz a u)(c:Chg x H H'):TabG T H':=by
 obtain⟨tab,e,r⟩:=t
 refine⟨tab,c _ _ (fun z=>by rw[z,h] at e;cases e;exact no _ rfl) e,?_⟩
 rcases r with r|⟨c0,oc,vs,t0,e1,e2,r⟩
 ·exact .inl r
 ·exact .inr ⟨c0,oc,vs,t0,e1,c _ _ (fun z=>by rw[z,h] at e2;cases e2;exact nf _ _ rfl) e2,r⟩
@[irreducible] noncomputable def zj8(zcp2 a_tab:Addr):Sp:=fun vs H Q _=>∃ (t bt:Addr) (ps:List Addr) (m n M:Nat) (f:Nat->Nat->Int) (b:Nat->Int),vs=[.ref t,.ref bt]/\zd4 H t ps m n f/\H bt=some (.lst (rowV m b))/\(0<m/\m<=90)/\(0<n/\n<=90)/\TabG a_tab H/\(∀ i,i<m->1<=b i)/\Bnd f b m n M /\
 ∀ p fr r1 r2 H',Chg a_tab H H'->TabG a_tab H'->H p=none->H fr=none->H r1=none->H r2=none->H' p=some (.tup [.ref fr,.ref r1,.ref r2])->H' fr=some (.tup [.int (lowT (wtT f b m n) (wtB f b m n)),.int (lowB (wtT f b m n) (wtB f b m n))])->H' r1=some (.lst (rowV m (wtR f b m n)))->H' r2=some (.lst (rowV n (wtC f b m n))) ->
  zt0 (sxAf f b m n) b m n (zk2 (sxAf f b m n) b m n) (zc5 f b m n)->Q (.ref p) H'
theorem zas6{t bt:Addr}{M:Nat}{f:Nat->Nat->Int}{b:Nat->Int}(G:zd4 H t ps m n f)(hb:H bt=some (.lst (rowV m b)))(hm0:0<m)(hm:m<=90)(hn0:0<n)(hn:n<=90)(hT:TabG T H)(hb1:∀ i,i<m->1<=b i)(B:Bnd f b m n M)(q:∀ p fr r1 r2 H',Chg T H H'->TabG T H'->H p=none->H fr=none->H r1=none->H r2=none->H' p=some (.tup [.ref fr,.ref r1,.ref r2])->H' fr=some (.tup [.int (lowT (wtT f b m n) (wtB f b m n)),.int (lowB (wtT f b m n) (wtB f b m n))])->H' r1=some (.lst (rowV m (wtR f b m n)))->H' r2=some (.lst (rowV n (wtC f b m n))) ->
   zt0 (sxAf f b m n) b m n (zk2 (sxAf f b m n) b m n) (zc5 f b m n)->Q (.ref p) H'):zj8 C T [.ref t,.ref bt] H Q E:=by
 unfold zj8;exact⟨t,bt,ps,m,n,M,f,b,rfl,G,hb,⟨hm0,hm⟩,⟨hn0,hn⟩,hT,hb1,B,q⟩
theorem zat2(F:Fun K "worth_over" "worth_over" zw3 f fd)(N:Nm mg)(Y:Pz K mg zcp2 zcq5)(zcr1:Def P w K mg base CX0 3 "column_weights" ["grid"] (ze6 zcp2))(zcu2:DefI P w K mg base 1 zcq5 ["self","table","bottoms"] (zi3 zcp2))(zcv6:Def P w K mg base CX0 1 "lifted" ["row","lift"] zs3)(zcr3:Def P w K mg base CX0 2 "lowest" ["weights"] zo5)(zcu7:Def P w K mg base CX0 2 "ratio" ["top","bottom"] zt9)(zcs5:Def P w K mg base CX0 3 "row_weights" ["grid"] (zh8 zcp2))(zcs6:Def P w K mg base CX0 5 "turn_to_end" ["grid"] (zh5 zcp2 a_tab)):FnOk P w K mg base CX0 6 f fd ["table","bottoms"] (zj8 zcp2 a_tab):=by
 refine F.ok zm2 (fun vs H Q E h=>by unfold zj8 at h;obtain⟨_,_,_,_,_,_,_,_,rfl,_⟩:=h;rfl) (fun cdv A outer st H vs Q E hr h=>?_)
 unfold zj8 at h
 obtain⟨t,bt,ps,m,n,M,f,b,rfl,G,hb,⟨hm0,hm⟩,⟨hn0,hn⟩,hT,hb1,B,q⟩:=h
 have hu:=hu40 hr
 have gl:=G.len
 refine⟨_,(za2 (psS (i:=2) zm2.nd (zb2 oSub za3 (pB (cMinK (K:=K) rfl rfl) N.min_ zbn2 (za0 (zd6 (N:=["row","bottom"]) (ks:=[none,none]) (zay9 (K:=K) rfl N.zip_ (za0 (pq 0) (za0 (pq 1) za1))) (fun _ _ _ _ _=>(zp4 (K:=K) (n:=2) rfl rfl (zc2 (za7 (i:=0) nb_11 rfl (by eq_refl)) (zc2 (za7 (i:=1) nb_11 rfl (by eq_refl)) zp2)))) (fun _ _ _ _ _=>zc1) (fun _ _ _ _ _=>(zb2 oDiv (pB (cMinK (K:=K) rfl rfl) N.min_ zbn2 (za0 (pq 0) za1)) (pq 1))) (.skip (.skip .nil))) za1))))
   (za2 (psS (i:=3) zm2.nd (zcn3 Y.mk_Grid zcu2 (hr.mono (by decide)) Y.g_Grid zb4 (za0 (zd6 (N:=["row","bottom","lift"]) (ks:=[none,none,some 2]) (zay9 (K:=K) rfl N.zip_ (za0 (pq 0) (za0 (pq 1) za1))) (fun _ _ _ _ _=>(zp4 (K:=K) (n:=2) rfl rfl (zc2 (za7 (i:=0) nb_12 rfl (by eq_refl)) (zc2 (za7 (i:=1) nb_12 rfl (by eq_refl)) zp2)))) (fun _ _ _ _ _=>zc1) (fun _ _ _ _ _=>(pD zcv6 hr zb4 (za0 (pq 0) (za0 (zb2 oMul (pq 2) (pq 1)) za1)))) (.skip (.skip (.take rfl rfl (by eq_refl) .nil)))) (za0 (pq 1) za1))))
   (za2 (zl8 (pD zcs6 hr zb4 (za0 (pq 3) za1)))
   (za2 (psS (i:=4) zm2.nd (za8 (K:=K) rfl (za8 (K:=K) rfl (zo1 (K:=K) rfl (pq 3)) (zw6 uNeg za3)) (zw6 uNeg za3)))
   (za2 (psC (i:=5) (N:=["weight","bottom"]) (ks:=[none,none]) zm2.nd (zay9 (K:=K) rfl N.zip_ (za0 (pD zcs5 hr zb4 (za0 (pq 3) za1)) (za0 (pq 1) za1))) (fun _ _ _ _ _=>(zp4 (K:=K) (n:=2) rfl rfl (zc2 (za7 (i:=0) nb_13 rfl (by eq_refl)) (zc2 (za7 (i:=1) nb_13 rfl (by eq_refl)) zp2)))) (fun _ _ _ _ _=>zc1) (fun _ _ _ _ _=>(zb2 oMul (pq 0) (pq 1))) (.skip (.skip .nil)))
   (za5 (zb1 (zx8 (za0 (pD zcu7 hr zb4 (za0 (zb2 oSub (zo1 (K:=K) rfl (pq 3)) (zb2 oMul (pq 2) (pq 4))) (za0 (pq 4) za1))) (za0 (pD zcr3 hr zb4 (za0 (pq 5) za1)) (za0 (pD zcr1 hr zb4 (za0 (pq 3) za1)) za1))))))))))),?_⟩
 refine zbb8 (SqL.of G.out) (SqL.of hb) ?_
 refine zi1 (n:=m) (Wk.zip (SqL.of G.out) (SqL.of hb) (by rw[zcw0,gl]) (zb7 m b)) (by rw[zdf9];omega) (fun i=>.int (mnR (f i) (n - 1) / b i)) (fun _=>true) (fun j σ=>∃ t u:Option V,σ=[t,u]) ⟨none,none,rfl⟩ ?_ ?_
 ·rintro j v σ H1 R S hj s1 ⟨p,y,z,rfl,hp,hy,hz⟩ ⟨t',u',rfl⟩ k' _
  rw[zcw3] at hy
  obtain⟨pj,epj,rfl⟩:=zcx0.mp hy
  rw[zd3 hj] at hz
  cases hz
  refine zk9 hp ?_
  refine br_T ?_
  ac_nf
  have hrow:=s1 _ _ (G.row j pj epj)
  rw[zat0] at hrow
  refine zbv0 (SqL.of hrow) (by simp;omega) (fun M1 m1 m2=>?_)
  rw[zcg7 hn0 m1 m2]
  refine zav0 (hb1 j hj) (B.sm (B.bb j hj)) ?_
  ac_nf
  exact k' rfl _ _ (Same.refl _) ⟨_,_,rfl⟩
 intro acc H1 f1 s1 h1'
 rw[zd2] at h1'
 replace h1':H1 acc=some (.lst (((List.range m).map fun i=>mnR (f i) (n - 1) / b i).map V.int)):=by
  rw[h1',zdf0];rfl
 refine zbv0 (SqL.of h1') (by simp;omega) (fun M1 m1 m2=>?_)
 rw[zcg7 (f:=fun i=>mnR (f i) (n - 1) / b i) hm0 m1 m2]
 clear m1 m2 h1' M1
 ac_nf
 have el:1 - mnR (fun i=>mnR (f i) (n - 1) / b i) (m - 1)=zad8 f b m n:=rfl
 rw[el]
 have G1:=G.same s1
 have hb1':=s1 _ _ hb
 have T1:TabG a_tab H1:=hT.same s1
 refine zbb8 (SqL.of G1.out) (SqL.of hb1') ?_
 refine zab9 (n:=m) (Wk.zip (SqL.of G1.out) (SqL.of hb1') (by rw[zcw0,gl]) (zb7 m b)) (by rw[zdf9];omega) (fun i=>.lst (rowV n (sxAf f b m n i))) (fun j σ=>∃ t u:Option V,σ=[t,u,some (.int (zad8 f b m n))]) ⟨none,none,rfl⟩ ?_ ?_
 ·rintro j v σ H2 R S hj s2 ⟨p,y,z,rfl,hp,hy,hz⟩ ⟨t',u',rfl⟩ k'
  rw[zcw3] at hy
  obtain⟨pj,epj,rfl⟩:=zcx0.mp hy
  rw[zd3 hj] at hz
  cases hz
  refine zk9 hp ?_
  refine br_T ?_
  refine zf8 (B.sm B.lb) (B.sm (B.bb j hj)) ?_
  refine zbw7 (s2 _ _ (G1.row j pj epj)) (by rfl') (fun r3 H3 f3 s3 h3=>?_)
  ac_nf
  exact k' _ _ _ f3 s3 h3 ⟨_,_,rfl⟩
 rintro tl qs H2 F2
 have s02:Same H H2:=s1.trans F2.same
 have GA:zd4 H2 tl qs m n (sxAf f b m n):=⟨F2.out,F2.len,fun i p e=>(F2.row i p e).2⟩
 have T2:TabG a_tab H2:=T1.same F2.same
 refine zci2 (fun g dx H3 fg fdx ndx s3 hdx hg=>?_)
 have T3:TabG a_tab H3:=T2.same s3
 refine zba3 hg (GA.same s3) (s3 _ _ (s02 _ _ hb)) hm0 hm hn0 hn (fun H4 ln la ld qs4 as4 ds4 c4 G4 fln fla fld=>⟨rfl,?_⟩)
 have T4:TabG a_tab H4:=T3.chg1 hg (fun _ z=>nomatch z) (fun _ _ z=>nomatch z) c4
 have c04:∀ x o,H x=some o->H4 x=some o:=fun x o e=>c4 _ _ (za4 (s02 _ _ e) fg) (s3 _ _ (s02 _ _ e))
 refine zan9 G4 hm0 hm hn T4 (zbp0 _ _ _ _) (zba8 fun i hi=>by have:=hb1 i hi;omega) (fun i j hi hj=>zau3 (hb1 i hi) hi hj) B.all (fun H5 e ln5 ps5 as5 ds5 c5 T5 G5 F5=>?_)
 have ee:=zcb5 F5
 subst ee
 have frs:∀ {x:Addr}{o:HO},H x=some o->x≠g/\x≠la/\x≠ld:=fun {x o} h=>⟨za4 (s02 _ _ h) fg,za4 (s3 _ _ (s02 _ _ h)) fla,za4 (s3 _ _ (s02 _ _ h)) fld⟩
 have c05:Chg a_tab H H5:=fun x o h4 h=>c5 x o (frs h).1 (frs h).2.1 (frs h).2.2 h4 (c04 x o h)
 have ok5:=F5.ok
 obtain⟨z5,zd5⟩:=B.all _ ok5
 have sml:=ok5.small B.one B.ab B.bb
 have pos5:=zak0 ok5 F5.last hn0 (fun i j hi hj=>zau3 (hb1 i hi) hi hj) hb1
 have pl5:=G5.num.len
 obtain⟨pm,epm⟩:∃ pm,ps5[m]?=some pm:=⟨_,zcv9 (by rfl')⟩
 have hb5:H5 bt=some (.lst (rowV m b)):=c05 _ _ (hT.ne hb (fun _ z=>nomatch z)) hb
 refine zf0 G5.out Y.cl_Grid Y.na_Grid_numbers rfl ?_
 refine zb5 G5.num.out (zaf1 (n:=m) (by rw[zcw0,pl5]) (by rw[zcw3,epm];rfl)) ?_
 refine zb5 (G5.num.row m pm epm) zab5 ?_
 obtain⟨i0,hi0,hp0⟩:=zaa9 (m:=m) (f:=fun i=>b i*sxWr n (zc5 f b m n) m (true,i)) (by rw[← ok5.rows_worth];exact pos5)
 have hw0:0<sxWr n (zc5 f b m n) m (true,i0):=by
  rcases Int.lt_or_le 0 (sxWr n (zc5 f b m n) m (true,i0)) with h|h
  ·exact h
  ·have:=zda3 (show 0<=b i0 by have:=hb1 i0 hi0;omega) h
   omega
 obtain⟨j0,hj0,hc0⟩:=zaa9 (m:=n) (f:=fun j=>sxWc n (zc5 f b m n) m (false,j)) (by rw[← ok5.cols_worth];exact pos5)
 refine zan4 G5 hm hn ok5.nm.ainj F5.last (fun c hc=>z5 m c (by rfl') (by rfl')) hi0 hw0 (fun r6 H6 f6 s6 h6=>?_)
 have hb6:=s6 _ _ hb5
 have wle:∀ i,(wrL n (zc5 f b m n) m i).natAbs<=zj1 (m+1)*M ^ (m+1):=fun i=>by
  unfold wrL
  have h1:=zk8 (m:=m) F5.last (true,i)
  have h2:=zq9 (f:=fun i=>sxWr n (zc5 f b m n) m (true,i)) (n:=m) (i:=i) h1
  have h3:=zf3 (f:=fun i=>sxWr n (zc5 f b m n) m (true,i)) (n:=m) (i:=i) h1
  have h4:(sxWr n (zc5 f b m n) m (true,i)).natAbs<=zj1 (m+1)*M ^ (m+1):=by
   rcases zbc6 (m:=m) ok5.nm.ainj (true,i) with e|⟨c,hc,e⟩
   ·rw[e];exact zcz6 _
   ·rw[e];exact sml.1 m c (by rfl') (by rfl')
  omega
 have wnn:∀ i,0<=wrL n (zc5 f b m n) m i:=fun i=>zf3 (f:=fun i=>sxWr n (zc5 f b m n) m (true,i)) (zk8 (m:=m) F5.last (true,i))
 refine zbb8 (SqL.of h6) (SqL.of hb6) ?_
 refine zi1 (n:=m) (Wk.zip (SqL.of h6) (SqL.of hb6) (zb7 m _) (zb7 m b)) (by rw[zdf9];omega) (fun i=>.int (wrL n (zc5 f b m n) m i*b i)) (fun _=>true) (fun j σ=>∃ t u:Option V,σ=[t,u]) ⟨none,none,rfl⟩ ?_ ?_
 ·rintro j v σ H7 R S hj s7 ⟨p,y,z,rfl,hp,hy,hz⟩ ⟨t',u',rfl⟩ k' _
  rw[zd3 hj] at hy hz
  cases hy
  cases hz
  refine zk9 hp ?_
  refine br_T ?_
  refine zf8 (B.sm2 (wle j)) (B.sm (B.bb j hj)) ?_
  ac_nf
  exact k' rfl _ _ (Same.refl _) ⟨_,_,rfl⟩
 intro rw7 H7 f7 s7 h7
 rw[zd2] at h7
 have s57:=s6.trans s7
 have G7:=G5.same s57
 refine zf0 G7.out Y.cl_Grid Y.na_Grid_divisor rfl ?_
 refine zf8 (B.sm B.lb) (z5 m n (zcw4 _) (zcw4 _)) ?_
 refine zbm7 pos5 (z5 m n (zcw4 _) (zcw4 _)) (fun fr H8 f8 s8 h8=>?_)
 ac_nf
 have wp0:0<wrL n (zc5 f b m n) m i0:=zac9 (f:=fun i=>sxWr n (zc5 f b m n) m (true,i)) hi0 hw0
 refine zam7 (n:=m) (f:=fun i=>wrL n (zc5 f b m n) m i*b i) (i0:=i0) (s8 _ _ h7) (by rfl') (fun i hi=>zda2 (wnn i) (by have:=hb1 i hi;omega)) hi0 (zdd7 wp0 (by have:=hb1 i0 hi0;omega)) (B.sm3 (wle i0) (B.bb i0 hi0)) (fun r9 H9 f9 s9 h9=>?_)
 refine zae0 ((G7.same s8).same s9) hm hn ok5.nm.dinj F5.feas (fun k hk=>z5 k n (by rfl') (by rfl')) hj0 hc0 (fun r10 H10 f10 s10 h10=>?_)
 refine zh9 (fun p H11 f11 s11 h11=>?_)
 ac_nf
 have s5x:=((s57.trans s8).trans s9).trans s10
 have s511:=s5x.trans s11
 refine q p fr r9 r10 H11 (fun x o h4 h=>s511 _ _ (c05 x o h4 h)) (T5.same s511) (TabG.free c05 T5 (s5x.free f11)) (TabG.free c05 T5 (s57.free f8)) (TabG.free c05 T5 ((s57.trans s8).free f9)) (TabG.free c05 T5 (((s57.trans s8).trans s9).free f10)) h11 ?_ (s11 _ _ (s10 _ _ h9)) (s11 _ _ h10) F5
 exact s11 _ _ (s10 _ _ (s9 _ _ h8))
@[irreducible] noncomputable def zh2(zcp2 a_tab:Addr):Sp:=fun vs H Q _=>∃ (t:Addr) (ps:List Addr) (m n M:Nat) (f:Nat->Nat->Int),vs=[.ref t]/\zd4 H t ps m n f/\(0<m/\m<=90)/\(0<n/\n<=90)/\TabG a_tab H/\Bnd f (fun _=>1) m n M /\
 ∀ p fr r1 r2 H',Chg a_tab H H'->TabG a_tab H'->H p=none->H fr=none->H r1=none->H r2=none->H' p=some (.tup [.ref fr,.ref r1,.ref r2])->H' fr=some (.tup [.int (lowT (wtT f (fun _=>1) m n) (wtB f (fun _=>1) m n)),.int (lowB (wtT f (fun _=>1) m n) (wtB f (fun _=>1) m n))])->H' r1=some (.lst (rowV m (wtR f (fun _=>1) m n)))->H' r2=some (.lst (rowV n (wtC f (fun _=>1) m n))) ->
  zt0 (sxAf f (fun _=>1) m n) (fun _=>1) m n (zk2 (sxAf f (fun _=>1) m n) (fun _=>1) m n) (zc5 f (fun _=>1) m n)->Q (.ref p) H'
theorem zap4{t:Addr}{M:Nat}{f:Nat->Nat->Int}(G:zd4 H t ps m n f)(hm0:0<m)(hm:m<=90)(hn0:0<n)(hn:n<=90)(hT:TabG T H)(B:Bnd f (fun _=>1) m n M)(q:∀ p fr r1 r2 H',Chg T H H'->TabG T H'->H p=none->H fr=none->H r1=none->H r2=none->H' p=some (.tup [.ref fr,.ref r1,.ref r2])->H' fr=some (.tup [.int (lowT (wtT f (fun _=>1) m n) (wtB f (fun _=>1) m n)),.int (lowB (wtT f (fun _=>1) m n) (wtB f (fun _=>1) m n))])->H' r1=some (.lst (rowV m (wtR f (fun _=>1) m n)))->H' r2=some (.lst (rowV n (wtC f (fun _=>1) m n))) ->
   zt0 (sxAf f (fun _=>1) m n) (fun _=>1) m n (zk2 (sxAf f (fun _=>1) m n) (fun _=>1) m n) (zc5 f (fun _=>1) m n)->Q (.ref p) H'):zh2 C T [.ref t] H Q E:=by
 unfold zh2;exact⟨t,ps,m,n,M,f,rfl,G,⟨hm0,hm⟩,⟨hn0,hn⟩,hT,B,q⟩
theorem zan8(F:Fun K "table_worth" "table_worth" zv4 f fd)(N:Nm mg)(zct4:Def P w K mg base CX0 6 "worth_over" ["table","bottoms"] (zj8 zcp2 a_tab)):FnOk P w K mg base CX0 7 f fd ["table"] (zh2 zcp2 a_tab):=by
 refine F.ok zan6 (fun vs H Q E h=>by unfold zh2 at h;obtain⟨_,_,_,_,_,_,rfl,_⟩:=h;rfl) (fun cdv A outer st H vs Q E hr h=>?_)
 unfold zh2 at h
 obtain⟨t,ps,m,n,M,f,rfl,G,⟨hm0,hm⟩,⟨hn0,hn⟩,hT,B,q⟩:=h
 have hu:=hu40 hr
 have gl:=G.len
 refine⟨_,(za5 (zb1 (pD zct4 hr zb4 (za0 (pq 0) (za0 (zb2 oMul (zl1 (za0 za3 za1)) (pB (zm3 (K:=K) rfl) N.len_ zf7 (za0 (pq 0) za1))) za1))))),?_⟩
 refine zc3 (fun p1 H1 f1 s1 h1=>?_)
 refine zf2 (s1 _ _ G.out) ?_
 rw[zcw0,gl]
 refine zaq7 h1 (by rfl') (by rfl') (by rw[zdf9];simp;omega) (fun p2 H2 f2 s2 h2=>?_)
 have h2':H2 p2=some (.lst (rowV m fun _=>1)):=by
  rw[h2]
  congr 2
  have er:∀ k:Nat,(List.replicate k [V.int 1]).flatten=rowV k fun _=>1:=by
   intro k
   induction k with
   | zero=>rfl
   | succ k ih=>rw[List.replicate_succ',List.flatten_append,ih,zl6];rfl
  rw[show ((m:Nat):Int).toNat=m by rfl']
  exact er m
 have s02:=s1.trans s2
 refine zas6 (G.same s02) h2' hm0 hm hn0 hn (hT.same s02) (fun _ _=>zdb5 _) B (fun p fr r1 r2 H' c T' e1 e2 e3 e4 e5 e6 e7 e8 F=>?_)
 ac_nf
 exact q p fr r1 r2 H' (fun x o h4 h=>c x o h4 (s02 _ _ h)) T' (s02.free e1) (s02.free e2) (s02.free e3) (s02.free e4) e5 e6 e7 e8 F
theorem zal9(c f t:Nat):Wn (c+1) (f+1) t=Wn c (f+1) t+if c<=t then Wn (c+1) f (t - c) else 0:=rfl
theorem zca3(f t:Nat):Wn 0 (f+1) t=0:=by show g0 (f+1) t=0;unfold g0;simp
theorem zbh1:∀ (c t:Nat),Wn c 0 t=if t=0 then 1 else 0
 | 0,t=>by show g0 0 t=_;unfold g0;simp
 | c+1,t=>zbh1 c t
theorem zak8:∀ (c f t:Nat),0<=Wn c f t
 | 0,f,t=>by show 0<=g0 f t;unfold g0;split<;>omega
 | c+1,0,t=>zak8 c 0 t
 | c+1,f+1,t=>by
  rw[zal9]
  have h1:=zak8 c (f+1) t
  have h2:=zak8 (c+1) f (t - c)
  split<;>omega
theorem Wn_le1:∀ (c f t:Nat),Wn c f t<=Wn (c+1) f t
 | c,0,t=>zdb5 _
 | c,f+1,t=>by
  rw[zal9]
  have h2:=zak8 (c+1) f (t - c)
  split<;>omega
theorem zbx6{d:Nat}(h:c<=d)(f t:Nat):Wn c f t<=Wn d f t:=by
 induction h with
 | refl=>exact zdb5 _
 | step _ ih=>exact Int.le_trans ih (Wn_le1 _ f t)
noncomputable def Fall:Nat->List Nat->Prop
 | _,[]=>True
 | m,x :: xs=>x<=m/\Fall x xs
noncomputable def cnum:List Nat->Int
 | []=>0
 | x :: xs=>Wn x (xs.length+1) (x+xs.sum)+cnum xs
theorem zbd7:∀ xs:List Nat,0<=cnum xs
 | []=>zdb5 _
 | x :: xs=>by
  have h1:=zak8 x (xs.length+1) (x+xs.sum)
  have h2:=zbd7 xs
  unfold cnum
  omega
theorem zbh3:∀ (m:Nat) (xs:List Nat),Fall m xs->cnum xs<Wn (m+1) xs.length xs.sum
 | m,[],_=>by show (0:Int)<Wn (m+1) 0 0;rw[zbh1];decide
 | m,x :: xs,h=>by
  obtain⟨h1,h2⟩:=h
  have i:=zbh3 x xs h2
  have e:=zal9 x xs.length (x+xs.sum)
  rw[if_pos (zdf4 _ _),Nat.add_sub_cancel_left] at e
  have mo:=zbx6 (Nat.succ_le_succ h1) (xs.length+1) (x+xs.sum)
  show cnum (x :: xs)<Wn (m+1) (xs.length+1) (List.sum (x :: xs))
  rw[zde4]
  unfold cnum
  have:x.succ=x+1:=rfl
  have:m.succ=m+1:=rfl
  simp only[Nat.succ_eq_add_one] at mo
  omega
theorem Fall.le(h:Fall m xs)(l:m<=n):Fall n xs:=by
 cases xs with
 | nil=>trivial
 | cons x xs=>exact⟨zcy7 h.1 l,h.2⟩
theorem Fall.drop:∀ {xs:List Nat}{m:Nat}(i:Nat),Fall m xs->∃ m',m'<=m/\Fall m' (xs.drop i)
 | xs,m,0,h=>⟨m,zcw4 _,h⟩
 | [],m,i+1,_=>⟨m,zcw4 _,trivial⟩
 | x :: xs,m,i+1,h=>by
  obtain⟨m',a,b⟩:=Fall.drop i h.2
  exact⟨m',zcy7 a h.1,b⟩
theorem zbv3{x:Nat}(e:xs[i]?=some x):cnum (xs.drop i)=Wn x (xs.length - i) (xs.drop i).sum+cnum (xs.drop (i+1)):=by
 have hi:=(zcw2.mp e).1
 have hx:=(zcw2.mp e).2
 rw[zdb1 hi,hx]
 show Wn x ((xs.drop (i+1)).length+1) (x+(xs.drop (i+1)).sum)+_=_
 rw[zde4,zdd2,show xs.length - (i+1)+1=xs.length - i by rfl']
theorem zbq2{x:Nat}(F:Fall m xs)(e:xs[i]?=some x):cnum (xs.drop i)<Wn (x+1) (xs.length - i) (xs.drop i).sum:=by
 have hi:=(zcw2.mp e).1
 have hx:=(zcw2.mp e).2
 obtain⟨m',_,F'⟩:=Fall.drop i F
 rw[zdb1 hi,hx] at F' ⊢
 have:=zbh3 x (x :: xs.drop (i+1)) ⟨zcw4 _,F'.2⟩
 rw[zcy0,zdd2,show xs.length - (i+1)+1=xs.length - i by rfl'] at this
 exact this
noncomputable def pl(ns:List Nat):List V:=ns.map fun (n:Nat)=>V.int (n:Int)
noncomputable def il(ns:List Nat):List Int:=ns.map fun (n:Nat)=>(n:Int)
theorem pl_il(ns:List Nat):pl ns=(il ns).map V.int:=by unfold pl il;rw[zdf0];rfl
theorem zw9(ns:List Nat):(pl ns).length=ns.length:=by unfold pl;simp
theorem il_sum(ns:List Nat):(il ns).sum=(ns.sum:Int):=by
 induction ns with
 | nil=>rfl
 | cons n ns ih=>
  have:il (n :: ns)=(n:Int) :: il ns:=rfl
  rw[this,zde4,ih,zde4];push_cast;rfl
theorem pl_get{ns:List Nat}(h:ns[i]?=some n):(pl ns)[i]?=some (.int n):=by unfold pl;rw[zcw3,h];rfl
theorem pl_of{ns:List Nat}{x:V}(h:(pl ns)[i]?=some x):∃ n:Nat,x=.int n/\ns[i]?=some n:=by
 unfold pl at h
 rw[zcw3] at h
 obtain⟨n,e,rfl⟩:=zcx0.mp h
 exact⟨n,rfl,e⟩
theorem zcb1{ns:List Nat}(h:ns[i]?=some n):(ns.drop i).sum=n+(ns.drop (i+1)).sum:=by
 obtain⟨hi,e⟩:=zcw2.mp h
 rw[zdb1 hi,zde4,e]
noncomputable def allL:Nat->Nat->Nat->List (List Nat)
 | 0,h,_=>if h=0 then [[]] else []
 | f+1,h,m=>(List.range (min h m+1)).flatMap fun x=>(allL f (h - x) x).map (x :: ·)
noncomputable def allP(f h k:Nat):List (List Nat):=(List.range k).flatMap fun x=>(allL f (h - x) x).map (x :: ·)
theorem zbq7(f h:Nat):allP f h 0=[]:=rfl
theorem zac4(f h k:Nat):allP f h (k+1)=allP f h k++(allL f (h - k) k).map (k :: ·):=by unfold allP;rw[zde6,List.flatMap_append,List.flatMap_singleton]
theorem zcm0{f k:Nat}(hk:k<=j):(allP f h k).length<=(allP f h j).length:=by
 induction hk with
 | refl=>exact zcw4 _
 | step hk ih=>rw[zac4,zcw9];omega
structure AllOk(L:List (List Nat))(f h m:Nat)(W:Int):Prop where
 len:(L.length:Int)=W
 num:∀ (j:Nat) ns,L[j]?=some ns->cnum ns=j/\ns.length=f/\ns.sum=h/\Fall m ns
theorem Fall.mono:∀ {m n:Nat}{xs:List Nat},m<=n->Fall m xs->Fall n xs
 | _,_,[],_,_=>trivial
 | _,_,x :: xs,h,F=>⟨zcy7 F.1 h,F.2⟩
theorem zcl2{f t:Nat}(h:t<c):Wn (c+1) (f+1) t=Wn c (f+1) t:=by rw[zal9,if_neg (by rfl'),Int.add_zero]
theorem zbk1{f t:Nat}:∀ (d:Nat),Wn (t+1+d) (f+1) t=Wn (t+1) (f+1) t
 | 0=>rfl
 | d+1=>by rw[show t+1+(d+1)=(t+1+d)+1 by rfl',zcl2 (by rfl'),zbk1 d]
theorem zr9:∀ (f h m:Nat),AllOk (allL f h m) f h m (Wn (m+1) f h)
 | 0,h,m=>by
  rw[zbh1]
  unfold allL
  by_cases e:h=0
  ·subst e
   rw[if_pos rfl,if_pos rfl]
   refine⟨rfl,fun j ns e=>?_⟩
   cases j with
   | zero=>cases e;exact⟨rfl,rfl,rfl,trivial⟩
   | succ j=>simp at e
  ·rw[if_neg e,if_neg e]
   exact⟨rfl,fun j ns e=>by simp at e⟩
 | f+1,h,m=>by
  have key:∀ k,k<=h+1->k<=m+1->AllOk (allP f h k) (f+1) h m (Wn k (f+1) h):=by
   intro k
   induction k with
   | zero=>intro _ _;rw[zbq7,zca3];exact⟨rfl,fun j ns e=>by simp at e⟩
   | succ k ih=>
    intro h1 h2
    have ih:=ih (by rfl') (by rfl')
    have sub:=zr9 f (h - k) k
    rw[zac4,zal9,if_pos (by rfl')]
    refine⟨by rw[zcw9,zcw0];push_cast;rw[ih.len,sub.len],fun j ns e=>?_⟩
    by_cases hj:j<(allP f h k).length
    ·rw[zcx4 hj] at e
     exact ih.num j ns e
    ·rw[zcx6 (by rfl'),zcw3] at e
     obtain⟨ms,em,rfl⟩:=zcx0.mp e
     obtain⟨n1,n2,n3,n4⟩:=sub.num _ ms em
     refine⟨?_,by rw[zcy0,n2],by rw[zde4,n3];omega,⟨by rfl',n4⟩⟩
     unfold cnum
     rw[n1,n2,n3,show k+(h - k)=h by rfl',← ih.len]
     omega
  have fin:=key (min h m+1) (by rfl') (by rfl')
  have e:Wn (min h m+1) (f+1) h=Wn (m+1) (f+1) h:=by
   by_cases hm:m<=h
   ·rw[Nat.min_eq_right hm]
   ·rw[Nat.min_eq_left (by rfl')]
    have:=zbk1 (f:=f) (t:=h) (m - h)
    rw[show h+1+(m - h)=m+1 by rfl'] at this
    exact this.symm
  rw[e] at fin
  exact fin
theorem Wn_30{f:Nat}(h1:m<=10)(h2:f<=5)(h3:h<=10):Wn (m+1) f h<=30:=by
 have key:∀ m:Fin 11,∀ f:Fin 6,∀ h:Fin 11,Wn (m.1+1) f.1 h.1<=30:=by decide +kernel
 exact key ⟨m,by rfl'⟩ ⟨f,by rfl'⟩ ⟨h,by rfl'⟩
@[irreducible] noncomputable def zi5:Sp:=fun vs H Q _=>∃ i:Int,vs=[.int i]/\Q (.bl true) H
theorem zbu1{i:Int}(q:Q (.bl true) H):zi5 [.int i] H Q E:=by unfold zi5;exact⟨i,rfl,q⟩
theorem zbg5(F:Fun K "is_whole" "is_whole" zae5 f fd)(N:Nm mg):FnOk P w K mg base CX0 1 f fd ["thing"] zi5:=by
 refine F.ok zbg7 (fun vs H Q E h=>by unfold zi5 at h;obtain⟨n,rfl,_⟩:=h;rfl) fun _ _ _ s H vs Q E hr h=>?_
 unfold zi5 at h
 obtain⟨i,rfl,q⟩:=h
 refine⟨_,(za5 (zb1 (zab6 (pB (zah3 (K:=K) rfl) N.isinstance_ zc6 (za0 (pq 0) (za0 (pTy N.int_ zar8) za1))) (zq6 (peNot (pB (zah3 (K:=K) rfl) N.isinstance_ zc6 (za0 (pq 0) (za0 (pTy N.bool_ zbw3) za1)))))))),?_⟩
 repeat walk_at "st"
 ac_nf
 exact q
@[irreducible] noncomputable def zm5:Sp:=fun vs H Q _=>∃ i l:Int,vs=[.int i,.int l]/\Q (.bl (decide (l<=i))) H
theorem zbx3{i l:Int}(q:Q (.bl (decide (l<=i))) H):zm5 [.int i,.int l] H Q E:=by unfold zm5;exact⟨i,l,rfl,q⟩
theorem zbn9(F:Fun K "is_from" "is_from" zak6 f fd)(N:Nm mg)(zcp9:Def P w K mg base CX0 1 "is_whole" ["thing"] zi5):FnOk P w K mg base CX0 2 f fd ["thing","least"] zm5:=by
 refine F.ok zbp4 (fun vs H Q E h=>by unfold zm5 at h;obtain⟨n,k,rfl,_⟩:=h;rfl) fun _ _ _ s H vs Q E hr h=>?_
 unfold zm5 at h
 obtain⟨i,l,rfl,q⟩:=h
 refine⟨_,(za5 (zb1 (zab6 (pD zcp9 hr zb4 (za0 (pq 0) za1)) (zq6 (peC oLe (pq 1) (pq 0)))))),?_⟩
 refine zbu1 ?_
 walk_at "st"
 ac_nf
 exact q
@[irreducible] noncomputable def ze1:Sp:=fun vs H Q _=>∃ i l m:Int,vs=[.int i,.int l,.int m]/\Q (.bl (decide (l<=i/\i<=m))) H
theorem zar7{i l m:Int}(q:Q (.bl (decide (l<=i/\i<=m))) H):ze1 [.int i,.int l,.int m] H Q E:=by unfold ze1;exact⟨i,l,m,rfl,q⟩
theorem zav9{p q:Prop}[Decidable p][Decidable q](h:p):decide (p/\q)=decide q:=by simp[h]
theorem zaw0{p q:Prop}[Decidable p][Decidable q](h:¬ p):decide (p/\q)=false:=by simp[h]
theorem zaw2(F:Fun K "is_between" "is_between" zw8 f fd)(N:Nm mg)(zcr6:Def P w K mg base CX0 2 "is_from" ["thing","least"] zm5):FnOk P w K mg base CX0 3 f fd ["thing","least","most"] ze1:=by
 refine F.ok zat1 (fun vs H Q E h=>by unfold ze1 at h;obtain⟨n,k,_,rfl,_⟩:=h;rfl) fun _ _ _ s H vs Q E hr h=>?_
 unfold ze1 at h
 obtain⟨i,l,m,rfl,q⟩:=h
 refine⟨_,(za5 (zb1 (zab6 (pD zcr6 hr zb4 (za0 (pq 0) (za0 (pq 1) za1))) (zq6 (peC oLe (pq 0) (pq 2)))))),?_⟩
 refine zbx3 ?_
 refine zk1 (fun h=>?_) (fun h=>?_)
 ·ac_nf
  rw[zav9 h] at q
  exact q
 ·ac_nf
  rw[zaw0 h] at q
  exact q
@[irreducible] noncomputable def zp7:Sp:=fun vs H Q _=>∃ i l:Int,vs=[.int i,.int l]/\Q (.bl (decide ((0<=i/\i<=40)/\1<=l/\l<=8))) H
theorem iss_rd{i l:Int}(q:Q (.bl (decide ((0<=i/\i<=40)/\1<=l/\l<=8))) H):zp7 [.int i,.int l] H Q E:=by unfold zp7;exact⟨i,l,rfl,q⟩
theorem zbq3(F:Fun K "is_size" "is_size" zaj9 f fd)(N:Nm mg){zcq1:Tok}(c_MOST_FIELDS_plans:mg "MOST_FIELDS_plans"=some (.int 8 zcq1)){zcq4:Tok}(c_MOST_HOSTS_plans:mg "MOST_HOSTS_plans"=some (.int 40 zcq4))(zcp4:Def P w K mg base CX0 3 "is_between" ["thing","least","most"] ze1):FnOk P w K mg base CX0 4 f fd ["hosts","fields"] zp7:=by
 refine F.ok zbn6 (fun vs H Q E h=>by unfold zp7 at h;obtain⟨n,k,rfl,_⟩:=h;rfl) fun _ _ _ s H vs Q E hr h=>?_
 unfold zp7 at h
 obtain⟨i,l,rfl,q⟩:=h
 refine⟨_,(za5 (zb1 (zab6 (pD zcp4 hr zb4 (za0 (pq 0) (za0 za3 (za0 (zam4 (v:=.int 40) rfl c_MOST_HOSTS_plans ⟨_,rfl⟩) za1)))) (zq6 (pD zcp4 hr zb4 (za0 (pq 1) (za0 za3 (za0 (zam4 (v:=.int 8) rfl c_MOST_FIELDS_plans ⟨_,rfl⟩) za1)))))))),?_⟩
 refine zar7 ?_
 refine zk1 (fun h=>?_) (fun h=>?_)
 ·ac_nf
  refine zar7 ?_
  ac_nf
  rw[zav9 h] at q
  exact q
 ·ac_nf
  rw[zaw0 h] at q
  exact q
@[irreducible] noncomputable def zi2:Sp:=fun vs H Q _=>∃ i l:Int,vs=[.int i,.int l]/\(0<=i/\i<=40)/\(1<=l/\l<=8)/\Q .non H
theorem zcg3{i l:Int}(h1:0<=i)(h2:i<=40)(h3:1<=l)(h4:l<=8)(q:Q .non H):zi2 [.int i,.int l] H Q E:=by unfold zi2;exact⟨i,l,rfl,⟨h1,h2⟩,⟨h3,h4⟩,q⟩
theorem zba9(F:Fun K "look_size" "look_size" zaa0 f fd)(N:Nm mg)(zcv5:Def P w K mg base CX0 4 "is_size" ["hosts","fields"] zp7):FnOk P w K mg base CX0 5 f fd ["hosts","fields"] zi2:=by
 refine F.ok zax9 (fun vs H Q E h=>by unfold zi2 at h;obtain⟨n,k,rfl,_⟩:=h;rfl) fun _ _ _ s H vs Q E hr h=>?_
 unfold zi2 at h
 obtain⟨i,l,rfl,h1,h2,q⟩:=h
 refine⟨_,(za5 (psIf (zl3 (ptV (pD zcv5 hr zb4 (za0 (pq 0) (za0 (pq 1) za1))))) (za5 zy7) zb8)),?_⟩
 refine iss_rd ?_
 refine ze3 (zl5 ⟨h1,h2⟩ ?_)
 ac_nf
 exact q
noncomputable def zc4(H:Hp)(p c:Addr)(b:Int):Prop:=∃ (t:Int) (ns:List Int),c≠p/\H p=some (.lst [.ref c,.int t])/\H c=some (.lst (ns.map V.int))/\0<ns.length/\ns.length<=63/\0<=t/\t<=b
theorem zc4.same{p c:Addr}{b:Int}(h:zc4 H p c b)(s:Same H H'):zc4 H' p c b:=by
 obtain⟨t,ns,n,e1,e2,r⟩:=h
 exact⟨t,ns,n,s _ _ e1,s _ _ e2,r⟩
theorem zc4.up{p c:Addr}{b d:Int}(h:zc4 H p c b)(l:b<=d):zc4 H p c d:=by
 obtain⟨t,ns,n,e1,e2,e3,e4,e5,e6⟩:=h
 exact⟨t,ns,n,e1,e2,e3,e4,e5,by rfl'⟩
theorem zc4.neP{p c q:Addr}{b:Int}(h:zc4 H p c b)(f:H q=none):q≠p:=by
 obtain⟨t,ns,n,e1,e2,r⟩:=h
 exact Ne.symm (za4 e1 f)
theorem zc4.neC{H:Hp}{p c q:Addr}{b:Int}(h:zc4 H p c b)(f:H q=none):q≠c:=by
 obtain⟨t,ns,n,e1,e2,r⟩:=h
 exact Ne.symm (za4 e2 f)
local macro_rules | `(tactic| walk_at "pu")=>`(tactic| first|assumption|(refine zc4.same (H:=?H) ?l ?s;(case s=>assumption);(case l=>walk_at "pu"))|fail "pu")
local macro_rules | `(tactic| walk_at "ne")=>`(tactic| first|assumption|(apply Ne.symm;assumption)|(refine zc4.neP (H:=?H) (c:=?c) (b:=?b) ?l ?f;(case f=>assumption);(case l=>walk_at "pu"))|(refine zc4.neC (H:=?H) (p:=?p) (b:=?b) ?l ?f;(case f=>assumption);(case l=>walk_at "pu"))|fail "ne")
local macro_rules | `(tactic| walk_at "hp")=>`(tactic| first|assumption|(refine Same.at (H:=?H) ?s ?e;(case s=>assumption);(case e=>walk_at "hp"))|(refine Chg.at (a:=?a) (H:=?H) ?c ?e ?n;(case c=>assumption);(case n=>walk_at "ne");(case e=>walk_at "hp"))|(refine Chg2.at (a:=?a) (c:=?c) (H:=?H) ?x ?e ?n1 ?n2;(case x=>assumption);(case n1=>walk_at "ne");(case n2=>walk_at "ne");(case e=>walk_at "hp"))|fail "hp")
@[irreducible] noncomputable def zj3(K:zcw1):Sp:=fun vs H Q _=>∃ (a:Addr) (ns:List Int),vs=[.ref a]/\SqL K H a (ns.map V.int)/\ns.length<=63/\∀ p c H',H p=none->H c=none->Same H H'->zc4 H' p c 0->Q (.ref p) H'
theorem zcf0{a:Addr}{ns:List Int}{K:zcw1}(h1:SqL K H a (ns.map V.int))(h2:ns.length<=63)(q:∀ p c H',H p=none->H c=none->Same H H'->zc4 H' p c 0->Q (.ref p) H'):zj3 K [.ref a] H Q E:=by
 unfold zj3;exact⟨a,ns,rfl,h1,h2,q⟩
theorem zcb9{ns:List Int}{lo hi:Option Int}:∃ ms:List Int,cutV (ns.map V.int) lo hi=ms.map V.int/\ms.length<=ns.length:=by
 refine⟨(ns.drop (HT.sIx ns.length 0 lo)).take (HT.sIx ns.length ns.length hi - HT.sIx ns.length 0 lo),?_,?_⟩
 ·unfold cutV
  rw[zcw0,List.map_take,List.map_drop]
 ·rw[zde3,zdd2];omega
theorem zas7(F:Fun K "_law_purse" "_law_purse" zx7 f fd)(N:Nm mg):FnOk P w K mg base CX0 1 f fd ["_law_script"] (zj3 K):=by
 refine F.ok zu8 (fun vs H Q E h=>by unfold zj3 at h;obtain⟨n,k,rfl,_⟩:=h;rfl) fun _ _ _ s H vs Q E hr h=>?_
 unfold zj3 at h
 obtain⟨a,ns,rfl,hS,hl,q⟩:=h
 have hu:=hu40 hr
 refine⟨_,(za2 (psS (i:=1) zu8.nd (zau1 (slK (K:=K) rfl) (pq 0) zbd2 (zby9 za3)))
   (za2 (psCut (psIf (ptC (oEqK (K:=K) rfl (by exact hu)) (pq 1) (zl1 za1)) (za5 (psS (i:=1) zu8.nd (zl1 (za0 za3 za1)))) zb8))
   (za5 (zb1 (zl1 (za0 (pq 1) (za0 za3 za1))))))),?_⟩
 refine sl_rd hS (fun p1 H1 hf1 hs1 ha1=>?_)
 obtain⟨ms,em,lm⟩:=zcb9 (ns:=ns) (lo:=none) (hi:=some 63)
 rw[em] at ha1
 refine zbq8 (fun σ H4=>∃ (c:Addr) (ks:List Int),σ=[some (.ref a),some (.ref c)]/\H c=none/\Same H H4/\H4 c=some (.lst (ks.map V.int))/\0<ks.length/\ks.length<=63) ?_ ?_
 ·ac_nf
  refine zc3 (fun p2 H2 hf2 hs2 ha2=>?_)
  refine zal8 (EqR.nilR (hs2 _ _ ha1) ha2) ?_
  refine zk1 (fun h=>?_) (fun h=>?_)
  ·ac_nf
   refine zc3 (fun p3 H3 hf3 hs3 ha3=>?_)
   exact⟨p3,[0],rfl,(hs1.trans hs2).free hf3,(hs1.trans hs2).trans hs3,ha3,by decide,by decide⟩
  ·ac_nf
   rw[zcw0] at h
   exact⟨p1,ms,rfl,hf1,hs1.trans hs2,hs2 _ _ ha1,by rfl',by rfl'⟩
 ·rintro σ H4 ⟨c,ks,rfl,hc,hs4,h4,k1,k2⟩
  refine zc3 (fun p5 H5 hf5 hs5 ha5=>?_)
  ac_nf
  exact q p5 c H5 (hs4.free hf5) hc (hs4.trans hs5) ⟨0,ks,za4 h4 hf5,ha5,hs5 _ _ h4,k1,k2,by decide,by decide⟩
@[irreducible] noncomputable def zi6:Sp:=fun vs H Q _=>∃ (p c:Addr) (m b:Int),vs=[.ref p,.int m]/\zc4 H p c b/\b<=1000000/\0<m/\m<10 ^ 60/\∀ (d:Int) H',0<=d->d<m->Chg2 p c H H'->zc4 H' p c (b+1)->Q (.int d) H'
theorem zm0{p c:Addr}{m b:Int}(hL:zc4 H p c b)(hb:b<=1000000)(h0:0<m)(h1:m<10 ^ 60)(q:∀ (d:Int) H',0<=d->d<m->Chg2 p c H H'->zc4 H' p c (b+1)->Q (.int d) H'):zi6 [.ref p,.int m] H Q E:=by
 unfold zi6;exact⟨p,c,m,b,rfl,hL,hb,h0,h1,q⟩
theorem map_set{ns:List Int}{j:Nat}{v:Int}:(ns.map V.int).set j (V.int v)=(ns.set j v).map V.int:=by rw[List.map_set]
theorem zbb6(F:Fun K "_law_draw" "_law_draw" zaa3 f fd)(N:Nm mg):FnOk P w K mg base CX0 1 f fd ["_law_purse_here","_law_out_of"] zi6:=by
 refine F.ok ze2 (fun vs H Q E h=>by unfold zi6 at h;obtain⟨p,c,m,b,rfl,_⟩:=h;rfl) fun _ _ _ s H vs Q E hr h=>?_
 unfold zi6 at h
 obtain⟨p,c,m,b,rfl,⟨t,ns,hne,hp,hcl,l0,l1,t0,t1⟩,hb,hm0,hm1,q⟩:=h
 refine⟨_,(za2 (zx2 (pq 0) (zp4 (K:=K) (n:=2) rfl rfl (zc2 (za7 (i:=2) ze2.nd rfl (by eq_refl)) (zc2 (za7 (i:=3) ze2.nd rfl (by eq_refl)) zp2))))
   (za2 (psS (i:=4) ze2.nd (zb2 oMod (pq 3) (pB (zm3 (K:=K) rfl) N.len_ zf7 (za0 (pq 2) za1))))
   (za2 (psS (i:=5) ze2.nd (za8 (K:=K) rfl (pq 2) (pq 4)))
   (za2 (zx2 (zb2 oAdd (pq 3) za3) (zag1 (pq 0) za3 setM))
   (za2 (psIf (ptC oGe (pq 5) (zb2 oPow za3 za3)) (za2 (zx2 (zb2 oDiv (pq 5) (pq 1)) (zag1 (pq 2) (pq 4) setM))
   (za5 (zb1 (zb2 oMod (pq 5) (pq 1))))) zb8)
   (za2 (psS (i:=6) ze2.nd (zb2 oMod (zb2 oAdd (zb2 oAdd (zb2 oMul (zb2 oMod (pq 5) za3) za3) (zb2 oMul (zb2 oMul (pq 3) (pq 3)) za3)) za3) za3))
   (za2 (psS (i:=6) ze2.nd (zb2 oMod (zb2 oMul (pq 6) (pq 6)) za3))
   (za2 (psS (i:=6) ze2.nd (zb2 oMod (zb2 oMul (pq 6) (pq 6)) za3))
   (za2 (psCut (psIf (ptC oGt (pq 1) (zb2 oPow za3 za3)) (za2 (psS (i:=7) ze2.nd (zb2 oMod (zb2 oAdd (zb2 oAdd (zb2 oMul (pq 6) za3) (zb2 oMul (pq 3) za3)) za3) za3))
   (za5 (psS (i:=6) ze2.nd (zb2 oMul (pq 6) (zb2 oAdd (zb2 oPow (pq 7) za3) za3))))) zb8))
   (za5 (zb1 (zb2 oMod (pq 6) (pq 1))))))))))))),?_⟩
 refine zci7 hp ?_
 walk_at "st"
 rw[zcw0]
 refine zbk6 (by rfl') ?_
 have r0:=Int.emod_nonneg t (show (ns.length:Int)≠0 by rfl')
 have r1:=Int.emod_lt_of_pos t (show 0<(ns.length:Int) by rfl')
 generalize t % (ns.length:Int)=r at r0 r1
 have hr':r.toNat<ns.length:=by rfl'
 have er:((r.toNat:Nat):Int)=r:=by rfl'
 refine zb5 (v:=.int ns[r.toNat]) hcl ?_ ?_
 ·have:=zc9 (xs:=ns.map V.int) (j:=r.toNat) (v:=.int ns[r.toNat]) (by simp[hr'])
  rw[er] at this
  exact this
 generalize ns[r.toNat]=cell
 refine zz8 hp (by rfl) (fun H1 hc1 h1=>?_)
 have hcl1:H1 c=some (.lst (ns.map V.int)):=hc1 _ _ hne hcl
 walk_at "st"
 refine zk1 (fun h=>?_) (fun h=>?_)
 ·walk_at "st"
  refine zz8 (j:=r.toNat) hcl1 ?_ (fun H2 hc2 h2=>?_)
  ·unfold ixN
   rw[if_pos (by rfl'),if_pos (by rw[zcw0];omega)]
  rw[map_set] at h2
  walk_at "st"
  ac_nf
  exact q _ _ (by assumption) (by assumption) (hc1.toL.trans hc2.toR) ⟨t+1,_,hne,hc2 _ _ (Ne.symm hne) h1,h2,by rw[zdd0];exact l0,by rw[zdd0];exact l1,by rfl',by rfl'⟩
 ·repeat walk_at "st"
  ac_nf
  rename_i z z0 z1
  refine zbq8 (fun σ H2=>∃ (nn:Int) (x:Option V),σ=[some (.ref p),some (.int m),some (.ref c),some (.int t),some (.int r),some (.int cell),some (.int nn),x]/\H2=H1) ?_ ?_
  ·walk_at "st"
   refine zk1 (fun h=>?_) (fun h=>?_)
   ·walk_at "st"
    walk_at "st"
    walk_at "st"
    ac_nf
    rename_i y y0 y1
    refine zcf8 ⟨by decide,by decide,by rfl'⟩ ?_
    refine zas4 (by rfl') (by rfl') ?_
    ac_nf
    exact⟨_,_,rfl,rfl⟩
   ·ac_nf
    exact⟨_,_,rfl,rfl⟩
  ·rintro σ H2 ⟨nn,x,rfl,rfl⟩
   walk_at "st"
   ac_nf
   exact q _ _ (by assumption) (by assumption) hc1.toL ⟨t+1,_,hne,h1,hcl1,l0,l1,by rfl',by rfl'⟩
@[irreducible] noncomputable def zg5:Sp:=fun vs H Q _=>∃ i:Int,vs=[.int i]/\Q (.bl true) H
theorem zai4{i:Int}(q:Q (.bl true) H):zg5 [.int i] H Q E:=by unfold zg5;exact⟨i,rfl,q⟩
theorem zaw8(F:Fun K "_law_whole" "_law_whole" zw1 f fd)(N:Nm mg):FnOk P w K mg base CX0 1 f fd ["_law_found"] zg5:=by
 refine F.ok zat4 (fun vs H Q E h=>by unfold zg5 at h;obtain⟨n,rfl,_⟩:=h;rfl) fun _ _ _ s H vs Q E hr h=>?_
 unfold zg5 at h
 obtain⟨i,rfl,q⟩:=h
 refine⟨_,(za5 (zb1 (zab6 (pB (zah3 (K:=K) rfl) N.isinstance_ zc6 (za0 (pq 0) (za0 (pTy N.int_ zar8) za1))) (zq6 (peNot (pB (zah3 (K:=K) rfl) N.isinstance_ zc6 (za0 (pq 0) (za0 (pTy N.bool_ zbw3) za1)))))))),?_⟩
 repeat walk_at "st"
 ac_nf
 exact q
structure ze0(H:Hp)(l:Addr)(qs:List Addr)(L:List (List Nat)):Prop where
 out:H l=some (.lst (qs.map V.ref))
 len:qs.length=L.length
 row:∀ (i:Nat) q ns,qs[i]?=some q->L[i]?=some ns->H q=some (.lst (pl ns))
theorem ze0.same(A:ze0 H l qs L)(s:Same H H'):ze0 H' l qs L:=⟨s _ _ A.out,A.len,fun i q ns e1 e2=>s _ _ (A.row i q ns e1 e2)⟩
theorem ze0.elt(A:ze0 H l qs L){v:V}(e:(qs.map V.ref)[i]?=some v):∃ q ns,v=.ref q/\qs[i]?=some q/\L[i]?=some ns/\H q=some (.lst (pl ns)):=by
 rw[zcw3] at e
 obtain⟨q,eq,rfl⟩:=zcx0.mp e
 obtain⟨ns,en⟩:∃ ns,L[i]?=some ns:=⟨_,zcv9 (by have:=(zcw2.mp eq).1;have:=A.len;omega)⟩
 exact⟨q,ns,rfl,eq,en,A.row i q ns eq en⟩
theorem ze0.chg{b:Addr}(A:ze0 H l qs L)(c:Chg b H H')(n1:l≠b)(n2:∀ q∈qs,q≠b):ze0 H' l qs L:=⟨c _ _ n1 A.out,A.len,fun i q ns e1 e2=>c _ _ (n2 q (zcw6 e1)) (A.row i q ns e1 e2)⟩
theorem ze0.push{p:Addr}{ns:List Nat}(A:ze0 H l qs L)(c:Chg l H H')(n2:∀ q∈qs,q≠l)(h':H' l=some (.lst (qs.map V.ref++[.ref p])))(hp:H' p=some (.lst (pl ns))):ze0 H' l (qs++[p]) (L++[ns]):=by
 refine⟨by rw[h',zcx9];rfl,by rw[zcw9,zcw9,A.len];rfl,fun i q ms e1 e2=>?_⟩
 by_cases hi:i<qs.length
 ·rw[zcx4 hi] at e1
  rw[zcx4 (by have:=A.len;omega)] at e2
  exact c _ _ (n2 q (zcw6 e1)) (A.row i q ms e1 e2)
 ·rw[zcx6 (by rfl')] at e1
  rw[zcx6 (by have:=A.len;omega)] at e2
  have i0:i - qs.length=0:=by
   have:=(zcw2.mp e1).1
   simp at this;omega
  rw[i0] at e1
  rw[show i - L.length=0 by have:=A.len;omega] at e2
  cases e1
  cases e2
  exact hp
theorem zab4{α:Type}{p:α->Prop}{xs:List α}{y:α}(h:∀ x∈xs,p x)(hy:p y):∀ x∈xs++[y],p x:=fun x hx=>by
 rcases zda5.mp hx with h' | h'
 ·exact h x h'
 ·have:x=y:=by simpa using h'
  subst this
  exact hy
noncomputable def zbf1:Nat->Sp
 | 0=>fun _ _ _ _=>False
 | n+1=>fun vs H Q _=>∃ (h f m:Nat),vs=[.int h,.int f,.int m]/\f<=n/\h<=10/\f<=5/\m<=10/\∀ l qs H',H l=none->(∀ q∈qs,H q=none)->Same H H'->ze0 H' l qs (allL f h m)->Q (.ref l) H'
@[irreducible] noncomputable def zq4:Sp:=zbf1 6
theorem zba2{f:Nat}(h1:h<=10)(h2:f<=5)(h3:m<=10)(q:∀ l qs H',H l=none->(∀ q∈qs,H q=none)->Same H H'->ze0 H' l qs (allL f h m)->Q (.ref l) H'):zq4 [.int h,.int f,.int m] H Q E:=by unfold zq4;exact⟨h,f,m,rfl,h2,h1,h2,h3,q⟩
theorem zbe2(F:Fun K "_law_all" "_law_all" zaf3 f fd)(N:Nm mg)(hgR:mg "_law_all"=some (.ref f))(hkR:zdb6 K (.ref f)=true)(hbR:zai3 K fd ["_law_hosts","_law_fields","_law_most"] []):FnOk P w K mg base CX0 7 f fd ["_law_hosts","_law_fields","_law_most"] zq4:=by
 have key:∀ n,FnOk P w K mg base CX0 (n+1) f fd ["_law_hosts","_law_fields","_law_most"] (zbf1 n):=by
  intro n
  induction n with
  | zero=>exact F.ok zq2 (fun vs H Q E h=>h.elim) (fun cdv A outer s H vs Q E hr h=>h.elim)
  | succ n ih=>
   have zcr5:Def P w K mg base CX0 (n+1) "_law_all" ["_law_hosts","_law_fields","_law_most"] (zbf1 n):=⟨f,fd,ih,hgR,hkR,hbR⟩
   refine F.ok zq2 (fun vs H Q E h=>by obtain⟨_,_,_,rfl,_⟩:=h;rfl) fun _ _ _ s H vs Q E hr h=>?_
   obtain⟨h,f',m,rfl,fn,h1,h2,h3,q⟩:=h
   have hu:=hu40 hr
   refine⟨_,(za2 (psIf (ptC (oEqK (K:=K) rfl (by exact hu)) (pq 1) za3) (za5 (zb1 (zb2 oMul (zl1 (za0 (zl1 za1) za1)) (pT cInt N.int_ zar8 (za0 (peC (oEqK (K:=K) rfl (by exact hu)) (pq 0) za3) za1))))) zb8)
   (za2 (psS (i:=3) zq2.nd (zl1 za1))
   (za2 (zaa4 PassesOwn.never rfl (zs5 N.range_ (za0 (zb2 oAdd (pB (cMinK (K:=K) rfl rfl) N.min_ zbn2 (za0 (pq 0) (za0 (pq 2) za1))) za3) za1)) (za7 (i:=4) zq2.nd rfl (by eq_refl)) (za5 (zaa4 PassesOwn.never rfl (zd8 (K:=K) rfl (pD zcr5 hr zb4 (za0 (zb2 oSub (pq 0) (pq 4)) (za0 (zb2 oSub (pq 1) za3) (za0 (pq 4) za1))) (hk:=by rfl'))) (za7 (i:=5) zq2.nd rfl (by eq_refl)) (za5 (zl8 (zn2 (pq 3) (za0 (zb2 oAdd (zl1 (za0 (pq 4) za1)) (pq 5)) za1)))))))
   (za5 (zb1 (pq 3)))))),?_⟩
   refine zk1 (fun e0=>?_) (fun e0=>?_)
   ·have e0:f'=0:=by rfl'
    subst e0
    refine zc3 (fun p1 H1 f1 s1 h1'=>?_)
    refine zc3 (fun p2 H2 f2 s2 h2'=>?_)
    obtain⟨kk,ek,k1,k0⟩:∃ kk:Int,(if decide ((h:Int)=0)=true then (1:Int) else 0)=kk/\(h=0->kk=1)/\(h≠0->kk=0):=⟨_,rfl,fun z=>by subst z;rfl,fun z=>if_neg (by rw[decide_eq_false (by rfl')];exact zcx1)⟩
    ac_nf
    rw[ek]
    have s12:=s1.trans s2
    by_cases eh:h=0
    ·have k1:=k1 eh
     subst k1 eh
     refine zaq7 h2' (by decide) (by decide) (by rw[zdf9,zcy1];decide) (fun p3 H3 f3 s3 h3'=>?_)
     ac_nf
     refine q p3 [p1] H3 (s12.free f3) (fun q hq=>by rw[zdd5.mp hq];exact f1) (s12.trans s3) ⟨h3',rfl,fun i q ns e1 e2=>?_⟩
     cases i with
     | zero=>cases e1;cases e2;exact s3 _ _ (s2 _ _ h1')
     | succ i=>simp at e1
    ·have k0:=k0 eh
     subst k0
     refine zaq7 h2' (by decide) (by decide) (by rw[zdf9,zcy1];decide) (fun p3 H3 f3 s3 h3'=>?_)
     ac_nf
     refine q p3 [] H3 (s12.free f3) (fun q hq=>by cases hq) (s12.trans s3) ⟨h3',?_,fun i q ns e1 e2=>by simp at e1⟩
     unfold allL
     rw[if_neg eh]
     rfl
   obtain⟨g,rfl⟩:∃ g,f'=g+1:=⟨f' - 1,by rfl'⟩
   obtain⟨n',rfl⟩:∃ n',n=n'+1:=⟨n - 1,by rfl'⟩
   have lenP:∀ k,k<=min h m+1->(allP g h k).length<=30:=fun k hk=>by
    have t:=(zr9 (g+1) h m).len
    have b:=Wn_30 (m:=m) (f:=g+1) (h:=h) h3 h2 h1
    have:(allP g h k).length<=(allP g h (min h m+1)).length:=zcm0 hk
    have e:allL (g+1) h m=allP g h (min h m+1):=rfl
    rw[e] at t
    omega
   refine zc3 (fun l H1 f1 s1 h1'=>?_)
   refine zj5 (by decide) (by decide) (by split<;>omega) (by split<;>omega) ?_
   rw[show ((if (m:Int)<(h:Int) then (m:Int) else (h:Int))+1 - 0).toNat=min h m+1 by split<;>omega]
   refine zs9 (fun i σ H2=>∃ (x y:Option V) (qs:List Addr),σ=[some (.int h),some (.int (g+1:Nat)),some (.int m),some (.ref l),x,y]/\Same H H2/\ze0 H2 l qs (allP g h i)/\(∀ q∈qs,q≠l)/\∀ q∈qs,H q=none) ?_ ?_ ?_
   ·exact⟨_,_,[],rfl,s1,⟨h1',rfl,fun i q ns e=>by simp at e⟩,fun q hq=>(by cases hq),fun q hq=>(by cases hq)⟩
   ·rintro i σ H2 hi ⟨x0,y0,qs,rfl,s2,A2,o2,r2⟩
    have hi:i<min h m+1:=hi
    have hi1:i<=h:=zcy7 (Nat.lt_succ_iff.mp hi) (Nat.min_le_left _ _)
    have hi2:i<=m:=zcy7 (Nat.lt_succ_iff.mp hi) (Nat.min_le_right _ _)
    ac_nf
    refine⟨h - i,g,i,by rw[show (h:Int) - (0+(i:Int))=((h - i:Nat):Int) by rfl',show ((g+1:Nat):Int) - 1=((g:Nat):Int) by rfl',show (0:Int)+(i:Int)=((i:Nat):Int) by rfl'],by rfl',by rfl',by rfl',by rfl',fun l2 qs2 H3 f3 r3 s3 A3=>?_⟩
    have nl:l2≠l:=Ne.symm (za4 A2.out f3)
    have nq:∀ q∈qs2,q≠l:=fun q hq=>Ne.symm (za4 A2.out (r3 q hq))
    have lb:=lenP (i+1) (by rfl')
    rw[zac4,zcw9,zcw0] at lb
    refine zb6 A3.out ?_
    refine zo6 (xs:=qs2.map V.ref) (fun j σ H4=>∃ (y:Option V) (qs':List Addr),σ=[some (.int h),some (.int (g+1:Nat)),some (.int m),some (.ref l),some (.int (0+i)),y]/\Same H H4/\ze0 H4 l qs' (allP g h i++((allL g (h - i) i).take j).map (i :: ·))/\(∀ q∈qs',q≠l)/\(∀ q∈qs',H q=none)/\ze0 H4 l2 qs2 (allL g (h - i) i)) ?_ ?_ ?_ ?_
    ·exact⟨_,qs,rfl,s2.trans s3,by rw[List.take_zero,zde9,zdc8];exact A2.same s3,o2,r2,A3⟩
    ·rintro j σ H4 _ ⟨_,_,_,_,_,_,_,B4⟩
     exact SqL.of B4.out
    ·rintro j v σ H4 hj ⟨y1,qs',rfl,s4,A4,o4,r4,B4⟩
     obtain⟨q1,ns,rfl,e1,e2,h1n⟩:=B4.elt hj
     have jl:=(zcw2.mp e2).1
     have al:=A4.len
     rw[zcw9,zcw0,zde3] at al
     refine zai6 A4.out ?_
     refine zc3 (fun p5 H5 f5 s5 h5=>?_)
     have nsl:ns.length<=5:=by have:=((zr9 g (h - i) i).num j ns e2).2.1;omega
     refine zag5 h5 (s5 _ _ h1n) (by rw[zw9,zdf9,zcy1];omega) (fun p6 H6 f6 s6 h6=>?_)
     have s46:=s5.trans s6
     have A6:=A4.same s46
     have p6l:p6≠l:=Ne.symm (za4 (A4.same s5).out f6)
     refine zan1 A6.out (by rw[zcw0,zdf9];omega) (fun H7 c7 h7=>?_)
     ac_nf
     have h6':H7 p6=some (.lst (pl (i :: ns))):=c7 _ _ p6l (by rw[h6];show some (HO.lst (V.int (0+(i:Int)) :: pl ns))=_;rw[show (0:Int)+(i:Int)=((i:Nat):Int) by rfl'];rfl)
     have A7:=A6.push c7 o4 h7 h6'
     refine⟨_,qs'++[p6],rfl,(s4.trans s46).chg f1 c7,?_,zab4 o4 p6l,zab4 r4 ((s4.trans s5).free f6),(B4.same s46).chg c7 nl nq⟩
     rw[List.take_succ,e2]
     simp only[Option.toList_some,zcx9,zcz9,zde9,← List.append_assoc]
     exact A7
    ·rintro σ H4 ⟨y1,qs',rfl,s4,A4,o4,r4,B4⟩
     refine⟨_,_,qs',rfl,s4,?_,o4,r4⟩
     rw[zcw0,A3.len,List.take_length] at A4
     rw[zac4]
     exact A4
   ·rintro σ H2 ⟨x0,y0,qs,rfl,s2,A2,o2,r2⟩
    ac_nf
    exact q l qs H2 f1 r2 s2 A2
 unfold zq4
 exact key 6
@[irreducible] noncomputable def zh0:Sp:=fun vs H Q _=>∃ n m:Int,vs=[.int n,.int m]/\0<=n/\n<m/\Q .non H
theorem zao4{n m:Int}(h1:0<=n)(h2:n<m)(q:Q .non H):zh0 [.int n,.int m] H Q E:=by unfold zh0;exact⟨n,m,rfl,h1,h2,q⟩
theorem zao6(F:Fun K "look_number" "look_number" zt7 f fd)(N:Nm mg)(zcp4:Def P w K mg base CX0 3 "is_between" ["thing","least","most"] ze1):FnOk P w K mg base CX0 4 f fd ["number","many"] zh0:=by
 refine F.ok zao8 (fun vs H Q E h=>by unfold zh0 at h;obtain⟨_,_,rfl,_⟩:=h;rfl) fun _ _ _ s H vs Q E hr h=>?_
 unfold zh0 at h
 obtain⟨n,m,rfl,h1,h2,q⟩:=h
 refine⟨_,(za5 (psIf (zl3 (ptV (pD zcp4 hr zb4 (za0 (pq 0) (za0 za3 (za0 (zb2 oSub (pq 1) za3) za1)))))) (za5 zy7) zb8)),?_⟩
 refine zar7 ?_
 refine ze3 (zl5 ⟨h1,by rfl'⟩ ?_)
 ac_nf
 exact q
@[irreducible] noncomputable def zn0:Sp:=fun vs H Q _=>∃ (a:Addr) (c n h:Nat) (ps:List Addr) (g:Nat->Nat->Int),vs=[.ref a,.int c]/\zd4 H a ps (n+1) h g/\n<=100/\h<=100 /\
 ∀ b qs H',H b=none->(∀ q∈qs,H q=none)->Same H H'->zd4 H' b qs (n+1) h (stp g c)->Q (.ref b) H'
theorem zbd1{a:Addr}{g:Nat->Nat->Int}(G:zd4 H a ps (n+1) h g)(h1:n<=100)(h2:h<=100)(q:∀ b qs H',H b=none->(∀ q∈qs,H q=none)->Same H H'->zd4 H' b qs (n+1) h (stp g c)->Q (.ref b) H'):zn0 [.ref a,.int c] H Q E:=by
 unfold zn0;exact⟨a,c,n,h,ps,g,rfl,G,h1,h2,q⟩
theorem zbi3(F:Fun K "with_cap" "with_cap" zad9 f fd)(N:Nm mg):FnOk P w K mg base CX0 1 f fd ["ways","cap"] zn0:=by
 refine F.ok zt4 (fun vs H Q E h=>by unfold zn0 at h;obtain⟨_,_,_,_,_,_,rfl,_⟩:=h;rfl) fun _ _ _ s H vs Q E hr h=>?_
 unfold zn0 at h
 obtain⟨a,c,n,h,ps,g,rfl,G,hn,hh,q⟩:=h
 refine⟨_,(za2 (psS (i:=2) zt4.nd (zl1 (za0 (pT (zbl3 (K:=K) rfl) N.list_ zy1 (za0 (za8 (K:=K) rfl (pq 0) za3) za1)) za1)))
   (za2 (zaa4 PassesOwn.never rfl (zd8 (K:=K) rfl (zau1 (slK (K:=K) rfl) (pq 0) (zby9 za3) zbd2)) (za7 (i:=3) zt4.nd rfl (by eq_refl)) (za2 (psS (i:=4) zt4.nd (za8 (K:=K) rfl (pq 2) (zw6 uNeg za3)))
   (za5 (zl8 (zn2 (pq 2) (za0 (zd6 (N:=["total","many","cap","behind"]) (ks:=[none,none,some 1,some 4]) (zbg3 (K:=K) rfl N.enumerate_ (za0 (pq 3) za1)) (fun _ _ _ _ _=>(zp4 (K:=K) (n:=2) rfl rfl (zc2 (za7 (i:=0) nb_14 rfl (by eq_refl)) (zc2 (za7 (i:=1) nb_14 rfl (by eq_refl)) zp2)))) (fun _ _ _ _ _=>zc1) (fun _ _ _ _ _=>(zb2 oAdd (pq 1) (peIf (ptC oGe (pq 0) (pq 2)) (za8 (K:=K) rfl (pq 3) (zb2 oSub (pq 0) (pq 2))) za3))) (.skip (.skip (.take rfl rfl (by eq_refl) (.take rfl rfl (by eq_refl) .nil))))) za1))))))
   (za5 (zb1 (pq 2))))),?_⟩
 obtain⟨p0,e0,r0⟩:=G.some (i:=0) (by rfl')
 refine zb5 G.out (zbb7 (by decide) e0) ?_
 refine zai0 (SqL.of r0) (fun l1 H1 f1 s1 h1=>?_)
 refine zc3 (fun w H2 f2 s2 h2=>?_)
 refine sl_rd (SqL.of (s2 _ _ (s1 _ _ G.out))) (fun p3 H3 f3 s3 h3=>?_)
 rw[zce1 (by decide),← List.map_drop] at h3
 have sA:Same H H3:=(s1.trans s2).trans s3
 have w3:H3 w=some (.lst [.ref l1]):=s3 _ _ h2
 have nw3:p3≠w:=Ne.symm (za4 h2 f3)
 have fw:H w=none:=s1.free f2
 refine zb6 h3 ?_
 refine zo6 (xs:=(ps.drop 1).map V.ref) (fun i σ H4=>∃ (qs:List Addr) (x y:Option V),σ=[some (.ref a),some (.int c),some (.ref w),x,y]/\Same H H4/\H4 p3=some (.lst ((ps.drop 1).map V.ref))/\zd4 H4 w qs (i+1) h (stp g c)/\(∀ q∈qs,H q=none)/\w ∉ qs) ?_ ?_ ?_ ?_
 ·refine⟨[l1],_,_,rfl,sA,h3,⟨w3,rfl,fun i p e=>?_⟩,fun q hq=>?_,fun hq=>?_⟩
  ·match i,e with
   | 0,e=>
    have:l1=p:=by simpa using e
    subst this
    exact s3 _ _ (s2 _ _ h1)
  ·have:q=l1:=by simpa using hq
   subst this;exact f1
  ·have:w=l1:=by simpa using hq
   exact za4 h1 f2 this.symm
 ·rintro i σ H4 _ ⟨_,_,_,_,_,h4,_⟩
  exact SqL.of h4
 ·rintro i x σ H4 hx ⟨qs,x0,y0,rfl,s4,h4,G4,fq,nq⟩
  rw[zcw3,List.getElem?_drop] at hx
  obtain⟨px,ex,rfl⟩:=zcx0.mp hx
  have hl:=(zcw2.mp ex).1
  have hl':=G.len
  have rx:=s4 _ _ (G.row _ _ ex)
  obtain⟨pb,eb,rb⟩:=G4.some (i:=i) (by rfl')
  refine zb5 (v:=.ref pb) G4.out (zaf1 (n:=i) (by rw[zcw0,G4.len]) (by rw[zcw3,eb];rfl)) ?_
  refine zai6 G4.out ?_
  refine zbe7 rx ?_
  refine zbx1 (SqL.of rx) (by rw[zb7,zdf9];omega) (fun j ys σ H5=>∃ t u:Option V,σ=[t,u,some (.int c),some (.ref pb)]/\ys=rowV j fun t=>stp g c (i+1) t) ?_ ?_ ?_ ?_
  ·rintro j ys σ H5 H6 s6 ⟨t,u,rfl,rfl⟩
   exact⟨t,u,rfl,rfl⟩
  ·intro H5 s5
   exact⟨none,none,rfl,rfl⟩
  ·rintro j m y p ys σ H5 acc hy hp ct ⟨t,u,rfl,rfl⟩
   have hj:j<h:=by
    have:=(zcw2.mp hy).1
    rwa [zb7] at this
   rw[zd3 hj] at hy
   cases hy
   have rb5:=ct.hs _ _ rb
   refine zk9 hp ?_
   walk_at "st"
   refine zk1 (fun hc=>?_) (fun hc=>?_)
   ·ac_nf
    refine zb5 rb5 (zm1 (by rfl') (by rfl')) ?_
    ac_nf
    refine ct.put (Same.refl _) (fun H6 _ _=>⟨_,_,rfl,?_⟩)
    rw[zl6]
    congr 3
    show _=g (i+1) j+if c<=j then stp g c i (j - c) else 0
    rw[if_pos (by rfl'),show ((j:Int) - (c:Int)).toNat=j - c by rfl',Nat.add_comm 1 i]
   ·ac_nf
    refine ct.put (Same.refl _) (fun H6 _ _=>⟨_,_,rfl,?_⟩)
    rw[zl6]
    congr 3
    show _=g (i+1) j+if c<=j then stp g c i (j - c) else 0
    rw[if_neg (by rfl'),Nat.add_comm 1 i]
  ·rintro acc ys σ H5 f5 s5 h5 ⟨t,u,rfl,rfl⟩
   rw[zb7] at h5
   have G5:=G4.same s5
   have na:acc≠w:=Ne.symm (za4 G4.out f5)
   refine zan1 G5.out (by rw[zcw0,G5.len,zdf9];omega) (fun H6 c6 h6=>?_)
   ac_nf
   refine⟨qs++[acc],_,_,rfl,(s4.trans s5).chg fw c6,c6 _ _ nw3 (s5 _ _ h4),⟨by rw[zcx9];exact h6,by rw[zcw9,G4.len];rfl,fun k p e=>?_⟩,fun q hq=>?_,fun hq=>?_⟩
   ·by_cases hk:k<qs.length
    ·rw[zcx4 hk] at e
     have hm:=zcw6 e
     exact c6 _ _ (fun z=>nq (z▸hm)) (G5.row k p e)
    ·rw[zcx6 (by rfl')] at e
     have hk2:k - qs.length=0:=by
      have:=(zcw2.mp e).1
      simp at this;omega
     rw[hk2] at e
     have:acc=p:=by simpa using e
     subst this
     have:k=i+1:=by have:=G4.len;omega
     subst this
     exact c6 _ _ na h5
   ·rcases zda5.mp hq with hq|hq
    ·exact fq q hq
    ·have:q=acc:=by simpa using hq
     subst this;exact s4.free f5
   ·rcases zda5.mp hq with hq|hq
    ·exact nq hq
    ·have:w=acc:=by simpa using hq
     exact na this.symm
 ·rintro σ H4 ⟨qs,x0,y0,rfl,s4,h4,G4,fq,nq⟩
  ac_nf
  have e:((ps.drop 1).map V.ref).length=n:=by rw[zcw0,zdd2,G.len];omega
  rw[e] at G4
  exact q w qs H4 fw fq s4 G4
structure zay7(H:Hp)(a:Addr)(gs:List (Addr×List Addr))(n f h:Nat):Prop where
 out:H a=some (.lst (gs.map fun g=>V.ref g.1))
 len:gs.length=n
 row:∀ (i:Nat) (g:Addr×List Addr),gs[i]?=some g->zd4 H g.1 g.2 (f+1) (h+1) (Wn (i+1))
theorem zay7.same{H H':Hp}{a:Addr}{gs:List (Addr×List Addr)}{n f h:Nat}(T:zay7 H a gs n f h)(s:Same H H'):zay7 H' a gs n f h:=⟨s _ _ T.out,T.len,fun i g e=>(T.row i g e).same s⟩
@[irreducible] noncomputable def zf6:Sp:=fun vs H Q _=>∃ (h f:Nat),vs=[.int h,.int f]/\h<=40/\f<=8/\∀ b gs H',H b=none->Same H H'->zay7 H' b gs (h+1) f h->Q (.ref b) H'
theorem zaz8{f:Nat}(h1:h<=40)(h2:f<=8)(q:∀ b gs H',H b=none->Same H H'->zay7 H' b gs (h+1) f h->Q (.ref b) H'):zf6 [.int h,.int f] H Q E:=by
 unfold zf6;exact⟨h,f,rfl,h1,h2,q⟩
theorem rep0V(n:Nat):(List.replicate n [V.int 0]).flatten=rowV n fun _=>0:=by
 induction n with
 | zero=>rfl
 | succ n ih=>
  have e:List.replicate (n+1) [V.int 0]=List.replicate n [V.int 0]++[[V.int 0]]:=List.replicate_succ'
  rw[e,List.flatten_append,ih,zl6];rfl
theorem row1V(n:Nat):[V.int 1]++rowV n (fun _=>0)=rowV (n+1) (g0 0):=by
 induction n with
 | zero=>rfl
 | succ n ih=>
  rw[zl6,← List.append_assoc,ih,zl6 (n+1)]
  congr 1
theorem zap7(F:Fun K "capped_ways" "capped_ways" zu4 f fd)(N:Nm mg)(zcu8:Def P w K mg base CX0 1 "with_cap" ["ways","cap"] zn0):FnOk P w K mg base CX0 2 f fd ["hosts","fields"] zf6:=by
 refine F.ok zk4 (fun vs H Q E h=>by unfold zf6 at h;obtain⟨_,_,rfl,_⟩:=h;rfl) fun _ _ _ s H vs Q E hr h=>?_
 unfold zf6 at h
 obtain⟨h,f,rfl,hh,hf,q⟩:=h
 refine⟨_,(za2 (psS (i:=2) zk4.nd (zb2 oAdd (zl1 (za0 (zb2 oAdd (zl1 (za0 za3 za1)) (zb2 oMul (zl1 (za0 za3 za1)) (pq 0))) za1)) (zd6 (N:=["place","hosts"]) (ks:=[none,some 0]) (zs5 N.range_ (za0 (pq 1) za1)) (fun _ _ _ _ _=>(za7 (i:=0) nb_15 rfl (by eq_refl))) (fun _ _ _ _ _=>zc1) (fun _ _ _ _ _=>(zb2 oMul (zl1 (za0 za3 za1)) (zb2 oAdd (pq 1) za3))) (.skip (.take rfl rfl (by eq_refl) .nil)))))
   (za2 (psS (i:=3) zk4.nd (zl1 za1))
   (za2 (zaa4 PassesOwn.never rfl (zs5 N.range_ (za0 (zb2 oAdd (pq 0) za3) za1)) (za7 (i:=4) zk4.nd rfl (by eq_refl)) (za2 (psS (i:=2) zk4.nd (pD zcu8 hr zb4 (za0 (pq 2) (za0 (pq 4) za1))))
   (za5 (zl8 (zn2 (pq 3) (za0 (pq 2) za1))))))
   (za5 (zb1 (pq 3)))))),?_⟩
 refine zc3 (fun p1 H1 f1 s1 h1=>?_)
 refine zc3 (fun p2 H2 f2 s2 h2=>?_)
 refine zaq7 h2 (by rfl') (by rfl') (by rw[zdf9,zcy1];omega) (fun p3 H3 f3 s3 h3=>?_)
 rw[zcz4,rep0V] at h3
 refine zag5 (s3 _ _ (s2 _ _ h1)) h3 (by rw[zdf9,zcy1,zb7];omega) (fun p4 H4 f4 s4 h4=>?_)
 rw[row1V] at h4
 refine zc3 (fun p5 H5 f5 s5 h5=>?_)
 have h45:=s5 _ _ h4
 have sA:Same H H5:=(((s1.trans s2).trans s3).trans s4).trans s5
 have f4':H p4=none:=((s1.trans s2).trans s3).free f4
 refine zj5 (by decide) (by decide) (by rfl') (by rfl') ?_
 refine zbp1 (by rw[zdf9];omega) (fun j ys σ H6=>∃ (t:Option V) (qs:List Addr),σ=[t,some (.int h)]/\ys=qs.map V.ref/\qs.length=j/\(∀ q∈qs,H5 q=none/\H6 q=some (.lst (rowV (h+1) fun _=>0)))) ?_ ?_ ?_
 ·intro H6 s6
  exact⟨none,[],rfl,rfl,rfl,fun q hq=>by cases hq⟩
 ·rintro j m ys σ H6 acc ct ⟨t,qs,rfl,rfl,lq,hq⟩
  walk_at "st"
  refine zc3 (fun p7 H7 f7 s7 h7=>?_)
  refine zaq7 h7 (by rfl') (by rfl') (by rw[zdf9,zcy1];omega) (fun p8 H8 f8 s8 h8=>?_)
  rw[show ((h:Int)+1).toNat=h+1 by rfl',rep0V] at h8
  ac_nf
  have s68:=s7.trans s8
  refine ct.put s68 (fun H9 s9 c9=>⟨_,qs++[p8],rfl,by rw[zcx9];rfl,by rw[zcw9,lq];rfl,fun q hq'=>?_⟩)
  have na:acc≠p8:=za4 (s7 _ _ ct.ha) f8
  rcases zda5.mp hq' with hq' | hq'
  ·obtain⟨z1,z2⟩:=hq q hq'
   refine⟨z1,c9 _ _ (fun z=>?_) (s68 _ _ z2)⟩
   subst z
   rw[ct.ha] at z2
   have z3:=congrArg (fun o=>match o with|some (HO.lst xs)=>xs|_=>[]) z2
   have z4:qs.map V.ref=rowV (h+1) fun _=>0:=z3
   have z5:=congrArg List.head? z4
   cases qs with
   | nil=>cases hq'
   | cons q0 qs=>simp[rowV,List.range_succ_eq_map] at z5
  ·have:q=p8:=by simpa using hq'
   subst this
   exact⟨ct.hs.free (s7.free f8),c9 _ _ (Ne.symm na) h8⟩
 ·rintro acc ys σ H6 f6 s6 h6 ⟨t,qs,rfl,rfl,lq,hq⟩
  rw[show ((f:Int) - 0).toNat=f by rfl'] at lq
  refine zag5 (s6 _ _ h5) h6 (by rw[zdf9,zcw0,lq];show 1+f<=_;omega) (fun p7 H7 f7 s7 h7=>?_)
  have G7:zd4 H7 p7 (p4 :: qs) (f+1) (h+1) (Wn 0):=by
   refine⟨h7,by rw[zcy0,lq],fun i p e=>?_⟩
   match i,e with
   | 0,e=>
    have:p4=p:=by simpa using e
    subst this
    exact s7 _ _ (s6 _ _ h45)
   | i+1,e=>
    have hm:p∈qs:=zcw6 (by simpa using e)
    rw[s7 _ _ (hq p hm).2,zbl7 (s:=Wn 0 (i+1)) fun t _=>by show (0:Int)=g0 (i+1) t;unfold g0;rw[if_neg (by rfl')]]
  have s7':Same H H7:=(sA.trans s6).trans s7
  clear hq h7 h6 h5 h45 h4 h3 h2 h1
  refine zc3 (fun p8 H8 f8 s8 h8=>?_)
  refine zj5 (by decide) (by decide) (by rfl') (by rfl') ?_
  have n8:∀ {x:Addr}{o:HO},H7 x=some o->x≠p8:=fun e=>za4 e f8
  refine zs9 (fun i σ H9=>∃ (r:Addr) (ps:List Addr) (t:Option V) (gs:List (Addr×List Addr)),σ=[some (.int h),some (.int f),some (.ref r),some (.ref p8),t]/\Same H H9/\zd4 H9 r ps (f+1) (h+1) (Wn i)/\r≠p8/\(∀ p∈ps,p≠p8)/\zay7 H9 p8 gs i f h/\∀ g∈gs,g.1≠p8/\∀ p∈g.2,p≠p8) ?_ ?_ ?_
  ·refine⟨p7,p4 :: qs,none,[],rfl,s7'.trans s8,G7.same s8,n8 G7.out,fun p hp=>?_,⟨h8,rfl,fun i g e=>by cases e⟩,fun g hg=>by cases hg⟩
   obtain⟨i,hi⟩:=zcy5 hp
   exact n8 (G7.row i p hi)
  ·rintro i σ H9 hi ⟨r,ps,t,gs,rfl,s9,G9,nr,np,T9,ng⟩
   have e0:(0:Int)+(i:Int)=((i:Nat):Int):=by rfl'
   rw[e0]
   refine zbd1 G9 (by rfl') (by rfl') (fun b qs' H10 fb fq s10 G10=>?_)
   have T10:=T9.same s10
   have nb:b≠p8:=Ne.symm (za4 T9.out fb)
   have nq:∀ q∈qs',q≠p8:=fun q hq=>Ne.symm (za4 T9.out (fq q hq))
   refine zai6 T10.out ?_
   refine zan1 T10.out (by rw[zcw0,T9.len,zdf9];omega) (fun H11 c11 h11=>?_)
   ac_nf
   have f8':H p8=none:=s7'.free f8
   refine⟨b,qs',_,gs++[(b,qs')],rfl,(s9.trans s10).chg f8' c11,G10.chg c11 nb nq,nb,nq,⟨by rw[zcx9];exact h11,by rw[zcw9,T9.len];rfl,fun k g e=>?_⟩,fun g hg=>?_⟩
   ·by_cases hk:k<gs.length
    ·rw[zcx4 hk] at e
     have:=ng g (zcw6 e)
     exact (T10.row k g e).chg c11 this.1 this.2
    ·rw[zcx6 (by rfl')] at e
     have hk2:k - gs.length=0:=by
      have:=(zcw2.mp e).1
      simp at this;omega
     rw[hk2] at e
     have:(b,qs')=g:=by simpa using e
     subst this
     have:k=i:=by have:=T9.len;omega
     subst this
     exact G10.chg c11 nb nq
   ·rcases zda5.mp hg with hg|hg
    ·exact ng g hg
    ·have:g=(b,qs'):=by simpa using hg
     subst this
     exact⟨nb,nq⟩
  ·rintro σ H9 ⟨r,ps,t,gs,rfl,s9,G9,nr,np,T9,ng⟩
   ac_nf
   rw[show ((h:Int)+1 - 0).toNat=h+1 by rfl'] at T9
   exact q p8 gs H9 (s7'.free f8) s9 T9
theorem Fall.at{m:Nat}:∀ {xs:List Nat}{m i x y:Nat},Fall m xs->xs[i]?=some x->xs[i+1]?=some y->y<=x
 | [],_,i,x,y,_,h,_=>by simp at h
 | [a],_,i,x,y,_,_,h=>by simp at h
 | a :: b :: xs,_,0,x,y,F,h1,h2=>by
  simp at h1 h2
  subst h1 h2
  exact F.2.1
 | a :: b :: xs,_,i+1,x,y,F,h1,h2=>Fall.at (m:=m) (xs:=b :: xs) (i:=i) F.2 (by simpa using h1) (by simpa using h2)
theorem zay7.grid{a:Addr}{gs:List (Addr×List Addr)}{f:Nat}(T:zay7 H a gs n f h)(hi:i<n):∃ b ps,atI (gs.map fun g=>V.ref g.1) (i:Int)=some (.ref b)/\zd4 H b ps (f+1) (h+1) (Wn (i+1)):=by
 have hl:i<gs.length:=by rw[T.len];exact hi
 exact⟨gs[i].1,gs[i].2,zc9 (by rw[zcw3,zcv9 hl];rfl),T.row i _ (zcv9 hl)⟩
theorem zck8{ns:List Nat}:(ns.drop i).sum<=ns.sum:=by
 have:=List.sum_append (l₁:=ns.take i) (l₂:=ns.drop i)
 rw[List.take_append_drop] at this
 omega
theorem zce0{f t:Nat}(h:n=0)(hf:0<f):Wn n f t=0:=by
 subst h
 match f,hf with
 | f+1,_=>exact zca3 f t
@[irreducible] noncomputable def zi7:Sp:=fun vs H Q _=>∃ (h f:Nat) (ns:List Nat) (m:Nat),vs=[.int h,.int f,.int (cnum ns)]/\ns.length=f/\ns.sum=h/\Fall m ns/\m<=h/\h<=40/\(1<=f/\f<=8)/\∀ b H',H b=none->Same H H'->H' b=some (.lst (pl ns))->Q (.ref b) H'
theorem zag3{f:Nat}{ns:List Nat}(h0:ns.length=f)(h1:ns.sum=h)(F:Fall m ns)(hm:m<=h)(h2:h<=40)(h3:1<=f)(h4:f<=8)(q:∀ b H',H b=none->Same H H'->H' b=some (.lst (pl ns))->Q (.ref b) H'):zi7 [.int h,.int f,.int (cnum ns)] H Q E:=by
 unfold zi7;exact⟨h,f,ns,m,rfl,h0,h1,F,hm,h2,⟨h3,h4⟩,q⟩
theorem zax5(F:Fun K "counts_of" "counts_of" zaa1 f fd)(N:Nm mg)(zcq0:Def P w K mg base CX0 2 "capped_ways" ["hosts","fields"] zf6)(zcs7:Def P w K mg base CX0 4 "look_number" ["number","many"] zh0)(zcq7:Def P w K mg base CX0 5 "look_size" ["hosts","fields"] zi2):FnOk P w K mg base CX0 6 f fd ["hosts","fields","number"] zi7:=by
 refine F.ok ze4 (fun vs H Q E h=>by unfold zi7 at h;obtain⟨_,_,_,_,rfl,_⟩:=h;rfl) fun _ _ _ s H vs Q E hr h=>?_
 unfold zi7 at h
 obtain⟨h,f,ns,m,rfl,h0,h1,hF,hm,h2,⟨h3,h4⟩,q⟩:=h
 refine⟨_,(za2 (zl8 (pD zcq7 hr zb4 (za0 (pq 0) (za0 (pq 1) za1))))
   (za2 (psS (i:=3) ze4.nd (pD zcq0 hr zb4 (za0 (pq 0) (za0 (pq 1) za1))))
   (za2 (zl8 (pD zcs7 hr zb4 (za0 (pq 2) (za0 (za8 (K:=K) rfl (za8 (K:=K) rfl (za8 (K:=K) rfl (pq 3) (pq 0)) (pq 1)) (pq 0)) za1))))
   (za2 (psS (i:=4) ze4.nd (zl1 za1))
   (za2 (psS (i:=5) ze4.nd (pq 0))
   (za2 (psS (i:=6) ze4.nd (pq 2))
   (za2 (zaa4 PassesOwn.never rfl (piRng3 N.range_ (za0 (pq 1) (za0 za3 (za0 (zw6 uNeg za3) za1)))) (za7 (i:=7) ze4.nd rfl (by eq_refl)) (za2 (psS (i:=8) ze4.nd za3)
   (za2 (zas8 PassesOwn.never (ptC oGe (pq 6) (za8 (K:=K) rfl (za8 (K:=K) rfl (za8 (K:=K) rfl (pq 3) (pq 8)) (pq 7)) (pq 5))) (za5 (psAug (i:=8) ze4.nd ipAdd za3)))
   (za2 (psCut (psIf (ptC oGt (pq 8) za3) (za5 (psAug (i:=6) ze4.nd ipSub (za8 (K:=K) rfl (za8 (K:=K) rfl (za8 (K:=K) rfl (pq 3) (zb2 oSub (pq 8) za3)) (pq 7)) (pq 5)))) zb8))
   (za2 (zl8 (zn2 (pq 4) (za0 (pq 8) za1)))
   (za5 (psAug (i:=5) ze4.nd ipSub (pq 8))))))))
   (za5 (zb1 (pq 4)))))))))),?_⟩
 have nb:=zbh3 h ns (hF.le hm)
 rw[h0,h1] at nb
 refine zcg3 (by rfl') (by rfl') (by rfl') (by rfl') ?_
 refine zaz8 h2 h4 (fun b gs H1 f1 s1 T=>?_)
 obtain⟨g,ps,e1,G⟩:=T.grid (i:=h) (by rfl')
 obtain⟨r,e2,e3⟩:=G.some (i:=f) (by rfl')
 refine zb5 T.out e1 ?_
 refine zb5 G.out (zbb7 (by rfl') (by rw[zcz4];exact e2)) ?_
 refine zb5 e3 (zm1 (by rfl') (by rfl')) ?_
 rw[zcz4]
 refine zao4 (zbd7 ns) nb ?_
 clear e1 e2 e3 G
 refine zc3 (fun p1 H2 f2 s2 h2'=>?_)
 have T2:=T.same s2
 have s12:=s1.trans s2
 refine zbr1 (by rfl') (by rfl') (by decide) (by decide) ?_
 refine zbh0 (fun i σ H3=>∃ x y:Option V,σ=[some (.int h),some (.int f),some (.int (cnum ns)),some (.ref b),some (.ref p1),some (.int ((ns.drop i).sum:Nat)),some (.int (cnum (ns.drop i))),x,y]/\Same H1 H3/\H3 p1=some (.lst (pl (ns.take i)))) ?_ ?_ ?_
 ·refine⟨none,none,?_,s2,h2'⟩
  rw[List.drop_zero,h1]
  rfl
 ·rintro i σ H3 hi ⟨x0,y0,rfl,s3,h3'⟩
  have hi:i<ns.length:=by rfl'
  obtain⟨n,en⟩:∃ n,ns[i]?=some n:=⟨ns[i],zcv9 (by rfl')⟩
  have ds:=zcb1 en
  have cd:=zbv3 en
  have ca:=zbq2 hF en
  have cn:=zbd7 (ns.drop (i+1))
  have hle2:(ns.drop i).sum<=ns.sum:=zck8
  have T3:=T.same s3
  refine zat9 (fun σ H4=>∃ k:Nat,σ=[some (.int h),some (.int f),some (.int (cnum ns)),some (.ref b),some (.ref p1),some (.int ((ns.drop i).sum:Nat)),some (.int (cnum (ns.drop i))),some (.int ((f:Int) - i)),some (.int k)]/\H3=H4/\k<=n) (fun σ _=>match σ with | [_,_,_,_,_,_,_,_,some (.int k)]=>n - k.toNat|_=>0) ?_ ?_
  ·exact⟨0,rfl,rfl,zcz6 _⟩
  ·rintro σ H4 ⟨k,rfl,rfl,hk⟩
   obtain⟨g,ps,e1,G⟩:=T3.grid (i:=k) (by rfl')
   obtain⟨r,e2,e3⟩:=G.some (i:=ns.length - i) (by rfl')
   refine zb5 T3.out e1 ?_
   refine zb5 (v:=.ref r) G.out (zbb7 (by rfl') (by rw[show ((f:Int) - (i:Int)).toNat=ns.length - i by rfl'];exact e2)) ?_
   refine zb5 e3 (zm1 (by rfl') (by rfl')) ?_
   rw[zcz4]
   ac_nf
   refine zbs9 (fun hh=>?_) (fun hh=>?_)
   ·have hlt:k<n:=by
     by_cases z:k<n
     ·exact z
     ·have:k=n:=by rfl'
      subst this
      omega
    ac_nf
    refine⟨⟨k+1,?_,rfl,hlt⟩,?_⟩
    ·push_cast
     rfl
    ·show n - ((k:Int)+1).toNat<n - (k:Int).toNat
     omega
   ·have hkn:k=n:=by
     by_cases z:k=n
     ·exact z
     ·exfalso
      have mono:=zbx6 (c:=k+1) (d:=n) (by rfl') (ns.length - i) (ns.drop i).sum
      omega
    subst hkn
    refine zbq8 (fun σ H4=>σ=[some (.int h),some (.int f),some (.int (cnum ns)),some (.ref b),some (.ref p1),some (.int ((ns.drop i).sum:Nat)),some (.int (cnum (ns.drop (i+1)))),some (.int ((f:Int) - i)),some (.int k)]/\H4=H3) ?_ ?_
    ·ac_nf
     refine zk1 (fun hn=>?_) (fun hn=>?_)
     ·obtain⟨g',ps',e1',G'⟩:=T3.grid (i:=k - 1) (by rfl')
      obtain⟨r',e2',e3'⟩:=G'.some (i:=ns.length - i) (by rfl')
      refine zb5 (v:=.ref g') T3.out (by rw[show (k:Int) - 1=((k - 1:Nat):Int) by rfl'];exact e1') ?_
      refine zb5 (v:=.ref r') G'.out (zbb7 (by rfl') (by rw[show ((f:Int) - (i:Int)).toNat=ns.length - i by rfl'];exact e2')) ?_
      refine zb5 e3' (zm1 (by rfl') (by rfl')) ?_
      rw[zcz4]
      ac_nf
      rw[show k - 1+1=k by rfl']
      exact⟨by rw[show cnum (ns.drop i) - Wn k (ns.length - i) (ns.drop i).sum=cnum (ns.drop (i+1)) by rfl'];rfl,rfl⟩
     ·ac_nf
      have z:=zce0 (n:=k) (f:=ns.length - i) (t:=(ns.drop i).sum) (by rfl') (by rfl')
      exact⟨by rw[show cnum (ns.drop i)=cnum (ns.drop (i+1)) by rfl'],rfl⟩
    ·rintro σ H4 ⟨rfl,rfl⟩
     refine zai6 h3' ?_
     refine zan1 h3' (by rw[zw9,zde3,zdf9];omega) (fun H5 c5 h5'=>?_)
     ac_nf
     rw[show (((ns.drop i).sum:Nat):Int) - (k:Int)=((ns.drop (i+1)).sum:Nat) by rfl']
     refine⟨_,_,rfl,s3.chg f2 c5,?_⟩
     rw[h5']
     unfold pl
     rw[List.take_add_one,en,zcx9]
     rfl
 ·rintro σ H3 ⟨x0,y0,rfl,s3,h3'⟩
  rw[show ((f:Int) - 0).toNat=ns.length by rfl',List.take_length] at h3'
  ac_nf
  exact q p1 H3 (s1.free f2) (s1.trans s3) h3'
@[irreducible] noncomputable def zh1:Sp:=fun vs H Q _=>∃ h f:Nat,vs=[.int h,.int f]/\h<=40/\(1<=f/\f<=8)/\∀ H',Same H H'->Q (.int (Wn (h+1) f h)) H'
theorem zao0{f:Nat}(h1:h<=40)(h2:1<=f)(h3:f<=8)(q:∀ H',Same H H'->Q (.int (Wn (h+1) f h)) H'):zh1 [.int h,.int f] H Q E:=by unfold zh1;exact⟨h,f,rfl,h1,⟨h2,h3⟩,q⟩
theorem zap5(F:Fun K "counts_many" "counts_many" zt6 f fd)(N:Nm mg)(zcq0:Def P w K mg base CX0 2 "capped_ways" ["hosts","fields"] zf6)(zcq7:Def P w K mg base CX0 5 "look_size" ["hosts","fields"] zi2):FnOk P w K mg base CX0 6 f fd ["hosts","fields"] zh1:=by
 refine F.ok zap2 (fun vs H Q E h=>by unfold zh1 at h;obtain⟨n,k,rfl,_⟩:=h;rfl) fun _ _ _ s H vs Q E hr h=>?_
 unfold zh1 at h
 obtain⟨h,f,rfl,h1,⟨h2,h3⟩,q⟩:=h
 refine⟨_,(za2 (zl8 (pD zcq7 hr zb4 (za0 (pq 0) (za0 (pq 1) za1))))
   (za5 (zb1 (za8 (K:=K) rfl (za8 (K:=K) rfl (za8 (K:=K) rfl (pD zcq0 hr zb4 (za0 (pq 0) (za0 (pq 1) za1))) (pq 0)) (pq 1)) (pq 0))))),?_⟩
 refine zcg3 (by rfl') (by rfl') (by rfl') (by rfl') ?_
 refine zaz8 h1 h3 (fun b gs H1 f1 s1 T=>?_)
 obtain⟨c,ps,e1,G⟩:=T.grid (i:=h) (by rfl')
 obtain⟨p,e2,e3⟩:=G.some (i:=f) (by rfl')
 refine zb5 T.out e1 ?_
 refine zb5 G.out (zbb7 (by rfl') (by rw[zcz4];exact e2)) ?_
 refine zb5 e3 (zm1 (by rfl') (by rfl')) ?_
 rw[zcz4]
 ac_nf
 exact q _ s1
theorem zbe0(n:Nat):((List.range n).map fun _=>V.bl true)=((List.range n).map fun _=>true).map V.bl:=by rw[zdf0];rfl
theorem zaw6(n:Nat):((List.range n).map fun _=>true).all id=true:=by rw[List.all_map];exact zbn0 n
inductive Fd where
 | more (w t:Int)
 | lead (w l:Int)
 | tab (g:Nat->Nat->Int)
noncomputable def Fd.won:Fd->Nat->Nat->Int
 | .more w t,x,y=>if x=y then t else if y<x then w else -w
 | .lead w l,x,y=>if l<=(x:Int) - y then w else -w
 | .tab g,x,y=>g x y
noncomputable def Fd.Ok:Fd->Prop
 | .more w t=>1<=w/\-w<=t/\t<=w
 | .lead w _=>1<=w
 | .tab _=>True
noncomputable def FdAt(H:Hp)(p:Addr)(a c:Nat):Fd->Prop
 | .more w t=>H p=some (.tup [.str "more",.int w,.int t])
 | .lead w l=>H p=some (.tup [.str "lead",.int w,.int l])
 | .tab g=>∃ q ps,H p=some (.tup [.str "table",.ref q])/\zd4 H q ps (a+1) (c+1) g
theorem FdAt.same{H H':Hp}{p:Addr}{a c:Nat}{f:Fd}(F:FdAt H p a c f)(s:Same H H'):FdAt H' p a c f:=by
 cases f with
 | more w t=>exact s _ _ F
 | lead w l=>exact s _ _ F
 | tab g=>
  obtain⟨q,ps,h1,h2⟩:=F
  exact⟨q,ps,s _ _ h1,h2.same s⟩
theorem FdAt.some{H:Hp}{p:Addr}{a c:Nat}{f:Fd}(F:FdAt H p a c f):∃ xs,H p=some (.tup xs):=by
 cases f with
 | more w t=>exact⟨_,F⟩
 | lead w l=>exact⟨_,F⟩
 | tab g=>
  obtain⟨q,ps,h1,h2⟩:=F
  exact⟨_,h1⟩
structure zl0(H:Hp)(b l:Addr)(ps:List Addr)(a c:Nat)(fs:List Fd):Prop where
 out:H b=some (.tup [.int a,.int c,.ref l])
 lst:H l=some (.lst (ps.map V.ref))
 len:ps.length=fs.length
 fld:∀ (i:Nat) p f,ps[i]?=some p->fs[i]?=some f->FdAt H p a c f/\f.Ok
noncomputable abbrev OkB(a c:Nat)(fs:List Fd):Prop:=(a<=10/\c<=10)/\1<=fs.length/\fs.length<=5
theorem zl0.same{H H':Hp}{b l:Addr}{ps:List Addr}{a c:Nat}{fs:List Fd}(B:zl0 H b l ps a c fs)(s:Same H H'):zl0 H' b l ps a c fs:=⟨s _ _ B.out,s _ _ B.lst,B.len,fun i p f h1 h2=>⟨(B.fld i p f h1 h2).1.same s,(B.fld i p f h1 h2).2⟩⟩
theorem zl0.elt{b:Addr}{a:Nat}{fs:List Fd}(B:zl0 H b l ps a c fs){v:V}(e:(ps.map V.ref)[i]?=some v):∃ p f,v=.ref p/\ps[i]?=some p/\fs[i]?=some f/\FdAt H p a c f/\f.Ok:=by
 rw[zcw3] at e
 obtain⟨p,ep,rfl⟩:=zcx0.mp e
 obtain⟨f,ef⟩:∃ f,fs[i]?=some f:=⟨_,zcv9 (by have:=(zcw2.mp ep).1;have:=B.len;omega)⟩
 exact⟨p,f,rfl,ep,ef,B.fld i p f ep ef⟩
@[irreducible] noncomputable def zar1:Sp:=fun vs H Q _=>∃ (p:Addr) (a c x y:Nat) (f:Fd),vs=[.ref p,.int x,.int y]/\FdAt H p a c f/\x<=a/\y<=c/\Q (.int (f.won x y)) H
theorem won_rd{p:Addr}{a x y:Nat}{f:Fd}(F:FdAt H p a c f)(h1:x<=a)(h2:y<=c)(q:Q (.int (f.won x y)) H):zar1 [.ref p,.int x,.int y] H Q E:=by unfold zar1;exact⟨p,a,c,x,y,f,rfl,F,h1,h2,q⟩
theorem ok_won(F:Fun K "won" "won" s_won f fd)(N:Nm mg):FnOk P w K mg base CX0 1 f fd ["field","x","y"] zar1:=by
 refine F.ok sc_won (fun vs H Q E h=>by unfold zar1 at h;obtain⟨_,_,_,_,_,_,rfl,_⟩:=h;rfl) fun _ _ _ s H vs Q E hr h=>?_
 unfold zar1 at h
 obtain⟨p,a,c,x,y,f,rfl,F,h1,h2,q⟩:=h
 have hu:=hu40 hr
 refine⟨_,(za2 (psIf (ptC (oEqK (K:=K) rfl (by exact hu)) (za8 (K:=K) rfl (pq 0) za3) zp3) (za5 (zb1 (za8 (K:=K) rfl (za8 (K:=K) rfl (za8 (K:=K) rfl (pq 0) za3) (pq 1)) (pq 2)))) zb8)
   (za2 (psIf (ptC (oEqK (K:=K) rfl (by exact hu)) (za8 (K:=K) rfl (pq 0) za3) zp3) (za5 (zb1 (peIf (ptC oGe (zb2 oSub (pq 1) (pq 2)) (za8 (K:=K) rfl (pq 0) za3)) (za8 (K:=K) rfl (pq 0) za3) (zw6 uNeg (za8 (K:=K) rfl (pq 0) za3))))) zb8)
   (za2 (psIf (ptC (oEqK (K:=K) rfl (by exact hu)) (pq 1) (pq 2)) (za5 (zb1 (za8 (K:=K) rfl (pq 0) za3))) zb8)
   (za5 (zb1 (peIf (ptC oGt (pq 1) (pq 2)) (za8 (K:=K) rfl (pq 0) za3) (zw6 uNeg (za8 (K:=K) rfl (pq 0) za3)))))))),?_⟩
 cases f with
 | more wt t=>
  have F:H p=some (.tup [.str "more",.int wt,.int t]):=F
  refine za9 (v:=.str "more") F rfl ?_
  refine zt1 (by decide) ?_
  refine za9 (v:=.str "more") F rfl ?_
  refine zt1 (by decide) ?_
  ac_nf
  have q:Q (.int (if x=y then t else if y<x then wt else -wt)) H:=q
  refine zk1 (fun h=>?_) (fun h=>?_)
  ·ac_nf
   refine za9 (v:=.int t) F rfl ?_
   ac_nf
   rw[if_pos (by rfl')] at q
   exact q
  ·rw[if_neg (by rfl')] at q
   refine zk1 (fun h=>?_) (fun h=>?_)
   ·ac_nf
    refine za9 (v:=.int wt) F rfl ?_
    ac_nf
    rw[if_pos (by rfl')] at q
    exact q
   ·ac_nf
    refine za9 (v:=.int wt) F rfl ?_
    ac_nf
    rw[if_neg (by rfl')] at q
    exact q
 | lead wt l=>
  have F:H p=some (.tup [.str "lead",.int wt,.int l]):=F
  refine za9 (v:=.str "lead") F rfl ?_
  refine zt1 (by decide) ?_
  refine za9 (v:=.str "lead") F rfl ?_
  refine zl5 rfl ?_
  refine za9 (v:=.int l) F rfl ?_
  ac_nf
  have q:Q (.int (if l<=(x:Int) - y then wt else -wt)) H:=q
  refine zk1 (fun h=>?_) (fun h=>?_)
  ·ac_nf
   refine za9 (v:=.int wt) F rfl ?_
   ac_nf
   rw[if_pos (by rfl')] at q
   exact q
  ·ac_nf
   refine za9 (v:=.int wt) F rfl ?_
   ac_nf
   rw[if_neg (by rfl')] at q
   exact q
 | tab g=>
  obtain⟨q',ps,F,G⟩:=F
  obtain⟨r,er,hr'⟩:=G.some (i:=x) (by rfl')
  refine za9 (v:=.str "table") F rfl ?_
  refine zl5 rfl ?_
  refine za9 (v:=.ref q') F rfl ?_
  refine zb5 (v:=.ref r) G.out (zc9 (by rw[zcw3,er];rfl)) ?_
  refine zb5 (v:=.int (g x y)) hr' (zc9 (zd3 (by rfl'))) ?_
  ac_nf
  exact q
@[irreducible] noncomputable def zg3:Sp:=fun vs H Q _=>∃ (r:Addr) (n:Nat) (g:Nat->Int),vs=[.int n,.ref r]/\H r=some (.lst (rowV n g))/\n<=1000/\∀ H',Same H H'->Q (.bl true) H'
theorem zam3{r:Addr}{g:Nat->Int}(h:H r=some (.lst (rowV n g)))(hn:n<=1000)(q:∀ H',Same H H'->Q (.bl true) H'):zg3 [.int n,.ref r] H Q E:=by unfold zg3;exact⟨r,n,g,rfl,h,hn,q⟩
theorem zaj4(F:Fun K "is_table_row" "is_table_row" zr5 f fd)(N:Nm mg)(zcp9:Def P w K mg base CX0 1 "is_whole" ["thing"] zi5):FnOk P w K mg base CX0 2 f fd ["many_numbers","row"] zg3:=by
 refine F.ok zak4 (fun vs H Q E h=>by unfold zg3 at h;obtain⟨_,_,_,rfl,_⟩:=h;rfl) fun _ _ _ s H vs Q E hr h=>?_
 unfold zg3 at h
 obtain⟨r,n,g,rfl,h,hn,q⟩:=h
 have hu:=hu40 hr
 refine⟨_,(za5 (zb1 (zab6 (pB (zah3 (K:=K) rfl) N.isinstance_ zc6 (za0 (pq 1) (za0 (pTy N.list_ zy1) za1))) (zab6 (peC (oEqK (K:=K) rfl (by exact hu)) (pB (zm3 (K:=K) rfl) N.len_ zf7 (za0 (pq 1) za1)) (pq 0)) (zq6 (pB (cAllK (K:=K) rfl rfl) N.all_ zbz9 (za0 (zd6 (N:=["number"]) (ks:=[none]) (zd8 (K:=K) rfl (pq 1)) (fun _ _ _ _ _=>(za7 (i:=0) nb_16 rfl (by eq_refl))) (fun _ _ _ _ _=>zc1) (fun _ _ _ _ _=>(pD zcp9 hr zb4 (za0 (pq 0) za1))) (.skip .nil)) za1))))))),?_⟩
 refine zaj8 h ?_
 refine br_T ?_
 refine zf2 h ?_
 rw[zb7]
 refine zl5 rfl ?_
 refine zb6 h ?_
 refine zi1 (Wk.list (SqL.of h)) (by rw[zb7,zdf9];omega) (fun i=>.bl true) (fun _=>true) (fun j σ=>∃ t:Option V,σ=[t]) ⟨none,rfl⟩ ?_ ?_
 ·rintro j v σ H1 R S hj s1 hx ⟨t,rfl⟩ k _
  rw[zb7] at hj
  rw[zd3 hj] at hx
  cases hx
  refine br_T ?_
  refine zbu1 ?_
  ac_nf
  exact k rfl _ _ (Same.refl _) ⟨_,rfl⟩
 intro acc H1 f1 s1 h1
 rw[zd2,zb7,zbe0] at h1
 refine zbx2 h1 ?_
 rw[zaw6]
 ac_nf
 exact q _ s1
@[irreducible] noncomputable def zm9:Sp:=fun vs H Q _=>∃ (r:Addr) (ps:List Addr) (n m:Nat) (g:Nat->Nat->Int),vs=[.int n,.int m,.ref r]/\zd4 H r ps n m g/\n<=1000/\m<=1000/\∀ H',Same H H'->Q (.bl true) H'
theorem zbf3{r:Addr}{g:Nat->Nat->Int}(h:zd4 H r ps n m g)(hn:n<=1000)(hm:m<=1000)(q:∀ H',Same H H'->Q (.bl true) H'):zm9 [.int n,.int m,.ref r] H Q E:=by unfold zm9;exact⟨r,ps,n,m,g,rfl,h,hn,hm,q⟩
theorem zbf8(F:Fun K "is_table" "is_table" zaf5 f fd)(N:Nm mg)(zcs0:Def P w K mg base CX0 2 "is_table_row" ["many_numbers","row"] zg3):FnOk P w K mg base CX0 3 f fd ["many_rows","many_numbers","rows"] zm9:=by
 refine F.ok zbh9 (fun vs H Q E h=>by unfold zm9 at h;obtain⟨_,_,_,_,_,rfl,_⟩:=h;rfl) fun _ _ _ s H vs Q E hr h=>?_
 unfold zm9 at h
 obtain⟨r,ps,n,m,g,rfl,G,hn,hm,q⟩:=h
 have hu:=hu40 hr
 have gl:=G.len
 refine⟨_,(za2 (psIf (ptW (pwOr (zl3 (ptV (pB (zah3 (K:=K) rfl) N.isinstance_ zc6 (za0 (pq 2) (za0 (pTy N.list_ zy1) za1))))) (zz3 (ptC (oNeK (K:=K) rfl (by exact hu)) (pB (zm3 (K:=K) rfl) N.len_ zf7 (za0 (pq 2) za1)) (pq 0))))) (za5 (zb1 zt2)) zb8)
   (za5 (zb1 (pB (cAllK (K:=K) rfl rfl) N.all_ zbz9 (za0 (zd6 (N:=["row","many_numbers"]) (ks:=[none,some 1]) (zd8 (K:=K) rfl (pq 2)) (fun _ _ _ _ _=>(za7 (i:=0) nb_17 rfl (by eq_refl))) (fun _ _ _ _ _=>zc1) (fun _ _ _ _ _=>(pD zcs0 hr zb4 (za0 (pq 1) (za0 (pq 0) za1)))) (.skip (.take rfl rfl (by eq_refl) .nil))) za1))))),?_⟩
 refine zaj8 G.out ?_
 refine ze3 (br_T ?_)
 refine zf2 G.out ?_
 rw[zcw0,gl]
 refine ze3 (zl5 rfl ?_)
 refine zb6 G.out ?_
 refine zi1 (Wk.list (SqL.of G.out)) (by rw[zcw0,zdf9];omega) (fun i=>.bl true) (fun _=>true) (fun j σ=>∃ t:Option V,σ=[t,some (.int m)]) ⟨none,rfl⟩ ?_ ?_
 ·rintro j v σ H1 R S hj s1 hx ⟨t,rfl⟩ k _
  rw[zcw3] at hx
  obtain⟨p,ep,rfl⟩:=zcx0.mp hx
  refine br_T ?_
  refine zam3 (s1 _ _ (G.row j p ep)) hm (fun H2 s2=>?_)
  ac_nf
  exact k rfl _ _ s2 ⟨_,rfl⟩
 intro acc H1 f1 s1 h1
 rw[zd2,zcw0,zbe0] at h1
 refine zbx2 h1 ?_
 rw[zaw6]
 ac_nf
 exact q _ s1
@[irreducible] noncomputable def zn1:Sp:=fun vs H Q _=>∃ (p:Addr) (a c:Nat) (f:Fd),vs=[.int a,.int c,.ref p]/\FdAt H p a c f/\f.Ok/\a<=10/\c<=10/\∀ H',Same H H'->Q (.bl true) H'
theorem zbi7{p:Addr}{a:Nat}{f:Fd}(F:FdAt H p a c f)(O:f.Ok)(h1:a<=10)(h2:c<=10)(q:∀ H',Same H H'->Q (.bl true) H'):zn1 [.int a,.int c,.ref p] H Q E:=by unfold zn1;exact⟨p,a,c,f,rfl,F,O,h1,h2,q⟩
theorem zbe1(F:Fun K "is_field" "is_field" zaf6 f fd)(N:Nm mg)(zcp4:Def P w K mg base CX0 3 "is_between" ["thing","least","most"] ze1)(zcr6:Def P w K mg base CX0 2 "is_from" ["thing","least"] zm5)(zcu9:Def P w K mg base CX0 3 "is_table" ["many_rows","many_numbers","rows"] zm9)(zcp9:Def P w K mg base CX0 1 "is_whole" ["thing"] zi5):FnOk P w K mg base CX0 4 f fd ["first","second","field"] zn1:=by
 refine F.ok zbe8 (fun vs H Q E h=>by unfold zn1 at h;obtain⟨_,_,_,_,rfl,_⟩:=h;rfl) fun _ _ _ s H vs Q E hr h=>?_
 unfold zn1 at h
 obtain⟨p,a,c,f,rfl,F,O,h1,h2,q⟩:=h
 have hu:=hu40 hr
 refine⟨_,(za2 (psIf (zl3 (ptV (pB (zah3 (K:=K) rfl) N.isinstance_ zc6 (za0 (pq 2) (za0 (pTy N.tuple_ zah6) za1))))) (za5 (zb1 zt2)) zb8)
   (za2 (psIf (ptW (pwAnd (ptC (oEqK (K:=K) rfl (by exact hu)) (pB (zm3 (K:=K) rfl) N.len_ zf7 (za0 (pq 2) za1)) za3) (zat5 (ptC (oEqK (K:=K) rfl (by exact hu)) (za8 (K:=K) rfl (pq 2) za3) zp3)))) (za5 (zb1 (zab6 (pD zcr6 hr zb4 (za0 (za8 (K:=K) rfl (pq 2) za3) (za0 za3 za1))) (zq6 (pD zcp4 hr zb4 (za0 (za8 (K:=K) rfl (pq 2) za3) (za0 (zw6 uNeg (za8 (K:=K) rfl (pq 2) za3)) (za0 (za8 (K:=K) rfl (pq 2) za3) za1)))))))) zb8)
   (za2 (psIf (ptW (pwAnd (ptC (oEqK (K:=K) rfl (by exact hu)) (pB (zm3 (K:=K) rfl) N.len_ zf7 (za0 (pq 2) za1)) za3) (zat5 (ptC (oEqK (K:=K) rfl (by exact hu)) (za8 (K:=K) rfl (pq 2) za3) zp3)))) (za5 (zb1 (zab6 (pD zcr6 hr zb4 (za0 (za8 (K:=K) rfl (pq 2) za3) (za0 za3 za1))) (zq6 (pD zcp9 hr zb4 (za0 (za8 (K:=K) rfl (pq 2) za3) za1)))))) zb8)
   (za2 (psIf (ptW (pwAnd (ptC (oEqK (K:=K) rfl (by exact hu)) (pB (zm3 (K:=K) rfl) N.len_ zf7 (za0 (pq 2) za1)) za3) (zat5 (ptC (oEqK (K:=K) rfl (by exact hu)) (za8 (K:=K) rfl (pq 2) za3) zp3)))) (za5 (zb1 (pD zcu9 hr zb4 (za0 (zb2 oAdd (pq 0) za3) (za0 (zb2 oAdd (pq 1) za3) (za0 (za8 (K:=K) rfl (pq 2) za3) za1)))))) zb8)
   (za5 (zb1 zt2)))))),?_⟩
 cases f with
 | more wt t=>
  have F:H p=some (.tup [.str "more",.int wt,.int t]):=F
  obtain⟨o1,o2,o3⟩:1<=wt/\-wt<=t/\t<=wt:=O
  refine zz9 F ?_
  refine ze3 (br_T ?_)
  refine zr7 F ?_
  refine zl5 rfl ?_
  refine za9 (v:=.str "more") F rfl ?_
  refine zl5 rfl ?_
  refine za9 (v:=.int wt) F rfl ?_
  refine zbx3 ?_
  refine zl5 o1 ?_
  refine za9 (v:=.int t) F rfl ?_
  refine za9 (v:=.int wt) F rfl ?_
  refine za9 (v:=.int wt) F rfl ?_
  refine zar7 ?_
  rw[decide_eq_true ⟨o2,o3⟩]
  ac_nf
  exact q _ (Same.refl _)
 | lead wt l=>
  have F:H p=some (.tup [.str "lead",.int wt,.int l]):=F
  have O:1<=wt:=O
  refine zz9 F ?_
  refine ze3 (br_T ?_)
  refine zr7 F ?_
  refine zl5 rfl ?_
  refine za9 (v:=.str "lead") F rfl ?_
  refine zt1 (by decide) ?_
  refine zr7 F ?_
  refine zl5 rfl ?_
  refine za9 (v:=.str "lead") F rfl ?_
  refine zl5 rfl ?_
  refine za9 (v:=.int wt) F rfl ?_
  refine zbx3 ?_
  refine zl5 O ?_
  refine za9 (v:=.int l) F rfl ?_
  refine zbu1 ?_
  ac_nf
  exact q _ (Same.refl _)
 | tab g=>
  obtain⟨q',ps,F,G⟩:=F
  refine zz9 F ?_
  refine ze3 (br_T ?_)
  refine zr7 F ?_
  refine zt1 (by show ¬ ((2:Nat):Int)=3;decide) ?_
  refine br_F ?_
  refine zr7 F ?_
  refine zt1 (by show ¬ ((2:Nat):Int)=3;decide) ?_
  refine br_F ?_
  refine zr7 F ?_
  refine zl5 rfl ?_
  refine za9 (v:=.str "table") F rfl ?_
  refine zl5 rfl ?_
  refine za9 (v:=.ref q') F rfl ?_
  refine zbf3 (n:=a+1) (m:=c+1) G (by rfl') (by rfl') (fun H1 s1=>?_)
  ac_nf
  exact q _ s1
@[irreducible] noncomputable def zl4:Sp:=fun vs H Q _=>∃ x y:Int,vs=[.int x,.int y]/\Q (.bl (decide ((0<=x/\x<=10)/\0<=y/\y<=10))) H
theorem zay6{x:Int}(q:Q (.bl (decide ((0<=x/\x<=10)/\0<=y/\y<=10))) H):zl4 [.int x,.int y] H Q E:=by unfold zl4;exact⟨x,y,rfl,q⟩
theorem zbc4(F:Fun K "are_hosts" "are_hosts" zab0 f fd)(N:Nm mg){zcq2:Tok}(c_MOST_HOSTS_fields:mg "MOST_HOSTS_fields"=some (.int 10 zcq2))(zcp4:Def P w K mg base CX0 3 "is_between" ["thing","least","most"] ze1):FnOk P w K mg base CX0 4 f fd ["first","second"] zl4:=by
 refine F.ok zaz3 (fun vs H Q E h=>by unfold zl4 at h;obtain⟨_,_,rfl,_⟩:=h;rfl) fun _ _ _ s H vs Q E hr h=>?_
 unfold zl4 at h
 obtain⟨x,y,rfl,q⟩:=h
 refine⟨_,(za5 (zb1 (zab6 (pD zcp4 hr zb4 (za0 (pq 0) (za0 za3 (za0 (zam4 (v:=.int 10) rfl c_MOST_HOSTS_fields ⟨_,rfl⟩) za1)))) (zq6 (pD zcp4 hr zb4 (za0 (pq 1) (za0 za3 (za0 (zam4 (v:=.int 10) rfl c_MOST_HOSTS_fields ⟨_,rfl⟩) za1)))))))),?_⟩
 refine zar7 ?_
 refine zk1 (fun h=>?_) (fun h=>?_)
 ·ac_nf
  refine zar7 ?_
  ac_nf
  rw[zav9 h] at q
  exact q
 ·ac_nf
  rw[zaw0 h] at q
  exact q
@[irreducible] noncomputable def zn5:Sp:=fun vs H Q _=>∃ (b l:Addr) (ps:List Addr) (a c:Nat) (fs:List Fd),vs=[.ref b]/\zl0 H b l ps a c fs/\OkB a c fs/\Q (.bl true) H
theorem zbd0{b:Addr}{a:Nat}{fs:List Fd}(B:zl0 H b l ps a c fs)(O:OkB a c fs)(q:Q (.bl true) H):zn5 [.ref b] H Q E:=by unfold zn5;exact⟨b,l,ps,a,c,fs,rfl,B,O,q⟩
theorem zbe3(F:Fun K "has_size" "has_size" zae7 f fd)(N:Nm mg){zcp7:Tok}(c_MOST_FIELDS_fields:mg "MOST_FIELDS_fields"=some (.int 5 zcp7))(zcu3:Def P w K mg base CX0 4 "are_hosts" ["first","second"] zl4):FnOk P w K mg base CX0 5 f fd ["battle"] zn5:=by
 refine F.ok zbf2 (fun vs H Q E h=>by unfold zn5 at h;obtain⟨_,_,_,_,_,_,rfl,_⟩:=h;rfl) fun _ _ _ s H vs Q E hr h=>?_
 unfold zn5 at h
 obtain⟨b,l,ps,a,c,fs,rfl,B,⟨⟨o1,o2⟩,o3,o4⟩,q⟩:=h
 have bl:=B.len
 refine⟨_,(za5 (zb1 (zab6 (pD zcu3 hr zb4 (za0 (za8 (K:=K) rfl (pq 0) za3) (za0 (za8 (K:=K) rfl (pq 0) za3) za1))) (zq6 (zcn2 oLe oLe za3 (pB (zm3 (K:=K) rfl) N.len_ zf7 (za0 (za8 (K:=K) rfl (pq 0) za3) za1)) (zam4 (v:=.int 5) rfl c_MOST_FIELDS_fields ⟨_,rfl⟩)))))),?_⟩
 refine za9 (v:=.int a) B.out rfl ?_
 refine za9 (v:=.int c) B.out rfl ?_
 refine zay6 ?_
 rw[decide_eq_true ⟨⟨by rfl',by rfl'⟩,by rfl',by rfl'⟩]
 refine br_T ?_
 refine za9 (v:=.ref l) B.out rfl ?_
 refine zf2 B.lst ?_
 rw[zcw0,bl]
 refine zl5 (by rfl') ?_
 ac_nf
 rw[decide_eq_true (by rfl')]
 exact q
@[irreducible] noncomputable def zg8:Sp:=fun vs H Q _=>∃ (b l:Addr) (ps:List Addr) (a c:Nat) (fs:List Fd),vs=[.ref b]/\zl0 H b l ps a c fs/\OkB a c fs/\∀ H',Same H H'->Q .non H'
theorem zan7{b:Addr}{a:Nat}{fs:List Fd}(B:zl0 H b l ps a c fs)(O:OkB a c fs)(q:∀ H',Same H H'->Q .non H'):zg8 [.ref b] H Q E:=by unfold zg8;exact⟨b,l,ps,a,c,fs,rfl,B,O,q⟩
theorem zan3(F:Fun K "look_battle" "look_battle" zu2 f fd)(N:Nm mg)(zcv0:Def P w K mg base CX0 5 "has_size" ["battle"] zn5)(zcv1:Def P w K mg base CX0 4 "is_field" ["first","second","field"] zn1):FnOk P w K mg base CX0 6 f fd ["battle"] zg8:=by
 refine F.ok zr8 (fun vs H Q E h=>by unfold zg8 at h;obtain⟨_,_,_,_,_,_,rfl,_⟩:=h;rfl) fun _ _ _ s H vs Q E hr h=>?_
 unfold zg8 at h
 obtain⟨b,l,ps,a,c,fs,rfl,B,O,q⟩:=h
 refine⟨_,(za2 (psIf (zl3 (ptV (pD zcv0 hr zb4 (za0 (pq 0) za1)))) (za5 zy7) zb8)
   (za5 (zaa4 PassesOwn.never rfl (zbg3 (K:=K) rfl N.enumerate_ (za0 (za8 (K:=K) rfl (pq 0) za3) za1)) (zp4 (K:=K) (n:=2) rfl rfl (zc2 (za7 (i:=1) zr8.nd rfl (by eq_refl)) (zc2 (za7 (i:=2) zr8.nd rfl (by eq_refl)) zp2))) (za5 (psIf (zl3 (ptV (pD zcv1 hr zb4 (za0 (za8 (K:=K) rfl (pq 0) za3) (za0 (za8 (K:=K) rfl (pq 0) za3) (za0 (pq 2) za1)))))) (za5 zy7) zb8))))),?_⟩
 refine zbd0 B O ?_
 refine ze3 (br_T ?_)
 refine za9 (v:=.ref l) B.out rfl ?_
 refine zbe7 B.lst ?_
 refine zbu5 (xs:=ps.map V.ref) (fun i σ H1=>∃ x y:Option V,σ=[some (.ref b),x,y]/\Same H H1) ?_ ?_ ?_ ?_
 ·exact⟨_,_,rfl,Same.refl _⟩
 ·rintro i σ H1 _ ⟨_,_,_,s1⟩
  exact SqL.of (s1 _ _ B.lst)
 ·rintro i v σ H1 p H2 hi ⟨x,y,rfl,s1⟩ f2 s2 h2
  have s12:=s1.trans s2
  obtain⟨p',f,rfl,e1,e2,hf,ok⟩:=(B.same s12).elt hi
  refine zk9 h2 ?_
  refine za9 (v:=.int a) (s12 _ _ B.out) rfl ?_
  refine za9 (v:=.int c) (s12 _ _ B.out) rfl ?_
  refine zbi7 hf ok O.1.1 O.1.2 (fun H3 s3=>?_)
  refine ze3 (br_T ?_)
  ac_nf
  exact⟨_,_,rfl,s12.trans s3⟩
 ·rintro σ H1 ⟨x,y,rfl,s1⟩
  ac_nf
  exact q _ s1
noncomputable def togR(f:Fd)(x:Nat)(ys:List Nat):Int:=(ys.map fun y=>f.won x y).sum
noncomputable def tog(f:Fd)(xs ys:List Nat):Int:=(xs.map fun x=>togR f x ys).sum
theorem zaw9(f:Fd)(x:Nat)(ys:List Nat):(List.range ys.length).map (fun i=>V.int (f.won x (ys.getD i 0)))=(ys.map fun y=>f.won x y).map V.int:=by
 apply zdc1
 intro i
 rw[zcw3,zcw3,zcw3]
 by_cases h:i<ys.length
 ·rw[zdb9 h,zcv9 h]
  simp[h]
 ·rw[zcy2 (by simp;omega),zcy2 (by rfl')]
  rfl
@[irreducible] noncomputable def zg1:Sp:=fun vs H Q _=>∃ (p l1 l2:Addr) (a c:Nat) (f:Fd) (xs ys:List Nat),vs=[.ref p,.ref l1,.ref l2]/\FdAt H p a c f/\H l1=some (.lst (pl xs))/\H l2=some (.lst (pl ys))/\(∀ x∈xs,x<=a)/\(∀ y∈ys,y<=c)/\ys.length<=10/\∀ H',Same H H'->Q (.int (tog f xs ys)) H'
theorem zam0{p:Addr}{a:Nat}{f:Fd}{ys:List Nat}(F:FdAt H p a c f)(h1:H l1=some (.lst (pl xs)))(h2:H l2=some (.lst (pl ys)))(h3:∀ x∈xs,x<=a)(h4:∀ y∈ys,y<=c)(h5:ys.length<=10)(q:∀ H',Same H H'->Q (.int (tog f xs ys)) H'):zg1 [.ref p,.ref l1,.ref l2] H Q E:=by unfold zg1;exact⟨p,l1,l2,a,c,f,xs,ys,rfl,F,h1,h2,h3,h4,h5,q⟩
theorem zak7(F:Fun K "won_together" "won_together" zr0 f fd)(N:Nm mg)(D_won:Def P w K mg base CX0 1 "won" ["field","x","y"] zar1):FnOk P w K mg base CX0 2 f fd ["field","one","other"] zg1:=by
 refine F.ok zl9 (fun vs H Q E h=>by unfold zg1 at h;obtain⟨_,_,_,_,_,_,_,_,rfl,_⟩:=h;rfl) fun _ _ _ s H vs Q E hr h=>?_
 unfold zg1 at h
 obtain⟨p,l1,l2,a,c,f,xs,ys,rfl,F,h1,h2,h3,h4,h5,q⟩:=h
 refine⟨_,(za2 (psS (i:=3) zl9.nd za3)
   (za2 (zaa4 PassesOwn.never rfl (zd8 (K:=K) rfl (pq 1)) (za7 (i:=4) zl9.nd rfl (by eq_refl)) (za5 (psAug (i:=3) zl9.nd ipAdd (pB (zbe4 (K:=K) rfl rfl) N.sum_ zak5 (za0 (zd6 (N:=["y","field","x"]) (ks:=[none,some 0,some 4]) (zd8 (K:=K) rfl (pq 2)) (fun _ _ _ _ _=>(za7 (i:=0) nb_18 rfl (by eq_refl))) (fun _ _ _ _ _=>zc1) (fun _ _ _ _ _=>(pD D_won hr zb4 (za0 (pq 1) (za0 (pq 2) (za0 (pq 0) za1))))) (.skip (.take rfl rfl (by eq_refl) (.take rfl rfl (by eq_refl) .nil)))) za1)))))
   (za5 (zb1 (pq 3))))),?_⟩
 refine zb6 h1 ?_
 refine zo6 (xs:=pl xs) (fun i σ H1=>∃ x:Option V,σ=[some (.ref p),some (.ref l1),some (.ref l2),some (.int (tog f (xs.take i) ys)),x]/\Same H H1) ?_ ?_ ?_ ?_
 ·exact⟨_,rfl,Same.refl _⟩
 ·rintro i σ H1 _ ⟨_,_,s1⟩
  exact SqL.of (s1 _ _ h1)
 ·rintro i v σ H1 hi ⟨x0,rfl,s1⟩
  obtain⟨x,rfl,ex⟩:=pl_of hi
  have xa:=h3 x (zcw6 ex)
  refine zb6 (s1 _ _ h2) ?_
  refine zi1 (Wk.list (SqL.of (s1 _ _ h2))) (by rw[zw9,zdf9];omega) (fun i=>.int (f.won x (ys.getD i 0))) (fun _=>true) (fun j σ=>∃ t:Option V,σ=[t,some (.ref p),some (.int x)]) ⟨none,rfl⟩ ?_ ?_
  ·rintro j v σ H2 R S hj s2 hx ⟨t,rfl⟩ k _
   obtain⟨y,rfl,ey⟩:=pl_of hx
   have eg:ys.getD j 0=y:=by rw[zcw7,ey];rfl
   refine br_T ?_
   refine won_rd (F.same (s1.trans s2)) xa (h4 y (zcw6 ey)) ?_
   ac_nf
   rw[eg] at k
   exact k rfl _ _ (Same.refl _) ⟨_,rfl⟩
  intro acc H2 f2 s2 h2'
  rw[zd2,zw9,zaw9] at h2'
  refine zal3 h2' ?_
  ac_nf
  refine⟨some (.int x),?_,s1.trans s2⟩
  have e:tog f (xs.take (i+1)) ys=tog f (xs.take i) ys+togR f x ys:=by
   unfold tog
   rw[List.take_succ,ex]
   simp
  rw[e]
  rfl
 ·rintro σ H1 ⟨x0,rfl,s1⟩
  ac_nf
  rw[zw9,List.take_length]
  exact q _ s1
noncomputable def rowT(f:Fd)(xs:List Nat)(L:List (List Nat)):List Int:=L.map fun ys=>tog f xs ys
noncomputable abbrev InB(b:Nat)(L:List (List Nat)):Prop:=∀ ns∈L,(∀ x∈ns,x<=b)/\ns.length<=10
theorem zaz4(f:Fd)(xs:List Nat)(L:List (List Nat)):(List.range L.length).map (fun i=>V.int (tog f xs (L.getD i [])))=(rowT f xs L).map V.int:=by
 unfold rowT
 apply zdc1
 intro i
 rw[zcw3,zcw3,zcw3]
 by_cases h:i<L.length
 ·rw[zdb9 h,zcv9 h]
  simp[h]
 ·rw[zcy2 (by simp;omega),zcy2 (by rfl')]
  rfl
@[irreducible] noncomputable def zg0:Sp:=fun vs H Q _=>∃ (p l1 l2:Addr) (qs:List Addr) (a c:Nat) (f:Fd) (xs:List Nat) (L:List (List Nat)),vs=[.ref p,.ref l1,.ref l2]/\FdAt H p a c f/\H l1=some (.lst (pl xs))/\ze0 H l2 qs L/\(∀ x∈xs,x<=a)/\InB c L/\L.length<=100/\∀ r H',H r=none->Same H H'->H' r=some (.lst ((rowT f xs L).map V.int))->Q (.ref r) H'
theorem zaj1{p:Addr}{a:Nat}{f:Fd}(F:FdAt H p a c f)(h1:H l1=some (.lst (pl xs)))(A:ze0 H l2 qs L)(h3:∀ x∈xs,x<=a)(h4:InB c L)(h5:L.length<=100)(q:∀ r H',H r=none->Same H H'->H' r=some (.lst ((rowT f xs L).map V.int))->Q (.ref r) H'):zg0 [.ref p,.ref l1,.ref l2] H Q E:=by unfold zg0;exact⟨p,l1,l2,qs,a,c,f,xs,L,rfl,F,h1,A,h3,h4,h5,q⟩
theorem zal6(F:Fun K "together_row" "together_row" zr3 f fd)(N:Nm mg)(zcs1:Def P w K mg base CX0 2 "won_together" ["field","one","other"] zg1):FnOk P w K mg base CX0 3 f fd ["field","one","others"] zg0:=by
 refine F.ok zai9 (fun vs H Q E h=>by unfold zg0 at h;obtain⟨_,_,_,_,_,_,_,_,_,rfl,_⟩:=h;rfl) fun _ _ _ s H vs Q E hr h=>?_
 unfold zg0 at h
 obtain⟨p,l1,l2,qs,a,c,f,xs,L,rfl,F,h1,A2,h3,h4,h5,q⟩:=h
 have al:=A2.len
 refine⟨_,(za5 (zb1 (zd6 (N:=["other","field","one"]) (ks:=[none,some 0,some 1]) (zd8 (K:=K) rfl (pq 2)) (fun _ _ _ _ _=>(za7 (i:=0) nb_19 rfl (by eq_refl))) (fun _ _ _ _ _=>zc1) (fun _ _ _ _ _=>(pD zcs1 hr zb4 (za0 (pq 1) (za0 (pq 2) (za0 (pq 0) za1))))) (.skip (.take rfl rfl (by eq_refl) (.take rfl rfl (by eq_refl) .nil)))))),?_⟩
 refine zb6 A2.out ?_
 refine zi1 (Wk.list (SqL.of A2.out)) (by rw[zcw0,zdf9];omega) (fun i=>.int (tog f xs (L.getD i []))) (fun _=>true) (fun j σ=>∃ t:Option V,σ=[t,some (.ref p),some (.ref l1)]) ⟨none,rfl⟩ ?_ ?_
 ·rintro j v σ H1 R S hj s1 hx ⟨t,rfl⟩ k _
  obtain⟨q1,ys,rfl,e1,e2,hq⟩:=(A2.same s1).elt hx
  have eg:L.getD j []=ys:=by rw[zcw7,e2];rfl
  have b:=h4 ys (zcw6 e2)
  refine br_T ?_
  refine zam0 (F.same s1) (s1 _ _ h1) hq h3 b.1 b.2 (fun H2 s2=>?_)
  ac_nf
  rw[eg] at k
  exact k rfl _ _ s2 ⟨_,rfl⟩
 intro acc H1 f1 s1 h1'
 rw[zd2,zcw0,al,zaz4] at h1'
 ac_nf
 exact q _ _ f1 s1 h1'
@[irreducible] noncomputable def ze7:Sp:=fun vs H Q _=>∃ (p l1 l2:Addr) (qs1 qs2:List Addr) (a c:Nat) (f:Fd) (L1 L2:List (List Nat)),vs=[.ref p,.ref l1,.ref l2]/\FdAt H p a c f/\ze0 H l1 qs1 L1/\ze0 H l2 qs2 L2/\InB a L1/\InB c L2/\L1.length<=100/\L2.length<=100/\∀ r ps H',zs4 H H' r ps L1.length (fun i=>.lst ((rowT f (L1.getD i []) L2).map V.int))->Q (.ref r) H'
theorem zad6{p:Addr}{qs1 qs2:List Addr}{a:Nat}{f:Fd}{L1 L2:List (List Nat)}(F:FdAt H p a c f)(A1:ze0 H l1 qs1 L1)(A2:ze0 H l2 qs2 L2)(h3:InB a L1)(h4:InB c L2)(h5:L1.length<=100)(h6:L2.length<=100)(q:∀ r ps H',zs4 H H' r ps L1.length (fun i=>.lst ((rowT f (L1.getD i []) L2).map V.int))->Q (.ref r) H'):ze7 [.ref p,.ref l1,.ref l2] H Q E:=by unfold ze7;exact⟨p,l1,l2,qs1,qs2,a,c,f,L1,L2,rfl,F,A1,A2,h3,h4,h5,h6,q⟩
theorem zad7(F:Fun K "together_table" "together_table" zo7 f fd)(N:Nm mg)(zcs2:Def P w K mg base CX0 3 "together_row" ["field","one","others"] zg0):FnOk P w K mg base CX0 4 f fd ["field","ones","others"] ze7:=by
 refine F.ok zae2 (fun vs H Q E h=>by unfold ze7 at h;obtain⟨_,_,_,_,_,_,_,_,_,_,rfl,_⟩:=h;rfl) fun _ _ _ s H vs Q E hr h=>?_
 unfold ze7 at h
 obtain⟨p,l1,l2,qs1,qs2,a,c,f,L1,L2,rfl,F,A1,A2,h3,h4,h5,h6,q⟩:=h
 have al:=A1.len
 refine⟨_,(za5 (zb1 (zd6 (N:=["one","field","others"]) (ks:=[none,some 0,some 2]) (zd8 (K:=K) rfl (pq 1)) (fun _ _ _ _ _=>(za7 (i:=0) nb_20 rfl (by eq_refl))) (fun _ _ _ _ _=>zc1) (fun _ _ _ _ _=>(pD zcs2 hr zb4 (za0 (pq 1) (za0 (pq 0) (za0 (pq 2) za1))))) (.skip (.take rfl rfl (by eq_refl) (.take rfl rfl (by eq_refl) .nil)))))),?_⟩
 refine zb6 A1.out ?_
 refine zab9 (n:=(qs1.map V.ref).length) (Wk.list (SqL.of A1.out)) (by rw[zcw0,zdf9];omega) (fun i=>.lst ((rowT f (L1.getD i []) L2).map V.int)) (fun j σ=>∃ t:Option V,σ=[t,some (.ref p),some (.ref l2)]) ⟨none,rfl⟩ ?_ ?_
 ·rintro j v σ H1 R S hj s1 hx ⟨t,rfl⟩ k
  obtain⟨q1,xs,rfl,e1,e2,hq⟩:=(A1.same s1).elt hx
  have eg:L1.getD j []=xs:=by rw[zcw7,e2];rfl
  have b:=h3 xs (zcw6 e2)
  refine br_T ?_
  refine zaj1 (F.same s1) hq (A2.same s1) b.1 h4 h6 (fun r2 H2 f2 s2 h2=>?_)
  ac_nf
  rw[eg] at k
  exact k _ _ _ f2 s2 h2 ⟨_,rfl⟩
 ·intro acc ps H1 F1
  rw[zcw0,al] at F1
  ac_nf
  exact q _ _ _ F1
theorem FdAt.eq{K:zcw1}{p p':Addr}{a:Nat}{f:Fd}(F:FdAt H p a c f)(F':FdAt H p' a c f):EqR K H 3 (.ref p) (.ref p') true:=by
 have flat:∀ v:V,zbi0 v=true->EqR K H 2 v v true:=fun v hv=>by
  have:=EqR.flat (K:=K) (H:=H) (n:=2) (x:=v) (y:=v) hv hv
  rwa [zy8 hv] at this
 cases f with
 | more w t=>
  exact EqR.tup (K:=K) (H:=H) (n:=2) (fun _=>true) (SqT.of F) (SqT.of F') (fun j x y hx hy=>by
   match j with
   | 0=>cases hx;cases hy;exact flat _ rfl
   | 1=>cases hx;cases hy;exact flat _ rfl
   | 2=>cases hx;cases hy;exact flat _ rfl
   | j+3=>simp at hx)
 | lead w l=>
  exact EqR.tup (K:=K) (H:=H) (n:=2) (fun _=>true) (SqT.of F) (SqT.of F') (fun j x y hx hy=>by
   match j with
   | 0=>cases hx;cases hy;exact flat _ rfl
   | 1=>cases hx;cases hy;exact flat _ rfl
   | 2=>cases hx;cases hy;exact flat _ rfl
   | j+3=>simp at hx)
 | tab g=>
  obtain⟨q,ps,F,G⟩:=F
  obtain⟨q',ps',F',G'⟩:=F'
  exact EqR.tup (K:=K) (H:=H) (n:=2) (fun _=>true) (SqT.of F) (SqT.of F') (fun j x y hx hy=>by
   match j with
   | 0=>cases hx;cases hy;exact flat _ rfl
   | 1=>
    cases hx;cases hy
    exact EqR.rows (SqL.of G.out) (SqL.of G'.out) (by rw[G.len,G'.len]) fun i r r' e1 e2=>⟨_,by have:=G.row i r e1;rw[zax7] at this;exact SqL.of this,by have:=G'.row i r' e2;rw[zax7] at this;exact SqL.of this⟩
   | j+2=>simp at hx)
noncomputable abbrev zat7(fs:List Fd)(f:Fd):Prop:=∀ g∈fs,g=f
@[irreducible] noncomputable def zm6:Sp:=fun vs H Q _=>∃ (b l:Addr) (ps:List Addr) (a c:Nat) (fs:List Fd) (f:Fd),vs=[.ref b]/\zl0 H b l ps a c fs/\OkB a c fs/\zat7 fs f/\∀ H',Same H H'->Q (.bl true) H'
theorem zbc8{b:Addr}{a:Nat}{fs:List Fd}{f:Fd}(B:zl0 H b l ps a c fs)(O:OkB a c fs)(hA:zat7 fs f)(q:∀ H',Same H H'->Q (.bl true) H'):zm6 [.ref b] H Q E:=by unfold zm6;exact⟨b,l,ps,a,c,fs,f,rfl,B,O,hA,q⟩
theorem zbh2(F:Fun K "is_alike" "is_alike" zaf4 f fd)(N:Nm mg)(zcs8:Def P w K mg base CX0 6 "look_battle" ["battle"] zg8):FnOk P w K mg base CX0 7 f fd ["battle"] zm6:=by
 refine F.ok zbc9 (fun vs H Q E h=>by unfold zm6 at h;obtain⟨_,_,_,_,_,_,_,rfl,_⟩:=h;rfl) fun _ _ _ s H vs Q E hr h=>?_
 unfold zm6 at h
 obtain⟨b,l,ps,a,c,fs,f,rfl,B,O,hA,q⟩:=h
 have bl:=B.len
 have hu:=hu40 hr
 obtain⟨p0,e0⟩:∃ p0,ps[0]?=some p0:=⟨_,zcv9 (by have:=O.2.1;omega)⟩
 obtain⟨g0,eg0⟩:∃ g0,fs[0]?=some g0:=⟨_,zcv9 (by have:=O.2.1;omega)⟩
 have g0f:=hA g0 (zcw6 eg0)
 subst g0f
 refine⟨_,(za2 (zl8 (pD zcs8 hr zb4 (za0 (pq 0) za1)))
   (za5 (zb1 (pB (cAllK (K:=K) rfl rfl) N.all_ zbz9 (za0 (zd6 (N:=["field","battle"]) (ks:=[none,some 0]) (zd8 (K:=K) rfl (za8 (K:=K) rfl (pq 0) za3)) (fun _ _ _ _ _=>(za7 (i:=0) nb_21 rfl (by eq_refl))) (fun _ _ _ _ _=>zc1) (fun _ _ _ _ _=>(peC (oEqK (K:=K) rfl (by exact hu)) (pq 0) (za8 (K:=K) rfl (za8 (K:=K) rfl (pq 1) za3) za3))) (.skip (.take rfl rfl (by eq_refl) .nil))) za1))))),?_⟩
 refine zan7 B O (fun H1 s1=>?_)
 have B1:=B.same s1
 refine za9 (v:=.ref l) B1.out rfl ?_
 refine zb6 B1.lst ?_
 refine zi1 (Wk.list (SqL.of B1.lst)) (by rw[zcw0,zdf9];omega) (fun i=>.bl true) (fun _=>true) (fun j σ=>∃ t:Option V,σ=[t,some (.ref b)]) ⟨none,rfl⟩ ?_ ?_
 ·rintro j v σ H2 R S hj s2 hx ⟨t,rfl⟩ k _
  have B2:=B1.same s2
  obtain⟨p,g,rfl,ep,ef,hf,ok⟩:=B2.elt hx
  have:=hA g (zcw6 ef)
  subst this
  refine br_T ?_
  refine za9 (v:=.ref l) B2.out rfl ?_
  refine zb5 (v:=.ref p0) B2.lst (zc9 (j:=0) (by rw[zcw3,e0];rfl)) ?_
  refine zal8 (hf.eq (B2.fld 0 p0 _ e0 eg0).1) ?_
  ac_nf
  exact k rfl _ _ (Same.refl _) ⟨_,rfl⟩
 intro acc H2 f2 s2 h2
 rw[zd2,zcw0,zbe0] at h2
 refine zbx2 h2 ?_
 rw[zaw6]
 ac_nf
 exact q _ (s1.trans s2)
@[irreducible] noncomputable def zi9:Sp:=fun vs H Q _=>∃ (b l:Addr) (ps:List Addr) (a c:Nat) (fs:List Fd) (f:Fd),vs=[.ref b]/\zl0 H b l ps a c fs/\OkB a c fs/\zat7 fs f/\∀ H',Same H H'->Q .non H'
theorem zau2{b:Addr}{a:Nat}{fs:List Fd}{f:Fd}(B:zl0 H b l ps a c fs)(O:OkB a c fs)(hA:zat7 fs f)(q:∀ H',Same H H'->Q .non H'):zi9 [.ref b] H Q E:=by unfold zi9;exact⟨b,l,ps,a,c,fs,f,rfl,B,O,hA,q⟩
theorem zaw3(F:Fun K "look_alike" "look_alike" zy2 f fd)(N:Nm mg)(zcv2:Def P w K mg base CX0 7 "is_alike" ["battle"] zm6):FnOk P w K mg base CX0 8 f fd ["battle"] zi9:=by
 refine F.ok zar9 (fun vs H Q E h=>by unfold zi9 at h;obtain⟨_,_,_,_,_,_,_,rfl,_⟩:=h;rfl) fun _ _ _ s H vs Q E hr h=>?_
 unfold zi9 at h
 obtain⟨b,l,ps,a,c,fs,f,rfl,B,O,hA,q⟩:=h
 refine⟨_,(za5 (psIf (zl3 (ptV (pD zcv2 hr zb4 (za0 (pq 0) za1)))) (za5 zy7) zb8)),?_⟩
 refine zbc8 B O hA (fun H1 s1=>?_)
 refine ze3 (br_T ?_)
 ac_nf
 exact q _ s1
@[irreducible] noncomputable def zk0:Sp:=fun vs H Q _=>∃ h f:Nat,vs=[.int h,.int f]/\h<=10/\(1<=f/\f<=5)/\∀ l qs H',H l=none->Same H H'->ze0 H' l qs (allL f h h)->Q (.ref l) H'
theorem zad2{f:Nat}(h1:h<=10)(h2:1<=f)(h3:f<=5)(q:∀ l qs H',H l=none->Same H H'->ze0 H' l qs (allL f h h)->Q (.ref l) H'):zk0 [.int h,.int f] H Q E:=by unfold zk0;exact⟨h,f,rfl,h1,⟨h2,h3⟩,q⟩
theorem zas0(F:Fun K "all_counts" "all_counts" zx4 f fd)(N:Nm mg)(zcs9:Def P w K mg base CX0 6 "counts_many" ["hosts","fields"] zh1)(zcq8:Def P w K mg base CX0 6 "counts_of" ["hosts","fields","number"] zi7):FnOk P w K mg base CX0 7 f fd ["hosts","fields"] zk0:=by
 refine F.ok zas2 (fun vs H Q E h=>by unfold zk0 at h;obtain⟨_,_,rfl,_⟩:=h;rfl) fun _ _ _ s H vs Q E hr h=>?_
 unfold zk0 at h
 obtain⟨h,f,rfl,h1,⟨h2,h3⟩,q⟩:=h
 have ok:=zr9 f h h
 have b:=Wn_30 (m:=h) (f:=f) (h:=h) h1 h3 h1
 refine⟨_,(za5 (zb1 (zd6 (N:=["number","hosts","fields"]) (ks:=[none,some 0,some 1]) (zs5 N.range_ (za0 (pD zcs9 hr zb4 (za0 (pq 0) (za0 (pq 1) za1))) za1)) (fun _ _ _ _ _=>(za7 (i:=0) nb_22 rfl (by eq_refl))) (fun _ _ _ _ _=>zc1) (fun _ _ _ _ _=>(pD zcq8 hr zb4 (za0 (pq 1) (za0 (pq 2) (za0 (pq 0) za1))))) (.skip (.take rfl rfl (by eq_refl) (.take rfl rfl (by eq_refl) .nil)))))),?_⟩
 refine zao0 (by rfl') h2 (by rfl') (fun H1 s1=>?_)
 rw[← ok.len] at b ⊢
 refine zj5 (by decide) (by decide) (by rfl') (by rfl') ?_
 rw[show (((allL f h h).length:Int) - 0).toNat=(allL f h h).length by rfl']
 refine zab9 (n:=(allL f h h).length) Wk.range (by rw[zdf9];omega) (fun i=>.lst (pl ((allL f h h).getD i []))) (fun j σ=>∃ t:Option V,σ=[t,some (.int h),some (.int f)]) ⟨none,rfl⟩ ?_ ?_
 ·rintro j v σ H2 R S hj s2 rfl ⟨t,rfl⟩ k
  obtain⟨ns,en⟩:∃ ns,(allL f h h)[j]?=some ns:=⟨_,zcv9 hj⟩
  have eg:(allL f h h).getD j []=ns:=by rw[zcw7,en];rfl
  obtain⟨n1,n2,n3,n4⟩:=ok.num j ns en
  refine br_T ?_
  ac_nf
  rw[show (0:Int)+(j:Int)=cnum ns by rw[n1];omega]
  refine zag3 n2 n3 n4 (zcw4 _) (by rfl') h2 (by rfl') (fun b3 H3 f3 s3 h3'=>?_)
  ac_nf
  rw[eg] at k
  exact k _ _ _ f3 s3 h3' ⟨_,rfl⟩
 ·intro acc ps H2 F2
  ac_nf
  refine q acc ps H2 (s1.free F2.facc) (s1.trans F2.same) ⟨F2.out,F2.len,fun i p ns e1 e2=>?_⟩
  have eg:(allL f h h).getD i []=ns:=by rw[zcw7,e2];rfl
  have:=(F2.row i p e1).2
  rw[eg] at this
  exact this
theorem zbz4:∀ {ns:List Nat}{n:Nat},n∈ns->n<=ns.sum
 | [],_,h=>by cases h
 | a :: ns,n,h=>by
  rw[zde4]
  rcases zcx2.mp h with rfl|h
  ·omega
  ·have:=zbz4 h;omega
theorem zaa8{f:Nat}(hf:f<=5):InB h (allL f h h):=fun ns hn=>by
 obtain⟨j,ej⟩:=zcy5 hn
 obtain⟨n1,n2,n3,n4⟩:=(zr9 f h h).num j ns ej
 exact⟨fun x hx=>by have:=zbz4 hx;omega,by rfl'⟩
theorem zh6{f:Nat}(hf:f<=5)(hh:h<=10):(allL f h h).length<=30:=by
 have b:=Wn_30 (m:=h) (f:=f) (h:=h) hh hf hh
 rw[← (zr9 f h h).len] at b
 omega
@[irreducible] noncomputable def zg2:Sp:=fun vs H Q _=>∃ (b l:Addr) (ps:List Addr) (a c:Nat) (fs:List Fd) (f:Fd),vs=[.ref b]/\zl0 H b l ps a c fs/\OkB a c fs/\zat7 fs f/\∀ r qs H',zs4 H H' r qs (allL fs.length a a).length (fun i=>.lst ((rowT f ((allL fs.length a a).getD i []) (allL fs.length c c)).map V.int))->Q (.ref r) H'
theorem zal7{b:Addr}{a:Nat}{fs:List Fd}{f:Fd}(B:zl0 H b l ps a c fs)(O:OkB a c fs)(hA:zat7 fs f)(q:∀ r qs H',zs4 H H' r qs (allL fs.length a a).length (fun i=>.lst ((rowT f ((allL fs.length a a).getD i []) (allL fs.length c c)).map V.int))->Q (.ref r) H'):zg2 [.ref b] H Q E:=by unfold zg2;exact⟨b,l,ps,a,c,fs,f,rfl,B,O,hA,q⟩
theorem zan2(F:Fun K "counts_table" "counts_table" zs1 f fd)(N:Nm mg)(zcr8:Def P w K mg base CX0 7 "all_counts" ["hosts","fields"] zk0)(zct5:Def P w K mg base CX0 8 "look_alike" ["battle"] zi9)(zcr2:Def P w K mg base CX0 4 "together_table" ["field","ones","others"] ze7):FnOk P w K mg base CX0 9 f fd ["battle"] zg2:=by
 refine F.ok zw4 (fun vs H Q E h=>by unfold zg2 at h;obtain⟨_,_,_,_,_,_,_,rfl,_⟩:=h;rfl) fun _ _ _ s H vs Q E hr h=>?_
 unfold zg2 at h
 obtain⟨b,l,ps,a,c,fs,f,rfl,B,O,hA,q⟩:=h
 have bl:=B.len
 obtain⟨p0,e0⟩:∃ p0,ps[0]?=some p0:=⟨_,zcv9 (by have:=O.2.1;omega)⟩
 obtain⟨g0,eg0⟩:∃ g0,fs[0]?=some g0:=⟨_,zcv9 (by have:=O.2.1;omega)⟩
 have g0f:=hA g0 (zcw6 eg0)
 subst g0f
 refine⟨_,(za2 (zl8 (pD zct5 hr zb4 (za0 (pq 0) za1)))
   (za2 (psS (i:=1) zw4.nd (pB (zm3 (K:=K) rfl) N.len_ zf7 (za0 (za8 (K:=K) rfl (pq 0) za3) za1)))
   (za5 (zb1 (pD zcr2 hr zb4 (za0 (za8 (K:=K) rfl (za8 (K:=K) rfl (pq 0) za3) za3) (za0 (pD zcr8 hr zb4 (za0 (za8 (K:=K) rfl (pq 0) za3) (za0 (pq 1) za1))) (za0 (pD zcr8 hr zb4 (za0 (za8 (K:=K) rfl (pq 0) za3) (za0 (pq 1) za1))) za1)))))))),?_⟩
 refine zau2 B O hA (fun H1 s1=>?_)
 have B1:=B.same s1
 refine za9 (v:=.ref l) B1.out rfl ?_
 refine zf2 B1.lst ?_
 rw[zcw0,bl]
 refine za9 (v:=.ref l) B1.out rfl ?_
 refine zb5 (v:=.ref p0) B1.lst (zc9 (j:=0) (by rw[zcw3,e0];rfl)) ?_
 refine za9 (v:=.int a) B1.out rfl ?_
 refine zad2 O.1.1 O.2.1 O.2.2 (fun l1 qs1 H2 f2 s2 A2=>?_)
 have B2:=B1.same s2
 refine za9 (v:=.int c) B2.out rfl ?_
 refine zad2 O.1.2 O.2.1 O.2.2 (fun l2 qs2 H3 f3 s3 A3=>?_)
 have B3:=B2.same s3
 have k1:=zh6 (f:=fs.length) (h:=a) O.2.2 O.1.1
 have k2:=zh6 (f:=fs.length) (h:=c) O.2.2 O.1.2
 refine zad6 (B3.fld 0 p0 _ e0 eg0).1 (A2.same s3) A3 (zaa8 O.2.2) (zaa8 O.2.2) (by rfl') (by rfl') (fun r qs H4 F4=>?_)
 ac_nf
 exact q r qs H4 (F4.pre ((s1.trans s2).trans s3))
noncomputable def rm(p:Addr)(H:Hp):Hp:=fun b=>if b=p then none else H b
noncomputable def nw(H H':Hp):Hp:=fun b=>match H b with
 | none=>H' b
 | some _=>none
theorem zs2{p b:Addr}(n:b≠p)(h:H b=some o):rm p H b=some o:=by unfold rm;rw[if_neg n];exact h
theorem zah5{p b:Addr}(h:rm p H b=some o):b≠p/\H b=some o:=by
 unfold rm at h
 by_cases e:b=p
 ·rw[if_pos e] at h;cases h
 ·rw[if_neg e] at h;exact⟨e,h⟩
theorem zah2{b:Addr}(n:H b=none)(h:H' b=some o):nw H H' b=some o:=by unfold nw;rw[n];exact h
theorem zah0{b:Addr}(h:nw H H' b=some o):H b=none/\H' b=some o:=by
 unfold nw at h
 cases e:H b with
 | none=>rw[e] at h;exact⟨rfl,h⟩
 | some v=>rw[e] at h;cases h
theorem zx5(p:Addr)(H:Hp):Same (rm p H) H:=fun b o h=>(zah5 h).2
theorem zcj2(H H':Hp):Same (nw H H') H':=fun b o h=>(zah0 h).2
theorem Same.rm{p:Addr}{H H':Hp}(s:Same H H'):Same (rm p H) (G.rm p H'):=fun b o h=>zs2 (zah5 h).1 (s _ _ (zah5 h).2)
theorem Chg.rm{p:Addr}{H H':Hp}(s:Chg p H H'):Same (rm p H) (G.rm p H'):=fun b o h=>zs2 (zah5 h).1 (s _ _ (zah5 h).1 (zah5 h).2)
theorem nw_up{H'':Hp}(s:Same H' H''):Same (nw H H') (nw H H''):=fun b o h=>zah2 (zah0 h).1 (s _ _ (zah0 h).2)
@[irreducible] noncomputable def zi8:Sp:=fun vs H Q _=>∃ (p z:Addr) (o:HO) (a c:Nat) (f:Fd),vs=[.ref p]/\FdAt (rm z H) p a c f/\H z=some o/\a<=10/\c<=10/\∀ r H',Same H H'->FdAt (rm z H') r a c f->Q (.ref r) H'
theorem zbw5{p z:Addr}{a:Nat}{f:Fd}(F:FdAt (rm z H) p a c f)(hz:H z=some o)(h1:a<=10)(h2:c<=10)(q:∀ r H',Same H H'->FdAt (rm z H') r a c f->Q (.ref r) H'):zi8 [.ref p] H Q E:=by unfold zi8;exact⟨p,z,o,a,c,f,rfl,F,hz,h1,h2,q⟩
theorem zaz9(F:Fun K "_law_copy" "_law_copy" zaa2 f fd)(N:Nm mg):FnOk P w K mg base CX0 1 f fd ["_law_field_here"] zi8:=by
 refine F.ok zba4 (fun vs H Q E h=>by unfold zi8 at h;obtain⟨_,_,_,_,_,_,rfl,_⟩:=h;rfl) fun _ _ _ s H vs Q E hr h=>?_
 unfold zi8 at h
 obtain⟨p,z,o,a,c,f,rfl,Fz,hz,h1,h2,q⟩:=h
 have F:=Fz.same (zx5 z H)
 have hu:=hu40 hr
 refine⟨_,(za2 (psIf (ptC (oEqK (K:=K) rfl (by exact hu)) (za8 (K:=K) rfl (pq 0) za3) zp3) (za5 (zb1 (zx8 (za0 zp3 (za0 (zd6 (N:=["_law_row"]) (ks:=[none]) (zd8 (K:=K) rfl (za8 (K:=K) rfl (pq 0) za3)) (fun _ _ _ _ _=>(za7 (i:=0) nb_24 rfl (by eq_refl))) (fun _ _ _ _ _=>zc1) (fun _ _ _ _ _=>(pT (zbl3 (K:=K) rfl) N.list_ zy1 (za0 (pq 0) za1))) (.skip .nil)) za1))))) zb8)
   (za5 (zb1 (pq 0)))),?_⟩
 cases f with
 | more wt t=>
  have F':H p=some (.tup [.str "more",.int wt,.int t]):=F
  refine za9 (v:=.str "more") F' rfl ?_
  refine zt1 (by decide) ?_
  ac_nf
  exact q _ _ (Same.refl _) Fz
 | lead wt l=>
  have F':H p=some (.tup [.str "lead",.int wt,.int l]):=F
  refine za9 (v:=.str "lead") F' rfl ?_
  refine zt1 (by decide) ?_
  ac_nf
  exact q _ _ (Same.refl _) Fz
 | tab g=>
  obtain⟨r,ps,F',G⟩:=F
  have gl:=G.len
  refine za9 (v:=.str "table") F' rfl ?_
  refine zl5 rfl ?_
  refine za9 (v:=.ref r) F' rfl ?_
  refine zb6 G.out ?_
  refine zab9 (n:=(ps.map V.ref).length) (Wk.list (SqL.of G.out)) (by rw[zcw0,zdf9];omega) (fun i=>.lst (rowV (c+1) (g i))) (fun j σ=>∃ t:Option V,σ=[t]) ⟨none,rfl⟩ ?_ ?_
  ·rintro j v σ H1 R S hj s1 hx ⟨t,rfl⟩ k
   rw[zcw3] at hx
   obtain⟨p1,e1,rfl⟩:=zcx0.mp hx
   refine br_T ?_
   refine zai0 (SqL.of (s1 _ _ (G.row j p1 e1))) (fun p2 H2 f2 s2 h2'=>?_)
   ac_nf
   exact k _ _ _ f2 s2 h2' ⟨_,rfl⟩
  ·intro acc qs H1 F1
   rw[zcw0,gl] at F1
   refine zh9 (fun p2 H2 f2 s2 h2'=>?_)
   ac_nf
   exact q _ _ (F1.same.trans s2) ⟨acc,qs,zs2 (Ne.symm (za4 hz (F1.same.free f2))) h2',zs2 (Ne.symm (za4 hz F1.facc)) (s2 _ _ F1.out),F1.len,fun i p' e=>zs2 (Ne.symm (za4 hz (F1.row i p' e).1)) (s2 _ _ (F1.row i p' e).2)⟩
@[irreducible] noncomputable def zn6:Sp:=fun vs H Q _=>∃ (p:Addr) (a c x y:Nat) (f:Fd),vs=[.ref p,.int x,.int y]/\FdAt H p a c f/\x<=a/\y<=c/\∀ H',Same H H'->Q (.int (f.won x y)) H'
theorem zbp7{p:Addr}{a x y:Nat}{f:Fd}(F:FdAt H p a c f)(h1:x<=a)(h2:y<=c)(q:∀ H',Same H H'->Q (.int (f.won x y)) H'):zn6 [.ref p,.int x,.int y] H Q E:=by unfold zn6;exact⟨p,a,c,x,y,f,rfl,F,h1,h2,q⟩
theorem zbi9(F:Fun K "_law_pay" "_law_pay" zaf8 f fd)(N:Nm mg):FnOk P w K mg base CX0 1 f fd ["_law_field_here","_law_x","_law_y"] zn6:=by
 refine F.ok zbd3 (fun vs H Q E h=>by unfold zn6 at h;obtain⟨_,_,_,_,_,_,rfl,_⟩:=h;rfl) fun _ _ _ s H vs Q E hr h=>?_
 unfold zn6 at h
 obtain⟨p,a,c,x,y,f,rfl,F,h1,h2,q⟩:=h
 have hu:=hu40 hr
 refine⟨_,(za2 (psIf (ptC (oEqK (K:=K) rfl (by exact hu)) (za8 (K:=K) rfl (pq 0) za3) zp3) (za5 (zb1 (za8 (K:=K) rfl (za8 (K:=K) rfl (za8 (K:=K) rfl (pq 0) za3) (pq 1)) (pq 2)))) zb8)
   (za2 (psIf (ptC (oEqK (K:=K) rfl (by exact hu)) (za8 (K:=K) rfl (pq 0) za3) zp3) (za5 (zb1 (zb2 oMul (za8 (K:=K) rfl (pq 0) za3) (zb2 oSub za3 (zb2 oMul za3 (pT cInt N.int_ zar8 (za0 (peC oLt (pq 1) (zb2 oAdd (pq 2) (za8 (K:=K) rfl (pq 0) za3))) za1))))))) zb8)
   (za5 (zb1 (za8 (K:=K) rfl (zl1 (za0 (za8 (K:=K) rfl (pq 0) za3) (za0 (za8 (K:=K) rfl (pq 0) za3) (za0 (zb2 oSub za3 (za8 (K:=K) rfl (pq 0) za3)) za1)))) (zb2 oAdd (pT cInt N.int_ zar8 (za0 (peC oGt (pq 1) (pq 2)) za1)) (zb2 oMul za3 (pT cInt N.int_ zar8 (za0 (peC oLt (pq 1) (pq 2)) za1))))))))),?_⟩
 cases f with
 | more wt t=>
  have F:H p=some (.tup [.str "more",.int wt,.int t]):=F
  refine za9 (v:=.str "more") F rfl ?_
  refine zt1 (by decide) ?_
  refine za9 (v:=.str "more") F rfl ?_
  refine zt1 (by decide) ?_
  refine za9 (v:=.int t) F rfl ?_
  refine za9 (v:=.int wt) F rfl ?_
  refine za9 (v:=.int wt) F rfl ?_
  refine zc3 (fun p1 H1 f1 s1 h1'=>?_)
  have q:Q (.int (if x=y then t else if y<x then wt else -wt)) H1:=q _ s1
  refine zas4 (by decide) (by decide) ?_
  ac_nf
  by_cases e:x=y
  ·rw[if_pos e] at q
   refine zb5 (v:=.int t) h1' ?_ q
   rw[decide_eq_false (show ¬ (y:Int)<(x:Int) by rfl'),decide_eq_false (show ¬ (x:Int)<(y:Int) by rfl')]
   rfl
  ·rw[if_neg e] at q
   by_cases g:y<x
   ·rw[if_pos g] at q
    refine zb5 (v:=.int wt) h1' ?_ q
    rw[decide_eq_true (show (y:Int)<(x:Int) by rfl'),decide_eq_false (show ¬ (x:Int)<(y:Int) by rfl')]
    rfl
   ·rw[if_neg g] at q
    refine zb5 (v:=.int (-wt)) h1' ?_ q
    rw[decide_eq_false (show ¬ (y:Int)<(x:Int) by rfl'),decide_eq_true (show (x:Int)<(y:Int) by rfl')]
    show some (V.int (0 - wt))=some (V.int (-wt))
    congr 2
    omega
 | lead wt l=>
  have F:H p=some (.tup [.str "lead",.int wt,.int l]):=F
  have q:Q (.int (if l<=(x:Int) - y then wt else -wt)) H:=q _ (Same.refl _)
  refine za9 (v:=.str "lead") F rfl ?_
  refine zt1 (by decide) ?_
  refine za9 (v:=.str "lead") F rfl ?_
  refine zl5 rfl ?_
  refine za9 (v:=.int wt) F rfl ?_
  refine za9 (v:=.int l) F rfl ?_
  refine zas4 (by decide) (by decide) ?_
  ac_nf
  by_cases g:l<=(x:Int) - y
  ·rw[if_pos g] at q
   rw[decide_eq_false (show ¬ (x:Int)<(y:Int)+l by rfl')]
   refine zbf0 (by decide) (by decide) ?_
   ac_nf
   have e:wt*(1 - 2*(if false=true then (1:Int) else 0))=wt:=by rw[if_neg zcx1];omega
   rw[e]
   exact q
  ·rw[if_neg g] at q
   rw[decide_eq_true (show (x:Int)<(y:Int)+l by rfl')]
   refine zbf0 (by decide) (by decide) ?_
   ac_nf
   have e:wt*(1 - 2*(if true=true then (1:Int) else 0))=-wt:=by rw[if_pos rfl];omega
   rw[e]
   exact q
 | tab g=>
  obtain⟨q',ps,F,G⟩:=F
  obtain⟨r,er,hr'⟩:=G.some (i:=x) (by rfl')
  refine za9 (v:=.str "table") F rfl ?_
  refine zl5 rfl ?_
  refine za9 (v:=.ref q') F rfl ?_
  refine zb5 (v:=.ref r) G.out (zc9 (by rw[zcw3,er];rfl)) ?_
  refine zb5 (v:=.int (g x y)) hr' (zc9 (zd3 (by rfl'))) ?_
  ac_nf
  exact q _ (Same.refl _)
noncomputable def Fd.Sm:Fd->Nat->Nat->Prop
 | .more w t,_,_=>(-(10 ^ 40)<=w/\w<=10 ^ 40)/\-(10 ^ 40)<=t/\t<=10 ^ 40
 | .lead w t,_,_=>(-(10 ^ 40)<=w/\w<=10 ^ 40)/\-(10 ^ 40)<=t/\t<=10 ^ 40
 | .tab g,n,m=>∀ x y,x<=n->y<=m->-(10 ^ 40)<=g x y/\g x y<=10 ^ 40
theorem zc4.chg1{p c a:Addr}{b:Int}(h:zc4 H p c b)(s:Chg a H H')(n1:p≠a)(n2:c≠a):zc4 H' p c b:=by
 obtain⟨t,ns,n,e1,e2,r⟩:=h
 exact⟨t,ns,n,s _ _ n1 e1,s _ _ n2 e2,r⟩
theorem Chg2.free'{a c:Addr}(x:Chg2 a c H H')(h:H' l=none)(n1:l≠a)(n2:l≠c):H l=none:=by
 cases e:H l with
 | none=>rfl
 | some o=>
  have:=x l o n1 n2 e
  rw[h] at this
  cases this
theorem zce7{P:Int->Prop}{z:List Int}{d:Int}(h:∀ u∈z,P u)(hd:P d):∀ u∈z++[d],P u:=fun u hu=>by
 rcases zda5.mp hu with hu|hu
 ·exact h u hu
 ·have:u=d:=by simpa using hu
  rw[this];exact hd
theorem zcn6{z:List Int}(h:z.length=n):z.map V.int=rowV n fun y=>z.getD y 0:=by
 subst h
 apply zdc1
 intro i
 by_cases hi:i<z.length
 ·rw[zd3 hi,zcw3,zcv9 hi,zcw7,zcv9 hi]
  rfl
 ·rw[zcy2 (by simp;omega),zcy2 (by rw[zb7];omega)]
@[irreducible] noncomputable def zj9:Sp:=fun vs H Q _=>∃ (p c:Addr) (b:Int) (n m:Nat),vs=[.ref p,.int n,.int m]/\zc4 H p c b/\b<=100000/\n<=10/\m<=10/\∀ r f H',Chg2 p c H H'->zc4 H' p c (b+1000)->FdAt (nw H H') r n m f->f.Ok->f.Sm n m->Q (.ref r) H'
theorem zaz2{p c:Addr}{b:Int}(hP:zc4 H p c b)(hb:b<=100000)(h1:n<=10)(h2:m<=10)(q:∀ r f H',Chg2 p c H H'->zc4 H' p c (b+1000)->FdAt (nw H H') r n m f->f.Ok->f.Sm n m->Q (.ref r) H'):zj9 [.ref p,.int n,.int m] H Q E:=by unfold zj9;exact⟨p,c,b,n,m,rfl,hP,hb,h1,h2,q⟩
theorem zat8(F:Fun K "_law_field" "_law_field" zw0 f fd)(N:Nm mg)(zcp3:Def P w K mg base CX0 1 "_law_draw" ["_law_purse_here","_law_out_of"] zi6):FnOk P w K mg base CX0 2 f fd ["_law_purse_here","_law_first","_law_second"] zj9:=by
 refine F.ok zf5 (fun vs H Q E h=>by unfold zj9 at h;obtain⟨_,_,_,_,_,rfl,_⟩:=h;rfl) fun _ _ _ s H vs Q E hr h=>?_
 unfold zj9 at h
 obtain⟨p,c,b,n,m,rfl,hP,hb,h1,h2,q⟩:=h
 have hu:=hu40 hr
 refine⟨_,(za2 (psS (i:=3) zf5.nd (pD zcp3 hr zb4 (za0 (pq 0) (za0 za3 za1))))
   (za2 (psS (i:=4) zf5.nd (zb2 oAdd za3 (pD zcp3 hr zb4 (za0 (pq 0) (za0 (za8 (K:=K) rfl (zl1 (za0 za3 (za0 (zb2 oPow za3 za3) za1))) (pD zcp3 hr zb4 (za0 (pq 0) (za0 za3 za1)))) za1)))))
   (za2 (psIf (ptC (oEqK (K:=K) rfl (by exact hu)) (pq 3) za3) (za2 (psS (i:=5) zf5.nd (za8 (K:=K) rfl (zl1 (za0 za3 (za0 (pq 4) (za0 (zb2 oSub za3 (pq 4)) (za0 (zb2 oSub (pD zcp3 hr zb4 (za0 (pq 0) (za0 (zb2 oAdd (zb2 oMul za3 (pq 4)) za3) za1))) (pq 4)) za1))))) (pD zcp3 hr zb4 (za0 (pq 0) (za0 za3 za1)))))
   (za5 (zb1 (zx8 (za0 zp3 (za0 (pq 4) (za0 (pq 5) za1))))))) zb8)
   (za2 (psIf (ptC (oEqK (K:=K) rfl (by exact hu)) (pq 3) za3) (za2 (psS (i:=6) zf5.nd (zb2 oSub (zb2 oSub (pD zcp3 hr zb4 (za0 (pq 0) (za0 (zb2 oAdd (zb2 oAdd (pq 1) (pq 2)) za3) za1))) (pq 2)) za3))
   (za5 (zb1 (zx8 (za0 zp3 (za0 (pq 4) (za0 (za8 (K:=K) rfl (zl1 (za0 (pq 6) (za0 (zb2 oSub (pD zcp3 hr zb4 (za0 (pq 0) (za0 (zb2 oMul za3 (zb2 oPow za3 za3)) za1))) (zb2 oPow za3 za3)) za1))) (zb2 oDiv (pD zcp3 hr zb4 (za0 (pq 0) (za0 za3 za1))) za3)) za1))))))) zb8)
   (za2 (psS (i:=7) zf5.nd (zl1 za1))
   (za2 (psS (i:=8) zf5.nd (za8 (K:=K) rfl (zl1 (za0 za3 (za0 za3 (za0 (zb2 oMul za3 (zb2 oPow za3 za3)) za1)))) (pD zcp3 hr zb4 (za0 (pq 0) (za0 za3 za1)))))
   (za2 (zaa4 PassesOwn.never rfl (zs5 N.range_ (za0 (zb2 oAdd (pq 1) za3) za1)) (za7 (i:=9) zf5.nd rfl (by eq_refl)) (za5 (zl8 (zn2 (pq 7) (za0 (zd6 (N:=["_law_y","_law_purse_here","_law_top"]) (ks:=[none,some 0,some 8]) (zs5 N.range_ (za0 (zb2 oAdd (pq 2) za3) za1)) (fun _ _ _ _ _=>(za7 (i:=0) nb_23 rfl (by eq_refl))) (fun _ _ _ _ _=>zc1) (fun _ _ _ _ _=>(zb2 oSub (pD zcp3 hr zb4 (za0 (pq 1) (za0 (pq 2) za1))) (zb2 oDiv (pq 2) za3))) (.skip (.take rfl rfl (by eq_refl) (.take rfl rfl (by eq_refl) .nil)))) za1)))))
   (za5 (zb1 (zx8 (za0 zp3 (za0 (pq 7) za1)))))))))))),?_⟩
 refine zm0 hP (by rfl') (by rfl') (by rfl') (fun kd H1 k0 k1 c1 P1=>?_)
 walk_at "st"
 refine zc3 (fun q1 H2 f2 s2 h2'=>?_)
 refine zm0 (P1.same s2) (by rfl') (by rfl') (by rfl') (fun d3 H3 d30 d31 c3 P3=>?_)
 have h23:=c3 _ _ (P1.neP f2) (P1.neC f2) h2'
 refine zv3 h23 (by rfl') (by simp only[zcy0,zdb7];omega) ?_
 intro v hv
 obtain⟨tp,rfl,tp1,tp2⟩:∃ t:Int,v=.int t/\1<=t/\t<=10 ^ 29:=by
  simp only[zcx2,zcx8,or_false] at hv
  rcases hv with rfl|rfl<;>exact⟨_,rfl,by rfl',by rfl'⟩
 clear hv h23 h2'
 refine zm0 P3 (by rfl') (by rfl') (by rfl') (fun d4 H4 d40 d41 c4 P4=>?_)
 have c04:Chg2 p c H H4:=((c1.same s2).trans c3).trans c4
 obtain⟨wt,ewt,w0,w1⟩:∃ wt:Int,1+d4=wt/\1<=wt/\wt<=10 ^ 29:=⟨_,rfl,by rfl',by rfl'⟩
 ac_nf
 rw[ewt]
 refine zk1 (fun e0=>?_) (fun e0=>?_)
 ·walk_at "st"
  refine zm0 P4 (by rfl') (by rfl') (by rfl') (fun d5 H5 d50 d51 c5 P5=>?_)
  refine zc3 (fun q6 H6 f6 s6 h6=>?_)
  refine zm0 (P5.same s6) (by rfl') (by rfl') (by rfl') (fun d7 H7 d70 d71 c7 P7=>?_)
  have h67:=c7 _ _ (P5.neP f6) (P5.neC f6) h6
  refine zv3 h67 (by rfl') (by simp only[zcy0,zdb7];omega) ?_
  intro v hv
  obtain⟨t,rfl,t1,t2⟩:∃ t:Int,v=.int t/\-wt<=t/\t<=wt:=by
   simp only[zcx2,zcx8,or_false] at hv
   rcases hv with rfl|rfl|rfl|rfl<;>exact⟨_,rfl,by rfl',by rfl'⟩
  clear hv
  refine zh9 (fun q8 H8 f8 s8 h8=>?_)
  ac_nf
  have c07:Chg2 p c H H7:=(((c04.trans c5).same s6).trans c7)
  exact q q8 (.more wt t) H8 (c07.same s8) ((P7.same s8).up (by rfl')) (zah2 (Chg2.free' c07 f8 (P7.neP f8) (P7.neC f8)) h8) ⟨w0,t1,t2⟩ ⟨⟨by rfl',by rfl'⟩,by rfl',by rfl'⟩
 refine zk1 (fun e1=>?_) (fun e1=>?_)
 ·ac_nf
  refine zm0 P4 (by rfl') (by rfl') (by rfl') (fun d5 H5 d50 d51 c5 P5=>?_)
  walk_at "st"
  walk_at "st"
  refine zm0 P5 (by rfl') (by rfl') (by rfl') (fun d6 H6 d60 d61 c6 P6=>?_)
  walk_at "st"
  refine zc3 (fun q7 H7 f7 s7 h7=>?_)
  refine zm0 (P6.same s7) (by rfl') (by rfl') (by rfl') (fun d8 H8 d80 d81 c8 P8=>?_)
  have h78:=c8 _ _ (P6.neP f7) (P6.neC f7) h7
  walk_at "st"
  refine zv3 h78 (by rfl') (by simp only[zcy0,zdb7];omega) ?_
  intro v hv
  obtain⟨t,rfl,tl1,tl2⟩:∃ t:Int,v=.int t/\-(10 ^ 40)<=t/\t<=10 ^ 40:=by
   simp only[zcx2,zcx8,or_false] at hv
   rcases hv with rfl|rfl<;>exact⟨_,rfl,by rfl',by rfl'⟩
  clear hv
  refine zh9 (fun q9 H9 f9 s9 h9=>?_)
  ac_nf
  have c08:Chg2 p c H H8:=((((c04.trans c5).trans c6).same s7).trans c8)
  exact q q9 (.lead wt t) H9 (c08.same s9) ((P8.same s9).up (by rfl')) (zah2 (Chg2.free' c08 f9 (P8.neP f9) (P8.neC f9)) h9) w0 ⟨⟨by rfl',by rfl'⟩,tl1,tl2⟩
 refine zc3 (fun r H5 f5 s5 h5=>?_)
 have nrp:r≠p:=P4.neP f5
 have nrc:r≠c:=P4.neC f5
 have fr:H r=none:=Chg2.free' c04 f5 nrp nrc
 walk_at "st"
 walk_at "st"
 refine zc3 (fun q6 H6 f6 s6 h6=>?_)
 refine zm0 ((P4.same s5).same s6) (by rfl') (by rfl') (by rfl') (fun d7 H7 d70 d71 c7 P7=>?_)
 have h67:=c7 _ _ ((P4.same s5).neP f6) ((P4.same s5).neC f6) h6
 have h57:H7 r=some (.lst []):=c7 _ _ nrp nrc (s6 _ _ h5)
 refine zv3 h67 (by rfl') (by simp only[zcy0,zdb7];omega) ?_
 intro v hv
 obtain⟨top,rfl,top1,top2⟩:∃ t:Int,v=.int t/\1<=t/\t<=2*10 ^ 29:=by
  simp only[zcx2,zcx8,or_false] at hv
  rcases hv with rfl|rfl|rfl<;>exact⟨_,rfl,by rfl',by rfl'⟩
 clear hv h67 h6
 have c07:Chg2 p c H H7:=((c04.same s5).same s6).trans c7
 refine zj5 (by decide) (by decide) (by rfl') (by rfl') ?_
 rw[show ((n:Int)+1 - 0).toNat=n+1 by rfl']
 refine zs9 (fun i σ H8=>∃ (x:Option V) (t1 t2:Option V) (qs:List Addr) (zs:List (List Int)),σ=[some (.ref p),some (.int n),some (.int m),some (.int kd),some (.int wt),t1,t2,some (.ref r),some (.int top),x]/\Chg2 p c H H8/\zc4 H8 p c (b+20+50*i)/\H8 r=some (.lst (qs.map V.ref))/\qs.length=i/\zs.length=i/\∀ (k:Nat) q z,qs[k]?=some q->zs[k]?=some z->H q=none/\q≠r/\q≠p/\q≠c/\H8 q=some (.lst (z.map V.int))/\z.length=m+1/\∀ u∈z,-(10 ^ 40)<=u/\u<=10 ^ 40) ?_ ?_ ?_
 ·exact⟨_,_,_,[],[],rfl,c07,P7.up (by rfl'),h57,rfl,rfl,fun k q z e=>by simp at e⟩
 ·rintro i σ H8 hi ⟨x0,t1,t2,qs,zs,rfl,c8,P8,h8,ql,zl,pr⟩
  have hi:i<n+1:=hi
  refine zai6 h8 ?_
  refine zj5 (by decide) (by decide) (by rfl') (by rfl') ?_
  rw[show ((m:Int)+1 - 0).toNat=m+1 by rfl']
  refine zbi4 (by rw[zdf9];omega) (fun acc H9 f9 s9 h9=>?_)
  have nap:acc≠p:=P8.neP f9
  have nac:acc≠c:=P8.neC f9
  have nra:r≠acc:=za4 h8 f9
  refine⟨fun j ys σ Ha=>∃ (t:Option V) (z:List Int),σ=[t,some (.ref p),some (.int top)]/\ys=z.map V.int/\z.length=j/\(∀ u∈z,-(10 ^ 40)<=u/\u<=10 ^ 40)/\zc4 Ha p c (b+20+50*i+4*j)/\∀ x o,x≠p->x≠c->x≠acc->H8 x=some o->Ha x=some o,?_,?_,?_⟩
  ·exact⟨none,[],rfl,rfl,rfl,by simp,(P8.same s9).up (by rfl'),fun x o _ _ _ e=>s9 _ _ e⟩
  ·rintro j m' ys σ Ha hj hm hl ha ⟨t,z,rfl,rfl,lz,zb,Pa,ka⟩
   have hj:j<m+1:=hj
   refine br_T ?_
   refine zm0 Pa (by rfl') (by rfl') (by rfl') (fun d Hb d0 d1 cb Pb=>?_)
   walk_at "st"
   refine zcb4 hj hm hl (cb _ _ nap nac ha) (fun Hc cc hc=>?_)
   exact⟨_,z++[d - top / 2],rfl,by rw[zcx9];rfl,by rw[zcw9,lz];rfl,zce7 zb ⟨by rfl',by rfl'⟩,(Pb.chg1 cc (Ne.symm nap) (Ne.symm nac)).up (by rfl'),fun x o n1 n2 n3 e=>cc _ _ n3 (cb _ _ n1 n2 (ka x o n1 n2 n3 e))⟩
  ·rintro ys σ Ha ha ⟨t,z,rfl,rfl,lz,zb,Pa,ka⟩
   ac_nf
   have h8r:Ha r=some (.lst (qs.map V.ref)):=ka _ _ nrp nrc nra h8
   refine zan1 h8r (by rw[zcw0,zdf9];omega) (fun Hb cb hb=>?_)
   ac_nf
   have facc:H acc=none:=Chg2.free' c8 f9 nap nac
   refine⟨_,_,_,qs++[acc],zs++[z],rfl,fun x o z1 z2 e=>cb _ _ (za4 e fr) (ka _ _ z1 z2 (za4 e facc) (c8 _ _ z1 z2 e)),(Pa.chg1 cb (Ne.symm nrp) (Ne.symm nrc)).up (by rfl'),by rw[hb,zcx9];rfl,by rw[zcw9,ql];rfl,by rw[zcw9,zl];rfl,fun k q z' g1 g2=>?_⟩
   by_cases hk:k<qs.length
   ·rw[zcx4 hk] at g1
    rw[zcx4 (by rfl')] at g2
    obtain⟨y1,y2,y3,y4,y5,y6⟩:=pr k q z' g1 g2
    exact⟨y1,y2,y3,y4,cb _ _ y2 (ka _ _ y3 y4 (za4 y5 f9) y5),y6⟩
   ·rw[zcx6 (by rfl')] at g1 g2
    have k0:k - qs.length=0:=by
     have:=(zcw2.mp g1).1
     simp at this;omega
    rw[k0] at g1
    rw[show k - zs.length=0 by rfl'] at g2
    cases g1
    cases g2
    exact⟨facc,Ne.symm nra,nap,nac,cb _ _ (Ne.symm nra) ha,lz,zb⟩
 ·rintro σ H8 ⟨x0,t1,t2,qs,zs,rfl,c8,P8,h8,ql,zl,pr⟩
  refine zh9 (fun p9 H9 f9 s9 h9=>?_)
  ac_nf
  refine q p9 (.tab fun x y=>(zs.getD x []).getD y 0) H9 (c8.same s9) ((P8.same s9).up (by rfl')) ⟨r,qs,zah2 (Chg2.free' c8 f9 (P8.neP f9) (P8.neC f9)) h9,zah2 fr (s9 _ _ h8),ql,fun i p' e=>?_⟩ trivial (fun x y hx hy=>?_)
  case refine_2=>
   obtain⟨z,ez⟩:∃ z,zs[x]?=some z:=⟨_,zcv9 (by rfl')⟩
   obtain⟨q',eq'⟩:∃ z,qs[x]?=some z:=⟨_,zcv9 (by rfl')⟩
   obtain⟨y1,y2,y3,y4,y5,y6,y7⟩:=pr x q' z eq' ez
   show -(10 ^ 40)<=(zs.getD x []).getD y 0/\(zs.getD x []).getD y 0<=10 ^ 40
   have eg:zs.getD x []=z:=by rw[zcw7,ez];rfl
   rw[eg,zcw7,zcv9 (by rfl')]
   exact y7 _ (List.getElem_mem _)
  obtain⟨z,ez⟩:∃ z,zs[i]?=some z:=⟨_,zcv9 (by have:=(zcw2.mp e).1;omega)⟩
  obtain⟨y1,y2,y3,y4,y5,y6,y7⟩:=pr i p' z e ez
  have eg:zs.getD i []=z:=by rw[zcw7,ez];rfl
  show nw H H9 p'=some (.lst (rowV (m+1) fun y=>(zs.getD i []).getD y 0))
  rw[eg,← zcn6 y6]
  exact zah2 y1 (s9 _ _ y5)
theorem zau0{f:Nat->Int}(hi:i<n):f i=gcdR n f*(f i / gcdR n f):=(Int.mul_ediv_cancel' (zac1 f hi)).symm
section
variable {t:Nat->Nat->Int}{b:Nat->Int}{m n:Nat}
noncomputable abbrev zv8(t:Nat->Nat->Int)(b:Nat->Int)(m n:Nat):Prop:=zt0 (sxAf t b m n) b m n (zk2 (sxAf t b m n) b m n) (zc5 t b m n)
theorem zba5(F:zv8 t b m n)(hn:0<n)(hb:∀ i,i<m->1<=b i):0<wtB t b m n:=zak0 F.ok F.last hn (fun i j hi hj=>zau3 (hb i hi) hi hj) hb
theorem wt_i0(F:zv8 t b m n)(hn:0<n)(hb:∀ i,i<m->1<=b i):∃ i0,i0<m/\0<sxWr n (zc5 t b m n) m (true,i0):=by
 obtain⟨i0,hi0,hp0⟩:=zaa9 (m:=m) (f:=fun i=>b i*sxWr n (zc5 t b m n) m (true,i)) (by rw[← F.ok.rows_worth];exact zba5 F hn hb)
 refine⟨i0,hi0,?_⟩
 rcases Int.lt_or_le 0 (sxWr n (zc5 t b m n) m (true,i0)) with h|h
 ·exact h
 ·have:=zda3 (show 0<=b i0 by have:=hb i0 hi0;omega) h
  omega
theorem wt_j0(F:zv8 t b m n)(hn:0<n)(hb:∀ i,i<m->1<=b i):∃ j0,j0<n/\0<sxWc n (zc5 t b m n) m (false,j0):=
 zaa9 (m:=n) (f:=fun j=>sxWc n (zc5 t b m n) m (false,j)) (by rw[← F.ok.cols_worth];exact zba5 F hn hb)
theorem zaq2(F:zv8 t b m n)(i:Nat):0<=wrL n (zc5 t b m n) m i:=zf3 (f:=fun i=>sxWr n (zc5 t b m n) m (true,i)) (zk8 (m:=m) F.last (true,i))
theorem zaq1(F:zv8 t b m n)(hb:∀ i,i<m->1<=b i)(hi:i<m):0<=wtR t b m n i:=
 zf3 (f:=fun i=>wrL n (zc5 t b m n) m i*b i) (zda2 (zaq2 F i) (by have:=hb i hi;omega))
theorem zaq9(F:zv8 t b m n)(j:Nat):0<=wtC t b m n j:=zf3 (f:=fun j=>sxWc n (zc5 t b m n) m (false,j)) (zv0 (n:=n) F.feas (false,j))
theorem zbu6(F:zv8 t b m n)(hn:0<n)(hb:∀ i,i<m->1<=b i):∃ γ:Int,0<γ/\∀ i,i<m->sxWr n (zc5 t b m n) m (true,i)*b i=γ*wtR t b m n i:=by
 obtain⟨i0,hi0,hw0⟩:=wt_i0 F hn hb
 have wp0:0<wrL n (zc5 t b m n) m i0:=zac9 (f:=fun i=>sxWr n (zc5 t b m n) m (true,i)) hi0 hw0
 have g1:=zac6 (f:=fun i=>sxWr n (zc5 t b m n) m (true,i)) hi0 hw0
 have g2:=zac6 (f:=fun i=>wrL n (zc5 t b m n) m i*b i) hi0 (zdd7 wp0 (by have:=hb i0 hi0;omega))
 refine⟨_,zdd7 g1 g2,fun i hi=>?_⟩
 have e1:=zau0 (f:=fun i=>sxWr n (zc5 t b m n) m (true,i)) hi
 have e2:=zau0 (f:=fun i=>wrL n (zc5 t b m n) m i*b i) hi
 have d1:sxWr n (zc5 t b m n) m (true,i)=(gcdR m fun i=>sxWr n (zc5 t b m n) m (true,i))*wrL n (zc5 t b m n) m i:=e1
 have d2:wrL n (zc5 t b m n) m i*b i=(gcdR m fun i=>wrL n (zc5 t b m n) m i*b i)*wtR t b m n i:=e2
 rw[d1,zda9,d2,zda9]
theorem zbw9(F:zv8 t b m n)(hn:0<n)(hb:∀ i,i<m->1<=b i):∃ γ:Int,0<γ/\∀ j,j<n->sxWc n (zc5 t b m n) m (false,j)=γ*wtC t b m n j:=by
 obtain⟨j0,hj0,hw0⟩:=wt_j0 F hn hb
 exact⟨_,zac6 (f:=fun j=>sxWc n (zc5 t b m n) m (false,j)) hj0 hw0,fun j hj=>zau0 (f:=fun j=>sxWc n (zc5 t b m n) m (false,j)) hj⟩
theorem zco2(F:zv8 t b m n)(hn:0<n)(hb:∀ i,i<m->1<=b i):∃ i,i<m/\0<wtR t b m n i:=by
 obtain⟨i0,hi0,hw0⟩:=wt_i0 F hn hb
 obtain⟨γ,g,h⟩:=zbu6 F hn hb
 refine⟨i0,hi0,?_⟩
 have e:=h i0 hi0
 have p:=zdd7 hw0 (show 0<b i0 by have:=hb i0 hi0;omega)
 rcases Int.lt_or_le 0 (wtR t b m n i0) with h|h
 ·exact h
 ·have:=zda3 (zcz5 g) h
  omega
theorem zcm4(F:zv8 t b m n)(hn:0<n)(hb:∀ i,i<m->1<=b i):∃ j,j<n/\0<wtC t b m n j:=by
 obtain⟨j0,hj0,hw0⟩:=wt_j0 F hn hb
 obtain⟨γ,g,h⟩:=zbw9 F hn hb
 refine⟨j0,hj0,?_⟩
 have e:=h j0 hj0
 rcases Int.lt_or_le 0 (wtC t b m n j0) with h|h
 ·exact h
 ·have:=zda3 (zcz5 g) h
  omega
theorem zbx8(i j:Nat):sxAf t b m n i j=t i j+zad8 t b m n*b i:=rfl
theorem zbj1{x:Int}(h:0<y):0<lg x y:=by
 have:=zal1 (t:=x) (b:=y) (by rfl')
 unfold lg;rw[if_neg (by rfl')];exact this
end
theorem zbc2{γ δ x z w:Int}(g:0<γ)(d:0<δ)(h:(δ*x)*(γ*y)<=(γ*z)*(δ*w)):x*y<=z*w:=by
 refine Int.le_of_mul_le_mul_left (a:=γ*δ) ?_ (zdd7 g d)
 have e1:γ*δ*(x*y)=δ*x*(γ*y):=by grind
 have e2:γ*δ*(z*w)=γ*z*(δ*w):=by grind
 rw[e1,e2];exact h
section
variable {t:Nat->Nat->Int}{m n:Nat}
theorem zv9(c:Int)(f:Nat->Int):∀ n:Nat,(sxS n fun i=>c*f i)=c*sxS n f
 | 0=>by show (0:Int)=c*0;rw[zdc4]
 | n+1=>by
  show (sxS n fun i=>c*f i)+c*f n=c*(sxS n f+f n)
  rw[zv9 c f n,Int.mul_add]
theorem wt_win(F:zv8 t (fun _=>1) m n)(hn:0<n)(hj:j<n) :
  lowT (wtT t (fun _=>1) m n) (wtB t (fun _=>1) m n)*sxS m (wtR t (fun _=>1) m n)<=(sxS m fun i=>wtR t (fun _=>1) m n i*t i j)*lowB (wtT t (fun _=>1) m n) (wtB t (fun _=>1) m n):=by
 have hb:∀ i,i<m->(1:Int)<=(fun _=>1:Nat->Int) i:=fun _ _=>zdb5 _
 obtain⟨γ,g,h⟩:=zbu6 F hn hb
 have pos:=zba5 F hn hb
 obtain⟨s1,s2,s3,s4⟩:=zbx5 (t:=t) (l:=zad8 t (fun _=>1) m n) (fun i j _ _=>zbx8 i j) F.ok F.feas F.last
 have d:=zbj1 (x:=wtT t (fun _=>1) m n) pos
 have eT:=zac3 (wtT t (fun _=>1) m n) (wtB t (fun _=>1) m n)
 have eB:=zy6 (wtT t (fun _=>1) m n) (wtB t (fun _=>1) m n)
 have k1:=s1 j hj
 have x1:(sxS m fun i=>t i j*sxWr n (zc5 t (fun _=>1) m n) m (true,i))=γ*sxS m fun i=>wtR t (fun _=>1) m n i*t i j:=by
  rw[← zv9]
  exact zb3 fun i hi=>by have:=h i hi;rw[zdf5] at this;rw[this];grind
 have x2:wtB t (fun _=>1) m n=γ*sxS m (wtR t (fun _=>1) m n):=by
  show (zc5 t (fun _=>1) m n).N m n=_
  rw[s3,← zv9]
  exact zb3 fun i hi=>by have:=h i hi;rw[zdf5] at this;rw[this,zdd6]
 refine zbc2 g d ?_
 rw[← eT,← x2,← x1,← eB]
 exact zcy3 k1 (zcz5 pos)
theorem zco3(F:zv8 t (fun _=>1) m n)(hn:0<n)(hi:i<m) :
  (sxS n fun j=>wtC t (fun _=>1) m n j*t i j)*lowB (wtT t (fun _=>1) m n) (wtB t (fun _=>1) m n)<=lowT (wtT t (fun _=>1) m n) (wtB t (fun _=>1) m n)*sxS n (wtC t (fun _=>1) m n):=by
 have hb:∀ i,i<m->(1:Int)<=(fun _=>1:Nat->Int) i:=fun _ _=>zdb5 _
 obtain⟨γ,g,h⟩:=zbw9 F hn hb
 have pos:=zba5 F hn hb
 obtain⟨s1,s2,s3,s4⟩:=zbx5 (t:=t) (l:=zad8 t (fun _=>1) m n) (fun i j _ _=>zbx8 i j) F.ok F.feas F.last
 have d:=zbj1 (x:=wtT t (fun _=>1) m n) pos
 have eT:=zac3 (wtT t (fun _=>1) m n) (wtB t (fun _=>1) m n)
 have eB:=zy6 (wtT t (fun _=>1) m n) (wtB t (fun _=>1) m n)
 have k1:=s2 i hi
 rw[zdf5] at k1
 have x1:(sxS n fun j=>t i j*sxWc n (zc5 t (fun _=>1) m n) m (false,j))=γ*sxS n fun j=>wtC t (fun _=>1) m n j*t i j:=by
  rw[← zv9]
  exact zb3 fun j hj=>by rw[h j hj];grind
 have x2:wtB t (fun _=>1) m n=γ*sxS n (wtC t (fun _=>1) m n):=by
  show (zc5 t (fun _=>1) m n).N m n=_
  rw[s4,← zv9]
  exact zb3 fun j hj=>h j hj
 refine zbc2 d g ?_
 have e1:γ*(sxS n fun j=>wtC t (fun _=>1) m n j*t i j)*(lg (wtT t (fun _=>1) m n) (wtB t (fun _=>1) m n)*lowB (wtT t (fun _=>1) m n) (wtB t (fun _=>1) m n))<=lg (wtT t (fun _=>1) m n) (wtB t (fun _=>1) m n)*lowT (wtT t (fun _=>1) m n) (wtB t (fun _=>1) m n)*(γ*sxS n (wtC t (fun _=>1) m n)):=by
  rw[← eT,← x2,← x1,← eB]
  exact zcy3 k1 (zcz5 pos)
 exact e1
end
section
variable {t:Nat->Nat->Int}{b:Nat->Int}{m n M:Nat}
theorem wrL_le(F:zv8 t b m n)(B:Bnd t b m n M)(i:Nat):(wrL n (zc5 t b m n) m i).natAbs<=zj1 (m+1)*M ^ (m+1):=by
 have sml:=F.ok.small B.one B.ab B.bb
 unfold wrL
 have h1:=zk8 (m:=m) F.last (true,i)
 have h2:=zq9 (f:=fun i=>sxWr n (zc5 t b m n) m (true,i)) (n:=m) (i:=i) h1
 have h3:=zf3 (f:=fun i=>sxWr n (zc5 t b m n) m (true,i)) (n:=m) (i:=i) h1
 have h4:(sxWr n (zc5 t b m n) m (true,i)).natAbs<=zj1 (m+1)*M ^ (m+1):=by
  rcases zbc6 (m:=m) F.ok.nm.ainj (true,i) with e|⟨c,hc,e⟩
  ·rw[e];exact zcz6 _
  ·rw[e];exact sml.1 m c (by rfl') (by rfl')
 omega
theorem wtR_le(F:zv8 t b m n)(B:Bnd t b m n M)(hb:∀ i,i<m->1<=b i)(hi:i<m):(wtR t b m n i).natAbs<=zj1 (m+1)*M ^ (m+1)*M:=by
 have h0:=zda2 (zaq2 F i) (show 0<=b i by have:=hb i hi;omega)
 have h1:=zq9 (f:=fun i=>wrL n (zc5 t b m n) m i*b i) (n:=m) (i:=i) h0
 have h2:=zaq1 F hb hi
 have h3:(wrL n (zc5 t b m n) m i*b i).natAbs<=zj1 (m+1)*M ^ (m+1)*M:=by
  rw[zdb3];exact zdc2 (wrL_le F B i) (B.bb i hi)
 have h1:wtR t b m n i<=wrL n (zc5 t b m n) m i*b i:=h1
 omega
theorem wtC_le(F:zv8 t b m n)(B:Bnd t b m n M)(j:Nat):(wtC t b m n j).natAbs<=zj1 (m+1)*M ^ (m+1):=by
 have sml:=F.ok.small B.one B.ab B.bb
 have h1:=zv0 (n:=n) F.feas (false,j)
 have h2:=zq9 (f:=fun j=>sxWc n (zc5 t b m n) m (false,j)) (n:=n) (i:=j) h1
 have h3:=zaq9 F j
 have h2:wtC t b m n j<=sxWc n (zc5 t b m n) m (false,j):=h2
 have h4:(sxWc n (zc5 t b m n) m (false,j)).natAbs<=zj1 (m+1)*M ^ (m+1):=by
  rcases zbs0 (n:=n) F.ok.nm.dinj (false,j) with e|⟨c,hc,e⟩
  ·rw[e];exact zcz6 _
  ·rw[e];exact sml.1 c n (by rfl') (by rfl')
 omega
theorem zcg4(F:zv8 t b m n)(B:Bnd t b m n M):(wtB t b m n).natAbs<=zj1 (m+1)*M ^ (m+1):=(F.ok.small B.one B.ab B.bb).1 m n (zcw4 _) (zcw4 _)
theorem wtT_le(F:zv8 t b m n)(B:Bnd t b m n M):(wtT t b m n).natAbs<=(M+1)*(zj1 (m+1)*M ^ (m+1)):=by
 have h1:=(F.ok.small B.one B.ab B.bb).2
 have h2:=zcg4 F B
 have h3:=B.lb
 unfold wtT
 show ((zc5 t b m n).d - zad8 t b m n*wtB t b m n).natAbs<=_
 have h4:(zad8 t b m n*wtB t b m n).natAbs<=M*(zj1 (m+1)*M ^ (m+1)):=by rw[zdb3];exact zdc2 h3 h2
 rw[Nat.add_mul,Nat.one_mul]
 omega
end
noncomputable def mixU(L:List (List Nat))(w:Nat->Int)(k:Nat):List (List Nat×Int):=(List.range k).filterMap fun i=>if 0<w i then some (L.getD i [],w i) else none
theorem zs8(L:List (List Nat))(w:Nat->Int)(k:Nat):mixU L w (k+1)=mixU L w k++if 0<w k then [(L.getD k [],w k)] else []:=by
 unfold mixU
 rw[zde6,List.filterMap_append]
 congr 1
 by_cases h:0<w k<;>simp[h]
theorem zac5(L:List (List Nat))(w:Nat->Int)(g:List Nat->Int->Int)(hg:∀ ns,g ns 0=0):∀ k:Nat,(∀ i,i<k->0<=w i)->((mixU L w k).map fun x=>g x.1 x.2).sum=sxS k fun i=>g (L.getD i []) (w i)
 | 0,_=>rfl
 | k+1,h=>by
  rw[zs8,zcx9,List.sum_append,zac5 L w g hg k fun i hi=>h i (by rfl')]
  show _=(sxS k fun i=>g (L.getD i []) (w i))+g (L.getD k []) (w k)
  congr 1
  have:=h k (by rfl')
  by_cases e:0<w k
  ·rw[if_pos e];simp
  ·rw[if_neg e,show w k=0 by rfl',hg];rfl
theorem zbm4{w:Nat->Int}{k:Nat}{x:List Nat×Int}(h:x∈mixU L w k):∃ i,i<k/\0<w i/\x=(L.getD i [],w i):=by
 unfold mixU at h
 obtain⟨i,hi,e⟩:=List.mem_filterMap.mp h
 by_cases p:0<w i
 ·rw[if_pos p] at e;cases e;exact⟨i,zda0.mp hi,p,rfl⟩
 ·rw[if_neg p] at e;cases e
theorem zav1(L:List (List Nat))(w:Nat->Int):∀ k,(mixU L w k).length<=k
 | 0=>zcw4 _
 | k+1=>by
  rw[zs8,zcw9]
  have:=zav1 L w k
  split<;>simp<;>omega
theorem zbw2{w:Nat->Int}{k:Nat}(hi:i<k)(h:0<w i):mixU L w k≠[]:=fun e=>by
 have:(L.getD i [],w i)∈mixU L w k:=List.mem_filterMap.mpr ⟨i,zda0.mpr hi,by rw[if_pos h]⟩
 rw[e] at this;cases this
structure MxN(H:Hp)(l:Addr)(ts:List (Addr×Addr))(ms:List (List Nat×Int)):Prop where
 out:H l=some (.lst (ts.map fun t=>V.ref t.1))
 len:ts.length=ms.length
 part:∀ (i:Nat) t x,ts[i]?=some t->ms[i]?=some x->H t.1=some (.tup [.ref t.2,.int x.2])/\H t.2=some (.lst (pl x.1))
theorem MxN.same(M:MxN H l ts ms)(s:Same H H'):MxN H' l ts ms:=⟨s _ _ M.out,M.len,fun i t x h1 h2=>⟨s _ _ (M.part i t x h1 h2).1,s _ _ (M.part i t x h1 h2).2⟩⟩
theorem MxN.elt(M:MxN H l ts ms){v:V}(e:(ts.map fun t=>V.ref t.1)[i]?=some v):∃ t x,v=.ref t.1/\ts[i]?=some t/\ms[i]?=some x/\H t.1=some (.tup [.ref t.2,.int x.2])/\H t.2=some (.lst (pl x.1)):=by
 rw[zcw3] at e
 obtain⟨t,et,rfl⟩:=zcx0.mp e
 obtain⟨x,ex⟩:∃ x,ms[i]?=some x:=⟨_,zcv9 (by have:=(zcw2.mp et).1;have:=M.len;omega)⟩
 exact⟨t,x,rfl,et,ex,M.part i t x et ex⟩
theorem MxN.refs(M:MxN H l ts ms){t:Addr×Addr}(h:t∈ts):∃ x∈ms,H t.1=some (.tup [.ref t.2,.int x.2])/\H t.2=some (.lst (pl x.1)):=by
 obtain⟨i,ei⟩:=zcy5 h
 obtain⟨x,ex⟩:∃ x,ms[i]?=some x:=⟨_,zcv9 (by have:=(zcw2.mp ei).1;have:=M.len;omega)⟩
 exact⟨x,zcw6 ex,M.part i t x ei ex⟩
theorem MxN.chg{z:Addr}(M:MxN H l ts ms)(c:Chg z H H')(nl:l≠z)(n1:∀ t∈ts,t.1≠z)(n2:∀ t∈ts,t.2≠z):MxN H' l ts ms:=
 ⟨c _ _ nl M.out,M.len,fun i t x h1 h2=>⟨c _ _ (n1 t (zcw6 h1)) (M.part i t x h1 h2).1,c _ _ (n2 t (zcw6 h1)) (M.part i t x h1 h2).2⟩⟩
theorem MxN.tab(M:MxN H l ts ms)(x:TabG T H)(c:Chg T H H'):MxN H' l ts ms:=
 M.chg c (x.ne M.out (fun _ y=>nomatch y)) (fun t h=>by obtain⟨_,_,h1,_⟩:=M.refs h;exact x.ne h1 (fun _ y=>nomatch y)) (fun t h=>by obtain⟨_,_,_,h1⟩:=M.refs h;exact x.ne h1 (fun _ y=>nomatch y))
@[irreducible] noncomputable def zj7:Sp:=fun vs H Q _=>∃ (h n:Nat) (lw:Addr) (w:Nat->Int),vs=[.int h,.int n,.ref lw]/\h<=10/\(1<=n/\n<=5)/\H lw=some (.lst (rowV (allL n h h).length w)) /\
 ∀ l ts H',H l=none->(∀ t∈ts,H t.2=none/\t.2≠l)->(ts.map (·.2)).Nodup->Same H H'->MxN H' l ts (mixU (allL n h h) w (allL n h h).length)->Q (.ref l) H'
theorem zad0{lw:Addr}{w:Nat->Int}(h1:h<=10)(h2:1<=n)(h3:n<=5)(hw:H lw=some (.lst (rowV (allL n h h).length w)))(q:∀ l ts H',H l=none->(∀ t∈ts,H t.2=none/\t.2≠l)->(ts.map (·.2)).Nodup->Same H H'->MxN H' l ts (mixU (allL n h h) w (allL n h h).length)->Q (.ref l) H'):zj7 [.int h,.int n,.ref lw] H Q E:=by
 unfold zj7;exact⟨h,n,lw,w,rfl,h1,⟨h2,h3⟩,hw,q⟩
theorem zav4(F:Fun K "counts_mix" "counts_mix" zx1 f fd)(N:Nm mg)(zcq8:Def P w K mg base CX0 6 "counts_of" ["hosts","fields","number"] zi7):FnOk P w K mg base CX0 7 f fd ["hosts","fields","weights"] zj7:=by
 refine F.ok zau4 (fun vs H Q E h=>by unfold zj7 at h;obtain⟨_,_,_,_,rfl,_⟩:=h;rfl) fun _ _ _ s H vs Q E hr h=>?_
 unfold zj7 at h
 obtain⟨h,n,lw,w,rfl,h1,⟨h2,h3⟩,hw,q⟩:=h
 have ok:=zr9 n h h
 have b:=zh6 (f:=n) (h:=h) h3 h1
 refine⟨_,(za5 (zb1 (zd6 (N:=["number","weight","hosts","fields"]) (ks:=[none,none,some 0,some 1]) (zbg3 (K:=K) rfl N.enumerate_ (za0 (pq 2) za1)) (fun _ _ _ _ _=>(zp4 (K:=K) (n:=2) rfl rfl (zc2 (za7 (i:=0) nb_25 rfl (by eq_refl)) (zc2 (za7 (i:=1) nb_25 rfl (by eq_refl)) zp2)))) (fun _ _ _ _ _=>(zbd9 (ptC oGt (pq 1) za3))) (fun _ _ _ _ _=>(zx8 (za0 (pD zcq8 hr zb4 (za0 (pq 2) (za0 (pq 3) (za0 (pq 0) za1)))) (za0 (pq 1) za1)))) (.skip (.skip (.take rfl rfl (by eq_refl) (.take rfl rfl (by eq_refl) .nil))))))),?_⟩
 refine zbe7 hw ?_
 have W:=Wk.enum (K:=K) (SqL.of hw)
 rw[zb7] at W
 refine zay5 (n:=(allL n h h).length) W (by rw[zdf9];omega) (fun acc i ys σ H1=>∃ (t u:Option V) (ts:List (Addr×Addr)),σ=[t,u,some (.int h),some (.int n)]/\ys=ts.map (fun t=>V.ref t.1)/\ts.length=(mixU (allL n h h) w i).length/\(∀ (j:Nat) t x,ts[j]?=some t->(mixU (allL n h h) w i)[j]?=some x->rm acc H1 t.1=some (.tup [.ref t.2,.int x.2])/\rm acc H1 t.2=some (.lst (pl x.1)))/\(∀ t∈ts,H t.2=none)/\(ts.map (·.2)).Nodup) ?_ ?_ ?_ ?_
 ·intro acc H1 f1 s1 h1'
  exact⟨none,none,[],rfl,rfl,rfl,fun j t x e=>(by simp at e),fun t ht=>(by cases ht),List.nodup_nil⟩
 ·rintro acc i ys σ H1 H2 s ⟨t,u,ts,r1,r2,r3,r4,r5,r6⟩
  exact⟨t,u,ts,r1,r2,r3,fun j t x e1 e2=>⟨Same.rm s _ _ (r4 j t x e1 e2).1,Same.rm s _ _ (r4 j t x e1 e2).2⟩,r5,r6⟩
 ·rintro acc i v ys σ H1 R S hi facc s1 hacc ⟨p,y,rfl,hp,hy⟩ ⟨t,u,ts,rfl,rfl,r3,r4,r5,r6⟩ kR kS
  rw[zd3 hi] at hy
  cases hy
  refine zk9 hp ?_
  refine zk1 (fun e=>?_) (fun e=>?_)
  ·obtain⟨ns,en⟩:∃ ns,(allL n h h)[i]?=some ns:=⟨_,zcv9 hi⟩
   have eg:(allL n h h).getD i []=ns:=by rw[zcw7,en];rfl
   obtain⟨n1,n2,n3,n4⟩:=ok.num i ns en
   ac_nf
   rw[show ((i:Nat):Int)=cnum ns from n1.symm]
   refine zag3 n2 n3 n4 (zcw4 _) (by rfl') h2 (by rfl') (fun b3 H3 f3 s3 h3'=>?_)
   refine zh9 (fun p4 H4 f4 s4 h4=>?_)
   ac_nf
   have s14:=s3.trans s4
   have nb:b3≠acc:=Ne.symm (za4 hacc f3)
   have np:p4≠acc:=Ne.symm (za4 (s3 _ _ hacc) f4)
   refine kR _ _ _ s14 (fun H5 c5=>⟨_,_,ts++[(p4,b3)],rfl,by rw[zcx9];rfl,by rw[zs8,if_pos e,zcw9,zcw9,r3];rfl,fun j t x e1 e2=>?_,?_,?_⟩)
   ·rw[zs8,if_pos e] at e2
    by_cases hj:j<ts.length
    ·rw[zcx4 hj] at e1
     rw[zcx4 (by rfl')] at e2
     have z:=r4 j t x e1 e2
     exact⟨Chg.rm c5 _ _ (Same.rm s14 _ _ z.1),Chg.rm c5 _ _ (Same.rm s14 _ _ z.2)⟩
    ·have hj2:=(zcw2.mp e1).1
     rw[zcw9,zcy1] at hj2
     rw[zcx6 (by rfl')] at e1 e2
     rw[show j - ts.length=0 by rfl'] at e1
     rw[show j - (mixU (allL n h h) w i).length=0 by rfl'] at e2
     cases e1
     cases e2
     rw[eg]
     exact⟨zs2 np (c5 _ _ np h4),zs2 nb (c5 _ _ nb (s4 _ _ h3'))⟩
   ·exact zab4 r5 (s1.free f3)
   ·rw[zcx9,List.nodup_append]
    refine⟨r6,by simp,fun x hx y hy z=>?_⟩
    simp only[zcz9,zde9,zdd5] at hy
    obtain⟨t',ht',rfl⟩:=zcz7.mp hx
    obtain⟨j,ej⟩:=zcy5 ht'
    obtain⟨x',ex'⟩:∃ x,(mixU (allL n h h) w i)[j]?=some x:=⟨_,zcv9 (by have:=(zcw2.mp ej).1;omega)⟩
    have:=(zah5 (r4 j t' x' ej ex').2).2
    rw[z,hy] at this
    rw[f3] at this;cases this
  ·ac_nf
   refine kS _ _ (Same.refl _) ⟨_,_,ts,rfl,rfl,by rw[zs8,if_neg e,zdc8];exact r3,fun j t x e1 e2=>?_,r5,r6⟩
   rw[zs8,if_neg e,zdc8] at e2
   exact r4 j t x e1 e2
 ·rintro l ys σ H1 f1 s1 h1' ⟨t,u,ts,rfl,rfl,r3,r4,r5,r6⟩
  ac_nf
  have pt:∀ (j:Nat) t x,ts[j]?=some t->(mixU (allL n h h) w (allL n h h).length)[j]?=some x->H1 t.1=some (.tup [.ref t.2,.int x.2])/\H1 t.2=some (.lst (pl x.1))/\t.2≠l:=fun j t x e1 e2=>⟨(zah5 (r4 j t x e1 e2).1).2,(zah5 (r4 j t x e1 e2).2).2,(zah5 (r4 j t x e1 e2).2).1⟩
  refine q l ts H1 f1 (fun t ht=>⟨r5 t ht,?_⟩) r6 s1 ⟨h1',r3,fun j t x e1 e2=>⟨(pt j t x e1 e2).1,(pt j t x e1 e2).2.1⟩⟩
  obtain⟨j,ej⟩:=zcy5 ht
  obtain⟨x',ex'⟩:∃ x,(mixU (allL n h h) w (allL n h h).length)[j]?=some x:=⟨_,zcv9 (by have:=(zcw2.mp ej).1;omega)⟩
  exact (pt j t x' ej ex').2.2
@[irreducible] noncomputable def zy4:Sp:=fun vs H Q _=>∃ (p q:Addr) (t u x y:Int),vs=[.ref p,.ref q]/\H p=some (.tup [.int t,.int u])/\H q=some (.tup [.int x,.int y])/\0<u/\0<y/\Sm t/\Sm u/\Sm x/\Sm y/\Sm (u*y)/\∀ r H',H r=none->Same H H'->H' r=some (.tup [.int (lowT (t*x) (u*y)),.int (lowB (t*x) (u*y))])->Q (.ref r) H'
theorem zce3{p q:Addr}{t u x:Int}(h1:H p=some (.tup [.int t,.int u]))(h2:H q=some (.tup [.int x,.int y]))(hu:0<u)(hy:0<y)(z1:Sm t)(z2:Sm u)(z3:Sm x)(z4:Sm y)(z5:Sm (u*y))(k:∀ r H',H r=none->Same H H'->H' r=some (.tup [.int (lowT (t*x) (u*y)),.int (lowB (t*x) (u*y))])->Q (.ref r) H'):zy4 [.ref p,.ref q] H Q E:=by
 unfold zy4;exact⟨p,q,t,u,x,y,rfl,h1,h2,hu,hy,z1,z2,z3,z4,z5,k⟩
theorem zcb2(F:Fun K "times" "times" zbg8 f fd)(N:Nm mg)(zcu7:Def P w K mg base CX0 2 "ratio" ["top","bottom"] zt9):FnOk P w K mg base CX0 3 f fd ["one","other"] zy4:=by
 refine F.ok zcf1 (fun vs H Q E h=>by unfold zy4 at h;obtain⟨_,_,_,_,_,_,rfl,_⟩:=h;rfl) fun _ _ _ s H vs Q E hr h=>?_
 unfold zy4 at h
 obtain⟨p,q,t,u,x,y,rfl,h1,h2,hu',hy,z1,z2,z3,z4,z5,k⟩:=h
 have hu:=hu40 hr
 refine⟨_,(za5 (zb1 (pD zcu7 hr zb4 (za0 (zb2 oMul (za8 (K:=K) rfl (pq 0) za3) (za8 (K:=K) rfl (pq 1) za3)) (za0 (zb2 oMul (za8 (K:=K) rfl (pq 0) za3) (za8 (K:=K) rfl (pq 1) za3)) za1))))),?_⟩
 refine za9 (v:=.int t) h1 rfl ?_
 refine za9 (v:=.int x) h2 rfl ?_
 refine zf8 z1 z3 ?_
 refine za9 (v:=.int u) h1 rfl ?_
 refine za9 (v:=.int y) h2 rfl ?_
 refine zf8 z2 z4 ?_
 refine zbm7 (zdd7 hu' hy) z5 (fun r H' f1 s1 h1'=>?_)
 ac_nf
 exact k _ _ f1 s1 h1'
noncomputable def tbF(f:Fd)(n a c:Nat):Nat->Nat->Int:=fun i j=>tog f ((allL n a a).getD i []) ((allL n c c).getD j [])
theorem won_le{f:Fd}{a x y:Nat}(S:f.Sm a c)(hx:x<=a)(hy:y<=c):(f.won x y).natAbs<=10 ^ 40:=by
 cases f with
 | more w t=>
  obtain⟨⟨s1,s2⟩,s3,s4⟩:=S
  show (if x=y then t else if y<x then w else -w).natAbs<=10 ^ 40
  split
  ·omega
  ·split<;>omega
 | lead w t=>
  obtain⟨⟨s1,s2⟩,s3,s4⟩:=S
  show (if t<=(x:Int) - y then w else -w).natAbs<=10 ^ 40
  split<;>omega
 | tab g=>
  have:=S x y hx hy
  show (g x y).natAbs<=10 ^ 40
  omega
theorem zaj2{B:Nat}:∀ {l:List Int},(∀ z∈l,z.natAbs<=B)->l.sum.natAbs<=l.length*B
 | [],_=>by simp
 | z :: l,h=>by
  have h1:=zaj2 (l:=l) fun y hy=>h y (zcz1 _ hy)
  have h2:=h z (zdc3 ..)
  rw[zde4,zcy0,Nat.add_mul,Nat.one_mul]
  omega
theorem zbb0{f:Fd}{a:Nat}(S:f.Sm a c){ys:List Nat}(h1:∀ x∈xs,x<=a)(h2:∀ y∈ys,y<=c)(l1:xs.length<=10)(l2:ys.length<=10):(tog f xs ys).natAbs<=10 ^ 42:=by
 have r:∀ x∈xs,(togR f x ys).natAbs<=10 ^ 41:=fun x hx=>by
  have:=zaj2 (B:=10 ^ 40) (l:=ys.map fun y=>f.won x y) (fun z hz=>by
   obtain⟨y,hy,rfl⟩:=zcz7.mp hz
   exact won_le S (h1 x hx) (h2 y hy))
  rw[zcw0] at this
  have k:ys.length*10 ^ 40<=10*10 ^ 40:=zdb0 _ l2
  unfold togR
  omega
 have:=zaj2 (B:=10 ^ 41) (l:=xs.map fun x=>togR f x ys) (fun z hz=>by
  obtain⟨x,hx,rfl⟩:=zcz7.mp hz
  exact r x hx)
 rw[zcw0] at this
 have k:xs.length*10 ^ 41<=10*10 ^ 41:=zdb0 _ l1
 unfold tog
 omega
theorem zaw5{b:Nat}(hn:n<=5):(∀ x∈(allL n h h).getD i [],x<=h)/\((allL n h h).getD i []).length<=10:=by
 by_cases hi:i<(allL n h h).length
 ·rw[zcw7,zcv9 hi]
  exact zaa8 hn _ (List.getElem_mem hi)
 ·rw[zcw7,zcy2 (by rfl')]
  exact⟨fun x hx=>(by cases hx),(by simp)⟩
theorem tbF_le{f:Fd}{a:Nat}(S:f.Sm a c)(hn:n<=5)(i j:Nat):(tbF f n a c i j).natAbs<=10 ^ 42:=
 zbb0 S (zaw5 (b:=0) hn).1 (zaw5 (b:=0) hn).1 (zaw5 (b:=0) hn).2 (zaw5 (b:=0) hn).2
theorem lft_le{t:Nat->Nat->Int}{B:Nat}(h:∀ i j,(t i j).natAbs<=B):(zad8 t (fun _=>1) m n).natAbs<=B+1:=by
 unfold zad8
 obtain⟨i,_,e⟩:=zbl4 (fun i=>mnR (t i) (n - 1) / 1) (m - 1)
 rw[e,Int.ediv_one]
 obtain⟨j,_,e2⟩:=zbl4 (t i) (n - 1)
 rw[e2]
 have:=h i j
 omega
@[irreducible] noncomputable def B0:Nat:=zj1 31*(10 ^ 43) ^ 31
theorem zar4:∀ {n k:Nat},n<=k->zj1 n<=zj1 k
 | n,0,h=>by rw[show n=0 by rfl'];exact zcw4 _
 | n,k+1,h=>by
  by_cases e:n=k+1
  ·rw[e];exact zcw4 _
  ·have h1:=zar4 (n:=n) (k:=k) (by rfl')
   show zj1 n<=(k+1)*zj1 k
   exact zcy7 h1 (Nat.le_mul_of_pos_left _ (Nat.succ_pos _))
set_option exponentiation.threshold 100000 in
theorem zcf4:10 ^ 50*(10 ^ 43*B0)<2 ^ 9000:=by unfold B0;decide +kernel
theorem zba6:1<=B0:=by unfold B0;decide +kernel
theorem B0_of(h:m<=30):zj1 (m+1)*(10 ^ 43) ^ (m+1)<=B0:=by
 unfold B0
 exact zdc2 (zar4 (by rfl')) (Nat.pow_le_pow_right (by decide) (by rfl'))
theorem Sm.of0{x:Int}(h:x.natAbs<=10 ^ 50*(10 ^ 43*B0)):Sm x:=Nat.lt_of_le_of_lt h zcf4
theorem zbt6{f:Fd}{a k:Nat}(S:f.Sm a c)(hn:n<=5)(hm:m<=30):Bnd (tbF f n a c) (fun _=>1) m k (10 ^ 43):=by
 have h:=tbF_le (f:=f) (n:=n) (a:=a) (c:=c) S hn
 have hl:=lft_le (m:=m) (n:=k) h
 refine⟨by decide,fun i j _ _=>?_,fun i _=>by decide,by rfl',?_⟩
 ·have:=h i j
  unfold sxAf
  rw[zdf5]
  omega
 ·have:=B0_of hm
  have big:=zcf4
  generalize zj1 (m+1)*(10 ^ 43) ^ (m+1)=x at *
  generalize B0=y at *
  generalize 2 ^ 9000=z at *
  omega
theorem zy3(hn:1<=n)(hn5:n<=5)(hh:h<=10):0<(allL n h h).length:=by
 have key:∀ f:Fin 6,∀ h:Fin 11,1<=f.1->1<=Wn (h.1+1) f.1 h.1:=by decide +kernel
 have:=key ⟨n,by rfl'⟩ ⟨h,by rfl'⟩ hn
 rw[← (zr9 n h h).len] at this
 omega
theorem zcd5(f:Fd)(xs:List Nat)(L:List (List Nat)):(rowT f xs L).map V.int=rowV L.length fun j=>tog f xs (L.getD j []):=(zaz4 f xs L).symm
noncomputable abbrev wOne:Nat->Int:=fun _=>1
noncomputable def cwR(f:Fd)(n a c:Nat):Nat->Int:=wtR (tbF f n a c) wOne (allL n a a).length (allL n c c).length
noncomputable def cwC(f:Fd)(n a c:Nat):Nat->Int:=wtC (tbF f n a c) wOne (allL n a a).length (allL n c c).length
noncomputable def cwT(f:Fd)(n a c:Nat):Int:=lowT (wtT (tbF f n a c) wOne (allL n a a).length (allL n c c).length) (wtB (tbF f n a c) wOne (allL n a a).length (allL n c c).length)
noncomputable def cwB(f:Fd)(n a c:Nat):Int:=lowB (wtT (tbF f n a c) wOne (allL n a a).length (allL n c c).length) (wtB (tbF f n a c) wOne (allL n a a).length (allL n c c).length)
noncomputable abbrev zap1(f:Fd)(n a c:Nat):Prop:=zv8 (tbF f n a c) wOne (allL n a a).length (allL n c c).length
noncomputable def cwP(f:Fd)(n a c:Nat):List (List Nat×Int):=mixU (allL n a a) (cwR f n a c) (allL n a a).length
noncomputable def cwQ(f:Fd)(n a c:Nat):List (List Nat×Int):=mixU (allL n c c) (cwC f n a c) (allL n c c).length
theorem zu0{f:Fd}{a:Nat}(FI:zap1 f n a c)(hS:f.Sm a c)(hn1:1<=n)(hn:n<=5)(ha:a<=10)(hc:c<=10):0<cwB f n a c/\(cwT f n a c).natAbs<=10 ^ 44*B0/\(cwB f n a c).natAbs<=B0 /\
  (∀ i,i<(allL n a a).length->0<=cwR f n a c i/\(cwR f n a c i).natAbs<=10 ^ 43*B0)/\∀ j,0<=cwC f n a c j/\(cwC f n a c j).natAbs<=B0:=by
 have k1:=zh6 (f:=n) (h:=a) hn ha
 have p2:=zy3 (n:=n) (h:=c) hn1 hn hc
 have BD:Bnd (tbF f n a c) wOne (allL n a a).length (allL n c c).length (10 ^ 43):=zbt6 hS hn k1
 have one:∀ i,i<(allL n a a).length->1<=wOne i:=fun _ _=>zdb5 _
 have pos:0<wtB (tbF f n a c) wOne (allL n a a).length (allL n c c).length:=zba5 FI p2 one
 have zT:(wtT (tbF f n a c) wOne (allL n a a).length (allL n c c).length).natAbs<=(10 ^ 43+1)*(zj1 ((allL n a a).length+1)*(10 ^ 43) ^ ((allL n a a).length+1)):=wtT_le FI BD
 have zB:(wtB (tbF f n a c) wOne (allL n a a).length (allL n c c).length).natAbs<=zj1 ((allL n a a).length+1)*(10 ^ 43) ^ ((allL n a a).length+1):=zcg4 FI BD
 have z0:=B0_of k1
 have y1:(cwT f n a c).natAbs<=(wtT (tbF f n a c) wOne (allL n a a).length (allL n c c).length).natAbs:=zby3 _ _
 have y2:(cwB f n a c).natAbs<=(wtB (tbF f n a c) wOne (allL n a a).length (allL n c c).length).natAbs:=zbf7 _ _
 have b0:=zba6
 refine⟨zah9 (by rfl'),?_,by rfl',fun i hi=>⟨zaq1 FI one hi,?_⟩,fun j=>⟨zaq9 FI j,zcy7 (wtC_le FI BD j) z0⟩⟩
 ·have:=Nat.mul_le_mul_left (10 ^ 43+1) z0
  omega
 ·have h:=wtR_le FI BD one hi
  have:=zdb0 (10 ^ 43) z0
  show (wtR _ _ _ _ i).natAbs<=_
  omega
structure CwAt(H0 H:Hp)(p fr l1 l2:Addr)(ts1 ts2:List (Addr×Addr))(f:Fd)(n a c:Nat):Prop where
 out:H p=some (.tup [.ref fr,.ref l1,.ref l2])
 frc:H fr=some (.tup [.int (lowT (cwT f n a c*1) (cwB f n a c*n)),.int (lowB (cwT f n a c*1) (cwB f n a c*n))])
 one:MxN H l1 ts1 (cwP f n a c)
 two:MxN H l2 ts2 (cwQ f n a c)
 new:∀ x∈l1 :: l2 :: (ts1.map (·.2)++ts2.map (·.2)),H0 x=none
 nd:(l1 :: l2 :: (ts1.map (·.2)++ts2.map (·.2))).Nodup
@[irreducible] noncomputable def zf9(zcp2 a_tab:Addr):Sp:=fun vs H Q _=>∃ (b l:Addr) (ps:List Addr) (a c:Nat) (fs:List Fd) (f:Fd),vs=[.ref b]/\zl0 H b l ps a c fs/\OkB a c fs/\zat7 fs f/\f.Sm a c/\TabG a_tab H /\
 ∀ p fr l1 l2 ts1 ts2 H',Chg a_tab H H'->TabG a_tab H'->CwAt H H' p fr l1 l2 ts1 ts2 f fs.length a c->zap1 f fs.length a c->Q (.ref p) H'
theorem zx6{b:Addr}{a:Nat}{fs:List Fd}{f:Fd}(B:zl0 H b l ps a c fs)(O:OkB a c fs)(hA:zat7 fs f)(hS:f.Sm a c)(hT:TabG T H)(q:∀ p fr l1 l2 ts1 ts2 H',Chg T H H'->TabG T H'->CwAt H H' p fr l1 l2 ts1 ts2 f fs.length a c->zap1 f fs.length a c->Q (.ref p) H'):zf9 C T [.ref b] H Q E:=by
 unfold zf9;exact⟨b,l,ps,a,c,fs,f,rfl,B,O,hA,hS,hT,q⟩
theorem FdAt.rmT{p:Addr}{a:Nat}{f:Fd}(F:FdAt H p a c f)(x:TabG T H):FdAt (rm T H) p a c f:=by
 cases f with
 | more w t=>exact zs2 (x.ne F (fun _ y=>nomatch y)) F
 | lead w t=>exact zs2 (x.ne F (fun _ y=>nomatch y)) F
 | tab g=>
  obtain⟨q,ps,F,G⟩:=F
  exact⟨q,ps,zs2 (x.ne F (fun _ y=>nomatch y)) F,zs2 (x.ne G.out (fun _ y=>nomatch y)) G.out,G.len,fun i p e=>zs2 (x.ne (G.row i p e) (fun _ y=>nomatch y)) (G.row i p e)⟩
theorem zl0.rmT{T:Addr}{H:Hp}{b l:Addr}{ps:List Addr}{a c:Nat}{fs:List Fd}(B:zl0 H b l ps a c fs)(x:TabG T H):zl0 (rm T H) b l ps a c fs:=
 ⟨zs2 (x.ne B.out (fun _ y=>nomatch y)) B.out,zs2 (x.ne B.lst (fun _ y=>nomatch y)) B.lst,B.len,fun i p f e1 e2=>⟨(B.fld i p f e1 e2).1.rmT x,(B.fld i p f e1 e2).2⟩⟩
theorem zl0.tab{b:Addr}{a:Nat}{fs:List Fd}(B:zl0 H b l ps a c fs)(x:TabG T H)(ch:Chg T H H'):zl0 H' b l ps a c fs:=((B.rmT x).same (Chg.rm ch)).same (zx5 T H')
theorem zal0(F:Fun K "counts_worth" "counts_worth" zr6 f fd)(N:Nm mg)(zcr9:Def P w K mg base CX0 7 "counts_mix" ["hosts","fields","weights"] zj7)(zcs3:Def P w K mg base CX0 9 "counts_table" ["battle"] zg2)(zct0:Def P w K mg base CX0 7 "table_worth" ["table"] (zh2 zcp2 a_tab))(zcv7:Def P w K mg base CX0 3 "times" ["one","other"] zy4):FnOk P w K mg base CX0 10 f fd ["battle"] (zf9 zcp2 a_tab):=by
 refine F.ok zi4 (fun vs H Q E h=>by unfold zf9 at h;obtain⟨_,_,_,_,_,_,_,rfl,_⟩:=h;rfl) fun _ _ _ s H vs Q E hr h=>?_
 unfold zf9 at h
 obtain⟨b,l,ps,a,c,fs,f,rfl,B,O,hA,hS,hT,q⟩:=h
 have bl:=B.len
 have hu:=hu40 hr
 have k1:=zh6 (f:=fs.length) (h:=a) O.2.2 O.1.1
 have k2:=zh6 (f:=fs.length) (h:=c) O.2.2 O.1.2
 have p1:=zy3 (n:=fs.length) (h:=a) O.2.1 O.2.2 O.1.1
 have p2:=zy3 (n:=fs.length) (h:=c) O.2.1 O.2.2 O.1.2
 have BD:=zbt6 (f:=f) (n:=fs.length) (a:=a) (c:=c) (m:=(allL fs.length a a).length) (k:=(allL fs.length c c).length) hS O.2.2 k1
 refine⟨_,(za2 (psS (i:=1) zi4.nd (pD zct0 hr zb4 (za0 (pD zcs3 hr zb4 (za0 (pq 0) za1)) za1)))
   (za2 (psS (i:=2) zi4.nd (pB (zm3 (K:=K) rfl) N.len_ zf7 (za0 (za8 (K:=K) rfl (pq 0) za3) za1)))
   (za2 (psS (i:=3) zi4.nd (pD zcr9 hr zb4 (za0 (za8 (K:=K) rfl (pq 0) za3) (za0 (pq 2) (za0 (za8 (K:=K) rfl (pq 1) za3) za1)))))
   (za2 (psS (i:=4) zi4.nd (pD zcr9 hr zb4 (za0 (za8 (K:=K) rfl (pq 0) za3) (za0 (pq 2) (za0 (za8 (K:=K) rfl (pq 1) za3) za1)))))
   (za5 (zb1 (zx8 (za0 (pD zcv7 hr zb4 (za0 (za8 (K:=K) rfl (pq 1) za3) (za0 (zx8 (za0 za3 (za0 (pq 2) za1))) za1))) (za0 (pq 3) (za0 (pq 4) za1)))))))))),?_⟩
 refine zal7 B O hA (fun r qs H1 F1=>?_)
 have B1:=B.same F1.same
 have T1:TabG a_tab H1:=hT.same F1.same
 have G1:zd4 H1 r qs (allL fs.length a a).length (allL fs.length c c).length (tbF f fs.length a c):=⟨F1.out,F1.len,fun i p e=>by rw[(F1.row i p e).2,zcd5];rfl⟩
 refine zap4 G1 p1 (by rfl') p2 (by rfl') T1 BD (fun p fr r1 r2 H2 c2 T2 e1 e2 e3 e4 e5 e6 e7 e8 FI=>?_)
 have B2:=B1.tab T1 c2
 refine za9 (v:=.ref l) B2.out rfl ?_
 refine zf2 B2.lst ?_
 rw[zcw0,bl]
 refine za9 (v:=.int a) B2.out rfl ?_
 refine za9 (v:=.ref r1) e5 rfl ?_
 refine zad0 O.1.1 O.2.1 O.2.2 e7 (fun l1 ts1 H3 f3 g3 n3 s3 M3=>?_)
 refine za9 (v:=.int c) (s3 _ _ B2.out) rfl ?_
 refine za9 (v:=.ref r2) (s3 _ _ e5) rfl ?_
 refine zad0 O.1.2 O.2.1 O.2.2 (s3 _ _ e8) (fun l2 ts2 H4 f4 g4 n4 s4 M4=>?_)
 have s24:=s3.trans s4
 refine za9 (v:=.ref fr) (s24 _ _ e5) rfl ?_
 refine zh9 (fun p5 H5 f5 s5 h5=>?_)
 have hn:=O.2
 have b0:=zba6
 obtain⟨y3,w1,w2,_⟩:=zu0 FI hS O.2.1 O.2.2 O.1.1 O.1.2
 have w3:((cwB f fs.length a c)*(fs.length:Int)).natAbs<=B0*5:=by
  rw[zdb3]
  exact zdc2 w2 (by rfl')
 refine zce3 (t:=cwT f fs.length a c) (u:=cwB f fs.length a c) (x:=1) (y:=fs.length) (s5 _ _ (s24 _ _ e6)) h5 y3 (by rfl') (Sm.of0 (by rfl')) (Sm.of0 (by rfl')) (Sm.of0 (by rfl')) (Sm.of0 (by rfl')) (Sm.of0 (by rfl')) (fun fr6 H6 f6 s6 h6=>?_)
 refine zh9 (fun p7 H7 f7 s7 h7=>?_)
 ac_nf
 have s47:=(s5.trans s6).trans s7
 have s27:=s24.trans s47
 have c02:Chg a_tab H H2:=fun x o h4 h=>c2 x o h4 (F1.same _ _ h)
 have M7:=(M3.same s4).same s47
 have N7:=M4.same s47
 have fr0:∀ {x:Addr},H2 x=none->H x=none:=fun h=>TabG.free c02 T2 h
 refine q p7 fr6 l1 l2 ts1 ts2 H7 (fun x o h4 h=>s27 _ _ (c02 x o h4 h)) (T2.same s27) ⟨h7,s7 _ _ h6,M7,N7,fun x hx=>fr0 ?_,?_⟩ FI
 ·rcases zcx2.mp hx with rfl|hx
  ·exact f3
  rcases zcx2.mp hx with rfl|hx
  ·exact s3.free f4
  rcases zda5.mp hx with hx|hx
  ·obtain⟨t,ht,rfl⟩:=zcz7.mp hx
   exact (g3 t ht).1
  ·obtain⟨t,ht,rfl⟩:=zcz7.mp hx
   exact s3.free (g4 t ht).1
 ·have old:∀ t∈ts1,∃ o,H3 t.2=some o:=fun t ht=>by obtain⟨x,_,_,h⟩:=M3.refs ht;exact⟨_,h⟩
  refine zdc9.mpr ⟨fun hm=>?_,zdc9.mpr ⟨fun hm=>?_,List.nodup_append.mpr ⟨n3,n4,fun x hx y hy z=>?_⟩⟩⟩
  ·rcases zcx2.mp hm with e|hm
   ·rw[← e,M3.out] at f4;cases f4
   rcases zda5.mp hm with hm|hm
   ·obtain⟨t,ht,e⟩:=zcz7.mp hm
    exact (g3 t ht).2 e
   ·obtain⟨t,ht,e⟩:=zcz7.mp hm
    have:=(g4 t ht).1
    rw[e,M3.out] at this;cases this
  ·rcases zda5.mp hm with hm|hm
   ·obtain⟨t,ht,e⟩:=zcz7.mp hm
    obtain⟨o,h⟩:=old t ht
    rw[e,f4] at h;cases h
   ·obtain⟨t,ht,e⟩:=zcz7.mp hm
    exact (g4 t ht).2 e
  ·obtain⟨t,ht,rfl⟩:=zcz7.mp hx
   obtain⟨t',ht',e'⟩:=zcz7.mp hy
   obtain⟨o,h⟩:=old t ht
   have:=(g4 t' ht').1
   rw[e',← z,h] at this;cases this
theorem zcm3{t b:Int}(h:b≠0):lowT (lowT t b) (lowB t b)=lowT t b/\lowB (lowT t b) (lowB t b)=lowB t b:=by
 have p:=zah9 (t:=t) h
 have e:lg (lowT t b) (lowB t b)=1:=by unfold lg;rw[if_neg (by rfl'),zcm7 h];rfl
 rw[zbd6 (lowT t b),zbg1 (lowT t b),e,Int.ediv_one,Int.ediv_one]
 exact⟨rfl,rfl⟩
@[irreducible] noncomputable def zh7:Sp:=fun vs H Q _=>∃ t b:Int,vs=[.int t,.int b]/\0<b/\Sm b/\∀ p H',H p=none->Same H H'->H' p=some (.tup [.int (lowT t b),.int (lowB t b)])->Q (.ref p) H'
theorem zca1{t b:Int}(h1:0<b)(h2:Sm b)(q:∀ p H',H p=none->Same H H'->H' p=some (.tup [.int (lowT t b),.int (lowB t b)])->Q (.ref p) H'):zh7 [.int t,.int b] H Q E:=by
 unfold zh7;exact⟨t,b,rfl,h1,h2,q⟩
theorem zao3(F:Fun K "_law_lowest" "_law_lowest" zu3 f fd)(N:Nm mg):FnOk P w K mg base CX0 1 f fd ["_law_top","_law_bottom"] zh7:=by
 refine F.ok zs0 (fun vs H Q E h=>by unfold zh7 at h;obtain⟨n,k,rfl,_⟩:=h;rfl) fun _ _ _ s H vs Q E hr h=>?_
 unfold zh7 at h
 obtain⟨t,b,rfl,hb,hb2,q⟩:=h
 have hu:=hu40 hr
 refine⟨_,(za2 (psPar (i:=2) (j:=3) rfl zs0.nd rfl rfl (by decide) rfl rfl (za0 (pB cAbs N.abs_ zbk8 (za0 (pq 0) za1)) (za0 (pq 1) za1)) rfl)
   (za2 (zas8 PassesOwn.never (ptC oGt (pq 3) za3) (za5 (psPar (i:=2) (j:=3) rfl zs0.nd rfl rfl (by decide) rfl rfl (za0 (pq 3) (za0 (zb2 oMod (pq 2) (pq 3)) za1)) rfl)))
   (za5 (zb1 (zx8 (za0 (zb2 oDiv (pq 0) (pq 2)) (za0 (zb2 oDiv (pq 1) (pq 2)) za1))))))),?_⟩
 refine zat9 (fun σ H2=>∃ (x y:Int),σ=[some (.int t),some (.int b),some (.int x),some (.int y)]/\H=H2/\0<=x/\0<=y/\x.gcd y=t.gcd b) (fun σ _=>match σ with | [_,_,_,some (.int y)]=>y.toNat|_=>0) ?_ ?_
 ·refine⟨_,_,rfl,rfl,by rfl',by rfl',?_⟩
  rw[zda4,zda4]
  simp
 ·rintro σ H2 ⟨x,y,rfl,rfl,hx,hy,hg⟩
  ac_nf
  refine zbs9 (fun h=>?_) (fun h=>?_)
  ·ac_nf
   refine zbk6 h ?_
   ac_nf
   have h1:=Int.emod_nonneg x (show y≠0 by rfl')
   have h2:=Int.emod_lt_of_pos x h
   refine⟨⟨_,_,rfl,rfl,hy,h1,?_⟩,?_⟩
   ·rw[zbm0 hx h];exact hg
   ·show (x % y).toNat<y.toNat
    omega
  ·have e:x=(t.gcd b:Int):=by rw[← hg];exact (zbv6 hx (by rfl')).symm
   have el:((t.gcd b:Nat):Int)=lg t b:=by unfold lg;rw[if_neg (by rfl')]
   have g1:=zal1 (t:=t) (b:=b) (by rfl')
   have g2:=zch7 (t:=t) (b:=b) (by rfl')
   have g3:Sm ((t.gcd b:Nat):Int):=hb2.le (by rfl') (by rfl')
   subst e
   refine zab2 g1 g3 ?_
   refine zab2 g1 g3 ?_
   refine zh9 (fun p H' hf hs ha=>?_)
   ac_nf
   rw[el] at ha
   exact q _ _ hf hs ha
@[irreducible] noncomputable def zf4:Sp:=fun vs H Q _=>∃ (r:Addr) (t b:Int),vs=[.ref r]/\0<b/\Sm b/\H r=some (.tup [.int (lowT t b),.int (lowB t b)])/\∀ H',Same H H'->Q (.bl true) H'
theorem zbh4{r:Addr}{t b:Int}(h1:0<b)(h2:Sm b)(hr:H r=some (.tup [.int (lowT t b),.int (lowB t b)]))(q:∀ H',Same H H'->Q (.bl true) H'):zf4 [.ref r] H Q E:=by
 unfold zf4;exact⟨r,t,b,rfl,h1,h2,hr,q⟩
theorem zag7(F:Fun K "_law_fraction" "_law_fraction" zq5 f fd)(N:Nm mg)(zct1:Def P w K mg base CX0 1 "_law_lowest" ["_law_top","_law_bottom"] zh7)(zcp8:Def P w K mg base CX0 1 "_law_whole" ["_law_found"] zg5):FnOk P w K mg base CX0 2 f fd ["_law_found"] zf4:=by
 refine F.ok zah4 (fun vs H Q E h=>by unfold zf4 at h;obtain⟨_,_,_,rfl,_⟩:=h;rfl) fun _ _ _ s H vs Q E hr h=>?_
 unfold zf4 at h
 obtain⟨r,t,b,rfl,hb,hb2,h,q⟩:=h
 have hu:=hu40 hr
 have lp:=zah9 (t:=t) (b:=b) (by rfl')
 have ll:=zbf7 t b
 obtain⟨e1,e2⟩:=zcm3 (t:=t) (b:=b) (by rfl')
 refine⟨_,(za2 (psIf (ptW (pwOr (zl3 (ptV (pB (zah3 (K:=K) rfl) N.isinstance_ zc6 (za0 (pq 0) (za0 (pTy N.tuple_ zah6) za1))))) (pwOr (ptC (oNeK (K:=K) rfl (by exact hu)) (pB (zm3 (K:=K) rfl) N.len_ zf7 (za0 (pq 0) za1)) za3) (pwOr (zl3 (ptV (pD zcp8 hr zb4 (za0 (za8 (K:=K) rfl (pq 0) za3) za1)))) (zz3 (zl3 (ptV (pD zcp8 hr zb4 (za0 (za8 (K:=K) rfl (pq 0) za3) za1))))))))) (za5 (zb1 zt2)) zb8)
   (za5 (zb1 (zab6 (peC oGt (za8 (K:=K) rfl (pq 0) za3) za3) (zq6 (peC (oEqK (K:=K) rfl (by exact hu)) (pD zct1 hr zb4 (za0 (za8 (K:=K) rfl (pq 0) za3) (za0 (za8 (K:=K) rfl (pq 0) za3) za1))) (pq 0))))))),?_⟩
 refine zz9 h ?_
 refine ze3 (br_T ?_)
 refine zr7 h ?_
 refine ze3 (zl5 rfl ?_)
 refine za9 (v:=.int (lowT t b)) h rfl ?_
 refine zai4 ?_
 refine ze3 (br_T ?_)
 refine za9 (v:=.int (lowB t b)) h rfl ?_
 refine zai4 ?_
 refine ze3 (br_T ?_)
 refine za9 (v:=.int (lowB t b)) h rfl ?_
 refine zl5 lp ?_
 refine za9 (v:=.int (lowT t b)) h rfl ?_
 refine za9 (v:=.int (lowB t b)) h rfl ?_
 refine zca1 lp (hb2.le (by rfl') (by rfl')) (fun p H1 f1 s1 h1=>?_)
 rw[e1,e2] at h1
 refine zal8 (EqR.ints2 h1 (s1 _ _ h)) ?_
 rw[decide_eq_true ⟨rfl,rfl⟩]
 ac_nf
 exact q _ s1
theorem zz0{α:Type}(ms:List α)(d:α)(g:α->Int):(List.range ms.length).map (fun i=>V.int (g (ms.getD i d)))=(ms.map g).map V.int:=by
 apply zdc1
 intro i
 rw[zcw3,zcw3,zcw3]
 by_cases h:i<ms.length
 ·rw[zdb9 h,zcv9 h]
  simp[zcw7,zcv9 h]
 ·rw[zcy2 (by simp;omega),zcy2 (by rfl')];rfl
@[irreducible] noncomputable def zo0:Sp:=fun vs H Q _=>∃ (p l1 l2:Addr) (a c:Nat) (f:Fd) (xs ys:List Nat),vs=[.ref p,.ref l1,.ref l2]/\FdAt H p a c f/\H l1=some (.lst (pl xs))/\H l2=some (.lst (pl ys))/\(∀ x∈xs,x<=a)/\(∀ y∈ys,y<=c)/\ys.length<=10/\∀ H',Same H H'->Q (.int (tog f xs ys)) H'
theorem zcf9{p:Addr}{a:Nat}{f:Fd}{ys:List Nat}(F:FdAt H p a c f)(h1:H l1=some (.lst (pl xs)))(h2:H l2=some (.lst (pl ys)))(h3:∀ x∈xs,x<=a)(h4:∀ y∈ys,y<=c)(h5:ys.length<=10)(q:∀ H',Same H H'->Q (.int (tog f xs ys)) H'):zo0 [.ref p,.ref l1,.ref l2] H Q E:=by unfold zo0;exact⟨p,l1,l2,a,c,f,xs,ys,rfl,F,h1,h2,h3,h4,h5,q⟩
theorem zbh6(F:Fun K "_law_met" "_law_met" zad3 f fd)(N:Nm mg)(zcv3:Def P w K mg base CX0 1 "_law_pay" ["_law_field_here","_law_x","_law_y"] zn6):FnOk P w K mg base CX0 2 f fd ["_law_field_here","_law_one","_law_other"] zo0:=by
 refine F.ok zv1 (fun vs H Q E h=>by unfold zo0 at h;obtain⟨_,_,_,_,_,_,_,_,rfl,_⟩:=h;rfl) fun _ _ _ s H vs Q E hr h=>?_
 unfold zo0 at h
 obtain⟨p,l1,l2,a,c,f,xs,ys,rfl,F,h1,h2,h3,h4,h5,q⟩:=h
 refine⟨_,(za2 (psS (i:=3) zv1.nd za3)
   (za2 (zaa4 PassesOwn.never rfl (zd8 (K:=K) rfl (pq 1)) (za7 (i:=4) zv1.nd rfl (by eq_refl)) (za5 (psS (i:=3) zv1.nd (zb2 oAdd (pq 3) (pB (zbe4 (K:=K) rfl rfl) N.sum_ zak5 (za0 (zd6 (N:=["_law_y","_law_field_here","_law_x"]) (ks:=[none,some 0,some 4]) (zd8 (K:=K) rfl (pq 2)) (fun _ _ _ _ _=>(za7 (i:=0) nb_28 rfl (by eq_refl))) (fun _ _ _ _ _=>zc1) (fun _ _ _ _ _=>(pD zcv3 hr zb4 (za0 (pq 1) (za0 (pq 2) (za0 (pq 0) za1))))) (.skip (.take rfl rfl (by eq_refl) (.take rfl rfl (by eq_refl) .nil)))) za1))))))
   (za5 (zb1 (pq 3))))),?_⟩
 refine zb6 h1 ?_
 refine zo6 (xs:=pl xs) (fun i σ H1=>∃ x:Option V,σ=[some (.ref p),some (.ref l1),some (.ref l2),some (.int (tog f (xs.take i) ys)),x]/\Same H H1) ?_ ?_ ?_ ?_
 ·exact⟨_,rfl,Same.refl _⟩
 ·rintro i σ H1 _ ⟨_,_,s1⟩
  exact SqL.of (s1 _ _ h1)
 ·rintro i v σ H1 hi ⟨x0,rfl,s1⟩
  obtain⟨x,rfl,ex⟩:=pl_of hi
  have xa:=h3 x (zcw6 ex)
  refine zb6 (s1 _ _ h2) ?_
  refine zi1 (Wk.list (SqL.of (s1 _ _ h2))) (by rw[zw9,zdf9];omega) (fun i=>.int (f.won x (ys.getD i 0))) (fun _=>true) (fun j σ=>∃ t:Option V,σ=[t,some (.ref p),some (.int x)]) ⟨none,rfl⟩ ?_ ?_
  ·rintro j v σ H2 R S hj s2 hx ⟨t,rfl⟩ k _
   obtain⟨y,rfl,ey⟩:=pl_of hx
   have eg:ys.getD j 0=y:=by rw[zcw7,ey];rfl
   refine br_T ?_
   refine zbp7 (F.same (s1.trans s2)) xa (h4 y (zcw6 ey)) (fun H3 s3=>?_)
   ac_nf
   rw[eg] at k
   exact k rfl _ _ s3 ⟨_,rfl⟩
  intro acc H2 f2 s2 h2'
  rw[zd2,zw9,zaw9] at h2'
  refine zal3 h2' ?_
  ac_nf
  refine⟨some (.int x),?_,s1.trans s2⟩
  have e:tog f (xs.take (i+1)) ys=tog f (xs.take i) ys+togR f x ys:=by
   unfold tog
   rw[List.take_succ,ex]
   simp
  rw[e]
  rfl
 ·rintro σ H1 ⟨x0,rfl,s1⟩
  ac_nf
  rw[zw9,List.take_length]
  exact q _ s1
theorem zby2:∀ {ns:List Nat}{m:Nat},Fall m ns->(∀ x∈ns,x<=m)/\(il ns).Pairwise (·≥·)
 | [],_,_=>⟨fun x hx=>(by cases hx),List.Pairwise.nil⟩
 | x :: ns,m,h=>by
  obtain⟨a,b⟩:=zby2 h.2
  refine⟨fun y hy=>?_,?_⟩
  ·rcases zcx2.mp hy with rfl|hy
   ·exact h.1
   ·exact zcy7 (a y hy) h.1
  ·show ((x:Int) :: il ns).Pairwise _
   refine List.Pairwise.cons (fun y hy=>?_) b
   unfold il at hy
   obtain⟨z,hz,rfl⟩:=zcz7.mp hy
   have:=a z hz
   show (z:Int)<=(x:Int)
   omega
theorem zci3{xs ys:List Int}(p:xs.Perm ys)(a:xs.Pairwise (·≥·))(b:ys.Pairwise (·≥·)):xs=ys:=p.eq_of_pairwise (fun _ _ _ _ h1 h2=>Int.le_antisymm h2 h1) a b
noncomputable abbrev CntM(h n:Nat)(ms:List (List Nat×Int)):Prop:=ms≠[]/\ms.length<=40/\(1<=n/\n<=5)/\∀ x∈ms,1<=x.2/\x.1.length=n/\x.1.sum=h/\Fall h x.1
@[irreducible] noncomputable def zh3:Sp:=fun vs H Q _=>∃ (l:Addr) (ts:List (Addr×Addr)) (ms:List (List Nat×Int)) (h n:Nat),vs=[.ref l,.int h,.int n]/\MxN H l ts ms/\CntM h n ms/\∀ H',Same H H'->Q (.bl true) H'
theorem zaq4(M:MxN H l ts ms)(O:CntM h n ms)(q:∀ H',Same H H'->Q (.bl true) H'):zh3 [.ref l,.int h,.int n] H Q E:=by
 unfold zh3;exact⟨l,ts,ms,h,n,rfl,M,O,q⟩
theorem zap3(F:Fun K "_law_is_mix" "_law_is_mix" zu5 f fd)(N:Nm mg)(zcp8:Def P w K mg base CX0 1 "_law_whole" ["_law_found"] zg5):FnOk P w K mg base CX0 2 f fd ["_law_mix","_law_hosts","_law_many"] zh3:=by
 refine F.ok zz4 (fun vs H Q E h=>by unfold zh3 at h;obtain⟨_,_,_,_,_,rfl,_⟩:=h;rfl) fun _ _ _ s H vs Q E hr h=>?_
 unfold zh3 at h
 obtain⟨l,ts,ms,h,n,rfl,M,⟨O1,O2,O3,O4⟩,q⟩:=h
 have hu:=hu40 hr
 have ml:=M.len
 have m0:ms.length≠0:=fun e=>O1 (List.length_eq_zero_iff.mp e)
 refine⟨_,(za2 (psIf (ptW (pwOr (zl3 (ptV (pB (zah3 (K:=K) rfl) N.isinstance_ zc6 (za0 (pq 0) (za0 (pTy N.list_ zy1) za1))))) (zz3 (ptC (oEqK (K:=K) rfl (by exact hu)) (pq 0) (zl1 za1))))) (za5 (zb1 zt2)) zb8)
   (za2 (zaa4 PassesOwn.never rfl (zd8 (K:=K) rfl (pq 0)) (za7 (i:=3) zz4.nd rfl (by eq_refl)) (za2 (psIf (ptW (pwOr (zl3 (ptV (pB (zah3 (K:=K) rfl) N.isinstance_ zc6 (za0 (pq 3) (za0 (pTy N.tuple_ zah6) za1))))) (pwOr (ptC (oNeK (K:=K) rfl (by exact hu)) (pB (zm3 (K:=K) rfl) N.len_ zf7 (za0 (pq 3) za1)) za3) (zz3 (zl3 (ptV (pB (zah3 (K:=K) rfl) N.isinstance_ zc6 (za0 (za8 (K:=K) rfl (pq 3) za3) (za0 (pTy N.list_ zy1) za1))))))))) (za5 (zb1 zt2)) zb8)
   (za2 (psIf (ptW (pwOr (ptC (oNeK (K:=K) rfl (by exact hu)) (zd6 (N:=["_law_one"]) (ks:=[none]) (zd8 (K:=K) rfl (zb2 oAdd (za8 (K:=K) rfl (pq 3) za3) (zl1 (za0 (za8 (K:=K) rfl (pq 3) za3) za1)))) (fun _ _ _ _ _=>(za7 (i:=0) nb_27 rfl (by eq_refl))) (fun _ _ _ _ _=>(zbd9 (zl3 (ptV (pD zcp8 hr zb4 (za0 (pq 0) za1)))))) (fun _ _ _ _ _=>(pq 0)) (.skip .nil)) (zl1 za1)) (zz3 (ptC oLt (za8 (K:=K) rfl (pq 3) za3) za3)))) (za5 (zb1 zt2)) zb8)
   (za2 (psIf (ptW (pwOr (ptC (oNeK (K:=K) rfl (by exact hu)) (pB (zm3 (K:=K) rfl) N.len_ zf7 (za0 (za8 (K:=K) rfl (pq 3) za3) za1)) (pq 2)) (zz3 (ptC (oNeK (K:=K) rfl (by exact hu)) (za8 (K:=K) rfl (pq 3) za3) (zci0 (K:=K) rfl N.sorted_ zbr6 (za0 (za8 (K:=K) rfl (pq 3) za3) za1)))))) (za5 (zb1 zt2)) zb8)
   (za5 (psIf (ptW (pwOr (ptC oLt (za8 (K:=K) rfl (za8 (K:=K) rfl (pq 3) za3) (zw6 uNeg za3)) za3) (zz3 (ptC (oNeK (K:=K) rfl (by exact hu)) (pB (zbe4 (K:=K) rfl rfl) N.sum_ zak5 (za0 (za8 (K:=K) rfl (pq 3) za3) za1)) (pq 1))))) (za5 (zb1 zt2)) zb8))))))
   (za5 (zb1 zt2)))),?_⟩
 refine zaj8 M.out ?_
 refine ze3 (br_T ?_)
 refine zc3 (fun p1 H1 f1 s1 h1=>?_)
 refine zal8 (EqR.nilR (s1 _ _ M.out) h1) ?_
 refine zt1 (by rw[zcw0,ml];exact m0) ?_
 have M1:=M.same s1
 refine zb6 M1.out ?_
 refine zo6 (xs:=ts.map fun t=>V.ref t.1) (fun i σ H2=>∃ x:Option V,σ=[some (.ref l),some (.int h),some (.int n),x]/\Same H H2) ?_ ?_ ?_ ?_
 ·exact⟨_,rfl,s1⟩
 ·rintro i σ H2 _ ⟨_,_,s2⟩
  exact SqL.of (s2 _ _ M.out)
 ·rintro i v σ H2 hi ⟨x0,rfl,s2⟩
  obtain⟨t,x,rfl,et,ex,ht,hl⟩:=(M.same s2).elt hi
  obtain⟨o1,o2,o3,o4⟩:=O4 x (zcw6 ex)
  have hl':H2 t.2=some (.lst ((il x.1).map V.int)):=by rw[hl,pl_il]
  have ill:(il x.1).length=n:=by unfold il;rw[zcw0,o2]
  refine zz9 ht ?_
  refine ze3 (br_T ?_)
  refine zr7 ht ?_
  refine ze3 (zl5 rfl ?_)
  refine za9 (v:=.ref t.2) ht rfl ?_
  refine zaj8 hl ?_
  refine ze3 (br_T ?_)
  refine za9 (v:=.ref t.2) ht rfl ?_
  refine za9 (v:=.int x.2) ht rfl ?_
  refine zc3 (fun p3 H3 f3 s3 h3=>?_)
  refine zag5 (s3 _ _ hl') h3 (by rw[zcw0,ill,zdf9,zcy1];omega) (fun p4 H4 f4 s4 h4=>?_)
  have h4':H4 p4=some (.lst ((il x.1++[x.2]).map V.int)):=by rw[h4,zcx9];rfl
  refine zb6 h4' ?_
  have W:=Wk.list (K:=K) (SqL.of h4')
  rw[zcw0,zcw9,ill,zcy1] at W
  refine zi1 (n:=n+1) W (by rw[zdf9];omega) (fun i=>.int ((il x.1++[x.2]).getD i 0)) (fun _=>false) (fun j σ=>∃ t:Option V,σ=[t]) ⟨none,rfl⟩ ?_ ?_
  ·rintro j v σ H5 R S hj s5 hx ⟨t',rfl⟩ k' kS
   rw[zcw3] at hx
   obtain⟨z,ez,rfl⟩:=zcx0.mp hx
   refine zai4 ?_
   refine ze3 (br_T ?_)
   ac_nf
   exact kS rfl _ _ (Same.refl _) ⟨_,rfl⟩
  intro acc H5 f5 s5 h5
  rw[zca8] at h5
  refine zc3 (fun p6 H6 f6 s6 h6=>?_)
  refine zal8 (EqR.nilR (s6 _ _ h5) h6) ?_
  refine ze3 (zl5 rfl ?_)
  have s26:=((s3.trans s4).trans s5).trans s6
  refine za9 (v:=.int x.2) (s26 _ _ ht) rfl ?_
  refine zt1 (by rfl') ?_
  refine za9 (v:=.ref t.2) (s26 _ _ ht) rfl ?_
  refine zf2 (s26 _ _ hl') ?_
  rw[zcw0,ill]
  refine ze3 (zl5 rfl ?_)
  refine za9 (v:=.ref t.2) (s26 _ _ ht) rfl ?_
  refine za9 (v:=.ref t.2) (s26 _ _ ht) rfl ?_
  refine sr_rd (SqL.of (s26 _ _ hl')) (by rw[ill];omega) (fun p7 H7 zs f7 s7 pm pw h7=>?_)
  have em:zs=il x.1:=zci3 pm pw (zby2 o4).2
  subst em
  refine zal8 (EqR.intL (xs:=il x.1) (ys:=il x.1) (SqL.of (s7 _ _ (s26 _ _ hl'))) (SqL.of h7)) ?_
  refine ze3 (zl5 rfl ?_)
  obtain⟨z,ez⟩:∃ z,x.1[n - 1]?=some z:=⟨_,zcv9 (by rfl')⟩
  have s27:=s26.trans s7
  refine za9 (v:=.ref t.2) (s27 _ _ ht) rfl ?_
  refine zb5 (v:=.int z) (s27 _ _ hl) (zaf1 (n:=n - 1) (by rw[zw9];omega) (pl_get ez)) ?_
  refine zt1 (by rfl') ?_
  refine za9 (v:=.ref t.2) (s27 _ _ ht) rfl ?_
  refine zal3 (s27 _ _ hl') ?_
  rw[il_sum,o3]
  refine ze3 (zl5 rfl ?_)
  ac_nf
  exact⟨_,rfl,s2.trans s27⟩
 ·rintro σ H2 ⟨x0,rfl,s2⟩
  ac_nf
  exact q _ s2
noncomputable def cwX(f:Fd)(n a c:Nat):Int:=lowT (cwT f n a c*1) (cwB f n a c*n)
noncomputable def cwY(f:Fd)(n a c:Nat):Int:=lowB (cwT f n a c*1) (cwB f n a c*n)
noncomputable def comR(f:Fd)(ms:List (List Nat×Int))(ys:List Nat):Int:=(ms.map fun x=>x.2*tog f x.1 ys).sum
noncomputable def comC(f:Fd)(ms:List (List Nat×Int))(xs:List Nat):Int:=(ms.map fun x=>x.2*tog f xs x.1).sum
noncomputable def wsm(ms:List (List Nat×Int)):Int:=(ms.map fun x=>x.2).sum
theorem zcl4{T B n x:Int}{c S:Int}(hB:0<B*n)(ex:x=lowT (T*1) (B*n))(ey:y=lowB (T*1) (B*n))(hn:0<n)(h:T*S<=c*B):x*n*S<=c*y:=by
 have d:=zbj1 (x:=T*1) hB
 have eT:=zac3 (T*1) (B*n)
 have eB:=zy6 (T*1) (B*n)
 rw[← ex] at eT
 rw[← ey] at eB
 refine Int.le_of_mul_le_mul_left (a:=lg (T*1) (B*n)) ?_ d
 have h2:=zcy3 h (zcz5 hn)
 generalize lg (T*1) (B*n)=g at *
 have e1:g*(x*n*S)=T*S*n:=by
  have:g*(x*n*S)=(g*x)*(n*S):=by grind
  rw[this,← eT];grind
 have e2:g*(c*y)=c*B*n:=by
  have:g*(c*y)=c*(g*y):=by grind
  rw[this,← eB];grind
 rw[e1,e2];exact h2
theorem zce2{T B n x:Int}{c S:Int}(hB:0<B*n)(ex:x=lowT (T*1) (B*n))(ey:y=lowB (T*1) (B*n))(hn:0<n)(h:c*B<=T*S):c*y<=x*n*S:=by
 have d:=zbj1 (x:=T*1) hB
 have eT:=zac3 (T*1) (B*n)
 have eB:=zy6 (T*1) (B*n)
 rw[← ex] at eT
 rw[← ey] at eB
 refine Int.le_of_mul_le_mul_left (a:=lg (T*1) (B*n)) ?_ d
 have h2:=zcy3 h (zcz5 hn)
 generalize lg (T*1) (B*n)=g at *
 have e1:g*(x*n*S)=T*S*n:=by
  have:g*(x*n*S)=(g*x)*(n*S):=by grind
  rw[this,← eT];grind
 have e2:g*(c*y)=c*B*n:=by
  have:g*(c*y)=c*(g*y):=by grind
  rw[this,← eB];grind
 rw[e1,e2];exact h2
section
variable {f:Fd}{n a c:Nat}
theorem cw_win(FI:zap1 f n a c)(hS:f.Sm a c)(hn1:1<=n)(hn:n<=5)(ha:a<=10)(hc:c<=10)(hj:j<(allL n c c).length) :
  cwX f n a c*n*wsm (cwP f n a c)<=comR f (cwP f n a c) ((allL n c c).getD j [])*cwY f n a c:=by
 obtain⟨p,_,_,r,_⟩:=zu0 FI hS hn1 hn ha hc
 refine zcl4 (zdd7 p (by rfl')) rfl rfl (by rfl') ?_
 have e1:comR f (cwP f n a c) ((allL n c c).getD j [])=sxS (allL n a a).length fun i=>cwR f n a c i*tbF f n a c i j:=
  zac5 (allL n a a) (cwR f n a c) (fun ns w=>w*tog f ns ((allL n c c).getD j [])) (fun _=>zdf6 _) _ fun i hi=>(r i hi).1
 have e2:wsm (cwP f n a c)=sxS (allL n a a).length (cwR f n a c):=zac5 (allL n a a) (cwR f n a c) (fun _ w=>w) (fun _=>rfl) _ fun i hi=>(r i hi).1
 rw[e1,e2]
 exact wt_win FI (by rfl') hj
theorem zcn1(FI:zap1 f n a c)(hS:f.Sm a c)(hn1:1<=n)(hn:n<=5)(ha:a<=10)(hc:c<=10)(hi:i<(allL n a a).length) :
  comC f (cwQ f n a c) ((allL n a a).getD i [])*cwY f n a c<=cwX f n a c*n*wsm (cwQ f n a c):=by
 obtain⟨p,_,_,_,r⟩:=zu0 FI hS hn1 hn ha hc
 refine zce2 (zdd7 p (by rfl')) rfl rfl (by rfl') ?_
 have e1:comC f (cwQ f n a c) ((allL n a a).getD i [])=sxS (allL n c c).length fun j=>cwC f n a c j*tbF f n a c i j:=
  zac5 (allL n c c) (cwC f n a c) (fun ns w=>w*tog f ((allL n a a).getD i []) ns) (fun _=>zdf6 _) _ fun j _=>(r j).1
 have e2:wsm (cwQ f n a c)=sxS (allL n c c).length (cwC f n a c):=zac5 (allL n c c) (cwC f n a c) (fun _ w=>w) (fun _=>rfl) _ fun j _=>(r j).1
 rw[e1,e2]
 exact zco3 FI (zy3 hn1 hn hc) hi
theorem zch5(FI:zap1 f n a c)(hS:f.Sm a c)(hn1:1<=n)(hn:n<=5)(ha:a<=10)(hc:c<=10):CntM a n (cwP f n a c)/\∀ x∈cwP f n a c,x.2.natAbs<=10 ^ 43*B0/\(∀ y∈x.1,y<=a)/\x.1.length<=10:=by
 obtain⟨p,_,_,r,_⟩:=zu0 FI hS hn1 hn ha hc
 have k1:=zh6 (f:=n) (h:=a) hn ha
 obtain⟨i0,hi0,hp0⟩:=zco2 FI (zy3 hn1 hn hc) (fun _ _=>zdb5 _)
 have at_:∀ {x:List Nat×Int},x∈cwP f n a c->∃ i ns,(allL n a a)[i]?=some ns/\x=(ns,cwR f n a c i)/\i<(allL n a a).length/\0<cwR f n a c i:=fun {x} hx=>by
  obtain⟨i,hi,hp,e⟩:=zbm4 hx
  refine⟨i,(allL n a a)[i],zcv9 hi,?_,hi,hp⟩
  rw[e,zcw7,zcv9 hi];rfl
 refine⟨⟨zbw2 hi0 hp0,zcy7 (zav1 _ _ _) (by rfl'),⟨hn1,hn⟩,fun x hx=>?_⟩,fun x hx=>?_⟩
 ·obtain⟨i,ns,en,rfl,hi,hp⟩:=at_ hx
  obtain⟨n1,n2,n3,n4⟩:=(zr9 n a a).num i ns en
  exact⟨hp,n2,n3,n4⟩
 ·obtain⟨i,ns,en,rfl,hi,hp⟩:=at_ hx
  exact⟨(r i hi).2,zaa8 hn _ (zcw6 en)⟩
theorem zch6(FI:zap1 f n a c)(hS:f.Sm a c)(hn1:1<=n)(hn:n<=5)(ha:a<=10)(hc:c<=10):CntM c n (cwQ f n a c)/\∀ x∈cwQ f n a c,x.2.natAbs<=10 ^ 43*B0/\(∀ y∈x.1,y<=c)/\x.1.length<=10:=by
 obtain⟨p,_,_,_,r⟩:=zu0 FI hS hn1 hn ha hc
 have k1:=zh6 (f:=n) (h:=c) hn hc
 have b0:=zba6
 obtain⟨i0,hi0,hp0⟩:=zcm4 FI (zy3 hn1 hn hc) (fun _ _=>zdb5 _)
 have at_:∀ {x:List Nat×Int},x∈cwQ f n a c->∃ i ns,(allL n c c)[i]?=some ns/\x=(ns,cwC f n a c i)/\i<(allL n c c).length/\0<cwC f n a c i:=fun {x} hx=>by
  obtain⟨i,hi,hp,e⟩:=zbm4 hx
  refine⟨i,(allL n c c)[i],zcv9 hi,?_,hi,hp⟩
  rw[e,zcw7,zcv9 hi];rfl
 refine⟨⟨zbw2 hi0 hp0,zcy7 (zav1 _ _ _) (by rfl'),⟨hn1,hn⟩,fun x hx=>?_⟩,fun x hx=>?_⟩
 ·obtain⟨i,ns,en,rfl,hi,hp⟩:=at_ hx
  obtain⟨n1,n2,n3,n4⟩:=(zr9 n c c).num i ns en
  exact⟨hp,n2,n3,n4⟩
 ·obtain⟨i,ns,en,rfl,hi,hp⟩:=at_ hx
  have:=(r i).2
  exact⟨by show (cwC f n a c i).natAbs<=_;omega,zaa8 hn _ (zcw6 en)⟩
theorem zbu9(FI:zap1 f n a c)(hS:f.Sm a c)(hn1:1<=n)(hn:n<=5)(ha:a<=10)(hc:c<=10):0<cwY f n a c/\(cwX f n a c).natAbs<=10 ^ 44*B0/\(cwY f n a c).natAbs<=B0*5/\(cwX f n a c*n).natAbs<=10 ^ 44*B0*5:=by
 obtain⟨p,w1,w2,_,_⟩:=zu0 FI hS hn1 hn ha hc
 have y1:(cwX f n a c).natAbs<=(cwT f n a c*1).natAbs:=zby3 _ _
 have y2:(cwY f n a c).natAbs<=(cwB f n a c*n).natAbs:=zbf7 _ _
 rw[zdf5] at y1
 have w3:((cwB f n a c)*(n:Int)).natAbs<=B0*5:=by
  rw[zdb3]
  exact zdc2 w2 (by rfl')
 have pp:=zdd7 p (show 0<(n:Int) by rfl')
 refine⟨zah9 (by rfl'),by rfl',by rfl',?_⟩
 rw[zdb3]
 exact zdc2 (by rfl') (by rfl')
theorem zch0{g:List Nat->Int}(hl:ms.length<=40)(h1:∀ x∈ms,x.2.natAbs<=10 ^ 43*B0)(h2:∀ x∈ms,(g x.1).natAbs<=10 ^ 42):((ms.map fun x=>x.2*g x.1).sum).natAbs<=40*(10 ^ 43*B0*10 ^ 42):=by
 have:=zaj2 (B:=10 ^ 43*B0*10 ^ 42) (l:=ms.map fun x=>x.2*g x.1) (fun z hz=>by
  obtain⟨x,hx,rfl⟩:=zcz7.mp hz
  rw[zdb3]
  exact zdc2 (h1 x hx) (h2 x hx))
 rw[zcw0] at this
 exact zcy7 this (zdb0 _ hl)
theorem zcf5(hl:ms.length<=40)(h1:∀ x∈ms,x.2.natAbs<=10 ^ 43*B0):(wsm ms).natAbs<=40*(10 ^ 43*B0):=by
 have:=zaj2 (B:=10 ^ 43*B0) (l:=ms.map fun x=>x.2) (fun z hz=>by
  obtain⟨x,hx,rfl⟩:=zcz7.mp hz
  exact h1 x hx)
 rw[zcw0] at this
 exact zcy7 this (zdb0 _ hl)
end
theorem zch8{x:Int}(h:x.natAbs<=40*(10 ^ 43*B0*10 ^ 42)):Sm x:=Sm.of0 (zcy7 h (by
 generalize B0=y
 have:40*(10 ^ 43*y*10 ^ 42)=40*10 ^ 42*(10 ^ 43*y):=by rw[Nat.mul_comm (10 ^ 43*y),← Nat.mul_assoc]
 rw[this]
 exact zdb0 _ (by decide)))
@[irreducible] noncomputable def zj0:Sp:=fun vs H Q _=>∃ (bt l fd fr l1 l2:Addr) (rs:List Addr) (a c n:Nat) (f:Fd) (ts1 ts2:List (Addr×Addr)),vs=[.ref bt,.ref fd]/\zl0 H bt l rs a c (List.replicate n f)/\OkB a c (List.replicate n f)/\f.Sm a c/\zap1 f n a c /\
 H fd=some (.tup [.ref fr,.ref l1,.ref l2])/\H fr=some (.tup [.int (cwX f n a c),.int (cwY f n a c)])/\MxN H l1 ts1 (cwP f n a c)/\MxN H l2 ts2 (cwQ f n a c)/\∀ H',Same H H'->Q (.bl true) H'
theorem zce8{bt fd fr:Addr}{rs:List Addr}{a:Nat}{f:Fd}{ts1 ts2:List (Addr×Addr)}(B:zl0 H bt l rs a c (List.replicate n f))(O:OkB a c (List.replicate n f))(hS:f.Sm a c)(FI:zap1 f n a c)(h1:H fd=some (.tup [.ref fr,.ref l1,.ref l2]))(h2:H fr=some (.tup [.int (cwX f n a c),.int (cwY f n a c)]))(M1:MxN H l1 ts1 (cwP f n a c))(M2:MxN H l2 ts2 (cwQ f n a c))(q:∀ H',Same H H'->Q (.bl true) H'):zj0 [.ref bt,.ref fd] H Q E:=by
 unfold zj0;exact⟨bt,l,fd,fr,l1,l2,rs,a,c,n,f,ts1,ts2,rfl,B,O,hS,FI,h1,h2,M1,M2,q⟩
theorem zav2(F:Fun K "_law_holds" "_law_holds" zw7 f fd)(N:Nm mg)(zcr5:Def P w K mg base CX0 7 "_law_all" ["_law_hosts","_law_fields","_law_most"] zq4)(zcu0:Def P w K mg base CX0 2 "_law_met" ["_law_field_here","_law_one","_law_other"] zo0):FnOk P w K mg base CX0 8 f fd ["_law_battle_here","_law_found"] zj0:=by
 refine F.ok zc7 (fun vs H Q E h=>by unfold zj0 at h;obtain⟨_,_,_,_,_,_,_,_,_,_,_,_,_,rfl,_⟩:=h;rfl) fun _ _ _ s H vs Q E hr h=>?_
 unfold zj0 at h
 obtain⟨bt,l,fd,fr,l1,l2,rs,a,c,n,f,ts1,ts2,rfl,B,O,hS,FI,h1,h2,M1,M2,q⟩:=h
 have hu:=hu40 hr
 have bl:=B.len
 rw[zcy9] at bl
 obtain⟨⟨ha,hc⟩,hn1,hn⟩:=O
 rw[zcy9] at hn1 hn
 obtain⟨⟨_,o2,_,o4⟩,P2⟩:=zch5 FI hS hn1 hn ha hc
 obtain⟨⟨_,u2,_,u4⟩,Q2⟩:=zch6 FI hS hn1 hn ha hc
 obtain⟨y0,y1,y2,y3⟩:=zbu9 FI hS hn1 hn ha hc
 have b0:=zba6
 have ml1:=M1.len
 have ml2:=M2.len
 obtain⟨p0,e0⟩:∃ p0,rs[0]?=some p0:=⟨_,zcv9 (by rfl')⟩
 have F0:=(B.fld 0 p0 f e0 (by rw[zde0,if_pos (by rfl')])).1
 have k1:=zh6 (f:=n) (h:=a) hn ha
 have k2:=zh6 (f:=n) (h:=c) hn hc
 refine⟨_,(za2 (zx2 (pq 0) (zp4 (K:=K) (n:=3) rfl rfl (zc2 (za7 (i:=2) zc7.nd rfl (by eq_refl)) (zc2 (za7 (i:=3) zc7.nd rfl (by eq_refl)) (zc2 (za7 (i:=4) zc7.nd rfl (by eq_refl)) zp2)))))
   (za2 (zx2 (pq 1) (zp4 (K:=K) (n:=3) rfl rfl (zc2 (za7 (i:=5) zc7.nd rfl (by eq_refl)) (zc2 (za7 (i:=6) zc7.nd rfl (by eq_refl)) (zc2 (za7 (i:=7) zc7.nd rfl (by eq_refl)) zp2)))))
   (za2 (psS (i:=8) zc7.nd (zb2 oMul (za8 (K:=K) rfl (pq 5) za3) (pB (zm3 (K:=K) rfl) N.len_ zf7 (za0 (pq 4) za1))))
   (za2 (zaa4 PassesOwn.never rfl (zd8 (K:=K) rfl (pD zcr5 hr zb4 (za0 (pq 3) (za0 (pB (zm3 (K:=K) rfl) N.len_ zf7 (za0 (pq 4) za1)) (za0 (pq 3) za1))))) (za7 (i:=9) zc7.nd rfl (by eq_refl)) (za2 (psS (i:=10) zc7.nd (pB (zbe4 (K:=K) rfl rfl) N.sum_ zak5 (za0 (zd6 (N:=["_law_counts","_law_weight","_law_fields","_law_other"]) (ks:=[none,none,some 4,some 9]) (zd8 (K:=K) rfl (pq 6)) (fun _ _ _ _ _=>(zp4 (K:=K) (n:=2) rfl rfl (zc2 (za7 (i:=0) nb_29 rfl (by eq_refl)) (zc2 (za7 (i:=1) nb_29 rfl (by eq_refl)) zp2)))) (fun _ _ _ _ _=>zc1) (fun _ _ _ _ _=>(zb2 oMul (pq 1) (pD zcu0 hr zb4 (za0 (za8 (K:=K) rfl (pq 2) za3) (za0 (pq 0) (za0 (pq 3) za1)))))) (.skip (.skip (.take rfl rfl (by eq_refl) (.take rfl rfl (by eq_refl) .nil))))) za1)))
   (za5 (psIf (ptC oLt (zb2 oMul (pq 10) (za8 (K:=K) rfl (pq 5) za3)) (zb2 oMul (pq 8) (pB (zbe4 (K:=K) rfl rfl) N.sum_ zak5 (za0 (zd6 (N:=["_law_counts","_law_weight"]) (ks:=[none,none]) (zd8 (K:=K) rfl (pq 6)) (fun _ _ _ _ _=>(zp4 (K:=K) (n:=2) rfl rfl (zc2 (za7 (i:=0) nb_30 rfl (by eq_refl)) (zc2 (za7 (i:=1) nb_30 rfl (by eq_refl)) zp2)))) (fun _ _ _ _ _=>zc1) (fun _ _ _ _ _=>(pq 1)) (.skip (.skip .nil))) za1)))) (za5 (zb1 zt2)) zb8))))
   (za2 (zaa4 PassesOwn.never rfl (zd8 (K:=K) rfl (pD zcr5 hr zb4 (za0 (pq 2) (za0 (pB (zm3 (K:=K) rfl) N.len_ zf7 (za0 (pq 4) za1)) (za0 (pq 2) za1))))) (za7 (i:=11) zc7.nd rfl (by eq_refl)) (za2 (psS (i:=10) zc7.nd (pB (zbe4 (K:=K) rfl rfl) N.sum_ zak5 (za0 (zd6 (N:=["_law_counts","_law_weight","_law_fields","_law_one"]) (ks:=[none,none,some 4,some 11]) (zd8 (K:=K) rfl (pq 7)) (fun _ _ _ _ _=>(zp4 (K:=K) (n:=2) rfl rfl (zc2 (za7 (i:=0) nb_31 rfl (by eq_refl)) (zc2 (za7 (i:=1) nb_31 rfl (by eq_refl)) zp2)))) (fun _ _ _ _ _=>zc1) (fun _ _ _ _ _=>(zb2 oMul (pq 1) (pD zcu0 hr zb4 (za0 (za8 (K:=K) rfl (pq 2) za3) (za0 (pq 3) (za0 (pq 0) za1)))))) (.skip (.skip (.take rfl rfl (by eq_refl) (.take rfl rfl (by eq_refl) .nil))))) za1)))
   (za5 (psIf (ptC oGt (zb2 oMul (pq 10) (za8 (K:=K) rfl (pq 5) za3)) (zb2 oMul (pq 8) (pB (zbe4 (K:=K) rfl rfl) N.sum_ zak5 (za0 (zd6 (N:=["_law_counts","_law_weight"]) (ks:=[none,none]) (zd8 (K:=K) rfl (pq 7)) (fun _ _ _ _ _=>(zp4 (K:=K) (n:=2) rfl rfl (zc2 (za7 (i:=0) nb_30 rfl (by eq_refl)) (zc2 (za7 (i:=1) nb_30 rfl (by eq_refl)) zp2)))) (fun _ _ _ _ _=>zc1) (fun _ _ _ _ _=>(pq 1)) (.skip (.skip .nil))) za1)))) (za5 (zb1 zt2)) zb8))))
   (za5 (zb1 zt2))))))),?_⟩
 refine zk9 B.out ?_
 refine zk9 h1 ?_
 refine za9 (v:=.int (cwX f n a c)) h2 rfl ?_
 refine zf2 B.lst ?_
 rw[zcw0,bl]
 refine zf8 (Sm.of0 (by rfl')) (Sm.of0 (by rfl')) ?_
 refine zf2 B.lst ?_
 rw[zcw0,bl]
 refine zba2 hc hn hc (fun al qs H1 f1 r1 s1 A1=>?_)
 refine zb6 A1.out ?_
 refine zo6 (xs:=qs.map V.ref) (fun i σ H2=>∃ x y z:Option V,σ=[some (.ref bt),some (.ref fd),some (.int a),some (.int c),some (.ref l),some (.ref fr),some (.ref l1),some (.ref l2),some (.int (cwX f n a c*n)),x,y,z]/\Same H H2/\Same H1 H2) ?_ ?_ ?_ ?_
 ·exact⟨_,_,_,rfl,s1,Same.refl _⟩
 ·rintro i σ H2 _ ⟨_,_,_,_,_,s12⟩
  exact SqL.of (s12 _ _ A1.out)
 ·rintro i v σ H2 hi ⟨x0,y0',z0,rfl,s2,s12⟩
  obtain⟨oq,ys,rfl,eo,ey,ho⟩:=(A1.same s12).elt hi
  have il2:=(zcw2.mp ey).1
  have eg:(allL n c c).getD i []=ys:=by rw[zcw7,ey];rfl
  have yb:=zaa8 hn ys (zcw6 ey)
  have N1:=M1.same s2
  refine zb6 N1.out ?_
  have W:=Wk.list (K:=K) (SqL.of N1.out)
  rw[zcw0,ml1] at W
  refine zi1 (n:=(cwP f n a c).length) W (by rw[zdf9];omega) (fun i=>.int ((fun x:List Nat×Int=>x.2*tog f x.1 ys) ((cwP f n a c).getD i ([],0)))) (fun _=>true) (fun j σ=>∃ t u:Option V,σ=[t,u,some (.ref l),some (.ref oq)]) ⟨none,none,rfl⟩ ?_ ?_
  ·rintro j v σ H3 R S hj s3 hx ⟨t,u,rfl⟩ k' _
   obtain⟨t1,x,rfl,et,ex,ht,hl⟩:=(N1.same s3).elt hx
   have ep:(cwP f n a c).getD j ([],0)=x:=by rw[zcw7,ex];rfl
   have px:=P2 x (zcw6 ex)
   refine zk9 ht ?_
   refine br_T ?_
   refine zb5 (v:=.ref p0) (s3 _ _ (s2 _ _ B.lst)) (zc9 (j:=0) (by rw[zcw3,e0];rfl)) ?_
   refine zcf9 (F0.same (s2.trans s3)) hl (s3 _ _ ho) px.2.1 yb.1 yb.2 (fun H4 s4=>?_)
   ac_nf
   have tl:=zbb0 hS px.2.1 yb.1 px.2.2 yb.2
   refine zf8 (Sm.of0 (by rfl')) (Sm.of0 (by rfl')) ?_
   ac_nf
   rw[ep] at k'
   exact k' rfl _ _ s4 ⟨_,_,rfl⟩
  intro acc H3 f3 s3 h3
  rw[zd2] at h3
  replace h3:H3 acc=some (.lst (((cwP f n a c).map fun x=>x.2*tog f x.1 ys).map V.int)):=h3.trans (congrArg (fun z=>some (HO.lst z)) (zz0 (cwP f n a c) ([],0) (fun x=>x.2*tog f x.1 ys)))
  refine zal3 h3 ?_
  have ec:((cwP f n a c).map fun x=>x.2*tog f x.1 ys).sum=comR f (cwP f n a c) ys:=rfl
  rw[ec]
  have cl:(comR f (cwP f n a c) ys).natAbs<=40*(10 ^ 43*B0*10 ^ 42):=zch0 (g:=fun xs=>tog f xs ys) o2 (fun x hx=>(P2 x hx).1) (fun x hx=>zbb0 hS (P2 x hx).2.1 yb.1 (P2 x hx).2.2 yb.2)
  have sl:=zcf5 (ms:=cwP f n a c) o2 (fun x hx=>(P2 x hx).1)
  refine za9 (v:=.int (cwY f n a c)) (s3 _ _ (s2 _ _ h2)) rfl ?_
  refine zf8 (zch8 cl) (Sm.of0 (by rfl')) ?_
  have N3:=N1.same s3
  refine zb6 N3.out ?_
  have W3:=Wk.list (K:=K) (SqL.of N3.out)
  rw[zcw0,ml1] at W3
  refine zi1 (n:=(cwP f n a c).length) W3 (by rw[zdf9];omega) (fun i=>.int ((fun x:List Nat×Int=>x.2) ((cwP f n a c).getD i ([],0)))) (fun _=>true) (fun j σ=>∃ t u:Option V,σ=[t,u]) ⟨none,none,rfl⟩ ?_ ?_
  ·rintro j v σ H4 R S hj s4 hx ⟨t,u,rfl⟩ k' _
   obtain⟨t1,x,rfl,et,ex,ht,hl⟩:=(N3.same s4).elt hx
   have ep:(cwP f n a c).getD j ([],0)=x:=by rw[zcw7,ex];rfl
   refine zk9 ht ?_
   refine br_T ?_
   ac_nf
   rw[ep] at k'
   exact k' rfl _ _ (Same.refl _) ⟨_,_,rfl⟩
  intro acc4 H4 f4 s4 h4
  rw[zd2] at h4
  replace h4:H4 acc4=some (.lst (((cwP f n a c).map fun x=>x.2).map V.int)):=h4.trans (congrArg (fun z=>some (HO.lst z)) (zz0 (cwP f n a c) ([],0) (fun x=>x.2)))
  refine zal3 h4 ?_
  have ew:((cwP f n a c).map fun x=>x.2).sum=wsm (cwP f n a c):=rfl
  rw[ew]
  refine zf8 (Sm.of0 (by rfl')) (Sm.of0 (by rfl')) ?_
  ac_nf
  have win:=cw_win FI hS hn1 hn ha hc il2
  rw[eg] at win
  refine zt1 (Int.not_lt.mpr win) ?_
  ac_nf
  exact⟨_,_,_,rfl,(s2.trans s3).trans s4,(s12.trans s3).trans s4⟩
 ·rintro σ H2 ⟨x0,y0',z0,rfl,s2,s12⟩
  refine zf2 (s2 _ _ B.lst) ?_
  rw[zcw0,bl]
  refine zba2 ha hn ha (fun al2 qs2 H3 f3 r3 s3 A3=>?_)
  refine zb6 A3.out ?_
  refine zo6 (xs:=qs2.map V.ref) (fun i σ H4=>∃ x y z:Option V,σ=[some (.ref bt),some (.ref fd),some (.int a),some (.int c),some (.ref l),some (.ref fr),some (.ref l1),some (.ref l2),some (.int (cwX f n a c*n)),x,y,z]/\Same H H4/\Same H3 H4) ?_ ?_ ?_ ?_
  ·exact⟨_,_,_,rfl,s2.trans s3,Same.refl _⟩
  ·rintro i σ H4 _ ⟨_,_,_,_,_,s34⟩
   exact SqL.of (s34 _ _ A3.out)
  ·rintro i v σ H4 hi ⟨x0,y0',z0,rfl,s4,s34⟩
   obtain⟨oq,ys,rfl,eo,ey,ho⟩:=(A3.same s34).elt hi
   have il2:=(zcw2.mp ey).1
   have eg:(allL n a a).getD i []=ys:=by rw[zcw7,ey];rfl
   have yb:=zaa8 hn ys (zcw6 ey)
   have N1:=M2.same s4
   refine zb6 N1.out ?_
   have W:=Wk.list (K:=K) (SqL.of N1.out)
   rw[zcw0,ml2] at W
   refine zi1 (n:=(cwQ f n a c).length) W (by rw[zdf9];omega) (fun i=>.int ((fun x:List Nat×Int=>x.2*tog f ys x.1) ((cwQ f n a c).getD i ([],0)))) (fun _=>true) (fun j σ=>∃ t u:Option V,σ=[t,u,some (.ref l),some (.ref oq)]) ⟨none,none,rfl⟩ ?_ ?_
   ·rintro j v σ H5 R S hj s5 hx ⟨t,u,rfl⟩ k' _
    obtain⟨t1,x,rfl,et,ex,ht,hl⟩:=(N1.same s5).elt hx
    have ep:(cwQ f n a c).getD j ([],0)=x:=by rw[zcw7,ex];rfl
    have px:=Q2 x (zcw6 ex)
    refine zk9 ht ?_
    refine br_T ?_
    refine zb5 (v:=.ref p0) (s5 _ _ (s4 _ _ B.lst)) (zc9 (j:=0) (by rw[zcw3,e0];rfl)) ?_
    refine zcf9 (F0.same (s4.trans s5)) (s5 _ _ ho) hl yb.1 px.2.1 px.2.2 (fun H6 s6=>?_)
    ac_nf
    have tl:=zbb0 hS yb.1 px.2.1 yb.2 px.2.2
    refine zf8 (Sm.of0 (by rfl')) (Sm.of0 (by rfl')) ?_
    ac_nf
    rw[ep] at k'
    exact k' rfl _ _ s6 ⟨_,_,rfl⟩
   intro acc H5 f5 s5 h5
   rw[zd2] at h5
   replace h5:H5 acc=some (.lst (((cwQ f n a c).map fun x=>x.2*tog f ys x.1).map V.int)):=h5.trans (congrArg (fun z=>some (HO.lst z)) (zz0 (cwQ f n a c) ([],0) (fun x=>x.2*tog f ys x.1)))
   refine zal3 h5 ?_
   have ec:((cwQ f n a c).map fun x=>x.2*tog f ys x.1).sum=comC f (cwQ f n a c) ys:=rfl
   rw[ec]
   have cl:(comC f (cwQ f n a c) ys).natAbs<=40*(10 ^ 43*B0*10 ^ 42):=zch0 (g:=fun xs=>tog f ys xs) u2 (fun x hx=>(Q2 x hx).1) (fun x hx=>zbb0 hS yb.1 (Q2 x hx).2.1 yb.2 (Q2 x hx).2.2)
   have sl:=zcf5 (ms:=cwQ f n a c) u2 (fun x hx=>(Q2 x hx).1)
   refine za9 (v:=.int (cwY f n a c)) (s5 _ _ (s4 _ _ h2)) rfl ?_
   refine zf8 (zch8 cl) (Sm.of0 (by rfl')) ?_
   have N3:=N1.same s5
   refine zb6 N3.out ?_
   have W3:=Wk.list (K:=K) (SqL.of N3.out)
   rw[zcw0,ml2] at W3
   refine zi1 (n:=(cwQ f n a c).length) W3 (by rw[zdf9];omega) (fun i=>.int ((fun x:List Nat×Int=>x.2) ((cwQ f n a c).getD i ([],0)))) (fun _=>true) (fun j σ=>∃ t u:Option V,σ=[t,u]) ⟨none,none,rfl⟩ ?_ ?_
   ·rintro j v σ H6 R S hj s6 hx ⟨t,u,rfl⟩ k' _
    obtain⟨t1,x,rfl,et,ex,ht,hl⟩:=(N3.same s6).elt hx
    have ep:(cwQ f n a c).getD j ([],0)=x:=by rw[zcw7,ex];rfl
    refine zk9 ht ?_
    refine br_T ?_
    ac_nf
    rw[ep] at k'
    exact k' rfl _ _ (Same.refl _) ⟨_,_,rfl⟩
   intro acc6 H6 f6 s6 h6
   rw[zd2] at h6
   replace h6:H6 acc6=some (.lst (((cwQ f n a c).map fun x=>x.2).map V.int)):=h6.trans (congrArg (fun z=>some (HO.lst z)) (zz0 (cwQ f n a c) ([],0) (fun x=>x.2)))
   refine zal3 h6 ?_
   have ew:((cwQ f n a c).map fun x=>x.2).sum=wsm (cwQ f n a c):=rfl
   rw[ew]
   refine zf8 (Sm.of0 (by rfl')) (Sm.of0 (by rfl')) ?_
   ac_nf
   have win:=zcn1 FI hS hn1 hn ha hc il2
   rw[eg] at win
   refine zt1 (Int.not_lt.mpr win) ?_
   ac_nf
   exact⟨_,_,_,rfl,(s4.trans s5).trans s6,(s34.trans s5).trans s6⟩
  ·rintro σ H4 ⟨x0,y0',z0,rfl,s4,s34⟩
   ac_nf
   exact q _ s4
@[irreducible] noncomputable def zj4:Sp:=fun vs H Q _=>∃ (l:Addr) (qs:List Addr) (zs:List (List V)),vs=[.ref l]/\H l=some (.lst (qs.map V.ref))/\qs.length=zs.length/\qs.length<=200/\qs.Nodup/\l ∉ qs/\(∀ (i:Nat) q z,qs[i]?=some q->zs[i]?=some z->H q=some (.lst z)/\z.length<=200)/\∀ H',ChgS qs H H'->Q (.bl true) H'
theorem zcc1{zs:List (List V)}(h1:H l=some (.lst (qs.map V.ref)))(h2:qs.length=zs.length)(h3:qs.length<=200)(h4:qs.Nodup)(h5:l ∉ qs)(h6:∀ (i:Nat) q z,qs[i]?=some q->zs[i]?=some z->H q=some (.lst z)/\z.length<=200)(q:∀ H',ChgS qs H H'->Q (.bl true) H'):zj4 [.ref l] H Q E:=by
 unfold zj4;exact⟨l,qs,zs,rfl,h1,h2,h3,h4,h5,h6,q⟩
theorem zbv8(h:qs.Nodup){p q:Addr}(hi:qs[i]?=some p)(hj:qs[j]?=some q)(n:i≠j):p≠q:=fun e=>by
 subst e
 obtain⟨a1,a2⟩:=zcw2.mp hi
 obtain⟨b1,b2⟩:=zcw2.mp hj
 have P:=List.pairwise_iff_getElem.mp h
 rcases Nat.lt_or_gt_of_ne n with lt|gt
 ·exact P i j a1 b1 lt (a2.trans b2.symm)
 ·exact P j i b1 a1 gt (b2.trans a2.symm)
noncomputable def szR(zs:List (List V))(k i:Nat):Int:=((zs.getD i []).length:Int)+if i<k then 1 else 0
theorem zaw7(F:Fun K "_law_apart" "_law_apart" zx3 f fd)(N:Nm mg):FnOk P w K mg base CX0 1 f fd ["_law_lists"] zj4:=by
 refine F.ok zt3 (fun vs H Q E h=>by unfold zj4 at h;obtain⟨_,_,_,rfl,_⟩:=h;rfl) fun _ _ _ s H vs Q E hr h=>?_
 unfold zj4 at h
 obtain⟨l,qs,zs,rfl,h1,h2,h3,h4,h5,h6,q⟩:=h
 have hu:=hu40 hr
 refine⟨_,(za2 (psC (i:=1) (N:=["_law_some"]) (ks:=[none]) zt3.nd (zd8 (K:=K) rfl (pq 0)) (fun _ _ _ _ _=>(za7 (i:=0) nb_32 rfl (by eq_refl))) (fun _ _ _ _ _=>zc1) (fun _ _ _ _ _=>(pB (zm3 (K:=K) rfl) N.len_ zf7 (za0 (pq 0) za1))) (.skip .nil))
   (za2 (zaa4 PassesOwn.never rfl (zs5 N.range_ (za0 (pB (zm3 (K:=K) rfl) N.len_ zf7 (za0 (pq 0) za1)) za1)) (za7 (i:=2) zt3.nd rfl (by eq_refl)) (za2 (zl8 (zn2 (za8 (K:=K) rfl (pq 0) (pq 2)) (za0 zbl1 za1)))
   (za2 (zx2 (zb2 oAdd (za8 (K:=K) rfl (pq 1) (pq 2)) za3) (zag1 (pq 1) (pq 2) setM))
   (za5 (psIf (ptC (oNeK (K:=K) rfl (by exact hu)) (zd6 (N:=["_law_some"]) (ks:=[none]) (zd8 (K:=K) rfl (pq 0)) (fun _ _ _ _ _=>(za7 (i:=0) nb_32 rfl (by eq_refl))) (fun _ _ _ _ _=>zc1) (fun _ _ _ _ _=>(pB (zm3 (K:=K) rfl) N.len_ zf7 (za0 (pq 0) za1))) (.skip .nil)) (pq 1)) (za5 (zb1 zt2)) zb8)))))
   (za5 (zb1 zt2)))),?_⟩
 refine zb6 h1 ?_
 have W:=Wk.list (K:=K) (SqL.of h1)
 rw[zcw0] at W
 have zat:∀ {i:Nat}{p:Addr},qs[i]?=some p->∃ z,zs[i]?=some z/\zs.getD i []=z/\H p=some (.lst z)/\z.length<=200:=fun {i p} e=>by
  have hi:=(zcw2.mp e).1
  have ez:zs[i]?=some (zs[i]'(by rfl')):=zcv9 (by rfl')
  exact⟨_,ez,by rw[zcw7,ez];rfl,h6 i p _ e ez⟩
 refine zi1 (n:=qs.length) W (by rw[zdf9];omega) (fun i=>.int (szR zs 0 i)) (fun _=>true) (fun j σ=>∃ t:Option V,σ=[t]) ⟨none,rfl⟩ ?_ ?_
 ·rintro j v σ H1 R S hj s1 hx ⟨t,rfl⟩ k' _
  rw[zcw3] at hx
  obtain⟨p,ep,rfl⟩:=zcx0.mp hx
  obtain⟨z,ez,eg,hz,zl⟩:=zat ep
  refine br_T ?_
  refine zf2 (s1 _ _ hz) ?_
  ac_nf
  have e:szR zs 0 j=(z.length:Int):=by unfold szR;rw[eg,if_neg (by rfl')];omega
  rw[e] at k'
  exact k' rfl _ _ (Same.refl _) ⟨_,rfl⟩
 intro sz H1 f1 s1 hs1
 rw[zd2] at hs1
 have nsz:sz ∉ qs:=fun hm=>by
  obtain⟨i,ei⟩:=zcy5 hm
  obtain⟨z,_,_,hz,_⟩:=zat ei
  rw[f1] at hz;cases hz
 refine zf2 (s1 _ _ h1) ?_
 rw[zcw0]
 refine zj5 (by decide) (by decide) (by rfl') (by rfl') ?_
 rw[show ((qs.length:Int) - 0).toNat=qs.length by rfl']
 refine zs9 (fun k σ H2=>∃ x:Option V,σ=[some (.ref l),some (.ref sz),x]/\ChgS qs H H2/\H2 sz=some (.lst (rowV qs.length (szR zs k)))/\∀ (i:Nat) q z,qs[i]?=some q->zs[i]?=some z->H2 q=some (.lst (z++if i<k then [V.non] else []))) ?_ ?_ ?_
 ·exact⟨_,rfl,fun b o _ e=>s1 _ _ e,hs1,fun i q z e1 e2=>by rw[if_neg (by rfl'),zdc8];exact s1 _ _ (h6 i q z e1 e2).1⟩
 ·rintro k σ H2 hk ⟨x0,rfl,c2,hsz,all⟩
  have hk:k<qs.length:=hk
  obtain⟨p,ep⟩:∃ p,qs[k]?=some p:=⟨_,zcv9 hk⟩
  obtain⟨z,ez,eg,hz,zl⟩:=zat ep
  have hl2:H2 l=some (.lst (qs.map V.ref)):=c2 _ _ h5 h1
  have hp2:=all k p z ep ez
  rw[if_neg (by rfl'),zdc8] at hp2
  have pm:=zcw6 ep
  have npl:l≠p:=fun e=>h5 (e▸pm)
  have nps:sz≠p:=fun e=>nsz (e▸pm)
  refine zb5 (v:=.ref p) hl2 (by rw[show (0:Int)+(k:Int)=((k:Nat):Int) by rfl'];exact zc9 (by rw[zcw3,ep];rfl)) ?_
  refine zai6 hp2 ?_
  refine zan1 hp2 (by rw[zdf9];omega) (fun H3 c3 h3'=>?_)
  have hsz3:=c3 _ _ nps hsz
  refine zb5 (v:=.int (szR zs k k)) hsz3 (by rw[show (0:Int)+(k:Int)=((k:Nat):Int) by rfl'];exact zc9 (zd3 hk)) ?_
  refine zz8 (j:=k) hsz3 (by rw[zb7,zag6 (by rfl') (by rfl')];congr 1;omega) (fun H4 c4 h4'=>?_)
  have e4:H4 sz=some (.lst (rowV qs.length (szR zs (k+1)))):=by
   rw[h4',zas9]
   congr 2
   unfold rowV
   refine zdb8 fun i _=>?_
   show V.int _=V.int _
   congr 1
   unfold szR
   by_cases e:i=k
   ·subst e
    simp
   ·by_cases g:i<k
    ·simp[e,g,show i<k+1 by rfl']
    ·simp[e,g,show ¬ i<k+1 by rfl']
  have c24:∀ b o,b≠p->b≠sz->H2 b=some o->H4 b=some o:=fun b o n1 n2 e=>c4 _ _ n2 (c3 _ _ n1 e)
  have all4:∀ (i:Nat) q z,qs[i]?=some q->zs[i]?=some z->H4 q=some (.lst (z++if i<k+1 then [V.non] else [])):=fun i q' z' e1 e2=>by
   have nq:q'≠sz:=fun e=>nsz (e▸zcw6 e1)
   by_cases e:i=k
   ·subst e
    rw[ep] at e1
    rw[ez] at e2
    cases e1
    cases e2
    rw[if_pos (by rfl')]
    exact c4 _ _ nq h3'
   ·have:=c24 _ _ (zbv8 h4 e1 ep e) nq (all i q' z' e1 e2)
    by_cases g:i<k
    ·rw[if_pos (by rfl')];rw[if_pos g] at this;exact this
    ·rw[if_neg (by rfl')];rw[if_neg g] at this;exact this
  have hl4:H4 l=some (.lst (qs.map V.ref)):=c24 _ _ npl (fun e=>by rw[← e] at f1;rw[f1] at h1;cases h1) hl2
  refine zb6 hl4 ?_
  have W4:=Wk.list (K:=K) (SqL.of hl4)
  rw[zcw0] at W4
  refine zi1 (n:=qs.length) W4 (by rw[zdf9];omega) (fun i=>.int (szR zs (k+1) i)) (fun _=>true) (fun j σ=>∃ t:Option V,σ=[t]) ⟨none,rfl⟩ ?_ ?_
  ·rintro j v σ H5 R S hj s5 hx ⟨t,rfl⟩ k' _
   rw[zcw3] at hx
   obtain⟨p5,ep5,rfl⟩:=zcx0.mp hx
   obtain⟨z5,ez5,eg5,_,_⟩:=zat ep5
   have h5':=s5 _ _ (all4 j p5 z5 ep5 ez5)
   refine br_T ?_
   refine zf2 h5' ?_
   ac_nf
   have e:szR zs (k+1) j=(((z5++if j<k+1 then [V.non] else []).length:Nat):Int):=by
    unfold szR
    rw[eg5,zcw9]
    by_cases g:j<k+1
    ·rw[if_pos g,if_pos g];simp
    ·rw[if_neg g,if_neg g];simp
   rw[e] at k'
   exact k' rfl _ _ (Same.refl _) ⟨_,rfl⟩
  intro acc H5 f5 s5 h5'
  rw[zd2] at h5'
  replace h5':H5 acc=some (.lst (rowV qs.length (szR zs (k+1)))):=h5'
  have e5:=s5 _ _ e4
  rw[zat0] at h5' e5
  refine zal8 (EqR.intL (SqL.of h5') (SqL.of e5)) ?_
  refine ze3 (zl5 rfl ?_)
  ac_nf
  refine⟨_,rfl,fun b o hb e=>s5 _ _ (c24 _ _ (fun z=>hb (z▸pm)) (za4 e f1) (c2 _ _ hb e)),by rw[zat0];exact e5,fun i q' z' e1 e2=>s5 _ _ (all4 i q' z' e1 e2)⟩
 ·rintro σ H2 ⟨x0,rfl,c2,hsz,all⟩
  ac_nf
  exact q _ c2
@[irreducible] noncomputable def zg7:Sp:=fun vs H Q _=>∃ (p c:Addr) (b:Int),vs=[.ref p]/\zc4 H p c b/\b<=1000/\∀ bt l rs a e n f H',Chg2 p c H H'->zc4 H' p c (b+2000)->zl0 H' bt l rs a e (List.replicate n f)->OkB a e (List.replicate n f)->f.Sm a e->Q (.ref bt) H'
theorem zbu4{p c:Addr}{b:Int}(hP:zc4 H p c b)(hb:b<=1000)(q:∀ bt l rs a e n f H',Chg2 p c H H'->zc4 H' p c (b+2000)->zl0 H' bt l rs a e (List.replicate n f)->OkB a e (List.replicate n f)->f.Sm a e->Q (.ref bt) H'):zg7 [.ref p] H Q E:=by
 unfold zg7;exact⟨p,c,b,rfl,hP,hb,q⟩
theorem zao9(F:Fun K "_law_battle" "_law_battle" zt8 f fd)(N:Nm mg)(zcq9:Def P w K mg base CX0 1 "_law_copy" ["_law_field_here"] zi8)(zcp3:Def P w K mg base CX0 1 "_law_draw" ["_law_purse_here","_law_out_of"] zi6)(zct6:Def P w K mg base CX0 2 "_law_field" ["_law_purse_here","_law_first","_law_second"] zj9):FnOk P w K mg base CX0 3 f fd ["_law_purse_here"] zg7:=by
 refine F.ok zg9 (fun vs H Q E h=>by unfold zg7 at h;obtain⟨_,_,_,rfl,_⟩:=h;rfl) fun _ _ _ s H vs Q E hr h=>?_
 unfold zg7 at h
 obtain⟨p,c,b,rfl,hP,hb,q⟩:=h
 have hu:=hu40 hr
 refine⟨_,(za2 (psS (i:=1) zg9.nd (zb2 oDiv (pD zcp3 hr zb4 (za0 (pq 0) (za0 za3 za1))) za3))
   (za2 (psS (i:=2) zg9.nd (pD zcp3 hr zb4 (za0 (pq 0) (za0 (za8 (K:=K) rfl (zl1 (za0 za3 (za0 za3 za1))) (pq 1)) za1))))
   (za2 (psS (i:=3) zg9.nd (pD zcp3 hr zb4 (za0 (pq 0) (za0 (za8 (K:=K) rfl (zl1 (za0 za3 (za0 za3 za1))) (pq 1)) za1))))
   (za2 (psS (i:=4) zg9.nd (zb2 oAdd za3 (pD zcp3 hr zb4 (za0 (pq 0) (za0 (za8 (K:=K) rfl (zl1 (za0 za3 (za0 za3 za1))) (pq 1)) za1)))))
   (za2 (psS (i:=5) zg9.nd (pD zct6 hr zb4 (za0 (pq 0) (za0 (pq 2) (za0 (pq 3) za1)))))
   (za5 (zb1 (zx8 (za0 (pq 2) (za0 (pq 3) (za0 (zd6 (N:=["_law_k","_law_field_here"]) (ks:=[none,some 5]) (zs5 N.range_ (za0 (pq 4) za1)) (fun _ _ _ _ _=>(za7 (i:=0) nb_26 rfl (by eq_refl))) (fun _ _ _ _ _=>zc1) (fun _ _ _ _ _=>(pD zcq9 hr zb4 (za0 (pq 1) za1))) (.skip (.take rfl rfl (by eq_refl) .nil))) za1))))))))))),?_⟩
 refine zm0 hP (by rfl') (by rfl') (by rfl') (fun d1 H1 d10 d11 c1 P1=>?_)
 walk_at "st"
 obtain⟨wd,ewd,wd0,wd1⟩:∃ wd:Int,d1 / 7=wd/\0<=wd/\wd<=1:=⟨_,rfl,by rfl',by rfl'⟩
 rw[ewd]
 refine zc3 (fun q2 H2 f2 s2 h2=>?_)
 refine zv3 h2 (by rfl') (by simp only[zcy0,zdb7];omega) ?_
 intro v hv
 obtain⟨tp,rfl,tp1,tp2⟩:∃ t:Int,v=.int t/\1<=t/\t<=11:=by
  simp only[zcx2,zcx8,or_false] at hv
  rcases hv with rfl|rfl<;>exact⟨_,rfl,by rfl',by rfl'⟩
 clear hv
 refine zm0 (P1.same s2) (by rfl') (by rfl') (by rfl') (fun d2 H3 d20 d21 c3 P3=>?_)
 obtain⟨a,rfl⟩:∃ n:Nat,d2=n:=⟨d2.toNat,by rfl'⟩
 refine zc3 (fun q4 H4 f4 s4 h4=>?_)
 refine zv3 h4 (by rfl') (by simp only[zcy0,zdb7];omega) ?_
 intro v hv
 obtain⟨tp',rfl,tp1',tp2'⟩:∃ t:Int,v=.int t/\1<=t/\t<=11:=by
  simp only[zcx2,zcx8,or_false] at hv
  rcases hv with rfl|rfl<;>exact⟨_,rfl,by rfl',by rfl'⟩
 clear hv
 refine zm0 (P3.same s4) (by rfl') (by rfl') (by rfl') (fun d3 H5 d30 d31 c5 P5=>?_)
 obtain⟨e,rfl⟩:∃ n:Nat,d3=n:=⟨d3.toNat,by rfl'⟩
 refine zc3 (fun q6 H6 f6 s6 h6=>?_)
 refine zv3 h6 (by rfl') (by simp only[zcy0,zdb7];omega) ?_
 intro v hv
 obtain⟨tq,rfl,tq1,tq2⟩:∃ t:Int,v=.int t/\1<=t/\t<=5:=by
  simp only[zcx2,zcx8,or_false] at hv
  rcases hv with rfl|rfl<;>exact⟨_,rfl,by rfl',by rfl'⟩
 clear hv
 refine zm0 (P5.same s6) (by rfl') (by rfl') (by rfl') (fun d4 H7 d40 d41 c7 P7=>?_)
 have ha:a<=10:=by rfl'
 have he:e<=10:=by rfl'
 ac_nf
 rw[show 1+d4=(((1+d4).toNat:Nat):Int) by rfl']
 obtain⟨n,en⟩:∃ n:Nat,(1+d4).toNat=n:=⟨_,rfl⟩
 rw[en]
 have hn:1<=n/\n<=5:=by rfl'
 refine zaz2 P7 (by rfl') ha he (fun fp f H8 c8 P8 F8 ok hS=>?_)
 have c08:Chg2 p c H H8:=((((((c1.same s2).trans c3).same s4).trans c5).same s6).trans c7).trans c8
 have F8':FdAt H8 fp a e f:=F8.same (zcj2 _ _)
 refine zj5 (by decide) (by decide) (by rfl') (by rfl') ?_
 rw[show ((n:Int) - 0).toNat=n by rfl']
 refine zay5 (n:=n) Wk.range (by rw[zdf9];omega) (fun acc i ys σ H9=>∃ (t:Option V) (rs:List Addr),σ=[t,some (.ref fp)]/\ys=rs.map V.ref/\rs.length=i/\∀ r∈rs,FdAt (rm acc H9) r a e f) ?_ ?_ ?_ ?_
 ·intro acc H9 f9 s9 h9
  exact⟨none,[],rfl,rfl,rfl,fun r hr=>(by cases hr)⟩
 ·rintro acc i ys σ H9 H10 s ⟨t,rs,r1,r2,r3,r4⟩
  exact⟨t,rs,r1,r2,r3,fun r hr=>(r4 r hr).same (Same.rm s)⟩
 ·rintro acc i v ys σ H9 R S hi facc s9 hacc rfl ⟨t,rs,rfl,rfl,rl,pr⟩ kR _
  refine br_T ?_
  refine zbw5 (z:=acc) (F8'.same (fun x o h=>zs2 (za4 h facc) (s9 x o h))) hacc ha he (fun r7 H10 s10 F10=>?_)
  ac_nf
  exact kR _ _ _ s10 (fun H11 c11=>⟨_,rs++[r7],rfl,by rw[zcx9];rfl,by rw[zcw9,rl];rfl,zab4 (fun r hr=>((pr r hr).same (Same.rm s10)).same (Chg.rm c11)) (F10.same (Chg.rm c11))⟩)
 rintro l ys σ H9 f9 s9 h9 ⟨t,rs,rfl,rfl,rl,pr⟩
 refine zh9 (fun bt H10 f10 s10 h10=>?_)
 ac_nf
 have s810:=s9.trans s10
 refine q bt l rs a e n f H10 (c08.same s810) ((P8.same s810).up (by rfl')) ⟨h10,s10 _ _ h9,by rw[zcy9,rl],fun i r g e1 e2=>?_⟩ ⟨⟨ha,he⟩,by rw[zcy9];exact hn⟩ hS
 have:=List.eq_of_mem_replicate (zcw6 e2)
 subst this
 exact⟨((pr r (zcw6 e1)).same (zx5 l H9)).same s10,ok⟩
noncomputable def zbm3(K:zcw1)(a_tab:Addr):Sp:=fun vs H Q _=>∃ (a:Addr) (ns:List Int),vs=[.ref a]/\SqL K H a (ns.map V.int)/\ns.length<=63/\H a_tab=some (.tbl #[])/\∀ H',Q (.bl true) H'
theorem zck9{a:Addr}{x y z:V}(h:H a=some (.tup [x,y,z]))(q:∀ p H',H p=none->Same H H'->H' p=some (.tup [y,z])->Q (.ref p) H'):rSlX K a (some 1) none H Q:=by
 unfold rSlX
 exact .inr ⟨[x,y,z],SqT.of h,(by decide:¬ (HT.sIx 3 0 (some 1)=0/\HT.sIx 3 3 none=3)),q⟩
theorem zl0.eq{K:zcw1}{H:Hp}{b l b' l':Addr}{ps ps':List Addr}{a c:Nat}{fs:List Fd}(B:zl0 H b l ps a c fs)(B':zl0 H b' l' ps' a c fs):EqR K H 5 (.ref b) (.ref b') true:=by
 have flat:∀ v:V,zbi0 v=true->EqR K H 4 v v true:=fun v hv=>by
  have:=EqR.flat (K:=K) (H:=H) (n:=4) (x:=v) (y:=v) hv hv
  rwa [zy8 hv] at this
 exact EqR.tup (K:=K) (H:=H) (n:=4) (fun _=>true) (SqT.of B.out) (SqT.of B'.out) (fun j x y hx hy=>by
  match j with
  | 0=>cases hx;cases hy;exact flat _ rfl
  | 1=>cases hx;cases hy;exact flat _ rfl
  | 2=>
   cases hx;cases hy
   refine EqR.allT (SqL.of B.lst) (SqL.of B'.lst) (by rw[zcw0,zcw0,B.len,B'.len]) fun i u v hu hv=>?_
   obtain⟨r,f,rfl,er,ef,hf,_⟩:=B.elt hu
   rw[zcw3] at hv
   obtain⟨r',er',rfl⟩:=zcx0.mp hv
   exact hf.eq (B'.fld i r' f er' ef).1
  | j+3=>simp at hx)
theorem MxN.eq{K:zcw1}{l':Addr}{ts':List (Addr×Addr)}(M:MxN H l ts ms)(M':MxN H l' ts' ms):EqR K H 3 (.ref l) (.ref l') true:=by
 refine EqR.allT (SqL.of M.out) (SqL.of M'.out) (by rw[zcw0,zcw0,M.len,M'.len]) fun i u v hu hv=>?_
 obtain⟨t,x,rfl,et,ex,ht,hl⟩:=M.elt hu
 obtain⟨t',x',rfl,et',ex',ht',hl'⟩:=M'.elt hv
 rw[ex] at ex'
 cases ex'
 rw[pl_il] at hl hl'
 exact EqR.tup (K:=K) (H:=H) (n:=1) (fun _=>true) (SqT.of ht) (SqT.of ht') (fun j y z hy hz=>by
  match j with
  | 0=>
   cases hy;cases hz
   have:=EqR.intL (K:=K) (H:=H) (xs:=il x.1) (ys:=il x.1) (SqL.of hl) (SqL.of hl')
   rwa [decide_eq_true rfl] at this
  | 1=>
   cases hy;cases hz
   have:=EqR.flat (K:=K) (H:=H) (n:=1) (x:=.int x.2) (y:=.int x.2) rfl rfl
   rwa [zy8 rfl] at this
  | j+2=>simp at hy)
theorem zbc1(n:Nat)(f:Fd):zat7 (List.replicate n f) f:=fun g hg=>List.eq_of_mem_replicate hg
theorem TabG.chgS(t:TabG T H)(h:∀ q∈qs,∃ xs,H q=some (.lst xs))(c:ChgS qs H H'):TabG T H':=by
 obtain⟨tab,e,r⟩:=t
 refine⟨tab,c _ _ (fun z=>by obtain⟨xs,hx⟩:=h _ z;rw[e] at hx;cases hx) e,?_⟩
 rcases r with r|⟨c0,oc,vs,t0,e1,e2,r⟩
 ·exact .inl r
 ·exact .inr ⟨c0,oc,vs,t0,e1,c _ _ (fun z=>by obtain⟨xs,hx⟩:=h _ z;rw[e2] at hx;cases hx) e2,r⟩
noncomputable def zao2(l1 l2:Addr)(ts1 ts2:List (Addr×Addr)):List Addr:=l1 :: l2 :: (ts1.map (·.2)++ts2.map (·.2))
noncomputable def toldZ(ts1 ts2:List (Addr×Addr))(m1 m2:List (List Nat×Int)):List (List V):=(ts1.map fun t=>V.ref t.1) :: (ts2.map fun t=>V.ref t.1) :: ((m1.map fun x=>pl x.1)++m2.map fun x=>pl x.1)
theorem zby5{ts1 ts2:List (Addr×Addr)}{m1 m2:List (List Nat×Int)}(M1:MxN H l1 ts1 m1)(M2:MxN H l2 ts2 m2)(b1:m1.length<=40)(b2:m2.length<=40)(c1:∀ x∈m1,x.1.length<=10)(c2:∀ x∈m2,x.1.length<=10) :
  (zao2 l1 l2 ts1 ts2).length=(toldZ ts1 ts2 m1 m2).length/\(zao2 l1 l2 ts1 ts2).length<=200/\∀ (i:Nat) q z,(zao2 l1 l2 ts1 ts2)[i]?=some q->(toldZ ts1 ts2 m1 m2)[i]?=some z->H q=some (.lst z)/\z.length<=200:=by
 have k1:=M1.len
 have k2:=M2.len
 refine⟨by unfold zao2 toldZ;simp;omega,by unfold zao2;simp;omega,fun i q z e1 e2=>?_⟩
 match i with
 | 0=>cases e1;cases e2;exact⟨M1.out,by rw[zcw0];omega⟩
 | 1=>cases e1;cases e2;exact⟨M2.out,by rw[zcw0];omega⟩
 | i+2=>
  have e1:(ts1.map (·.2)++ts2.map (·.2))[i]?=some q:=e1
  have e2:((m1.map fun x=>pl x.1)++m2.map fun x=>pl x.1)[i]?=some z:=e2
  by_cases hi:i<ts1.length
  ·rw[zcx4 (by rw[zcw0];exact hi),zcw3] at e1
   rw[zcx4 (by rw[zcw0];omega),zcw3] at e2
   obtain⟨t,et,rfl⟩:=zcx0.mp e1
   obtain⟨x,ex,rfl⟩:=zcx0.mp e2
   exact⟨(M1.part i t x et ex).2,by rw[zw9];have:=c1 x (zcw6 ex);omega⟩
  ·rw[zcx6 (by rw[zcw0];omega),zcw3,zcw0] at e1
   rw[zcx6 (by rw[zcw0];omega),zcw3,zcw0] at e2
   rw[← k1] at e2
   obtain⟨t,et,rfl⟩:=zcx0.mp e1
   obtain⟨x,ex,rfl⟩:=zcx0.mp e2
   exact⟨(M2.part _ t x et ex).2,by rw[zw9];have:=c2 x (zcw6 ex);omega⟩
noncomputable def cwK(f:Fd)(n a c:Nat)(k:Nat):List (List Nat×Int):=if k=0 then cwP f n a c else cwQ f n a c
theorem ok_law(F:Fun K "law" "law" zbe6 f fd)(N:Nm mg)(zct7:Def P w K mg base CX0 1 "_law_apart" ["_law_lists"] zj4)(zct2:Def P w K mg base CX0 3 "_law_battle" ["_law_purse_here"] zg7)(zcq9:Def P w K mg base CX0 1 "_law_copy" ["_law_field_here"] zi8)(zcr7:Def P w K mg base CX0 2 "_law_fraction" ["_law_found"] zf4)(zct8:Def P w K mg base CX0 8 "_law_holds" ["_law_battle_here","_law_found"] zj0)(zcr4:Def P w K mg base CX0 2 "_law_is_mix" ["_law_mix","_law_hosts","_law_many"] zh3)(zct9:Def P w K mg base CX0 1 "_law_purse" ["_law_script"] (zj3 K))(zcr0:Def P w K mg base CX0 10 "counts_worth" ["battle"] (zf9 zcp2 a_tab)):FnOk P w K mg base CX0 11 f fd ["_law_script"] (zbm3 K a_tab):=by
 refine F.ok zai7 (fun vs H Q E h=>by obtain⟨n,k,rfl,_⟩:=h;rfl) fun _ _ _ s H vs Q E hr h=>?_
 obtain⟨a0,ns0,rfl,hS0,hlen,hTab,k⟩:=h
 have hu:=hu40 hr
 refine⟨_,(za2 (psS (i:=1) zai7.nd (pD zct9 hr zb4 (za0 (pq 0) za1)))
   (za2 (psS (i:=2) zai7.nd (pD zct2 hr zb4 (za0 (pq 1) za1)))
   (za2 (psS (i:=3) zai7.nd (zx8 (za0 (za8 (K:=K) rfl (pq 2) za3) (za0 (za8 (K:=K) rfl (pq 2) za3) (za0 (zd6 (N:=["_law_field_here"]) (ks:=[none]) (zd8 (K:=K) rfl (za8 (K:=K) rfl (pq 2) za3)) (fun _ _ _ _ _=>(za7 (i:=0) nb_33 rfl (by eq_refl))) (fun _ _ _ _ _=>zc1) (fun _ _ _ _ _=>(pD zcq9 hr zb4 (za0 (pq 0) za1))) (.skip .nil)) za1)))))
   (za2 (psS (i:=4) zai7.nd (pD zcr0 hr zb4 (za0 (pq 3) za1)))
   (za2 (psIf (ptW (pwOr (zl3 (ptV (pB (zah3 (K:=K) rfl) N.isinstance_ zc6 (za0 (pq 4) (za0 (pTy N.tuple_ zah6) za1))))) (pwOr (ptC (oNeXK (K:=K) rfl (by exact hu)) (pB (zm3 (K:=K) rfl) N.len_ zf7 (za0 (pq 4) za1)) za3) (pwOr (zl3 (ptV (pD zcr7 hr zb4 (za0 (za8 (K:=K) rfl (pq 4) za3) za1)))) (zz3 (ptC (oNeXK (K:=K) rfl (by exact hu)) (pq 3) (pq 2))))))) (za5 (zb1 zt2)) zb8)
   (za2 (psIf (ptW (pwOr (zl3 (ptV (pD zcr4 hr zb4 (za0 (za8 (K:=K) rfl (pq 4) za3) (za0 (za8 (K:=K) rfl (pq 2) za3) (za0 (pB (zm3 (K:=K) rfl) N.len_ zf7 (za0 (za8 (K:=K) rfl (pq 2) za3) za1)) za1)))))) (zz3 (zl3 (ptV (pD zcr4 hr zb4 (za0 (za8 (K:=K) rfl (pq 4) za3) (za0 (za8 (K:=K) rfl (pq 2) za3) (za0 (pB (zm3 (K:=K) rfl) N.len_ zf7 (za0 (za8 (K:=K) rfl (pq 2) za3) za1)) za1))))))))) (za5 (zb1 zt2)) zb8)
   (za2 (psIf (zl3 (ptV (pD zct8 hr zb4 (za0 (pq 2) (za0 (pq 4) za1))))) (za5 (zb1 zt2)) zb8)
   (za2 (psC (i:=5) (N:=["_law_mix"]) (ks:=[none]) zai7.nd (zd8 (K:=K) rfl (zau1 (slXK (K:=K) rfl) (pq 4) (zby9 za3) zbd2)) (fun _ _ _ _ _=>(za7 (i:=0) nb_34 rfl (by eq_refl))) (fun _ _ _ _ _=>zc1) (fun _ _ _ _ _=>(zd6 (N:=["_law_counts","_law_weight"]) (ks:=[none,none]) (zd8 (K:=K) rfl (pq 0)) (fun _ _ _ _ _=>(zp4 (K:=K) (n:=2) rfl rfl (zc2 (za7 (i:=0) nb_35 rfl (by eq_refl)) (zc2 (za7 (i:=1) nb_35 rfl (by eq_refl)) zp2)))) (fun _ _ _ _ _=>zc1) (fun _ _ _ _ _=>(zx8 (za0 (pT (zbl3 (K:=K) rfl) N.list_ zy1 (za0 (pq 0) za1)) (za0 (pq 1) za1)))) (.skip (.skip .nil)))) (.skip .nil))
   (za2 (psS (i:=6) zai7.nd (zx8 (za0 (za8 (K:=K) rfl (pq 4) za3) (za0 (za8 (K:=K) rfl (pq 5) za3) (za0 (za8 (K:=K) rfl (pq 5) za3) za1)))))
   (za2 (psIf (zl3 (ptV (pD zct7 hr zb4 (za0 (zb2 oAdd (zl1 (za0 (za8 (K:=K) rfl (pq 4) za3) (za0 (za8 (K:=K) rfl (pq 4) za3) za1))) (zd6 (N:=["_law_part"]) (ks:=[none]) (zd8 (K:=K) rfl (zb2 oAdd (za8 (K:=K) rfl (pq 4) za3) (za8 (K:=K) rfl (pq 4) za3))) (fun _ _ _ _ _=>(za7 (i:=0) nb_36 rfl (by eq_refl))) (fun _ _ _ _ _=>zc1) (fun _ _ _ _ _=>(za8 (K:=K) rfl (pq 0) za3)) (.skip .nil))) za1)))) (za5 (zb1 zt2)) zb8)
   (za5 (zb1 (zab6 (peC (oEqXK (K:=K) rfl (by exact hu)) (pD zcr0 hr zb4 (za0 (pq 3) za1)) (pq 6)) (zq6 (peC (oEqXK (K:=K) rfl (by exact hu)) (pq 3) (pq 2)))))))))))))))),?_⟩
 refine zcf0 hS0 hlen (fun p c H1 hp1 hc1 hs1 P1=>?_)
 refine zbu4 P1 (by rfl') (fun bt l rs a e n f H2 c2 P2 B2 O hS=>?_)
 have T2:TabG a_tab H2:=⟨_,c2 _ _ (za4 hTab hp1) (za4 hTab hc1) (hs1 _ _ hTab),.inl rfl⟩
 clear P1 P2 c2 hs1 hp1 hc1 hTab hS0
 have hn1:1<=n:=by have:=O.2.1;rwa [zcy9] at this
 have hn:n<=5:=by have:=O.2.2;rwa [zcy9] at this
 have ha:=O.1.1
 have he:=O.1.2
 have bl:=B2.len
 rw[zcy9] at bl
 refine za9 (v:=.int a) B2.out rfl ?_
 refine za9 (v:=.int e) B2.out rfl ?_
 refine za9 (v:=.ref l) B2.out rfl ?_
 refine zb6 B2.lst ?_
 have W2:=Wk.list (K:=K) (SqL.of B2.lst)
 rw[zcw0,bl] at W2
 refine zay5 (n:=n) W2 (by rw[zdf9];omega) (fun acc i ys σ H3=>∃ (t:Option V) (qs:List Addr),σ=[t]/\ys=qs.map V.ref/\qs.length=i/\∀ r∈qs,FdAt (rm acc H3) r a e f) ?_ ?_ ?_ ?_
 ·intro acc H3 f3 s3 h3
  exact⟨none,[],rfl,rfl,rfl,fun r hr=>(by cases hr)⟩
 ·rintro acc i ys σ H3 H4 s ⟨t,qs,r1,r2,r3,r4⟩
  exact⟨t,qs,r1,r2,r3,fun r hr=>(r4 r hr).same (Same.rm s)⟩
 ·rintro acc i v ys σ H3 R S hi facc s3 hacc hx ⟨t,qs,rfl,rfl,rl,pr⟩ kR _
  rw[zcw3] at hx
  obtain⟨p1,ep1,rfl⟩:=zcx0.mp hx
  have F1:=(B2.fld i p1 f ep1 (by rw[zde0,if_pos hi])).1
  refine br_T ?_
  refine zbw5 (z:=acc) (F1.same (fun x o h=>zs2 (za4 h facc) (s3 x o h))) hacc ha he (fun r7 H4 s4 F4=>?_)
  ac_nf
  exact kR _ _ _ s4 (fun H5 c5=>⟨_,qs++[r7],rfl,by rw[zcx9];rfl,by rw[zcw9,rl];rfl,zab4 (fun r hr=>((pr r hr).same (Same.rm s4)).same (Chg.rm c5)) (F4.same (Chg.rm c5))⟩)
 rintro l3 ys σ H3 f3 s3 h3 ⟨t,qs3,rfl,rfl,ql3,pr3⟩
 refine zh9 (fun hd H4 f4 s4 h4=>?_)
 have s24:=s3.trans s4
 have okf:=(B2.fld 0 (rs[0]'(by rfl')) f (zcv9 (by rfl')) (by rw[zde0,if_pos (by rfl')])).2
 have B4:zl0 H4 hd l3 qs3 a e (List.replicate n f):=⟨h4,s4 _ _ h3,by rw[zcy9,ql3],fun i r g e1 e2=>by
  have:=List.eq_of_mem_replicate (zcw6 e2)
  subst this
  exact⟨((pr3 r (zcw6 e1)).same (zx5 l3 H3)).same s4,okf⟩⟩
 have A4:=B2.same s24
 have T4:TabG a_tab H4:=T2.same s24
 clear B2 T2 W2 h3 h4 f3 f4 pr3
 refine zx6 B4 O (zbc1 n f) hS T4 (fun fd fr l1 l2 ts1 ts2 H5 c5 T5 C5 FI=>?_)
 rw[zcy9] at C5 FI
 have B5:=B4.tab T4 c5
 have A5:=A4.tab T4 c5
 obtain⟨y0,y1,y2,y3⟩:=zbu9 FI hS hn1 hn ha he
 obtain⟨p0,w1,w2,_,_⟩:=zu0 FI hS hn1 hn ha he
 obtain⟨OP,OP2⟩:=zch5 FI hS hn1 hn ha he
 obtain⟨OQ,OQ2⟩:=zch6 FI hS hn1 hn ha he
 have b0:=zba6
 have w3:((cwB f n a e)*(n:Int)).natAbs<=B0*5:=by
  rw[zdb3]
  exact zdc2 w2 (by rfl')
 refine zz9 C5.out ?_
 refine ze3 (br_T ?_)
 refine zr7 C5.out ?_
 refine ze3 (zl5 rfl ?_)
 refine za9 (v:=.ref fr) C5.out rfl ?_
 refine zbh4 (t:=cwT f n a e*1) (b:=cwB f n a e*n) (zdd7 p0 (by rfl')) (Sm.of0 (by rfl')) C5.frc (fun H6 s6=>?_)
 refine ze3 (br_T ?_)
 refine zbt1 ((B5.same s6).eq (A5.same s6)) ?_
 refine ze3 (br_T ?_)
 refine za9 (v:=.ref l1) (s6 _ _ C5.out) rfl ?_
 refine za9 (v:=.int a) (s6 _ _ A5.out) rfl ?_
 refine za9 (v:=.ref l) (s6 _ _ A5.out) rfl ?_
 refine zf2 (s6 _ _ A5.lst) ?_
 rw[zcw0,bl]
 refine zaq4 (C5.one.same s6) OP (fun H7 s7=>?_)
 have s57:=s6.trans s7
 refine ze3 (br_T ?_)
 refine za9 (v:=.ref l2) (s57 _ _ C5.out) rfl ?_
 refine za9 (v:=.int e) (s57 _ _ A5.out) rfl ?_
 refine za9 (v:=.ref l) (s57 _ _ A5.out) rfl ?_
 refine zf2 (s57 _ _ A5.lst) ?_
 rw[zcw0,bl]
 refine zaq4 (C5.two.same s57) OQ (fun H8 s8=>?_)
 have s58:=s57.trans s8
 refine ze3 (br_T ?_)
 refine zce8 (A5.same s58) O hS FI (s58 _ _ C5.out) (s58 _ _ C5.frc) (C5.one.same s58) (C5.two.same s58) (fun H9 s9=>?_)
 have s59:=s58.trans s9
 clear s6 s7 s8 s57 s58
 refine ze3 (br_T ?_)
 refine zck9 (s59 _ _ C5.out) (fun st H10 f10 s10 h10=>?_)
 have s510:=s59.trans s10
 have M1:=C5.one.same s510
 have M2:=C5.two.same s510
 refine zcc2 h10 ?_
 refine zay5 (n:=2) (Wk.tup h10) (by rw[zdf9];decide) (fun acc i ys σ H11=>∃ (t:Option V) (ks:List Addr),σ=[t]/\ys=ks.map V.ref/\ks.length=i/\∀ (j:Nat) kk,ks[j]?=some kk->∃ us,MxN (rm acc (nw H10 H11)) kk us (cwK f n a e j)) ?_ ?_ ?_ ?_
 ·intro acc H11 f11 s11 h11
  exact⟨none,[],rfl,rfl,rfl,fun j kk ej=>(by simp at ej)⟩
 ·rintro acc i ys σ H11 H12 s ⟨t,ks,r1,r2,r3,r4⟩
  exact⟨t,ks,r1,r2,r3,fun j kk ej=>by obtain⟨us,M⟩:=r4 j kk ej;exact⟨us,M.same (Same.rm (nw_up s))⟩⟩
 ·rintro acc i v ys σ H11 R S hi facc s11 hacc hx ⟨t,ks,rfl,rfl,kl,pr⟩ kR _
  obtain⟨lm,tsm,rfl,Mm⟩:∃ lm tsm,v=.ref lm/\MxN H11 lm tsm (cwK f n a e i):=by
   match i with
   | 0=>cases hx;exact⟨l1,ts1,rfl,M1.same s11⟩
   | 1=>cases hx;exact⟨l2,ts2,rfl,M2.same s11⟩
   | i+2=>exact absurd hi (by rfl')
  have ml:=Mm.len
  have m40:(cwK f n a e i).length<=40:=by
   unfold cwK
   split
   ·exact OP.2.1
   ·exact OQ.2.1
  refine br_T ?_
  refine zb6 Mm.out ?_
  have Wm:=Wk.list (K:=K) (SqL.of Mm.out)
  rw[zcw0,ml] at Wm
  refine zay5 (n:=(cwK f n a e i).length) Wm (by rw[zdf9];omega) (fun ac2 j ys σ H12=>∃ (t u:Option V) (us:List (Addr×Addr)),σ=[t,u]/\ys=us.map (fun t=>V.ref t.1)/\us.length=j/\∀ (d:Nat) t x,us[d]?=some t->(cwK f n a e i)[d]?=some x->rm ac2 (nw H11 H12) t.1=some (.tup [.ref t.2,.int x.2])/\rm ac2 (nw H11 H12) t.2=some (.lst (pl x.1))) ?_ ?_ ?_ ?_
  ·intro ac2 H12 f12 s12 h12
   exact⟨none,none,[],rfl,rfl,rfl,fun d t x e1=>(by simp at e1)⟩
  ·rintro ac2 j ys σ H12 H13 s ⟨t,u,us,r1,r2,r3,r4⟩
   exact⟨t,u,us,r1,r2,r3,fun d t x e1 e2=>⟨Same.rm (nw_up s) _ _ (r4 d t x e1 e2).1,Same.rm (nw_up s) _ _ (r4 d t x e1 e2).2⟩⟩
  ·rintro ac2 j v ys σ H12 R2 S2 hj fac2 s12 hac2 hx2 ⟨t',u',us,rfl,rfl,ul,pu⟩ kR2 _
   obtain⟨t1,x,rfl,et,ex,ht,hl⟩:=(Mm.same s12).elt hx2
   refine zk9 ht ?_
   refine br_T ?_
   refine zai0 (SqL.of hl) (fun p13 H13 f13 s13 h13=>?_)
   refine zh9 (fun p14 H14 f14 s14 h14=>?_)
   ac_nf
   have s1214:=s13.trans s14
   have na:p13≠ac2:=Ne.symm (za4 hac2 f13)
   have nb:p14≠ac2:=Ne.symm (za4 (s13 _ _ hac2) f14)
   refine kR2 _ _ _ s1214 (fun H15 c15=>⟨_,_,us++[(p14,p13)],rfl,by rw[zcx9];rfl,by rw[zcw9,ul];rfl,fun d t x' e1 e2=>?_⟩)
   have up:Same (rm ac2 (nw H11 H12)) (rm ac2 (nw H11 H15)):=fun b o h=>by
    obtain⟨z1,z2⟩:=zah5 h
    obtain⟨z3,z4⟩:=zah0 z2
    exact zs2 z1 (zah2 z3 (c15 _ _ z1 (s1214 _ _ z4)))
   by_cases hd:d<us.length
   ·rw[zcx4 hd] at e1
    exact⟨up _ _ (pu d t x' e1 e2).1,up _ _ (pu d t x' e1 e2).2⟩
   ·have hd2:=(zcw2.mp e1).1
    rw[zcw9,zcy1] at hd2
    rw[zcx6 (by rfl'),show d - us.length=0 by rfl'] at e1
    cases e1
    rw[show d=j by rfl',ex] at e2
    cases e2
    exact⟨zs2 nb (zah2 (s12.free (s13.free f14)) (c15 _ _ nb h14)),zs2 na (zah2 (s12.free f13) (c15 _ _ na (s14 _ _ h13)))⟩
  rintro kk ys σ H12 f12 s12 h12 ⟨t',u',us,rfl,rfl,ul,pu⟩
  ac_nf
  refine kR _ _ _ s12 (fun H13 c13=>⟨_,ks++[kk],rfl,by rw[zcx9];rfl,by rw[zcw9,kl];rfl,fun j kx ej=>?_⟩)
  have up:Same (rm acc (nw H10 H11)) (rm acc (nw H10 H13)):=fun b o h=>by
   obtain⟨z1,z2⟩:=zah5 h
   obtain⟨z3,z4⟩:=zah0 z2
   exact zs2 z1 (zah2 z3 (c13 _ _ z1 (s12 _ _ z4)))
  by_cases hj:j<ks.length
  ·rw[zcx4 hj] at ej
   obtain⟨us',M'⟩:=pr j kx ej
   exact⟨us',M'.same up⟩
  ·have hj2:=(zcw2.mp ej).1
   rw[zcw9,zcy1] at hj2
   rw[zcx6 (by rfl'),show j - ks.length=0 by rfl'] at ej
   cases ej
   rw[show j=i by rfl']
   have up2:Same (nw H11 H12) (rm acc (nw H10 H13)):=fun b o h=>by
    obtain⟨z3,z4⟩:=zah0 h
    have na:b≠acc:=Ne.symm (za4 hacc z3)
    exact zs2 na (zah2 (s11.free z3) (c13 _ _ na z4))
   exact⟨us,⟨up2 _ _ (zah2 f12 h12),ul,fun d t x e1 e2=>⟨up2 _ _ (zx5 _ _ _ _ (pu d t x e1 e2).1),up2 _ _ (zx5 _ _ _ _ (pu d t x e1 e2).2)⟩⟩⟩
 rintro lk ys σ H11 f11 s11 h11 ⟨t,ks,rfl,rfl,kl,pr⟩
 obtain⟨k1,k2,rfl⟩:∃ k1 k2,ks=[k1,k2]:=by
  match ks,kl with
  | [k1,k2],_=>exact⟨k1,k2,rfl⟩
 obtain⟨us1,K1⟩:=pr 0 k1 rfl
 obtain⟨us2,K2⟩:=pr 1 k2 rfl
 replace K1:MxN (nw H10 H11) k1 us1 (cwP f n a e):=K1.same (zx5 _ _)
 replace K2:MxN (nw H10 H11) k2 us2 (cwQ f n a e):=K2.same (zx5 _ _)
 have s511:=s510.trans s11
 refine za9 (v:=.ref fr) (s511 _ _ C5.out) rfl ?_
 refine zb5 (v:=.ref k1) h11 rfl ?_
 refine zb5 (v:=.ref k2) h11 rfl ?_
 refine zh9 (fun kt H12 f12 s12 h12=>?_)
 have s512:=s511.trans s12
 have s1012:=s11.trans s12
 refine za9 (v:=.ref l1) (s512 _ _ C5.out) rfl ?_
 refine za9 (v:=.ref l2) (s512 _ _ C5.out) rfl ?_
 refine zc3 (fun q13 H13 f13 s13 h13=>?_)
 have s513:=s512.trans s13
 have N1:=C5.one.same s513
 have N2:=C5.two.same s513
 have n1:=N1.len
 have n2:=N2.len
 have o1:=OP.2.1
 have o2:=OQ.2.1
 refine za9 (v:=.ref l1) (s513 _ _ C5.out) rfl ?_
 refine za9 (v:=.ref l2) (s513 _ _ C5.out) rfl ?_
 refine zag5 N1.out N2.out (by rw[zcw0,zcw0,zdf9];omega) (fun q14 H14 f14 s14 h14=>?_)
 rw[← zcx9] at h14
 refine zb6 h14 ?_
 have W14:=Wk.list (K:=K) (SqL.of h14)
 rw[zcw0] at W14
 have s514:=s513.trans s14
 refine zi1 (n:=(ts1++ts2).length) W14 (by rw[zcw9,zdf9];omega) (fun i=>.ref ((ts1++ts2).getD i (0,0)).2) (fun _=>true) (fun j σ=>∃ t:Option V,σ=[t]) ⟨none,rfl⟩ ?_ ?_
 ·rintro j v σ H15 R S hj s15 hx ⟨t,rfl⟩ k' _
  rw[zcw3] at hx
  obtain⟨t1,et,rfl⟩:=zcx0.mp hx
  have eg:(ts1++ts2).getD j (0,0)=t1:=by rw[zcw7,et];rfl
  obtain⟨w,hw⟩:∃ w:Int,H15 t1.1=some (.tup [.ref t1.2,.int w]):=by
   rcases zda5.mp (zcw6 et) with hm|hm
   ·obtain⟨x,_,h,_⟩:=(N1.same (s14.trans s15)).refs hm;exact⟨_,h⟩
   ·obtain⟨x,_,h,_⟩:=(N2.same (s14.trans s15)).refs hm;exact⟨_,h⟩
  refine br_T ?_
  refine za9 (v:=.ref t1.2) hw rfl ?_
  ac_nf
  rw[eg] at k'
  exact k' rfl _ _ (Same.refl _) ⟨_,rfl⟩
 intro q15 H15 f15 s15 h15
 rw[zd2] at h15
 have e15:(List.range (ts1++ts2).length).map (fun i=>V.ref ((ts1++ts2).getD i (0,0)).2)=(ts1.map (·.2)++ts2.map (·.2)).map V.ref:=by
  rw[← zcx9,zdf0]
  apply zdc1
  intro i
  rw[zcw3,zcw3]
  by_cases hi:i<(ts1++ts2).length
  ·rw[zdb9 hi,zcv9 hi]
   simp[zcw7,zcv9 hi]
  ·rw[zcy2 (by simp;simp at hi;omega),zcy2 (by rfl')];rfl
 replace h15:=h15.trans (congrArg (fun z=>some (HO.lst z)) e15)
 refine zag5 (s15 _ _ (s14 _ _ h13)) h15 (by rw[zcw0,zcw9,zcw0,zcw0,zdf9];simp;omega) (fun q16 H16 f16 s16 h16=>?_)
 have s1216:=((s13.trans s14).trans s15).trans s16
 have s516:=s512.trans s1216
 replace h16:H16 q16=some (.lst ((zao2 l1 l2 ts1 ts2).map V.ref)):=h16
 have N1:=C5.one.same s516
 have N2:=C5.two.same s516
 obtain⟨g1,g2,g3⟩:=zby5 N1 N2 o1 o2 (fun x hx=>(OP2 x hx).2.2) (fun x hx=>(OQ2 x hx).2.2)
 have old5:∀ q∈zao2 l1 l2 ts1 ts2,∃ xs,H5 q=some (.lst xs):=fun q hq=>by
  obtain⟨g1',_,g3'⟩:=zby5 C5.one C5.two o1 o2 (fun x hx=>(OP2 x hx).2.2) (fun x hx=>(OQ2 x hx).2.2)
  obtain⟨i,ei⟩:=zcy5 hq
  exact⟨_,(g3' i q _ ei (zcv9 (by have:=(zcw2.mp ei).1;omega))).1⟩
 refine zcc1 (qs:=zao2 l1 l2 ts1 ts2) (zs:=toldZ ts1 ts2 (cwP f n a e) (cwQ f n a e)) h16 g1 g2 C5.nd (fun hm=>?_) g3 (fun H17 c17=>?_)
 ·obtain⟨xs,hx⟩:=old5 _ hm
  have:=((s512.trans s13).trans s14).trans s15
  rw[this _ _ hx] at f16;cases f16
 refine ze3 (br_T ?_)
 have T17:TabG a_tab H17:=TabG.chgS (T5.same s516) (fun q hq=>by obtain⟨xs,hx⟩:=old5 q hq;exact⟨xs,s516 _ _ hx⟩) c17
 have c417:Chg a_tab H4 H17:=fun x o nx h=>c17 x o (fun z=>by have:=C5.new x z;rw[h] at this;cases this) (s516 _ _ (c5 x o nx h))
 have B17:=B4.tab T4 c417
 have A17:=A4.tab T4 c417
 refine zx6 B17 O (zbc1 n f) hS T17 (fun fd' fr' l1' l2' ts1' ts2' H18 c18 T18 C18 _=>?_)
 rw[zcy9] at C18
 have notq:∀ {b:Addr},H10 b=none->b ∉ zao2 l1 l2 ts1 ts2:=fun {b} h hm=>by
  obtain⟨xs,hx⟩:=old5 b hm
  rw[s510 _ _ hx] at h;cases h
 have up:∀ b o,(∀ u,o≠.tbl u)->b ∉ zao2 l1 l2 ts1 ts2->H12 b=some o->H18 b=some o:=fun b o no hb h=>by
  have h17:=c17 b o hb (s1216 _ _ h)
  exact c18 b o (T17.ne h17 no) h17
 have upM:∀ {kk:Addr}{us:List (Addr×Addr)}{ms:List (List Nat×Int)},MxN (nw H10 H11) kk us ms->MxN H18 kk us ms:=fun {kk us ms} M=>
  ⟨up _ _ (fun _ z=>nomatch z) (notq (zah0 M.out).1) (s12 _ _ (zah0 M.out).2),M.len,fun i t x e1 e2=>
   ⟨up _ _ (fun _ z=>nomatch z) (notq (zah0 (M.part i t x e1 e2).1).1) (s12 _ _ (zah0 (M.part i t x e1 e2).1).2),up _ _ (fun _ z=>nomatch z) (notq (zah0 (M.part i t x e1 e2).2).1) (s12 _ _ (zah0 (M.part i t x e1 e2).2).2)⟩⟩
 have hkt:H18 kt=some (.tup [.ref fr,.ref k1,.ref k2]):=up _ _ (fun _ z=>nomatch z) (fun hm=>by
  obtain⟨xs,hx⟩:=old5 kt hm
  rw[s511 _ _ hx] at f12;cases f12) h12
 have hfr:H18 fr=some (.tup [.int (lowT (cwT f n a e*1) (cwB f n a e*n)),.int (lowB (cwT f n a e*1) (cwB f n a e*n))]):=up _ _ (fun _ z=>nomatch z) (fun hm=>by
  obtain⟨xs,hx⟩:=old5 fr hm
  rw[C5.frc] at hx;cases hx) (s512 _ _ C5.frc)
 refine zbt1 (n:=4) (show EqR K H18 4 (.ref fd') (.ref kt) true from EqR.tup (K:=K) (H:=H18) (n:=3) (fun _=>true) (SqT.of C18.out) (SqT.of hkt) (fun j y z hy hz=>?_)) ?_
 ·match j with
  | 0=>
   cases hy;cases hz
   have:=EqR.tup (K:=K) (H:=H18) (n:=2) (fun _=>true) (SqT.of C18.frc) (SqT.of hfr) (fun j y z hy hz=>by
    match j with
    | 0=>
     cases hy;cases hz
     have:=EqR.flat (K:=K) (H:=H18) (n:=2) (x:=.int (lowT (cwT f n a e*1) (cwB f n a e*n))) (y:=.int (lowT (cwT f n a e*1) (cwB f n a e*n))) rfl rfl
     rwa [zy8 rfl] at this
    | 1=>
     cases hy;cases hz
     have:=EqR.flat (K:=K) (H:=H18) (n:=2) (x:=.int (lowB (cwT f n a e*1) (cwB f n a e*n))) (y:=.int (lowB (cwT f n a e*1) (cwB f n a e*n))) rfl rfl
     rwa [zy8 rfl] at this
    | j+2=>simp at hy)
   exact this
  | 1=>cases hy;cases hz;exact C18.one.eq (upM K1)
  | 2=>cases hy;cases hz;exact C18.two.eq (upM K2)
  | j+3=>simp at hy
 refine br_T ?_
 refine zbt1 ((B17.tab T17 c18).eq (A17.tab T17 c18)) ?_
 ac_nf
 exact k _
end
noncomputable abbrev FA(K:zcw1)(x:Str)(st:Stmt):Prop:=∃ (f:Addr) (od an:Option Addr) (sl:Array (Option Value)) (oc kV dc pm cd ct:Value),zcz0 K zdg3 x=some (some (.ref f))/\K.lookup f=some ⟨oc,od,.func (zdc0 x x (zp9 st) (zn7 st) (za6 st) .none kV dc pm an cd ct),sl⟩/\zdf3 K cd x=true/\zdb6 K (.ref f)=true
theorem FA.of{K:zcw1}{x:Str}{st:Stmt}{od an:Option Addr}{sl:Array (Option Value)}{oc kV dc pm cd ct:Value}(a:zcz0 K zdg3 x=some (some (.ref f)))(l:K.lookup f=some ⟨oc,od,.func (zdc0 x x (zp9 st) (zn7 st) (za6 st) .none kV dc pm an cd ct),sl⟩)(c:zdf3 K cd x=true)(k:zdb6 K (.ref f)=true):FA K x st:=⟨_,_,_,_,_,_,_,_,_,_,a,l,c,k⟩
structure Ev(P:Program)(w:World)(K:zcw1)(mg:Str->Option Value)(base h:Heap):Prop where
 x:K.In h
 g:h.Ns zdg3 mg
local macro_rules | `(tactic| walk_at "bd")=>`(tactic| (intro _ _ _ _ _ _ us hl;rcases us with _|⟨_,_|⟨_,_|⟨_,_|⟨_,_|⟨_,_|⟨_,_|⟨_,_⟩⟩⟩⟩⟩⟩⟩<;>first|rfl|exact Nat.noConfusion hl|cases hl))
section
variable {P:Program}{w:World}{K:zcw1}{mg:Str->Option Value}{base h:Heap}{CX:CXT}{k:Nat}{x:Str}{ps:List Str}{sp:Sp}{st:Stmt}
theorem Ev.r(E:Ev P w K mg base h)(A:FA K x st)(ok:∀ {f:Addr}{fd:FuncData},Fun K x x st f fd->mg x=some (.ref f)->zdb6 K (.ref f)=true->zai3 K fd ps []->FnOk P w K mg base CX k f fd ps sp)(b:∀ (kV doc pm:Value) (an:Option Addr) (cdv ct:Value) (us:List Value),us.length=ps.length->bindArgs (zdc0 x x (zp9 st) (zn7 st) (za6 st) .none kV doc pm an cdv ct) ⟨us,[]⟩=pure (ps.zip us):=by walk_at "bd"):Def P w K mg base CX k x ps sp:=by
 obtain⟨f,od,an,sl,oc,kV,dc,pm,cd,ct,a,l,c,k⟩:=A
 have F:=zbb2 (st:=st) l c k
 have a:=zde5 E.x E.g a
 exact⟨⟨_,_,ok F a k (F.binds b),a,k,F.binds b⟩⟩
theorem Ev.d(E:Ev P w K mg base h)(A:FA K x st)(ok:∀ {f:Addr}{fd:FuncData},Fun K x x st f fd->FnOk P w K mg base CX k f fd ps sp)(b:∀ (kV doc pm:Value) (an:Option Addr) (cdv ct:Value) (us:List Value),us.length=ps.length->bindArgs (zdc0 x x (zp9 st) (zn7 st) (za6 st) .none kV doc pm an cdv ct) ⟨us,[]⟩=pure (ps.zip us):=by walk_at "bd"):Def P w K mg base CX k x ps sp:=E.r A (fun F _ _ _=>ok F) b
theorem Ev.dc{c T:Addr}(E:Ev P w K mg base h)(A:FA K x st)(hT:zdf1 K x=some (c,T))(ok:∀ {f:Addr}{fd:FuncData},Fun K x x st f fd->fd.code=.ref c->FnOk P w K mg base CX k f fd ps sp)(b:∀ (kV doc pm:Value) (an:Option Addr) (cdv ct:Value) (us:List Value),us.length=ps.length->bindArgs (zdc0 x x (zp9 st) (zn7 st) (za6 st) .none kV doc pm an cdv ct) ⟨us,[]⟩=pure (ps.zip us):=by walk_at "bd"):Def P w K mg base CX k x ps sp:=by
 obtain⟨f,od,an,sl,oc,kV,dc,pm,cd,ct,a,l,c,k⟩:=A
 have F:=zbb2 (st:=st) l c k
 have e:cd=.ref _:=zcb7 hT a l
 have a:=zde5 E.x E.g a
 exact⟨⟨_,_,ok F e,a,k,F.binds b⟩⟩
end
theorem all_mk{l:PySem.W.OpenLaw}{w:World}{K:zcw1}{h:Heap}{mg:Str->Option Value}{fa:Addr}(X:K.In h)(G:h.Ns zdg3 mg)(hfa:mg "law"=some (.ref fa)){zcq4:Tok}{zcq1:Tok}{zcq2:Tok}{zcp7:Tok}{zcp2 zcq5:Addr}{iod_Grid ian_Grid:Option Addr}{isl_Grid:Array (Option Value)}{ioc_Grid ikV_Grid idc_Grid ipm_Grid icd_Grid ict_Grid:Value}{a_cod a_tab:Addr}(e_MOST_HOSTS_plans:zcz0 K zdg3 "MOST_HOSTS_plans"=some (some (.int 40 zcq4)))(e_MOST_FIELDS_plans:zcz0 K zdg3 "MOST_FIELDS_plans"=some (some (.int 8 zcq1)))(e_MOST_HOSTS_fields:zcz0 K zdg3 "MOST_HOSTS_fields"=some (some (.int 10 zcq2)))(e_MOST_FIELDS_fields:zcz0 K zdg3 "MOST_FIELDS_fields"=some (some (.int 5 zcp7)))(A_0:FA K "negated" zak9)(A_1:FA K "turned_row" zw2)(A_2:FA K "turn" zbz0)(A_3:FA K "row_binds_ahead" zn4)(A_4:FA K "row_to_turn" zu9)(A_5:FA K "column_to_turn" zp1)(A_6:FA K "turn_to_end" zv5)(A_8:FA K "common_divisor" zo8)(A_9:FA K "lowest" zas3)(A_10:FA K "lifted" zau6)(A_11:FA K "weights_by_name" zm7)(A_12:FA K "row_weights" zu6)(A_13:FA K "column_weights" zo9)(A_14:FA K "ratio" zbh7)(A_15:FA K "worth_over" zw3)(A_16:FA K "table_worth" zv4)(A_17:FA K "is_whole" zae5)(A_18:FA K "is_from" zak6)(A_19:FA K "is_between" zw8)(A_20:FA K "is_size" zaj9)(A_21:FA K "look_size" zaa0)(A_22:FA K "look_number" zt7)(A_23:FA K "with_cap" zad9)(A_24:FA K "capped_ways" zu4)(A_25:FA K "counts_many" zt6)(A_26:FA K "counts_of" zaa1)(A_27:FA K "are_hosts" zab0)(A_28:FA K "has_size" zae7)(A_29:FA K "is_table_row" zr5)(A_30:FA K "is_table" zaf5)(A_31:FA K "is_field" zaf6)(A_32:FA K "look_battle" zu2)(A_33:FA K "won" s_won)(A_34:FA K "won_together" zr0)(A_35:FA K "together_row" zr3)(A_36:FA K "together_table" zo7)(A_37:FA K "is_alike" zaf4)(A_38:FA K "look_alike" zy2)(A_39:FA K "all_counts" zx4)(A_40:FA K "counts_table" zs1)(A_41:FA K "_law_purse" zx7)(A_42:FA K "_law_draw" zaa3)(A_43:FA K "_law_whole" zw1)(A_44:FA K "_law_field" zw0)(A_45:FA K "_law_copy" zaa2)(A_46:FA K "_law_pay" zaf8)(A_47:FA K "_law_all" zaf3)(A_48:FA K "times" zbg8)(A_49:FA K "counts_mix" zx1)(A_50:FA K "counts_worth" zr6)(A_51:FA K "_law_battle" zt8)(A_52:FA K "_law_lowest" zu3)(A_53:FA K "_law_fraction" zq5)(A_54:FA K "_law_is_mix" zu5)(A_55:FA K "_law_met" zad3)(A_56:FA K "_law_holds" zw7)(A_57:FA K "_law_apart" zx3)(A_58:FA K "law" zbe6)(e_Grid:zcz0 K zdg3 "Grid"=some (some (.ref zcp2)))(in_Grid:zda6 K (.ref zcp2) "__init__"=some (some (.ref zcq5)))(li_Grid:K.lookup zcq5=some ⟨ioc_Grid,iod_Grid,.func (zdc0 "__init__" "Grid.__init__" (zp9 zl2) (zn7 zl2) (za6 zl2) .none ikV_Grid idc_Grid ipm_Grid ian_Grid icd_Grid ict_Grid),isl_Grid⟩)(ci_Grid:zdf3 K icd_Grid "Grid.__init__"=true)(ki_Grid:zdb6 K (.ref zcq5)=true)(mk_Grid:PySem.W.makesIn K zcp2=true)(mf_Grid:PySem.W.isFn K (.ref zcq5)=true)(kc_Grid:zdb6 K (.ref zcp2)=true)(pg_Grid:PySem.W.plainGet K zcp2 Str.empty=true)(hd_Grid:PySem.W.hasDictIn K zcp2=true)(po_Grid:PySem.W.plainOver K zcp2=true)(sa_Grid:zda6 K (.ref zcp2) "__setattr__"=some (some (.builtin "object.__setattr__")))(na_Grid_numbers:zda6 K (.ref zcp2) "numbers"=some none)(na_Grid_divisor:zda6 K (.ref zcp2) "divisor"=some none)(na_Grid_across:zda6 K (.ref zcp2) "across"=some none)(na_Grid_down:zda6 K (.ref zcp2) "down"=some none)(z_abs:zcz0 K zdg3 "abs"=some none)(z_all:zcz0 K zdg3 "all"=some none)(z_bool:zcz0 K zdg3 "bool"=some none)(z_dict:zcz0 K zdg3 "dict"=some none)(z_enumerate:zcz0 K zdg3 "enumerate"=some none)(z_int:zcz0 K zdg3 "int"=some none)(z_isinstance:zcz0 K zdg3 "isinstance"=some none)(z_len:zcz0 K zdg3 "len"=some none)(z_list:zcz0 K zdg3 "list"=some none)(z_min:zcz0 K zdg3 "min"=some none)(z_range:zcz0 K zdg3 "range"=some none)(z_sorted:zcz0 K zdg3 "sorted"=some none)(z_sum:zcz0 K zdg3 "sum"=some none)(z_tuple:zcz0 K zdg3 "tuple"=some none)(z_zip:zcz0 K zdg3 "zip"=some none)(hTAB:zdf1 K "column_to_turn"=some (a_cod,a_tab)) :
  ∃ (c T:Addr) (fd:FuncData),zdf1 K "column_to_turn"=some (c,T)/\(∀ (s:Shared) (v:Value),BindsTo s fd ⟨[v],[]⟩ [("_law_script",v)])/\∀ base:Heap,K.In base->base.Ns zdg3 mg->PySem.W.CodeHd base c T->Bm mg base->FnOk l.prog w K mg base CX0 11 fa fd ["_law_script"] (zbm3 K T):=by
 obtain⟨_,_,an,_,_,kV,dc,pm,cd,ct,aL,lL,cL,kL⟩:=A_58
 have e:=hfa.symm.trans (zde5 X G aL)
 cases e
 have N:Nm mg:=⟨zcy6 X G z_abs,zcy6 X G z_all,zcy6 X G z_bool,zcy6 X G z_dict,zcy6 X G z_enumerate,zcy6 X G z_int,zcy6 X G z_isinstance,zcy6 X G z_len,zcy6 X G z_list,zcy6 X G z_min,zcy6 X G z_range,zcy6 X G z_sorted,zcy6 X G z_sum,zcy6 X G z_tuple,zcy6 X G z_zip⟩
 have zcu6:=zde5 X G e_MOST_HOSTS_plans
 have zcu4:=zde5 X G e_MOST_FIELDS_plans
 have zcu5:=zde5 X G e_MOST_HOSTS_fields
 have zcu1:=zde5 X G e_MOST_FIELDS_fields
 refine⟨a_cod,a_tab,zdc0 "law" "law" (zp9 zbe6) (zn7 zbe6) (za6 zbe6) .none kV dc pm an cd ct,hTAB,fun s v=>.of_eq rfl,fun base XB GB hCH hBM=>?_⟩
 have E:Ev l.prog w K mg base h:=⟨X,G⟩
 have Y:Pz K mg zcp2 zcq5:=⟨zde5 X G e_Grid,⟨mk_Grid,in_Grid,mf_Grid,kc_Grid⟩,⟨pg_Grid,hd_Grid,po_Grid,sa_Grid⟩,na_Grid_numbers,na_Grid_divisor,na_Grid_across,na_Grid_down⟩
 have zcv4:=E.d A_0 fun F=>zbp3 F N
 have zct3:=E.d A_1 fun F=>zas5 F N
 have zcv8:=E.d A_2 fun F=>zco1 F N Y zcv4 zct3
 have zcq6:=E.d A_3 fun F=>zad1 F N Y
 have zcs4:=E.d A_4 fun F=>zap8 F N Y zcq6
 have zcq3:=E.dc A_5 hTAB fun F hc=>zaf7 F N Y hc hCH hBM
 have zcs6:=E.d A_6 fun F=>zao5 F N zcq3 zcs4 zcv8
 have zcu2:DefI l.prog w K mg base 1 zcq5 ["self","table","bottoms"] (zi3 zcp2):=⟨_,zbb5 (zbb2 (st:=zl2) li_Grid ci_Grid ki_Grid) N Y,(zbb2 (st:=zl2) li_Grid ci_Grid ki_Grid).binds fun _ _ _ _ _ _ us hl=>match us,hl with | [_,_,_],_=>rfl⟩
 have zcp6:=E.d A_8 fun F=>zae6 F N
 have zcr3:=E.d A_9 fun F=>zbs5 F N zcp6
 have zcv6:=E.d A_10 fun F=>zbv7 F N
 have zcp5:=E.d A_11 fun F=>zac2 F N
 have zcs5:=E.d A_12 fun F=>zap0 F N Y zcr3 zcp5
 have zcr1:=E.d A_13 fun F=>zae4 F N Y zcr3 zcp5
 have zcu7:=E.d A_14 fun F=>zcd0 F N zcp6
 have zct4:=E.d A_15 fun F=>zat2 F N Y zcr1 zcu2 zcv6 zcr3 zcu7 zcs5 zcs6
 have zct0:=E.d A_16 fun F=>zan8 F N zct4
 have zcp9:=E.d A_17 fun F=>zbg5 F N
 have zcr6:=E.d A_18 fun F=>zbn9 F N zcp9
 have zcp4:=E.d A_19 fun F=>zaw2 F N zcr6
 have zcv5:=E.d A_20 fun F=>zbq3 F N zcu4 zcu6 zcp4
 have zcq7:=E.d A_21 fun F=>zba9 F N zcv5
 have zcs7:=E.d A_22 fun F=>zao6 F N zcp4
 have zcu8:=E.d A_23 fun F=>zbi3 F N
 have zcq0:=E.d A_24 fun F=>zap7 F N zcu8
 have zcs9:=E.d A_25 fun F=>zap5 F N zcq0 zcq7
 have zcq8:=E.d A_26 fun F=>zax5 F N zcq0 zcs7 zcq7
 have zcu3:=E.d A_27 fun F=>zbc4 F N zcu5 zcp4
 have zcv0:=E.d A_28 fun F=>zbe3 F N zcu1 zcu3
 have zcs0:=E.d A_29 fun F=>zaj4 F N zcp9
 have zcu9:=E.d A_30 fun F=>zbf8 F N zcs0
 have zcv1:=E.d A_31 fun F=>zbe1 F N zcp4 zcr6 zcu9 zcp9
 have zcs8:=E.d A_32 fun F=>zan3 F N zcv0 zcv1
 have D_won:=E.d A_33 fun F=>ok_won F N
 have zcs1:=E.d A_34 fun F=>zak7 F N D_won
 have zcs2:=E.d A_35 fun F=>zal6 F N zcs1
 have zcr2:=E.d A_36 fun F=>zad7 F N zcs2
 have zcv2:=E.d A_37 fun F=>zbh2 F N zcs8
 have zct5:=E.d A_38 fun F=>zaw3 F N zcv2
 have zcr8:=E.d A_39 fun F=>zas0 F N zcs9 zcq8
 have zcs3:=E.d A_40 fun F=>zan2 F N zcr8 zct5 zcr2
 have zct9:=E.d A_41 fun F=>zas7 F N
 have zcp3:=E.d A_42 fun F=>zbb6 F N
 have zcp8:=E.d A_43 fun F=>zaw8 F N
 have zct6:=E.d A_44 fun F=>zat8 F N zcp3
 have zcq9:=E.d A_45 fun F=>zaz9 F N
 have zcv3:=E.d A_46 fun F=>zbi9 F N
 have zcr5:=E.r A_47 fun F a b c=>zbe2 F N a b c
 have zcv7:=E.d A_48 fun F=>zcb2 F N zcu7
 have zcr9:=E.d A_49 fun F=>zav4 F N zcq8
 have zcr0:=E.d A_50 fun F=>zal0 F N zcr9 zcs3 zct0 zcv7
 have zct2:=E.d A_51 fun F=>zao9 F N zcq9 zcp3 zct6
 have zct1:=E.d A_52 fun F=>zao3 F N
 have zcr7:=E.d A_53 fun F=>zag7 F N zct1 zcp8
 have zcr4:=E.d A_54 fun F=>zap3 F N zcp8
 have zcu0:=E.d A_55 fun F=>zbh6 F N zcv3
 have zct8:=E.d A_56 fun F=>zav2 F N zcr5 zcu0
 have zct7:=E.d A_57 fun F=>zaw7 F N
 exact ok_law (P:=l.prog) (w:=w) (base:=base) (zbb2 (st:=zbe6) lL cL kL) N zct7 zct2 zcq9 zcr7 zct8 zcr4 zct9 zcr0
theorem walk{l:PySem.W.OpenLaw}{q:Program}{loose:List Str}{XP:(Str->Option Value)->Heap->Prop}{YP:World->Heap->Prop}{d:DefRec}{K:Params->zcw1}(hn:l.most=some 63)(hdf:d.params.defaults=[])(hY:∀ (w:World) (h:Heap),YP w h->(K w.params).In h){d9:DefRec}(hnt:∀ w:World,PySem.W.noTabs (K w.params)=true)(hrec:(PyProof.Rows.recsOf q).find? (fun e=>e.name==Str.ofString "column_to_turn")=some d9)(F:∀ (w:World) (mg:Str->Option Value) (fa:Addr) (h:Heap),(K w.params).In h->h.Ns zdg3 mg->mg d.name=some (.ref fa) ->
   ∃ (c T:Addr) (fd:FuncData),zdf1 (K w.params) (Str.ofString "column_to_turn")=some (c,T)/\(∀ (s:Shared) (u:Value),BindsTo s fd ⟨[u],[]⟩ [("_law_script",u)])/\∀ base:Heap,(K w.params).In base->base.Ns zdg3 mg->PySem.W.CodeHd base c T->Bm mg base->FnOk l.prog w (K w.params) mg base CX0 11 fa fd ["_law_script"] (zbm3 (K w.params) T)) :
  PySem.W.WalkO q loose XP YP l.row.toRowW d [] (fun f vs=>PySem.call f vs):=
 L2.walk_ofT (n:=63) (k:=11) (x:="_law_script") (CX:=fun _=>CX0) (sp:=fun w T=>zbm3 (K w.params) T) hn (by decide) hdf ⟨rfl,by decide,by decide,rfl⟩ hY "column_to_turn" hnt hrec F (fun _ _ _ a ns hl hT hS=>⟨a,ns,rfl,hS,hl,hT,fun _=>rfl⟩) fun _ _ _ _ _ z=>z
end G
namespace PySem.W.Fast
theorem tw12211726197496888295:True:=⟨⟩
theorem tw801014774418850146:True:=⟨⟩
theorem tw16490937123404579678:True:=⟨⟩
theorem tw15867650721725762019:True:=⟨⟩
theorem tw10702243513805907371:True:=⟨⟩
theorem tw2343524105736224680:True:=⟨⟩
theorem tw12166509731084001900:True:=⟨⟩
theorem tw2162170290227339286:True:=⟨⟩
theorem tw7731313383618642032:True:=⟨⟩
theorem tw10101970122036236798:True:=⟨⟩
theorem tw14233595458117928149:True:=⟨⟩
theorem tw4237781689113218234:True:=⟨⟩
theorem tw15270586223004531736:True:=⟨⟩
theorem tw5813568781435097684:True:=⟨⟩
theorem tw6970168229610486097:True:=⟨⟩
theorem tw7741925910638178730:True:=⟨⟩
theorem tw17838425280384754861:True:=⟨⟩
theorem tw1767042877805821507:True:=⟨⟩
theorem tw6617937841226583147:True:=⟨⟩
theorem tw14253424922819425546:True:=⟨⟩
theorem tw397672971425218859:True:=⟨⟩
theorem tw8684774345127038096:True:=⟨⟩
theorem tw11654928732196593040:True:=⟨⟩
theorem tw17897324297973759287:True:=⟨⟩
theorem tw13956207118687706632:True:=⟨⟩
theorem tw16397234368694609550:True:=⟨⟩
theorem tw5801162442176541284:True:=⟨⟩
theorem tw8629673250121794726:True:=⟨⟩
theorem tw8967221293099079060:True:=⟨⟩
theorem tw13170319989673422127:True:=⟨⟩
theorem tw16416221866869733407:True:=⟨⟩
theorem tw2517191822240136384:True:=⟨⟩
theorem tw6519682966505124088:True:=⟨⟩
theorem tw15832952975387967205:True:=⟨⟩
theorem tw17110460207519584172:True:=⟨⟩
theorem tw10691238877690564616:True:=⟨⟩
theorem tw14965702720735183485:True:=⟨⟩
theorem tw17379631093334398433:True:=⟨⟩
theorem tw5306966576780737511:True:=⟨⟩
theorem tw17483416224673519232:True:=⟨⟩
theorem tw7780568473117048610:True:=⟨⟩
theorem tw6126153933319942298:True:=⟨⟩
theorem tw652766884039884108:True:=⟨⟩
theorem tw5087557671394288824:True:=⟨⟩
theorem tw17457388682613892553:True:=⟨⟩
theorem tw6208816897175961243:True:=⟨⟩
theorem tw777328913176288695:True:=⟨⟩
theorem tw6918635549978141554:True:=⟨⟩
theorem tw3668094958171470573:True:=⟨⟩
theorem tw1906694722475279448:True:=⟨⟩
theorem tw17477978296081423303:True:=⟨⟩
theorem tw5555352034917160010:True:=⟨⟩
theorem tw6597295456378592569:True:=⟨⟩
theorem tw13418734701097977021:True:=⟨⟩
theorem tw1353767303683028160:True:=⟨⟩
theorem tw16527630008858260811:True:=⟨⟩
theorem tw15241373808422618637:True:=⟨⟩
theorem tw11961067254964942192:True:=⟨⟩
theorem tw316983395903935786:True:=⟨⟩
theorem tw16888375278280978021:True:=⟨⟩
theorem tw11160485154857589915:True:=⟨⟩
theorem tw17451202444107189621:True:=⟨⟩
theorem tw13645034713462795645:True:=⟨⟩
theorem tw11445734523528474183:True:=⟨⟩
theorem tw16388176765944832830:True:=⟨⟩
theorem tw8589588558381339435:True:=⟨⟩
theorem tw16109086543212044573:True:=⟨⟩
theorem tw4882113261943089837:True:=⟨⟩
theorem tw17553081528276797880:True:=⟨⟩
theorem tw6179653973346564729:True:=⟨⟩
theorem tw18420508908061586828:True:=⟨⟩
theorem tw9300901481582490291:True:=⟨⟩
theorem tw9520566117764410928:True:=⟨⟩
theorem tw17659000072663779776:True:=⟨⟩
theorem tw4588351619595312144:True:=⟨⟩
theorem tw17159248960724490315:True:=⟨⟩
theorem tw5337945312911016393:True:=⟨⟩
theorem tw10706846723303769581:True:=⟨⟩
theorem tw18405274943943700979:True:=⟨⟩
theorem tw12031652715225733432:True:=⟨⟩
theorem tw8872820450551594973:True:=⟨⟩
theorem tw10684678581080457913:True:=⟨⟩
theorem tw760329412316204235:True:=⟨⟩
theorem tw2747879515145449814:True:=⟨⟩
theorem tw14388247082133545141:True:=⟨⟩
theorem tw11834622347992157278:True:=⟨⟩
theorem tw17882312752478202361:True:=⟨⟩
theorem tw12825511313277199035:True:=⟨⟩
theorem tw16503082887934470504:True:=⟨⟩
theorem tw5882233599178052150:True:=⟨⟩
theorem tw17866766884945490659:True:=⟨⟩
theorem tw11202132403068765023:True:=⟨⟩
theorem tw12745809528817531785:True:=⟨⟩
theorem tw13922601340474238941:True:=⟨⟩
theorem tw1996056045034080550:True:=⟨⟩
theorem tw14603537883041191061:True:=⟨⟩
theorem tw8249588091387217403:True:=⟨⟩
theorem tw11322074939978702190:True:=⟨⟩
theorem tw2358219006102744798:True:=⟨⟩
theorem tw1660613921043239550:True:=⟨⟩
theorem tw4203070502179441420:True:=⟨⟩
theorem tw10058396485623800979:True:=⟨⟩
theorem tw15552931577200097167:True:=⟨⟩
theorem tw16274613306029973343:True:=⟨⟩
theorem tw12062023320762352443:True:=⟨⟩
theorem tw13737841551682463828:True:=⟨⟩
theorem tw2990025285688822049:True:=⟨⟩
theorem tw3578057672018097055:True:=⟨⟩
theorem tw7969630535129260813:True:=⟨⟩
theorem tw13574940348763937439:True:=⟨⟩
theorem tw11668982746247217071:True:=⟨⟩
theorem tw4699839483899887524:True:=⟨⟩
theorem tw13110438901679983534:True:=⟨⟩
theorem tw14396695417171935210:True:=⟨⟩
theorem tw1747276974076512691:True:=⟨⟩
theorem tw15083293299791654738:True:=⟨⟩
theorem tw13821536282003111634:True:=⟨⟩
theorem tw7392916766535457947:True:=⟨⟩
theorem tw6519792290091462978:True:=⟨⟩
theorem tw5218577012051700744:True:=⟨⟩
theorem tw17016441426470361203:True:=⟨⟩
theorem tw1971645218750750599:True:=⟨⟩
theorem tw9015917079680608486:True:=⟨⟩
theorem tw15165409738647360702:True:=⟨⟩
theorem tw3523185705468472961:True:=⟨⟩
theorem tw6400212721642870619:True:=⟨⟩
theorem tw4815321955886286157:True:=⟨⟩
theorem tw14574775289723282059:True:=⟨⟩
theorem tw1779976451337915185:True:=⟨⟩
theorem tw8484056425275207610:True:=⟨⟩
theorem tw13402878683232344633:True:=⟨⟩
theorem tw10317102291741715057:True:=⟨⟩
theorem tw1437278307792384280:True:=⟨⟩
theorem tw10838818670021178064:True:=⟨⟩
theorem tw7304082627926354809:True:=⟨⟩
theorem tw5617903514300035070:True:=⟨⟩
theorem tw7494965220599808431:True:=⟨⟩
theorem tw2225007780197912920:True:=⟨⟩
theorem tw5524841759286502235:True:=⟨⟩
theorem tw9433678009101539640:True:=⟨⟩
theorem tw12785510320966357629:True:=⟨⟩
theorem tw14992742321162613438:True:=⟨⟩
theorem tw11348331543952183606:True:=⟨⟩
theorem tw8815387828749056726:True:=⟨⟩
theorem tw17908667910738680780:True:=⟨⟩
theorem tw13164015694694922408:True:=⟨⟩
theorem tw9459183188937516327:True:=⟨⟩
theorem tw17267109048367897629:True:=⟨⟩
theorem tw10107529354892049705:True:=⟨⟩
theorem tw11278728931564169786:True:=⟨⟩
theorem tw11497085742371547939:True:=⟨⟩
theorem tw12190142448200131121:True:=⟨⟩
theorem tw5338891852381741408:True:=⟨⟩
theorem tw17512803696848430589:True:=⟨⟩
theorem tw2594268416764341196:True:=⟨⟩
theorem tw629166255093818456:True:=⟨⟩
theorem tw13367736384968492790:True:=⟨⟩
theorem tw5022310312873041585:True:=⟨⟩
theorem tw11104487974457882811:True:=⟨⟩
theorem tw11500005666907624040:True:=⟨⟩
theorem tw15907119841784725537:True:=⟨⟩
theorem tw3872593323513903663:True:=⟨⟩
theorem tw2525810691227339923:True:=⟨⟩
theorem tw5517738547030698641:True:=⟨⟩
theorem tw2923190851191778944:True:=⟨⟩
theorem tw16975250250260953023:True:=⟨⟩
theorem tw3941012747685072025:True:=⟨⟩
theorem tw7428404382322741362:True:=⟨⟩
theorem tw181715546784869228:True:=⟨⟩
theorem tw8528900303965751498:True:=⟨⟩
theorem tw2811759335352856438:True:=⟨⟩
theorem tw3669032913664476745:True:=⟨⟩
theorem tw3691223948128021942:True:=⟨⟩
theorem tw1853961048756696574:True:=⟨⟩
theorem tw2048958062920428265:True:=⟨⟩
theorem tw1514096928595303848:True:=⟨⟩
theorem tw4544264941306853841:True:=⟨⟩
theorem tw2113595095683113420:True:=⟨⟩
theorem tw11817516491654419774:True:=⟨⟩
theorem tw16891221100816938150:True:=⟨⟩
theorem tw10661527276253454132:True:=⟨⟩
theorem tw8987645391184659607:True:=⟨⟩
theorem tw7441132032775706833:True:=⟨⟩
theorem tw9485102097986764204:True:=⟨⟩
theorem tw15222177321321343426:True:=⟨⟩
theorem tw18173589743795997487:True:=⟨⟩
theorem tw18280859829348786387:True:=⟨⟩
theorem tw1307009979096755959:True:=⟨⟩
theorem tw3689304557890900540:True:=⟨⟩
theorem tw15027494973177252292:True:=⟨⟩
theorem tw12999764947550809403:True:=⟨⟩
theorem tw17871360593837065601:True:=⟨⟩
theorem tw17168121968069258369:True:=⟨⟩
theorem tw15273802924391041985:True:=⟨⟩
theorem tw2061365040785016225:True:=⟨⟩
theorem tw6076269971471165133:True:=⟨⟩
theorem tw15280561870639260581:True:=⟨⟩
theorem tw18021771620749999784:True:=⟨⟩
theorem tw16841080346670735565:True:=⟨⟩
theorem tw4200079998710209941:True:=⟨⟩
theorem tw16267438396332802380:True:=⟨⟩
theorem tw11102643344358972106:True:=⟨⟩
theorem tw4966286575595146963:True:=⟨⟩
theorem tw3390706776954860463:True:=⟨⟩
theorem tw8927242417726238288:True:=⟨⟩
theorem tw11927955320120889814:True:=⟨⟩
theorem tw4819648762214654323:True:=⟨⟩
theorem tw10264521035477274350:True:=⟨⟩
theorem tw10297775548127976738:True:=⟨⟩
theorem tw5421575013052781965:True:=⟨⟩
theorem tw1583844107909622985:True:=⟨⟩
theorem tw2521907633456635376:True:=⟨⟩
theorem tw3191357072195261261:True:=⟨⟩
theorem tw9428223925573851673:True:=⟨⟩
theorem tw3302764801934844753:True:=⟨⟩
theorem tw15624193337013980801:True:=⟨⟩
theorem tw11896266170657121501:True:=⟨⟩
theorem tw11561572965269863664:True:=⟨⟩
theorem tw786066904073844567:True:=⟨⟩
theorem tw1444578921987123501:True:=⟨⟩
theorem tw3407337127083858700:True:=⟨⟩
theorem tw17514945838040919371:True:=⟨⟩
theorem tw15715735836750357405:True:=⟨⟩
theorem tw4445568589729159656:True:=⟨⟩
theorem tw4648380703709157845:True:=⟨⟩
theorem tw7244711658254008895:True:=⟨⟩
theorem tw6337651049901582680:True:=⟨⟩
theorem tw15260287593685980954:True:=⟨⟩
theorem tw5910373618958957518:True:=⟨⟩
theorem tw8878893776183359971:True:=⟨⟩
theorem tw9867969989988509342:True:=⟨⟩
theorem tw5688015482612125256:True:=⟨⟩
theorem tw12965560157083037962:True:=⟨⟩
theorem tw12097172391114978360:True:=⟨⟩
theorem tw16140692376112734304:True:=⟨⟩
theorem tw16036205500493467656:True:=⟨⟩
theorem tw16725706659986067511:True:=⟨⟩
theorem tw11000974595653670349:True:=⟨⟩
theorem tw874436325895576719:True:=⟨⟩
theorem tw18147901092642879558:True:=⟨⟩
theorem tw1152736661895719397:True:=⟨⟩
theorem tw7962600172380731006:True:=⟨⟩
theorem tw13154322870974726333:True:=⟨⟩
theorem tw11149926910188819477:True:=⟨⟩
theorem tw14793725311281346274:True:=⟨⟩
theorem tw13377838322828588013:True:=⟨⟩
theorem tw5978749582904418305:True:=⟨⟩
theorem tw15980467806098246984:True:=⟨⟩
theorem tw7301566491832924768:True:=⟨⟩
theorem tw9740294370821754251:True:=⟨⟩
theorem tw4433135879591179907:True:=⟨⟩
theorem tw9583428653753267006:True:=⟨⟩
theorem tw4081294184949592760:True:=⟨⟩
theorem tw10967354438323940043:True:=⟨⟩
theorem tw11016854424107488688:True:=⟨⟩
theorem tw14210377945059416856:True:=⟨⟩
theorem tw1545742944768455032:True:=⟨⟩
theorem tw8397574115340368705:True:=⟨⟩
theorem tw1312352956181545777:True:=⟨⟩
theorem tw2119647975558591114:True:=⟨⟩
theorem tw15749856531140300461:True:=⟨⟩
theorem tw9284224192493462850:True:=⟨⟩
end PySem.W.Fast
open PySem PySem.W PyProof.Rows
set_option maxRecDepth 100000 in
theorem PySem.Challenge.cw_hostfields_k45_whole_worths_by_counts_holds : PySem.Challenge.rw_hostfields_k45_whole_worths_by_counts.Holds := by
 w_on;o_law;k_head;(case hw=>w_witness2)
 k_fill
 first|refine' G.walk (l:=PySem.Challenge.rw_hostfields_k45_whole_worths_by_counts) rfl rfl (fun w h Y=>PySem.W.kIn_of Y) ?hnt ?hrec ?F|refine' G.walk (l:=PySem.Challenge.rw_hostfields_k45_whole_worths_by_counts) rfl rfl (fun w h Y=>PySem.W.km_in_of Y) ?hnt ?hrec ?F
 (case hnt=>intro w;kernel_rfl)
 (case hrec=>rfl)
 case F=>
  intro w mg fa h KX GG hmg
  refine' G.all_mk (a_cod:=244) (a_tab:=242) KX GG hmg ?e_MOST_HOSTS_plans ?e_MOST_FIELDS_plans ?e_MOST_HOSTS_fields ?e_MOST_FIELDS_fields ?_ ?_ ?_ ?_ ?_ ?_ ?_ ?_ ?_ ?_ ?_ ?_ ?_ ?_ ?_ ?_ ?_ ?_ ?_ ?_ ?_ ?_ ?_ ?_ ?_ ?_ ?_ ?_ ?_ ?_ ?_ ?_ ?_ ?_ ?_ ?_ ?_ ?_ ?_ ?_ ?_ ?_ ?_ ?_ ?_ ?_ ?_ ?_ ?_ ?_ ?_ ?_ ?_ ?_ ?_ ?_ ?_ ?_ ?e_Grid ?in_Grid ?li_Grid ?ci_Grid ?ki_Grid ?mk_Grid ?mf_Grid ?kc_Grid ?pg_Grid ?hd_Grid ?po_Grid ?sa_Grid ?na_Grid_numbers ?na_Grid_divisor ?na_Grid_across ?na_Grid_down ?z_abs ?z_all ?z_bool ?z_dict ?z_enumerate ?z_int ?z_isinstance ?z_len ?z_list ?z_min ?z_range ?z_sorted ?z_sum ?z_tuple ?z_zip ?hTAB
  (case e_MOST_HOSTS_plans=>k_is)
  (case e_MOST_FIELDS_plans=>k_is)
  (case e_MOST_HOSTS_fields=>k_is)
  (case e_MOST_FIELDS_fields=>k_is)
  (case e_Grid=>k_is)
  (case in_Grid=>k_is)
  (case li_Grid=>k_is)
  (case ci_Grid=>k_is)
  (case ki_Grid=>k_is)
  (case mk_Grid=>k_is)
  (case mf_Grid=>k_is)
  (case kc_Grid=>k_is)
  (case pg_Grid=>k_is)
  (case hd_Grid=>k_is)
  (case po_Grid=>k_is)
  (case sa_Grid=>k_is)
  (case na_Grid_numbers=>k_is)
  (case na_Grid_divisor=>k_is)
  (case na_Grid_across=>k_is)
  (case na_Grid_down=>k_is)
  (case z_abs=>k_is)
  (case z_all=>k_is)
  (case z_bool=>k_is)
  (case z_dict=>k_is)
  (case z_enumerate=>k_is)
  (case z_int=>k_is)
  (case z_isinstance=>k_is)
  (case z_len=>k_is)
  (case z_list=>k_is)
  (case z_min=>k_is)
  (case z_range=>k_is)
  (case z_sorted=>k_is)
  (case z_sum=>k_is)
  (case z_tuple=>k_is)
  (case z_zip=>k_is)
  (case hTAB=>kernel_rfl)
  all_goals (apply G.FA.of;k_is;k_is;k_is;k_is)
