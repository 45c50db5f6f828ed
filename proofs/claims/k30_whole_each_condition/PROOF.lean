import PyProof.Rows.All
import Wide.All
import OpenK.AllK
import Wide.FinOn
import Lean
import PyProof.EqAt
import PyProof.EqKinds
import PyProof.TupleCall
import PyProof.NeKinds
import PyProof.CompFree
import PyProof.EnumMake
import KE.KTryMore
import PyProof.ExcArgsOwn
import PyProof.ZipIter
import PyProof.ListRange
import KE.KIsAll
import PyProof.InstStoreFacts
import PyProof.ExcInit
import PyProof.ReprRoads
import PyProof.CallStr
import KE.KEqDict
import PyProof.EqLayable
import KE.KRevIter
import PyProof.CollectIter
import PyProof.Rows.SetFrom
import PyProof.TupleKey
import PyProof.SetScanFacts
import KE.KSortKey
import PyProof.StrLawsRepr
import PySem.Challenge.RW_hostfields_k30_whole_each_condition
set_option bootstrap.genMatcherCode false
set_option genSizeOf false
noncomputable section
open List renaming getElem?_eq_getElem->zcv7,length_map->zcv8,getElem?_eq_some_iff->zcv9,getElem?_map->zcw0,getD_eq_getElem?_getD->zcw1,mem_of_getElem?->zcw3,length_append->zcw7,mem_cons->zcw8,size_toArray->zcw9,mem_map->zcx0,all_eq_true->zcx2,length_cons->zcx5,length_range->zcx6,getElem?_of_mem->zcx8,not_mem_nil->zcx9,mem_range->zcy0,mem_append->zcy1,length_singleton->zcy4,map_append->zcy6,getElem?_eq_none->zcy7,map_congr_left->zcy9,getElem?_append_left->zcz0,length_nil->zcz1,map_map->zcz3,map_cons->zcz4,getElem?_append_right->zcz5,mem_singleton->zcz6,lookup_cons->zcz8,mem_append_right->zcz9,length_take->zda3,length_drop->zda4,getElem?_range->zda5,mem_cons_of_mem->zda6,pairwise_iff_getElem->zda9,getElem_mem->zdb0,filterMap_cons_some->zdb2,nodup_cons->zdb3,ext_getElem?->zdb4,take_of_length_le->zdb5,ext_getElem->zdb8,filterMap_cons_none->zdb9,sum_cons->zdc0,mem_cons_self->zdc1,mem_of_mem_drop->zdc2,find?_cons->zdc4,filter_cons->zdc6,drop_of_length_le->zdc8,drop_eq_getElem_cons->zdd0,take_length->zdd2,mem_of_mem_take->zdd5,all_map->zdd6,mem_filter->zdd8,replicate_succ->zde1,toArray->zde5,length_pos_of_mem->zde6,getElem_map->zdf1,take_succ->zdf2
open PySem.W renaming Frag->zcw2,mg_none_of->zda2,nsIn->zda7,kia_one->zdb7,fnOf->zdc9,kitOne->zdd3,keepIn->zdd4
open Option renaming map_eq_some_iff->zcw4
open Bool renaming false_ne_true->zcw5,and_eq_true->zcx4,true_and->zcz7,eq_iff_iff->zdb1,false_eq_true->zdd1,noConfusion->zde7,false_and->zde9,and_false->zdf0
open PySem.Heap renaming get?_push_of_some->zcw6,lt_size->zcx7,get?_push_size->zcy8
open Array renaming length_toList->zcx1,getElem?_toList->zcy2,getD_eq_getD_getElem?->zda1,getElem?_eq_getElem->zdb6,getElem?_eq_some_iff->zdc5,filterMap->zdc7,mem_toList_iff->zde8
open Nat renaming le_refl->zcx3,zero_le->zcy3,lt_of_lt_of_le->zcy5,ne_of_lt->zcz2,le_trans->zda0,le_succ->zdd9,not_lt_zero->zde0,lt_irrefl->zde3,le_add_right->zde4
open Int renaming mul_le_mul_of_nonneg_right->zda8,zero_add->zdc3,toNat_natCast->zdd7,mul_le_mul_of_nonneg_left->zde2
open PySem renaming wpAny_bind->zdf3,wpAny_pure->zdf4,sizeLine_eq->zdf5,wpAny_ite_false->zdf6,tupleKeyHash->zdf7,wpAny_holding->zdf8,mainGlobals->zdf9
set_option Elab.async false
set_option linter.all false
set_option maxRecDepth 100000
namespace L2
open PySem PySem.Spec PyProof.Rows
abbrev Key:=Sum Int Str
variable {h:Heap}{i:Nat}{E:Value->Shared->Prop}{u:Value}{s:Shared}{pins:List (Addr×Obj)}{pos:Pos}{tg:Expr}{us:List Value}
noncomputable def zbm0:Key->Value->Bool
 | .inl k,v=>Value.isInt k v
 | .inr x,v=>Value.isStrOf x v
noncomputable def keyH(w:World):Key->Int
 | .inl k=>hashInt k
 | .inr x=>hashStr w x
theorem zg9:∀ {k:Key}{v:Value},zbm0 k v=true->(∃ i t,k=Sum.inl i/\v=Value.int i t)∨(∃ x t,k=Sum.inr x/\v=Value.str x t)
 | .inl i,v,h=>by
  obtain⟨t,e⟩:=Value.isInt_shape (k:=i) (v:=v) h
  exact .inl ⟨i,t,rfl,e⟩
 | .inr x,v,h=>by
  obtain⟨t,e⟩:=Value.isStrOf_shape (x:=x) (v:=v) h
  exact .inr ⟨x,t,rfl,e⟩
theorem zbo2(i:Int)(t:Tok):zbm0 (.inl i) (.int i t)=true:=by simp[zbm0,Value.isInt]
theorem zbo9(x:Str)(t:Tok):zbm0 (.inr x) (.str x t)=true:=by simp[zbm0,Value.isStrOf]
theorem key_ll(a b:Int):decide ((Sum.inl a:Key)=Sum.inl b)=(a==b):=by
 by_cases e:a=b
 ·subst e;simp
 ·have h:¬ (Sum.inl a:Key)=Sum.inl b:=fun q=>e (Sum.inl.inj q)
  rw[decide_eq_false h]
  exact (beq_eq_false_iff_ne.mpr e).symm
theorem key_rr(a b:Str):decide ((Sum.inr a:Key)=Sum.inr b)=decide (a=b):=by
 by_cases e:a=b
 ·subst e;simp
 ·have h:¬ (Sum.inr a:Key)=Sum.inr b:=fun q=>e (Sum.inr.inj q)
  rw[decide_eq_false h,decide_eq_false e]
theorem key_lr(a:Int)(b:Str):decide ((Sum.inl a:Key)=Sum.inr b)=false:=decide_eq_false (fun q=>nomatch q)
theorem key_rl(a:Str)(b:Int):decide ((Sum.inr a:Key)=Sum.inl b)=false:=decide_eq_false (fun q=>nomatch q)
noncomputable def zi7(prog:Program)(w:World):PySem.KeyKind prog w Key where
 is:=zbm0
 hash:=keyH w
 inj:=fun v a b ha hb=>by
  rcases zg9 ha with ⟨i,t,rfl,rfl⟩|⟨x,t,rfl,rfl⟩
  ·rcases zg9 hb with ⟨j,u,rfl,e⟩|⟨y,u,rfl,e⟩
   ·injection e with e1 _;rw[e1]
   ·exact nomatch e
  ·rcases zg9 hb with ⟨j,u,rfl,e⟩|⟨y,u,rfl,e⟩
   ·exact nomatch e
   ·injection e with e1 _;rw[e1]
 byValue:=fun k v h=>by
  rcases zg9 h with ⟨i,t,rfl,rfl⟩|⟨x,t,rfl,rfl⟩<;>rfl
 pyHash:=fun hv h=>by
  rcases zg9 hv with ⟨i,t,rfl,rfl⟩|⟨x,t,rfl,rfl⟩
  ·exact wpAny_pyHash_int h
  ·exact wpAny_pyHash_str h
 eqBool:=fun hu hv h=>by
  rcases zg9 hu with ⟨i,t,rfl,rfl⟩|⟨x,t,rfl,rfl⟩
  ·rcases zg9 hv with ⟨j,u,rfl,rfl⟩|⟨y,u,rfl,rfl⟩
   ·rw[key_ll] at h;exact wpAny_eqBool_int h
   ·rw[key_lr] at h;exact SeqAt.EqAt.int_str i t y u _ _ _ _ h
  ·rcases zg9 hv with ⟨j,u,rfl,rfl⟩|⟨y,u,rfl,rfl⟩
   ·rw[key_rl] at h;exact SeqAt.EqAt.str_int x t j u _ _ _ _ h
   ·rw[key_rr] at h;exact wpAny_eqBool_str h
 «strs»:=fun k x t v h=>by
  rcases zg9 h with ⟨i,u,rfl,e⟩|⟨y,u,rfl,e⟩
  ·exact nomatch e
  ·injection e with e1 _
   subst e1
   cases v<;>rfl
theorem zbc0(prog:Program)(w:World)(i:Int)(t:Tok):(zi7 prog w).is (.inl i) (.int i t)=true:=zbo2 i t
theorem zbd3(prog:Program)(w:World)(x:Str)(t:Tok):(zi7 prog w).is (.inr x) (.str x t)=true:=zbo9 x t
inductive V where
 | non | bl (b:Bool) | int (i:Int) | str (x:Str) | byt (b:Array UInt8) | flt (b:UInt64) | ref (a:Addr) | ty (n:String)
 deriving DecidableEq
noncomputable def RelV:V->Value->Prop
 | .non,u=>u=Value.none
 | .bl b,u=>u=Value.bool b
 | .int i,u=>∃ t,u=Value.int i t
 | .str x,u=>∃ t,u=Value.str x t
 | .byt b,u=>∃ t,u=Value.bytes b t
 | .flt b,u=>∃ t,u=Value.float b t
 | .ref a,u=>u=Value.ref a
 | .ty n,u=>u=Value.type n
noncomputable abbrev Vals:List V->List Value->Prop:=Paired RelV
theorem Vals.length{xs:List V}{us:List Value}(r:Vals xs us):xs.length=us.length:=Paired.length r
theorem Vals.get:∀ {xs:List V}{us:List Value}{i:Nat}{x:V},Vals xs us->xs[i]?=some x->∃ u,us[i]?=some u/\RelV x u
 | _,_,_,_,.nil,e=>by simp at e
 | _,_,0,_,.cons r _,e=>by simp at e;subst e;exact⟨_,rfl,r⟩
 | _,_,i+1,x,.cons _ t,e=>by
  obtain⟨u,h1,h2⟩:=Vals.get (i:=i) (x:=x) t (by simpa using e)
  exact⟨u,by simpa using h1,h2⟩
theorem Vals.set{x:V}{u:Value}(r:RelV x u):∀ {xs:List V}{us:List Value}(i:Nat),Vals xs us->Vals (xs.set i x) (us.set i u)
 | _,_,_,.nil=>.nil
 | _,_,0,.cons _ t=>.cons r t
 | _,_,i+1,.cons q t=>.cons q (Vals.set r i t)
theorem Vals.append:∀ {xs ys:List V}{us ws:List Value},Vals xs us->Vals ys ws->Vals (xs++ys) (us++ws)
 | _,_,_,_,.nil,s=>s
 | _,_,_,_,.cons r t,s=>.cons r (Vals.append t s)
theorem Vals.take:∀ {xs:List V}{us:List Value}(n:Nat),Vals xs us->Vals (xs.take n) (us.take n)
 | _,_,0,_=>.nil
 | _,_,_+1,.nil=>.nil
 | _,_,n+1,.cons r t=>.cons r (Vals.take n t)
theorem Vals.drop:∀ {xs:List V}{us:List Value}(n:Nat),Vals xs us->Vals (xs.drop n) (us.drop n)
 | _,_,0,r=>r
 | _,_,_+1,.nil=>.nil
 | _,_,n+1,.cons _ t=>Vals.drop n t
noncomputable def RelO:Option V->Option Value->Prop
 | some v,some u=>RelV v u
 | none,none=>True
 | _,_=>False
noncomputable def KV{κ:Type}:List (κ×V)->List (κ×Value)->Prop:=Paired fun (p:κ×V) (q:κ×Value)=>p.1=q.1/\RelV p.2 q.2
noncomputable def kV:Key->V
 | .inl i=>.int i
 | .inr x=>.str x
inductive HO where
 | lst (xs:List V)
 | tup (xs:List V)
 | dK (kvs:List (Key×V)) | dT (kvs:List (List Key×V))
 | set (S:Int->Bool) (n:Nat)
 | ins (C dx:Addr) (fs:List (Str×V))
 | own (x:Addr)
 | xd (fs:List (Str×V))
 | met (f x:Addr)
 | rng (lo hi:Int)
 | frz (o:Obj) (u:HO)
 | tbl (ps:Array Value)
 | ext (φ:Heap->Prop)
variable {o:HO}
abbrev Hp:=Addr->Option HO
variable {H:Hp}
noncomputable def upd(H:Hp)(a:Addr)(o:HO):Hp:=fun b=>if b=a then some o else H b
theorem zd0{a:Addr}:upd H a o a=some o:=by unfold upd;rw[if_pos rfl]
theorem zd9{a b:Addr}(h:b≠a):upd H a o b=H b:=by unfold upd;rw[if_neg h]
theorem ne_of{a b:Addr}{u:HO}(h:H a=some o)(h':H b=some u)(d:o≠u):a≠b:=by
 intro e;subst e;rw[h] at h';exact d (Option.some.inj h')
theorem za6{a b:Addr}(h:H a=some o)(h':H b=none):a≠b:=by
 intro e;subst e;rw[h] at h';cases h'
section
variable (P:Program) (w:World)
noncomputable def zi5(H:Hp)(h:Heap)(a:Addr):HO->Prop
 | .lst xs=>xs.length<=sizeLine/\∃ (its:List Value) (n:Nat),Vals xs its/\h.get? a=some { cls:=.type "list",data:=.seq its.toArray n }
 | .tup xs=>xs.length<=sizeLine/\∃ its:List Value,Vals xs its/\IsTup h a its.toArray
 | .dK kvs=>kvs.length<=sizeLine/\(a==sysModules)=false/\∃ vs,KV kvs vs/\h.DictOf (zi7 P w) a vs
 | .dT kvs=>kvs.length<=sizeLine/\(a==sysModules)=false/\∃ xs:List (List Key×Addr×Value),
   Paired (fun (p:List Key×V) (q:List Key×Addr×Value)=>p.1=q.1/\H q.2.1=some (.tup (p.1.map kV))/\RelV p.2 q.2.2) kvs xs /\
   ∃ o es ep,h.get? a=some o/\o.ExactDict/\o.data=.dict es ep/\es.toList=xs.map (entryOfKey (tupleKind (zi7 P w)))/\(xs.map (·.1)).Nodup
 | .set S n=>h.SetOf (intKind P w) a S n
 | .ins C dx fs=>H dx=some (.own a)/\fs.length<=1000/\dx≠a/\h.get? a=some (PySem.W.instObj C dx) /\
   ∃ mA,h.Ns1 dx mA/\(∀ f,RelO (fs.lookup f) (mA f))/\PySem.Within mA (fs.map (·.1))
 | .own _=>∃ o,h.get? a=some o
 | .xd fs=>∃ mA,h.Ns1 a mA/\∀ f,RelO (fs.lookup f) (mA f)
 | .rng lo hi=>∃ t u v,h.get? a=some { cls:=.type "range",data:=.fields #[.int lo t,.int hi u,.int 1 v] }
 | .frz o u=>h.get? a=some o/\zi5 H h a u
 | .tbl ps=>h.get? a=some { cls:=.none,data:=.fields ps }
 | .met f x=>h.get? a=some (PySem.W.methodObj (.ref f) (.ref x))
 | .ext φ=>φ h/\(∃ o,h.get? a=some o)/\∀ h1 h2:Heap,φ h1->(∀ o,h1.get? a=some o->h2.get? a=some o)->φ h2
noncomputable def HOk(H:Hp)(h:Heap):Prop:=∀ a o,H a=some o->zi5 P w H h a o
end
section
variable {P:Program}{w:World}{H H':Hp}{h h':Heap}{a:Addr}{o:HO}
theorem zi5.lt(x:zi5 P w H h a o):a<h.objs.size:=by
 cases o with
 | lst xs=>obtain⟨_,_,_,_,e⟩:=x;exact zcx7 e
 | tup xs=>obtain⟨_,_,_,p⟩:=x;exact p.lt
 | dK kvs=>obtain⟨_,_,_,_,o,_,_,e,_⟩:=x;exact zcx7 e
 | dT kvs=>obtain⟨_,_,_,_,o,_,_,e,_⟩:=x;exact zcx7 e
 | set S n=>obtain⟨o,_,_,_,e,_⟩:=x;exact zcx7 e
 | ins C dx fs=>obtain⟨_,_,_,e,_⟩:=x;exact zcx7 e
 | own y=>obtain⟨_,e⟩:=x;exact zcx7 e
 | xd fs=>obtain⟨_,⟨_,_,_,e,_⟩,_⟩:=x;exact zcx7 e
 | rng lo hi=>obtain⟨_,_,_,e⟩:=x;exact zcx7 e
 | frz ob u=>obtain⟨e,_⟩:=x;exact zcx7 e
 | tbl ps=>exact zcx7 (show h.get? a=some _ from x)
 | met f y=>exact zcx7 (show h.get? a=some _ from x)
 | ext φ=>obtain⟨_,⟨_,e⟩,_⟩:=x;exact zcx7 e
theorem Paired.mapP{α β:Type}{F G:α->β->Prop}:∀ {l₁:List α}{l₂:List β},Paired F l₁ l₂->(∀ a b,F a b->G a b)->Paired G l₁ l₂
 | _,_,.nil,_=>.nil
 | _,_,.cons r t,f=>.cons (f _ _ r) (Paired.mapP t f)
theorem zi5.stay(x:zi5 P w H h a o)(k:∀ b u,(b=a∨H b=some (.own a))->h.get? b=some u->h'.get? b=some u)(ho:∀ b,H b=some (.own a)->H' b=some (.own a))(ht:∀ b xs,H b=some (.tup xs)->H' b=some (.tup xs)):zi5 P w H' h' a o:=by
 induction o with
 | lst xs=>obtain⟨z,its,n,r,e⟩:=x;exact⟨z,its,n,r,k _ _ (.inl rfl) e⟩
 | tup xs=>obtain⟨z,its,r,ob,e,c⟩:=x;exact⟨z,its,r,ob,k _ _ (.inl rfl) e,c⟩
 | dK kvs=>obtain⟨z,y,vs,r,ob,es,ep,e,c⟩:=x;exact⟨z,y,vs,r,ob,es,ep,k _ _ (.inl rfl) e,c⟩
 | dT kvs=>
  obtain⟨z,y,xs,r,ob,es,ep,e,c⟩:=x
  exact⟨z,y,xs,Paired.mapP r fun p q z=>⟨z.1,ht _ _ z.2.1,z.2.2⟩,ob,es,ep,k _ _ (.inl rfl) e,c⟩
 | set S n=>obtain⟨ob,es,ep,t,e,c⟩:=x;exact⟨ob,es,ep,t,k _ _ (.inl rfl) e,c⟩
 | ins C dx fs=>
  obtain⟨d,z,ne,e,mA,⟨od,es,ep,e2,c⟩,r⟩:=x
  exact⟨ho _ d,z,ne,k _ _ (.inl rfl) e,mA,⟨od,es,ep,k _ _ (.inr d) e2,c⟩,r⟩
 | own y=>obtain⟨ob,e⟩:=x;exact⟨ob,k _ _ (.inl rfl) e⟩
 | xd fs=>obtain⟨mA,⟨od,es,ep,e,c⟩,r⟩:=x;exact⟨mA,⟨od,es,ep,k _ _ (.inl rfl) e,c⟩,r⟩
 | rng lo hi=>obtain⟨t,u,v,e⟩:=x;exact⟨t,u,v,k _ _ (.inl rfl) e⟩
 | frz ob u ih=>obtain⟨e,q⟩:=x;exact⟨k _ _ (.inl rfl) e,ih q⟩
 | tbl ps=>
  have e:h.get? a=some { cls:=.none,data:=.fields ps }:=x
  show h'.get? a=some { cls:=.none,data:=.fields ps }
  exact k a _ (.inl rfl) e
 | met f y=>
  have e:h.get? a=some (PySem.W.methodObj (.ref f) (.ref y)):=x
  show h'.get? a=some (PySem.W.methodObj (.ref f) (.ref y))
  exact k a _ (.inl rfl) e
 | ext φ=>obtain⟨p,⟨o,e⟩,st⟩:=x;exact⟨st _ _ p fun o q=>k _ _ (.inl rfl) q,⟨o,k _ _ (.inl rfl) e⟩,st⟩
theorem HOk.lt(x:HOk P w H h)(e:H a=some o):a<h.objs.size:=(x a o e).lt
theorem HOk.fresh(x:HOk P w H h)(e:h.objs.size<=a):H a=none:=by
 cases q:H a with
 | none=>rfl
 | some u=>exact absurd (zcy5 (x.lt q) e) (zde3 _)
theorem HOk.kept(x:HOk P w H h)(k:∀ b u,h.get? b=some u->h'.get? b=some u):HOk P w H h':=fun a o e=>
 (x a o e).stay (fun b u _ q=>k b u q) (fun _ q=>q) fun _ _ q=>q
theorem HOk.laid(x:HOk P w H h)(k:∀ b u,h.get? b=some u->h'.get? b=some u)(hp:h.objs.size<=a)(new:zi5 P w (upd H a o) h' a o):HOk P w (upd H a o) h':=fun b u e=>by
 have hn:=x.fresh hp
 by_cases hb:b=a
 ·subst hb;rw[zd0] at e;cases e;exact new
 ·rw[zd9 hb] at e
  exact (x b u e).stay (fun c v _ q=>k c v q) (fun c q=>by rw[zd9 (za6 q hn)];exact q) fun c xs q=>by rw[zd9 (za6 q hn)];exact q
end
noncomputable def Rd(H:Hp)(a:Addr)(u:HO):Prop:=H a=some u∨∃ o,H a=some (.frz o u)
theorem Rd.of{a:Addr}{u:HO}(h:H a=some u):Rd H a u:=.inl h
theorem Rd.ok{P:Program}{w:World}{a:Addr}{u:HO}(r:Rd H a u)(x:HOk P w H h):zi5 P w H h a u:=by
 rcases r with r|⟨o,r⟩
 ·exact x a u r
 ·obtain⟨_,q⟩:=x a _ r
  exact q
noncomputable def Mut:Option HO->Prop
 | some (.lst _)=>True
 | some (.dK _)=>True
 | some (.dT _)=>True
 | some (.set _ _)=>True
 | some (.ins _ _ _)=>True
 | some (.ext _)=>True
 | _=>False
section
variable {P:Program}{w:World}{H:Hp}{h h':Heap}{x e:Addr}{o':HO}
theorem HOk.write(ok:HOk P w H h)(mu:Mut (H x))(he:e=x∨H e=some (.own x))(k:∀ b u,b≠e->h.get? b=some u->h'.get? b=some u)(heo:∃ u,h'.get? e=some u)(new:zi5 P w (upd H x o') h' x o'):HOk P w (upd H x o') h':=fun b u q=>by
 have nown:∀ c y,H c=some (.own y)->c≠x:=fun c y r z=>by subst z;rw[r] at mu;exact mu
 have ntup:∀ c xs,H c=some (.tup xs)->c≠x:=fun c xs r z=>by subst z;rw[r] at mu;exact mu
 by_cases hb:b=x
 ·subst hb;rw[zd0] at q;cases q;exact new
 ·rw[zd9 hb] at q
  by_cases hbe:b=e
  ·have q':H b=some (.own x):=by
    rcases he with z|z
    ·exact absurd (hbe.trans z) hb
    ·rw[hbe];exact z
   rw[q] at q';cases q'
   obtain⟨v,hv⟩:=heo
   exact⟨v,by rw[hbe];exact hv⟩
  ·refine (ok b u q).stay (fun c v hc r=>k c v ?_ r) (fun c r=>by rw[zd9 (nown c b r)];exact r) fun c xs r=>by rw[zd9 (ntup c xs r)];exact r
   rcases hc with rfl|hc
   ·exact hbe
   ·rintro rfl
    rcases he with z|z
    ·exact nown c b hc z
    ·rw[hc] at z;cases z;exact hb rfl
end
structure Un(fs ex:List Addr)(H H':Hp)(h h':Heap):Prop where
 keep:∀ b o,h.get? b=some o->H b=none->b ∉ fs->b ∉ ex->h'.get? b=some o
 slot:∀ b o,h.get? b=some o->H b=none->b∈fs->b ∉ ex->∃ sl,h'.get? b=some { o with slots:=sl }
 free:∀ b o,h.get? b=some o->H b=none->b ∉ ex->H' b=none
 there:∀ b o,h.get? b=some o->b ∉ ex->∃ o',h'.get? b=some o'
 tups:∀ b xs,H b=some (.tup xs)->H' b=some (.tup xs)
 frzs:∀ b o u,H b=some (.frz o u)->H' b=some (.frz o u)
 tbls:∀ b ps,H b=some (.tbl ps)->∃ more,H' b=some (.tbl (ps++more))
section
variable {fs fs' ex ex':List Addr}{H H1 H2:Hp}{h h1 h2 h':Heap}{a x e:Addr}{o:HO}
theorem Un.any(u:Un fs ex H H1 h h1){b:Addr}{ob:Obj}(q:h.get? b=some ob)(n:H b=none)(hx:b ∉ ex):∃ sl,h1.get? b=some { ob with slots:=sl }:=by
 by_cases hb:b∈fs
 ·exact u.slot b ob q n hb hx
 ·exact⟨ob.slots,u.keep b ob q n hb hx⟩
theorem Un.trans(a:Un fs ex H H1 h h1)(b:Un fs ex H1 H2 h1 h2):Un fs ex H H2 h h2 where
 keep:=fun c ob q n hc hx=>b.keep c ob (a.keep c ob q n hc hx) (a.free c ob q n hx) hc hx
 slot:=fun c ob q n hc hx=>by
  obtain⟨sl,e1⟩:=a.slot c ob q n hc hx
  obtain⟨sl',e2⟩:=b.slot c _ e1 (a.free c ob q n hx) hc hx
  exact⟨sl',e2⟩
 free:=fun c ob q n hx=>by
  obtain⟨o',e1⟩:=a.there c ob q hx
  exact b.free c o' e1 (a.free c ob q n hx) hx
 there:=fun c ob q hx=>by
  obtain⟨o',e1⟩:=a.there c ob q hx
  exact b.there c o' e1 hx
 tups:=fun c xs q=>b.tups c xs (a.tups c xs q)
 frzs:=fun c ob xs q=>b.frzs c ob xs (a.frzs c ob xs q)
 tbls:=fun c ps q=>by
  obtain⟨m1,e1⟩:=a.tbls c ps q
  obtain⟨m2,e2⟩:=b.tbls c _ e1
  exact⟨m1++m2,by rw[e2,Array.append_assoc]⟩
theorem Un.kept(k:∀ b u,h.get? b=some u->h'.get? b=some u):Un fs ex H H h h':=
 ⟨fun b ob q _ _ _=>k b ob q,fun b ob q _ _ _=>⟨ob.slots,k b ob q⟩,fun _ _ _ n _=>n,fun b ob q _=>⟨ob,k b ob q⟩,fun _ _ q=>q,fun _ _ _ q=>q,fun _ ps q=>⟨#[],by rw[q];simp⟩⟩
theorem Un.refl:Un fs ex H H h h:=Un.kept fun _ _ q=>q
theorem Un.laid(k:∀ b u,h.get? b=some u->h'.get? b=some u)(hp:h.objs.size<=a)(hn:H a=none):Un fs ex H (upd H a o) h h' where
 keep:=fun b u q _ _ _=>k b u q
 slot:=fun b u q _ _ _=>⟨u.slots,k b u q⟩
 free:=fun b u q n _=>by rw[zd9 (zcz2 (zcy5 (zcx7 q) hp))];exact n
 there:=fun b u q _=>⟨u,k b u q⟩
 tups:=fun b xs q=>by rw[zd9 (za6 q hn)];exact q
 frzs:=fun b u xs q=>by rw[zd9 (za6 q hn)];exact q
 tbls:=fun b ps q=>⟨#[],by rw[zd9 (za6 q hn),q];simp⟩
theorem Un.write(mu:Mut (H x))(he:e=x∨H e=some (.own x))(k:∀ b u,b≠e->h.get? b=some u->h'.get? b=some u)(heo:∃ u,h'.get? e=some u):Un fs ex H (upd H x o) h h':=by
 have hx:∀ b,H b=none->b≠x:=fun b n z=>by subst z;rw[n] at mu;exact mu
 have hb:∀ b,H b=none->b≠e:=fun b n z=>by
  subst z
  rcases he with r|r
  ·exact hx b n r
  ·rw[n] at r;cases r
 have hm:∀ b u,H b=some u->¬ Mut (some u)->b≠x:=fun b u q nm z=>by subst z;rw[q] at mu;exact nm mu
 refine⟨fun b u q n _ _=>k b u (hb b n) q,fun b u q n _ _=>⟨u.slots,k b u (hb b n) q⟩,fun b u q n _=>by rw[zd9 (hx b n)];exact n,fun b u q _=>?_,
  fun b xs q=>by rw[zd9 (hm b _ q fun z=>z)];exact q,fun b u xs q=>by rw[zd9 (hm b _ q fun z=>z)];exact q,fun b ps q=>⟨#[],by rw[zd9 (hm b _ q fun z=>z),q];simp⟩⟩
 by_cases hbe:b=e
 ·subst hbe;exact heo
 ·exact⟨u,k b u hbe q⟩
end
noncomputable def trk(h:Heap)(H:Hp):List Addr:=(List.range h.objs.size).filter fun a=>(H a).isSome
noncomputable def hidT(h:Heap)(H:Hp):Heap:=PySem.W.hideAll h (trk h H)
theorem zbo7(h:Heap)(H:Hp):(hidT h H).objs.size=h.objs.size:=PySem.W.hideAll_size _ _
theorem zcd8{b:Addr}{o:Obj}(e:h.get? b=some o)(n:H b=none):(hidT h H).get? b=some o:=
 PySem.W.hideAll_get _ e fun hm=>by
  have q:(H b).isSome=true:=(zdd8.mp hm).2
  rw[n] at q;simp at q
theorem zcj6{b:Addr}{o:Obj}(e:(hidT h H).get? b=some o):h.get? b=some o/\H b=none:=by
 have e':h.get? b=some o:=PySem.W.of_hideAll (trk h H) e
 refine⟨e',?_⟩
 cases q:H b with
 | none=>rfl
 | some x=>
  have hm:b∈trk h H:=zdd8.mpr ⟨zcy0.mpr (zcx7 e'),by simp[q]⟩
  have z:(hidT h H).get? b=none:=PySem.W.hideAll_none (trk h H) hm
  rw[z] at e;cases e
noncomputable def zcj8(g h:Heap)(L:Addr):List (Addr×Obj):=(List.range h.objs.size).filterMap fun a=>if a=L∨(g.get? a).isSome=true then none else (h.get? a).map fun o=>(a,o)
noncomputable def rest(g h:Heap)(L d:Addr):List (Addr×Obj):=(zcj8 g h L).filter fun p=>decide (p.1≠d)
structure Mod(K:zcw2)(mg:Str->Option Value)(base:Heap):Prop where
 kin:K.In base
 glob:base.Ns zdf9 mg
 blt:∃ mb,base.Ns builtinsNs mb/\∀ x:Str,x≠"__name__"->mb x=bootBuiltins x
 nolimit:base.NoLimit
structure Cx where
 prog:Program
 w:World
 K:zcw2
 mg:Str->Option Value
 base:Heap
 A:Around
 N:List Str
 s₀:Shared
 H₀:Hp
 env:Env
 outer:List Env
 stack:List Env
 ex:List Addr
 fn:Str->Bool
 calm:Bool
 pn:List (Addr×Obj)
 xe:Value->Shared->Prop
noncomputable def frs(l:List Env):List Addr:=l.filterMap (·.frame)
abbrev Cx.fs(X:Cx):List Addr:=frs X.outer
noncomputable def Vis(sc:Scope)(x:Str):Prop:=sc.names.lookup x=some .local∨sc.names.lookup x=some .cell∨sc.names.lookup x=some .free
noncomputable def Loc(sc:Scope)(x:Str):Prop:=sc.names.lookup x=some .local∨sc.names.lookup x=some .cell
noncomputable def Look(env:Env)(h:Heap)(m:Str->Option Value)(x:Str)(u:Value):Prop:=
 (env.kindOf x=some .local/\m x=some u)∨((env.kindOf x=some .cell∨env.kindOf x=some .free)/\∃ c,env.cells.lookup x=some c/\h.IsCell c (some u))
structure Cx.Ok(X:Cx):Prop where
 mod:Mod X.K X.mg X.base
 kind:X.env.scope.kind=.function
 glob:X.env.globals=zdf9
 blt:X.env.builtins=builtinsNs
 above:X.s₀.heap.objs.size<=X.env.locals
 inj:∀ x y c,X.env.cells.lookup x=some c->X.env.cells.lookup y=some c->x=y
 has:∀ x,(X.env.kindOf x=some .cell∨X.env.kindOf x=some .free)->∃ c,X.env.cells.lookup x=some c
 cab:∀ x c,X.fn x=true->X.env.cells.lookup x=some c->X.s₀.heap.objs.size<=c
 hd:X.calm=true->X.A.handled=none
 frames:X.A.frames=some X.stack
 stk:X.stack=X.outer∨(X.stack=X.env :: X.outer/\X.env.frame=some X.env.locals)
 exf:∀ b∈X.ex,b≠X.env.locals/\∀ x c,X.env.cells.lookup x=some c->c≠b
 bs:∀ b o,X.base.get? b=some o->X.s₀.heap.get? b=some o/\X.H₀ b=none
 bsz:X.base.objs.size<=X.s₀.heap.objs.size
 noex:∀ b o,X.base.get? b=some o->b ∉ X.ex
 exfs:∀ b∈X.ex,b ∉ X.fs
 funs:X.s₀.heap.FunFrames X.base X.outer
 frf:∀ b∈X.fs,X.H₀ b=none
structure Inv(X:Cx)(pins:List (Addr×Obj))(σ:List (Option V))(H:Hp)(s:Shared):Prop where
 ok:X.Ok
 os:s.os=X.s₀.os
 bare:AllBare s.gens
 base:Un X.fs X.ex X.H₀ H X.s₀.heap s.heap
 loc:∃ m,s.heap.Ns X.env.locals m/\∀ (i:Nat) (x:Str) (v:V),X.N[i]?=some x->σ[i]?=some (some v)->Vis X.env.scope x->∃ u,RelV v u/\Look X.env s.heap m x u
 cell:∀ x c,X.env.cells.lookup x=some c->∃ v,s.heap.IsCell c v
 free:H X.env.locals=none
 freeC:∀ x c,X.env.cells.lookup x=some c->H c=none
 pin:∀ p∈X.pn++pins,s.heap.get? p.1=some p.2/\H p.1=none/\p.1≠X.env.locals/\p.1 ∉ X.fs/\∀ v,p.2.data≠.cell v
 hok:HOk X.prog X.w H s.heap
 len:σ.length=X.N.length
section
variable {X:Cx}{pins:List (Addr×Obj)}{σ:List (Option V)}{H H':Hp}{s:Shared}{h':Heap}
theorem Cx.Ok.nofr(ok:X.Ok){b:Addr}{o:Obj}(e:X.base.get? b=some o):b ∉ X.fs:=fun hb=>by
 have:=(ok.funs.mem hb).1
 rw[e] at this;cases this
theorem Inv.bs(I:Inv X pins σ H s):∀ b o,X.base.get? b=some o->s.heap.get? b=some o/\H b=none:=fun b o e=>
 ⟨I.base.keep b o (I.ok.bs b o e).1 (I.ok.bs b o e).2 (I.ok.nofr e) (I.ok.noex b o e),I.base.free b o (I.ok.bs b o e).1 (I.ok.bs b o e).2 (I.ok.noex b o e)⟩
theorem Inv.bk(I:Inv X pins σ H s):∀ b o,X.base.get? b=some o->s.heap.get? b=some o:=fun b o e=>(I.bs b o e).1
theorem Inv.mod(I:Inv X pins σ H s):Mod X.K X.mg X.base:=I.ok.mod
theorem Inv.kIn(I:Inv X pins σ H s):X.K.In s.heap:=I.ok.mod.kin.keeps I.bk
theorem Inv.lt(I:Inv X pins σ H s):X.env.locals<s.heap.objs.size:=let ⟨_,hn,_⟩:=I.loc;hn.lt
theorem Inv.sz(I:Inv X pins σ H s):X.s₀.heap.objs.size<=s.heap.objs.size:=zda0 I.ok.above (Nat.le_of_lt I.lt)
theorem Inv.nofs(I:Inv X pins σ H s){a:Addr}(h:s.heap.objs.size<=a):a ∉ X.fs:=fun hb=>by
 obtain⟨_,o,ho,_⟩:=I.ok.funs.mem hb
 exact absurd (zcy5 (zcx7 ho) (zda0 I.sz h)) (zde3 _)
theorem Inv.cne(I:Inv X pins σ H s):∀ x c,X.env.cells.lookup x=some c->c≠X.env.locals:=fun x c e z=>by
 obtain⟨v,o,ho,hd⟩:=I.cell x c e
 obtain⟨m,⟨o',es,ep,ho',hd',_⟩,_⟩:=I.loc
 rw[z,ho'] at ho;cases ho;rw[hd'] at hd;cases hd
theorem Inv.funs(I:Inv X pins σ H s):s.heap.FunFrames X.base X.outer:=by
 have all:∀ (l:List Env),(∀ b∈frs l,b∈X.fs)->X.s₀.heap.FunFrames X.base l->s.heap.FunFrames X.base l:=by
  intro l
  induction l with
  | nil=>intro _ _;trivial
  | cons env r ih=>
   intro hs hl
   obtain⟨hk,⟨L,o,hf,hn,ho,hd⟩,hr⟩:=hl
   have hL:L∈X.fs:=hs L (by unfold frs;rw[List.filterMap_cons,hf];exact zdc1)
   obtain⟨sl,e⟩:=I.base.slot L o ho (I.ok.frf L hL) hL fun z=>I.ok.exfs L z hL
   exact⟨hk,⟨L,_,hf,hn,e,hd⟩,ih (fun b hb=>hs b (by unfold frs;rw[List.filterMap_cons,hf];exact zda6 _ hb)) hr⟩
 exact all X.outer (fun _ hb=>hb) I.ok.funs
theorem Inv.stack(I:Inv X pins σ H s):s.heap.FunFrames X.base X.stack:=by
 rcases I.ok.stk with e|⟨e,hf⟩
 ·rw[e];exact I.funs
 ·rw[e]
  obtain⟨m,hn,_⟩:=I.loc
  refine .cons (by rw[I.ok.kind];decide) hf hn ?_ I.funs
  exact Heap.get?_none_of_le (zda0 I.ok.bsz I.ok.above)
theorem Inv.stkSub(I:Inv X pins σ H s):∀ b∈frs X.stack,b∈X.env.locals :: X.fs:=fun b hb=>by
 rcases I.ok.stk with e|⟨e,hf⟩
 ·rw[e] at hb;exact zda6 _ hb
 ·rw[e] at hb
  unfold frs at hb
  rw[List.filterMap_cons,hf] at hb
  exact hb
theorem Inv.stkFree(I:Inv X pins σ H s):∀ b∈frs X.stack,H b=none:=fun b hb=>by
 rcases zcw8.mp (I.stkSub b hb) with e|hb
 ·rw[e];exact I.free
 ·obtain⟨_,o,ho,_⟩:=I.ok.funs.mem hb
  exact I.base.free b o ho (I.ok.frf b hb) fun z=>I.ok.exfs b z hb
theorem Inv.step{g':Array GenState}{t':Nat}{d':Drawn}{ch:List Addr}(I:Inv X pins σ H s)(hch:∀ b∈ch,(b∈X.ex∨X.s₀.heap.objs.size<=b)/\b≠X.env.locals/\(∀ x c,X.env.cells.lookup x=some c->c≠b)/\∀ p∈X.pn++pins,p.1≠b)(keep:∀ b o,b≠X.env.locals->b ∉ X.fs->b ∉ ch->s.heap.get? b=some o->H b=none->h'.get? b=some o)(slot:∀ b o,b≠X.env.locals->b∈X.fs->b ∉ ch->s.heap.get? b=some o->H b=none->∃ sl,h'.get? b=some { o with slots:=sl })(free:∀ b o,b ∉ ch->s.heap.get? b=some o->H b=none->H' b=none)(there:∀ b o,b ∉ ch->s.heap.get? b=some o->∃ o',h'.get? b=some o')(tups:∀ b xs,H b=some (.tup xs)->H' b=some (.tup xs))(frzs:∀ b o u,H b=some (.frz o u)->H' b=some (.frz o u))(tbls:∀ b ps,H b=some (.tbl ps)->∃ more,H' b=some (.tbl (ps++more)))(ns:∀ m,s.heap.Ns X.env.locals m->h'.Ns X.env.locals m)(hok:HOk X.prog X.w H' h')(hg:AllBare g') :
  Inv X pins σ H' { s with heap:=h',gens:=g',drawn:=d',toks:=t' }:=by
 have neL:∀ b o,X.s₀.heap.get? b=some o->b≠X.env.locals:=fun b o e=>zcz2 (zcy5 (zcx7 e) I.ok.above)
 have neC:∀ b o,X.s₀.heap.get? b=some o->b ∉ X.ex->b ∉ ch:=fun b o e hx hb=>by
  rcases (hch b hb).1 with z|z
  ·exact hx z
  ·exact absurd (zcy5 (zcx7 e) z) (zde3 _)
 have cellK:∀ x c,X.env.cells.lookup x=some c->∀ v,s.heap.IsCell c v->h'.IsCell c v:=fun x c e v ⟨o,ho,hd⟩=>by
  have nch:c ∉ ch:=fun z=>(hch c z).2.2.1 x c e rfl
  by_cases hc:c∈X.fs
  ·obtain⟨sl,q⟩:=slot c o (I.cne x c e) hc nch ho (I.freeC x c e)
   exact⟨_,q,hd⟩
  ·exact⟨o,keep c o (I.cne x c e) hc nch ho (I.freeC x c e),hd⟩
 refine⟨I.ok,I.os,hg,⟨fun b o e n hb hx=>?_,fun b o e n hb hx=>?_,fun b o e n hx=>?_,fun b o e hx=>?_,fun b xs e=>tups b xs (I.base.tups b xs e),fun b o xs e=>frzs b o xs (I.base.frzs b o xs e),fun b ps e=>?_⟩,?_,fun x c e=>?_,?_,fun x c e=>?_,fun p hp=>?_,hok,I.len⟩
 ·exact keep b o (neL b o e) hb (neC b o e hx) (I.base.keep b o e n hb hx) (I.base.free b o e n hx)
 ·obtain⟨sl,e1⟩:=I.base.slot b o e n hb hx
  obtain⟨sl',e2⟩:=slot b _ (neL b o e) hb (neC b o e hx) e1 (I.base.free b o e n hx)
  exact⟨sl',e2⟩
 ·obtain⟨o',e1⟩:=I.base.there b o e hx
  exact free b o' (neC b o e hx) e1 (I.base.free b o e n hx)
 ·obtain⟨o',e1⟩:=I.base.there b o e hx
  exact there b o' (neC b o e hx) e1
 ·obtain⟨m1,e1⟩:=I.base.tbls b ps e
  obtain⟨m2,e2⟩:=tbls b _ e1
  exact⟨m1++m2,by rw[e2,Array.append_assoc]⟩
 ·obtain⟨m,hn,hl⟩:=I.loc
  refine⟨m,ns m hn,fun i x v e1 e2 e3=>?_⟩
  obtain⟨u,r,l⟩:=hl i x v e1 e2 e3
  refine⟨u,r,?_⟩
  rcases l with l|⟨k,c,e,z⟩
  ·exact .inl l
  ·exact .inr ⟨k,c,e,cellK x c e _ z⟩
 ·obtain⟨v,z⟩:=I.cell x c e
  exact⟨v,cellK x c e v z⟩
 ·obtain⟨m,⟨o,_,_,ho,_⟩,_⟩:=I.loc
  exact free _ o (fun z=>(hch _ z).2.1 rfl) ho I.free
 ·obtain⟨v,o,ho,hd⟩:=I.cell x c e
  exact free c o (fun z=>(hch c z).2.2.1 x c e rfl) ho (I.freeC x c e)
 ·obtain⟨e,n,ne,nf,d⟩:=I.pin p hp
  have nch:p.1 ∉ ch:=fun z=>(hch p.1 z).2.2.2 p hp rfl
  exact⟨keep p.1 p.2 ne nf nch e n,free p.1 p.2 nch e n,ne,nf,d⟩
theorem Inv.un{t':Nat}(I:Inv X pins σ H s)(u:Un X.fs [] H H' s.heap h')(hok:HOk X.prog X.w H' h'):Inv X pins σ H' { s with heap:=h',toks:=t' }:=by
 obtain⟨m,⟨o,es,ep,ho,r⟩,_⟩:=id I.loc
 obtain⟨sl,hL⟩:=u.any ho I.free (by simp)
 exact I.step (g':=s.gens) (d':=s.drawn) (ch:=[]) (fun _ z=>nomatch z) (fun b o _ hb _ e n=>u.keep b o e n hb (by simp)) (fun b o _ hb _ e n=>u.slot b o e n hb (by simp)) (fun b o _ e n=>u.free b o e n (by simp)) (fun b o _ e=>u.there b o e (by simp)) u.tups u.frzs u.tbls (fun m' hm=>by
  obtain⟨o',es',ep',ho',r'⟩:=hm
  rw[ho] at ho';cases ho'
  exact⟨_,es',ep',hL,r'⟩) hok I.bare
theorem Inv.call{g':Array GenState}{t':Nat}{d':Drawn}{ch:List Addr}(I:Inv X pins σ H s)(u:Un (frs X.stack) ch H H' s.heap h')(hok:HOk X.prog X.w H' h')(hg:AllBare g')(hch:∀ b∈ch,(b∈X.ex∨X.s₀.heap.objs.size<=b)/\b≠X.env.locals/\(∀ x c,X.env.cells.lookup x=some c->c≠b)/\∀ p∈X.pn++pins,p.1≠b) :
  Inv X pins σ H' { s with heap:=h',gens:=g',drawn:=d',toks:=t' }:=by
 obtain⟨m,⟨o,es,ep,ho,r⟩,_⟩:=id I.loc
 obtain⟨sl,hL⟩:=u.any ho I.free fun z=>(hch _ z).2.1 rfl
 exact I.step (ch:=ch) hch (fun b o hL hb hc e n=>u.keep b o e n (fun z=>(zcw8.mp (I.stkSub b z)).elim hL hb) hc) (fun b o _ _ hc e n=>u.any e n hc) (fun b o hc e n=>u.free b o e n hc) (fun b o hc e=>u.there b o e hc) u.tups u.frzs u.tbls (fun m' hm=>by
  obtain⟨o',es',ep',ho',r'⟩:=hm
  rw[ho] at ho';cases ho'
  exact⟨_,es',ep',hL,r'⟩) hok hg
theorem Inv.turned{t':Nat}{it:Addr}(I:Inv X pins σ H s)(k:∀ b o,b≠it->s.heap.get? b=some o->h'.get? b=some o)(hn:H it=none)(hL:it≠X.env.locals)(h1:it∈X.ex∨X.s₀.heap.objs.size<=it)(h2:∀ x c,X.env.cells.lookup x=some c->c≠it)(h3:∀ p∈X.pn++pins,p.1≠it):Inv X pins σ H { s with heap:=h',toks:=t' }:=by
 have nit:∀ b u,H b=some u->b≠it:=fun b u e z=>by rw[z,hn] at e;cases e
 refine I.step (g':=s.gens) (d':=s.drawn) (ch:=[it]) (fun b hb=>?_) (fun b o _ _ hc e _=>k b o (fun z=>hc (by simp[z])) e) (fun b o _ _ hc e _=>⟨o.slots,k b o (fun z=>hc (by simp[z])) e⟩) (fun _ _ _ _ n=>n)
  (fun b o hc e=>⟨o,k b o (fun z=>hc (by simp[z])) e⟩) (fun _ _ e=>e) (fun _ _ _ e=>e) (fun b ps e=>⟨#[],by rw[e];simp⟩) (fun m hm=>?_) (fun b u e=>?_) I.bare
 ·have e:b=it:=by simpa using hb
  subst e
  exact⟨h1,hL,h2,h3⟩
 ·obtain⟨o,es,ep,ho,r⟩:=hm
  exact⟨o,es,ep,k _ o (Ne.symm hL) ho,r⟩
 ·refine (I.hok b u e).stay (fun c v hc q=>k c v ?_ q) (fun _ q=>q) fun _ _ q=>q
  rcases hc with z|z
  ·rw[z];exact nit b u e
  ·exact nit c _ z
theorem Inv.tok(I:Inv X pins σ H s)(t:Nat):Inv X pins σ H { s with toks:=t }:=I.un (h':=s.heap) (t':=t) Un.refl I.hok
theorem Inv.kept{t':Nat}(I:Inv X pins σ H s)(k:∀ b u,s.heap.get? b=some u->h'.get? b=some u):Inv X pins σ H { s with heap:=h',toks:=t' }:=I.un (Un.kept k) (I.hok.kept k)
theorem Inv.laid{a:Addr}{o:HO}{t':Nat}(I:Inv X pins σ H s)(k:∀ b u,s.heap.get? b=some u->h'.get? b=some u)(hp:s.heap.objs.size<=a)(new:zi5 X.prog X.w (upd H a o) h' a o) :
  Inv X pins σ (upd H a o) { s with heap:=h',toks:=t' }:=I.un (Un.laid k hp (I.hok.fresh hp)) (I.hok.laid k hp new)
theorem Inv.write{x e:Addr}{o:HO}{t':Nat}(I:Inv X pins σ H s)(mu:Mut (H x))(he:e=x∨H e=some (.own x))(k:∀ b u,b≠e->s.heap.get? b=some u->h'.get? b=some u)(heo:∃ u,h'.get? e=some u)(new:zi5 X.prog X.w (upd H x o) h' x o):Inv X pins σ (upd H x o) { s with heap:=h',toks:=t' }:=I.un (Un.write mu he k heo) (I.hok.write mu he k heo new)
theorem Inv.pins_of{pins':List (Addr×Obj)}(I:Inv X pins σ H s)(h:∀ p∈pins',s.heap.get? p.1=some p.2/\H p.1=none/\p.1≠X.env.locals/\p.1 ∉ X.fs/\∀ v,p.2.data≠.cell v):Inv X pins' σ H s:=
 ⟨I.ok,I.os,I.bare,I.base,I.loc,I.cell,I.free,I.freeC,fun p hp=>(zcy1.mp hp).elim (fun z=>I.pin p (List.mem_append_left _ z)) (h p),I.hok,I.len⟩
theorem zbg3{N:List Str}(hN:N.Nodup){j:Nat}{x:Str}(a:N[i]?=some x)(b:N[j]?=some x):i=j:=by
 obtain⟨h1,e1⟩:=zcv9.mp a
 obtain⟨h2,e2⟩:=zcv9.mp b
 exact (List.getElem_inj hN).mp (e1.trans e2.symm)
theorem zaw2{M:Model}{A:Around}{x:Str}{v:V}{Q:Unit->Shared->Prop}(I:Inv X pins σ H s)(hN:X.N.Nodup)(hi:X.N[i]?=some x)(hx:Loc X.env.scope x)(r:RelV v u)(h:∀ s',Inv X pins (σ.set i (some v)) H s'->(∃ a,Heap.SameBut a s.heap s'.heap/\(a=X.env.locals∨X.env.cells.lookup x=some a))->Q () s')(hf:X.fn x=true∨X.env.scope.names.lookup x=some .local:=by first|exact .inl rfl|exact .inr rfl|assumption):wpAny M A (storeName X.env x u) Q E s:=by
 obtain⟨m,hn,hl⟩:=id I.loc
 have hcls:(X.env.scope.kind==.class || (X.env.scope.kind==.module&&X.env.locals != X.env.globals))=false:=by rw[I.ok.kind];rfl
 have hiσ:i<σ.length:=by rw[I.len];exact (zcv9.mp hi).1
 have cne:=I.cne
 have tracked:∀ {a:Addr}{h':Heap},(∃ o,s.heap.get? a=some o/\H a=none)->Heap.SameBut a s.heap h'->HOk X.prog X.w H h':=fun {a h'} ha hs b ob e=>by
  obtain⟨_,_,hfree⟩:=ha
  refine (I.hok b ob e).stay (fun c w' hc q=>(hs.2 c ?_).trans q) (fun _ q=>q) fun _ _ q=>q
  rintro rfl
  rcases hc with rfl|hc
  ·rw[hfree] at e;cases e
  ·rw[hfree] at hc;cases hc
 rcases hx with hk|hk
 ·refine wpAny_storeName_local hk hn (fun h' hn' hs=>?_) hcls
  obtain⟨oL,_,_,hoL,_⟩:=id hn
  refine h _ ⟨I.ok,I.os,I.bare,⟨fun b o e n hb hx=>?_,fun b o e n hb hx=>?_,I.base.free,fun b o e hx=>?_,I.base.tups,I.base.frzs,I.base.tbls⟩,⟨_,hn',fun j y v' e1 e2 e3=>?_⟩,fun y c e=>?_,I.free,I.freeC,fun p hp=>?_,tracked ⟨oL,hoL,I.free⟩ hs,by simpa using I.len⟩ ⟨_,hs,.inl rfl⟩
  ·exact (hs.2 b (zcz2 (zcy5 (zcx7 e) I.ok.above))).trans (I.base.keep b o e n hb hx)
  ·obtain⟨sl,e1⟩:=I.base.slot b o e n hb hx
   exact⟨sl,(hs.2 b (zcz2 (zcy5 (zcx7 e) I.ok.above))).trans e1⟩
  ·obtain⟨o',e1⟩:=I.base.there b o e hx
   exact⟨o',(hs.2 b (zcz2 (zcy5 (zcx7 e) I.ok.above))).trans e1⟩
  ·by_cases hj:j=i
   ·subst hj
    rw[hi] at e1;cases e1
    rw[List.getElem?_set_self hiσ] at e2
    cases e2
    exact⟨u,r,.inl ⟨hk,by simp⟩⟩
   ·rw[List.getElem?_set_ne (Ne.symm hj)] at e2
    obtain⟨u',r',q⟩:=hl j y v' e1 e2 e3
    refine⟨u',r',?_⟩
    rcases q with ⟨k,e⟩|⟨k,c,e,z⟩
    ·refine .inl ⟨k,?_⟩
     have:y≠x:=fun e=>hj (zbg3 hN e1 (e▸hi))
     simp[this,e]
    ·exact .inr ⟨k,c,e,z.sameBut hs (cne y c e)⟩
  ·obtain⟨w',z⟩:=I.cell y c e
   exact⟨w',z.sameBut hs (cne y c e)⟩
  ·obtain⟨e,n,ne,nf,d⟩:=I.pin p hp
   exact⟨(hs.2 p.1 ne).trans e,n,ne,nf,d⟩
 ·have hfn:X.fn x=true:=by
   rcases hf with z|z
   ·exact z
   ·rw[z] at hk;cases hk
  obtain⟨c,hc⟩:=I.ok.has x (.inl hk)
  obtain⟨w',z⟩:=I.cell x c hc
  refine wpAny_storeName_cell I.ok.kind hk hc z (fun h' hc' hs=>?_)
  obtain⟨oc,hoc,hocd⟩:=id z
  refine h { s with heap:=h' } ⟨I.ok,I.os,I.bare,⟨fun b o e n hb hx=>?_,fun b o e n hb hx=>?_,I.base.free,fun b o e hx=>?_,I.base.tups,I.base.frzs,I.base.tbls⟩,⟨m,hn.sameBut hs (Ne.symm (cne x c hc)),fun j y v' e1 e2 e3=>?_⟩,fun y c' e=>?_,I.free,I.freeC,fun p hp=>?_,tracked ⟨oc,hoc,I.freeC x c hc⟩ hs,by simpa using I.len⟩ ⟨c,hs,.inr hc⟩
  ·exact (hs.2 b (zcz2 (zcy5 (zcx7 e) (I.ok.cab x c hfn hc)))).trans (I.base.keep b o e n hb hx)
  ·obtain⟨sl,e1⟩:=I.base.slot b o e n hb hx
   exact⟨sl,(hs.2 b (zcz2 (zcy5 (zcx7 e) (I.ok.cab x c hfn hc)))).trans e1⟩
  ·obtain⟨o',e1⟩:=I.base.there b o e hx
   exact⟨o',(hs.2 b (zcz2 (zcy5 (zcx7 e) (I.ok.cab x c hfn hc)))).trans e1⟩
  ·by_cases hj:j=i
   ·subst hj
    rw[hi] at e1;cases e1
    rw[List.getElem?_set_self hiσ] at e2
    cases e2
    exact⟨u,r,.inr ⟨.inl hk,c,hc,hc'⟩⟩
   ·rw[List.getElem?_set_ne (Ne.symm hj)] at e2
    obtain⟨u',r',q⟩:=hl j y v' e1 e2 e3
    refine⟨u',r',?_⟩
    rcases q with q|⟨k,c',e,z'⟩
    ·exact .inl q
    ·refine .inr ⟨k,c',e,z'.sameBut hs ?_⟩
     rintro rfl
     exact hj (zbg3 hN e1 (I.ok.inj _ _ _ e hc▸hi))
  ·by_cases hcc:c'=c
   ·subst hcc;exact⟨_,hc'⟩
   ·obtain⟨w2,z2⟩:=I.cell y c' e
    exact⟨w2,z2.sameBut hs hcc⟩
  ·obtain⟨e,n,ne,nf,d⟩:=I.pin p hp
   refine⟨(hs.2 p.1 ?_).trans e,n,ne,nf,d⟩
   intro q
   rw[q,hoc] at e
   have q':oc=p.2:=Option.some.inj e
   exact d w' (by rw[← q'];exact hocd)
theorem zag4{M:Model}{A:Around}{x:Str}{v:V}{Q:Unit->Shared->Prop}(I:Inv X pins σ H s)(hN:X.N.Nodup)(hi:X.N[i]?=some x)(hx:Loc X.env.scope x)(r:RelV v u)(h:∀ s',Inv X pins (σ.set i (some v)) H s'->Q () s')(hf:X.fn x=true∨X.env.scope.names.lookup x=some .local:=by first|exact .inl rfl|exact .inr rfl|assumption):wpAny M A (storeName X.env x u) Q E s:=
 zaw2 I hN hi hx r (fun s' I' _=>h s' I') hf
end
abbrev XK:=Value->Option Addr->Hp->Prop
abbrev St:=List (Option V)
variable {σ:St}
abbrev VK:=V->Hp->Prop
abbrev TE:=St->Hp->VK->Prop
abbrev TT:=St->Hp->(Bool->Hp->Prop)->Prop
abbrev TA:=St->Hp->(List V->Hp->Prop)->Prop
structure Ends where
 nx:St->Hp->Prop
 rt:VK
 bk:St->Hp->Prop:=fun _ _=>False
 ct:St->Hp->Prop:=fun _ _=>False
abbrev TS:=Ends->St->Hp->Prop
noncomputable def EP(X:Cx)(pins:List (Addr×Obj))(σ:St)(Q:VK)(u:Value)(s':Shared):Prop:=∃ v H',Inv X pins σ H' s'/\RelV v u/\Q v H'
noncomputable def TP(X:Cx)(pins:List (Addr×Obj))(σ:St)(Q:Bool->Hp->Prop)(b:Bool)(s':Shared):Prop:=∃ H',Inv X pins σ H' s'/\Q b H'
noncomputable def AP(X:Cx)(pins:List (Addr×Obj))(σ:St)(Q:List V->Hp->Prop)(us:List Value)(s':Shared):Prop:=∃ vs H',Inv X pins σ H' s'/\Vals vs us/\Q vs H'
noncomputable def SP(X:Cx)(pins:List (Addr×Obj))(D:Ends)(f:Flow)(s':Shared):Prop:=
 match f with
 | .next=>∃ σ' H',Inv X pins σ' H' s'/\D.nx σ' H'
 | .brk=>∃ σ' H',Inv X pins σ' H' s'/\D.bk σ' H'
 | .cont=>∃ σ' H',Inv X pins σ' H' s'/\D.ct σ' H'
 | .ret u=>∃ v σ' H',Inv X pins σ' H' s'/\RelV v u/\D.rt v H'
noncomputable def PE(X:Cx)(e:Expr)(t:TE):Prop:=
 ∀ (pins:List (Addr×Obj)) (s:Shared) (σ:St) (H:Hp) (Q:VK),Inv X pins σ H s->t σ H Q->wpAny (model X.prog X.w) X.A (eval e X.env) (EP X pins σ Q) X.xe s
noncomputable def PT(X:Cx)(e:Expr)(t:TT):Prop:=
 ∀ (pins:List (Addr×Obj)) (s:Shared) (σ:St) (H:Hp) (Q:Bool->Hp->Prop),Inv X pins σ H s->t σ H Q->wpAny (model X.prog X.w) X.A (isTrue e X.env (eval e X.env)) (TP X pins σ Q) X.xe s
noncomputable def PW(X:Cx)(e:Expr)(t:TT):Prop:=
 ∀ (whole:Sem Value) (pins:List (Addr×Obj)) (s:Shared) (σ:St) (H:Hp) (Q:Bool->Hp->Prop),Inv X pins σ H s->t σ H Q->wpAny (model X.prog X.w) X.A (isTrue e X.env whole) (TP X pins σ Q) X.xe s
theorem PW.pt{X:Cx}{e:Expr}{t:TT}(h:PW X e t):PT X e t:=h _
noncomputable def PA(X:Cx)(es:List Expr)(t:TA):Prop:=
 ∀ (pos:Pos) (pins:List (Addr×Obj)) (s:Shared) (σ:St) (H:Hp) (Q:List V->Hp->Prop),Inv X pins σ H s->t σ H Q->wpAny (model X.prog X.w) X.A (spliced (backTo pos (starEach es X.env))) (AP X pins σ Q) X.xe s
noncomputable def PS(X:Cx)(st:Stmt)(t:TS):Prop:=
 ∀ (pins:List (Addr×Obj)) (s:Shared) (σ:St) (H:Hp) (D:Ends),Inv X pins σ H s->t D σ H->wpAny (model X.prog X.w) X.A (exec st X.env) (SP X pins D) X.xe s
noncomputable def PSs(X:Cx)(st:List Stmt)(t:TS):Prop:=
 ∀ (pins:List (Addr×Obj)) (s:Shared) (σ:St) (H:Hp) (D:Ends),Inv X pins σ H s->t D σ H->wpAny (model X.prog X.w) X.A (execs st X.env) (SP X pins D) X.xe s
theorem thn{α:Type}{t:Sem α}{Q Q':α->Shared->Prop}{M:Model}{A:Around}(h:wpAny M A t Q E s)(hQ:∀ a s,Q a s->Q' a s):wpAny M A t Q' E s:=wpAny_mono h hQ fun _ _ x=>x
section
variable {X:Cx}
theorem bin{a b:Expr}{ta tb:TE}(ha:PE X a ta)(hb:PE X b tb){R:V->V->Hp->Prop}(I:Inv X pins σ H s)(h:ta σ H fun x H1=>tb σ H1 fun y H2=>R x y H2){α:Type}{Q:α->Shared->Prop}{f:Value->Value->Sem α}(hf:∀ v u s2 x y H2,Inv X pins σ H2 s2->RelV x v->RelV y u->R x y H2->wpAny (model X.prog X.w) X.A (f v u) Q X.xe s2) :
  wpAny (model X.prog X.w) X.A (eval a X.env) (fun v s₁=>wpAny (model X.prog X.w) X.A (eval b X.env) (fun u s₂=>wpAny (model X.prog X.w) X.A (f v u) Q X.xe s₂) X.xe s₁) X.xe s:=by
 refine thn (ha pins s σ H _ I h) fun v s1 ⟨x,H1,I1,r1,q1⟩=>?_
 refine thn (hb pins s1 σ H1 _ I1 q1) fun u s2 ⟨y,H2,I2,r2,q2⟩=>?_
 exact hf v u s2 x y H2 I2 r1 r2 q2
noncomputable def tVar(i:Nat):TE:=fun σ H Q=>∃ v,σ[i]?=some (some v)/\Q v H
def tC(v:V):TE:=fun _ H Q=>Q v H
theorem zcj0{x:Str}(hN:X.N[i]?=some x)(hv:Vis X.env.scope x)(hd:(x==("__debug__":Str))=false:=by decide)(hcd:(x==("__classdict__":Str))=false:=by decide):PE X (.Name x pos) (tVar i):=by
 intro pins s σ H Q I h
 obtain⟨v,e,h⟩:=h
 obtain⟨m,hn,hl⟩:=I.loc
 obtain⟨u,r,l⟩:=hl i x v hN e hv
 have fin:EP X pins σ Q u s:=⟨v,H,I,r,h⟩
 rcases l with ⟨hk,hm⟩|⟨hk,c,hc,hcell⟩
 ·exact wpAny_Name (wpAny_loadName_local I.ok.kind hk hn hm fin) hd
 ·rcases hk with hk|hk
  ·exact wpAny_Name (wpAny_loadName_cell I.ok.kind hk hc hcell fin) hd
  ·exact wpAny_Name (wpAny_loadName_free I.ok.kind hk hc hcell fin hcd) hd
theorem za2{i j pos}:PE X (.Constant (.int i) j pos) (tC (.int i)):=fun _ _ _ H _ I h=>wpAny_Constant_int ⟨.int i,H,I.tok _,⟨_,rfl⟩,h⟩
theorem zs9{b j pos}:PE X (.Constant (.bool b) j pos) (tC (.bl b)):=fun _ _ _ H _ I h=>Constant_bool ⟨.bl b,H,I,rfl,h⟩
theorem zv0{j pos}:PE X (.Constant .none j pos) (tC .non):=fun _ _ _ H _ I h=>Constant_none ⟨.non,H,I,rfl,h⟩
theorem ze1{x j pos}:PE X (.Constant (.str x) j pos) (tC (.str x)):=fun _ _ _ H _ I h=>Calls.Constant_str ⟨.str x,H,I.tok _,⟨_,rfl⟩,h⟩
noncomputable def Gl(X:Cx)(x:Str):Prop:=X.env.kindOf x=some .globalImplicit
theorem zbu5{x:Str}{Q:Value->Shared->Prop}(I:Inv X pins σ H s)(hg:Gl X x)(hm:X.mg x=some u)(h:Q u s)(hd:(x==("__debug__":Str))=false:=by decide):wpAny (model X.prog X.w) X.A (eval (.Name x pos) X.env) Q E s:=
 Calls.Name_function_global I.ok.kind hg (Calls.loadGlobal_global (by rw[I.ok.glob];exact I.mod.glob.keeps I.bk) hm h) hd
theorem zx7{x:Str}{Q:Value->Shared->Prop}(I:Inv X pins σ H s)(hg:Gl X x)(hm:X.mg x=none)(hv:bootBuiltins x=some u)(h:Q u s)(hn:x≠"__name__":=by decide)(hd:(x==("__debug__":Str))=false:=by decide):wpAny (model X.prog X.w) X.A (eval (.Name x pos) X.env) Q E s:=by
 obtain⟨mb,h1,h2⟩:=I.mod.blt
 exact Calls.Name_function_global I.ok.kind hg (Calls.loadGlobal_builtin (by rw[I.ok.glob];exact I.mod.glob.keeps I.bk) hm (by rw[I.ok.blt];exact h1.keeps I.bk) ((h2 x hn).trans hv) h) hd
theorem zbb4{x:Str}{v:V}(hg:Gl X x)(hm:X.mg x=some u)(r:RelV v u)(hd:(x==("__debug__":Str))=false:=by decide):PE X (.Name x pos) (tC v):=
 fun _ _ _ H _ I h=>zbu5 I hg hm ⟨v,H,I,r,h⟩ hd
theorem zcq1{x:Str}{v:V}(hg:Gl X x)(hm:X.mg x=none)(hv:bootBuiltins x=some u)(r:RelV v u)(hn:x≠"__name__":=by decide)(hd:(x==("__debug__":Str))=false:=by decide):PE X (.Name x pos) (tC v):=
 fun _ _ _ H _ I h=>zx7 I hg hm hv ⟨v,H,I,r,h⟩ hn hd
variable {a b:Expr}{ta tb:TE}{pos:Pos}
variable {tA tB':TT}{rest:List Expr}
noncomputable def tAnd(t u:TT):TT:=fun σ H Q=>t σ H fun c H1=>if c=true then u σ H1 Q else Q false H1
noncomputable def tOr(t u:TT):TT:=fun σ H Q=>t σ H fun c H1=>if c=true then Q true H1 else u σ H1 Q
noncomputable def tNot(t:TT):TT:=fun σ H Q=>t σ H fun c H1=>Q (!c) H1
theorem zo1(ha:PT X a tA):PW X (.BoolOp .And [a] pos) tA:=by
 intro wh pins s σ H Q I h
 refine isTrue_and (thn (ha pins s σ H Q I h) fun c s1 e=>?_)
 cases c with
 | true=>exact isTrue_and_nil e
 | false=>exact e
theorem zo4(ha:PT X a tA):PW X (.BoolOp .Or [a] pos) tA:=by
 intro wh pins s σ H Q I h
 refine isTrue_or (thn (ha pins s σ H Q I h) fun c s1 e=>?_)
 cases c with
 | false=>exact isTrue_or_nil e
 | true=>exact e
theorem pw_and(ha:PT X a tA)(hb:PW X (.BoolOp .And (b :: rest) pos) tB'):PW X (.BoolOp .And (a :: b :: rest) pos) (tAnd tA tB'):=by
 intro wh pins s σ H Q I h
 refine isTrue_and (thn (ha pins s σ H _ I h) fun c s1 ⟨H1,I1,q1⟩=>?_)
 cases c with
 | true=>exact hb wh pins s1 σ H1 Q I1 q1
 | false=>exact⟨H1,I1,q1⟩
theorem pw_or(ha:PT X a tA)(hb:PW X (.BoolOp .Or (b :: rest) pos) tB'):PW X (.BoolOp .Or (a :: b :: rest) pos) (tOr tA tB'):=by
 intro wh pins s σ H Q I h
 refine isTrue_or (thn (ha pins s σ H _ I h) fun c s1 ⟨H1,I1,q1⟩=>?_)
 cases c with
 | true=>exact⟨H1,I1,q1⟩
 | false=>exact hb wh pins s1 σ H1 Q I1 q1
theorem zh6(ha:PT X a tA):PT X (.UnaryOp .Not a pos) (tNot tA):=by
 intro pins s σ H Q I h
 exact isTrue_not (ha pins s σ H (fun c H1=>Q (!c) H1) I h)
theorem zr7{op}{t:TE}(h:PE X a t):PE X (.BoolOp op [a] pos) t:=fun pins s σ H Q I hw=>BoolOp_one (h pins s σ H Q I hw)
noncomputable def tIf(t:TT)(ta tb:TE):TE:=fun σ H Q=>t σ H fun c H1=>if c=true then ta σ H1 Q else tb σ H1 Q
theorem zcc7{c:Expr}(hc:PT X c tA)(ha:PE X a ta)(hb:PE X b tb):PE X (.IfExp c a b pos) (tIf tA ta tb):=by
 intro pins s σ H Q I h
 refine wpAny_IfExp (thn (hc pins s σ H _ I h) fun d s1 ⟨H1,I1,q1⟩=>?_)
 cases d with
 | true=>exact ha pins s1 σ H1 Q I1 q1
 | false=>exact hb pins s1 σ H1 Q I1 q1
end
noncomputable def SqL(K:zcw2)(H:Hp)(a:Addr)(xs:List V):Prop:=
 Rd H a (.lst xs) ∨
  ∃ (o:Obj) (its:Array Value) (n:Nat),K.lookup a=some o/\o.cls=.type "list"/\o.dict=none/\o.data=.seq its n/\its.size<=sizeLine/\Vals xs its.toList
noncomputable def SqT(K:zcw2)(H:Hp)(a:Addr)(xs:List V):Prop:=
 Rd H a (.tup xs) ∨
  ∃ (o:Obj) (its:Array Value) (n:Nat),K.lookup a=some o/\o.cls=.type "tuple"/\o.data=.seq its n/\its.size<=sizeLine/\Vals xs its.toList
noncomputable def absV:Value->Option V
 | .none=>some .non
 | .bool b=>some (.bl b)
 | .int i _=>some (.int i)
 | .str x _=>some (.str x)
 | .bytes b _=>some (.byt b)
 | .float b _=>some (.flt b)
 | .ref a=>some (.ref a)
 | .type n=>some (.ty n)
 | _=>none
theorem RelV.abs{x:V}(r:RelV x u):absV u=some x:=by
 cases x with
 | non=>cases r;rfl
 | bl _=>cases r;rfl
 | int _=>obtain⟨t,rfl⟩:=r;rfl
 | str _=>obtain⟨t,rfl⟩:=r;rfl
 | byt _=>obtain⟨t,rfl⟩:=r;rfl
 | flt _=>obtain⟨t,rfl⟩:=r;rfl
 | ref _=>cases r;rfl
 | ty _=>cases r;rfl
theorem RelV.inj{x y:V}{u:Value}(r:RelV x u)(q:RelV y u):x=y:=Option.some.inj (r.abs.symm.trans q.abs)
theorem Vals.inj:∀ {xs ys:List V}{us:List Value},Vals xs us->Vals ys us->xs=ys
 | _,_,_,.nil,.nil=>rfl
 | _,_,_,.cons r t,.cons r' t'=>by rw[r.inj r',Vals.inj t t']
section
variable {X:Cx}{pins:List (Addr×Obj)}{σ:St}{H:Hp}{s:Shared}{a:Addr}{xs ys:List V}
theorem SqL.of{K:zcw2}(h:H a=some (.lst xs)):SqL K H a xs:=.inl (.inl h)
theorem SqT.of{K:zcw2}(h:H a=some (.tup xs)):SqT K H a xs:=.inl (.inl h)
theorem Inv.list(I:Inv X pins σ H s)(h:SqL X.K H a xs):∃ its:List Value,Vals xs its/\PlainL s.heap a its.toArray/\xs.length<=sizeLine:=by
 rcases h with h|⟨o,its,n,hk,hc,hd,hs,hz,r⟩
 ·obtain⟨z,its,n,r,e⟩:=h.ok I.hok
  exact⟨its,r,⟨_,n,e,rfl,rfl,rfl⟩,z⟩
 ·refine⟨its.toList,r,⟨o,n,I.kIn a o hk,hc,hd,by simpa using hs⟩,?_⟩
  have e:=r.length
  simp only[zcx1] at e
  omega
theorem Inv.tuple(I:Inv X pins σ H s)(h:SqT X.K H a xs):∃ its:List Value,Vals xs its/\IsTup s.heap a its.toArray/\xs.length<=sizeLine:=by
 rcases h with h|⟨o,its,n,hk,hc,hs,hz,r⟩
 ·obtain⟨z,its,r,p⟩:=h.ok I.hok
  exact⟨its,r,p,z⟩
 ·refine⟨its.toList,r,⟨o,I.kIn a o hk,hc,n,by simpa using hs⟩,?_⟩
  have e:=r.length
  simp only[zcx1] at e
  omega
theorem Inv.list_inj(I:Inv X pins σ H s)(h:SqL X.K H a xs)(h':SqL X.K H a ys):xs=ys:=by
 obtain⟨its,r,⟨o,n,e,_,_,d⟩,_⟩:=I.list h
 obtain⟨its',r',⟨o',n',e',_,_,d'⟩,_⟩:=I.list h'
 rw[e] at e';cases e'
 rw[d] at d'
 injection d' with d1 _
 have:its=its':=by simpa using congrArg Array.toList d1
 subst this
 exact r.inj r'
theorem Inv.tuple_inj(I:Inv X pins σ H s)(h:SqT X.K H a xs)(h':SqT X.K H a ys):xs=ys:=by
 obtain⟨its,r,⟨o,e,_,n,d⟩,_⟩:=I.tuple h
 obtain⟨its',r',⟨o',e',_,n',d'⟩,_⟩:=I.tuple h'
 rw[e] at e';cases e'
 rw[d] at d'
 injection d' with d1 _
 have:its=its':=by simpa using congrArg Array.toList d1
 subst this
 exact r.inj r'
end
noncomputable abbrev Cx.wish(X:Cx)(E:Value->Shared->Prop):Cx:={ X with xe:=E }
abbrev Cx.nox(X:Cx):Cx:=X.wish fun _ _=>False
theorem Cx.Ok.wish{X:Cx}(ok:X.Ok)(E:Value->Shared->Prop):(X.wish E).Ok:=
 ⟨ok.mod,ok.kind,ok.glob,ok.blt,ok.above,ok.inj,ok.has,ok.cab,ok.hd,ok.frames,ok.stk,ok.exf,ok.bs,ok.bsz,ok.noex,ok.exfs,ok.funs,ok.frf⟩
theorem Cx.Ok.unwish{X:Cx}(ok:(X.wish E).Ok):X.Ok:=
 ⟨ok.mod,ok.kind,ok.glob,ok.blt,ok.above,ok.inj,ok.has,ok.cab,ok.hd,ok.frames,ok.stk,ok.exf,ok.bs,ok.bsz,ok.noex,ok.exfs,ok.funs,ok.frf⟩
section
variable {X:Cx}{pins:List (Addr×Obj)}{σ:St}{H:Hp}{s:Shared}{E:Value->Shared->Prop}
theorem Inv.wish(I:Inv X pins σ H s)(E:Value->Shared->Prop):Inv (X.wish E) pins σ H s:=⟨I.ok.wish E,I.os,I.bare,I.base,I.loc,I.cell,I.free,I.freeC,I.pin,I.hok,I.len⟩
theorem Inv.unwish(I:Inv (X.wish E) pins σ H s):Inv X pins σ H s:=⟨I.ok.unwish,I.os,I.bare,I.base,I.loc,I.cell,I.free,I.freeC,I.pin,I.hok,I.len⟩
theorem SP.unwish{D:Ends}{f:Flow}{s':Shared}(h:SP (X.wish E) pins D f s'):SP X pins D f s':=by
 cases f with
 | next=>obtain⟨σ',H',I,q⟩:=h;exact⟨σ',H',I.unwish,q⟩
 | brk=>obtain⟨σ',H',I,q⟩:=h;exact⟨σ',H',I.unwish,q⟩
 | cont=>obtain⟨σ',H',I,q⟩:=h;exact⟨σ',H',I.unwish,q⟩
 | ret u=>obtain⟨v,σ',H',I,r,q⟩:=h;exact⟨v,σ',H',I.unwish,r,q⟩
theorem PSs.nox{st:List Stmt}{t:TS}(h:PSs X.nox st t):PSs X st t:=fun pins s σ H D I hw=>
 wpAny_mono (h pins s σ H D (I.wish _) hw) (fun _ _ q=>q.unwish) fun _ _ z=>False.elim z
end
section
variable {X:Cx}{st:Stmt}{rest:List Stmt}{t u:TS}{e:Expr}{te:TE}{pos:Pos}
def tNext:TS:=fun D σ H=>D.nx σ H
noncomputable def tSeq(t u:TS):TS:=fun D σ H=>t { D with nx:=u D } σ H
theorem zb2:PSs X [] tNext:=fun _ _ σ H _ I h=>wpAny_execs_nil ⟨σ,H,I,h⟩
theorem za3(h1:PS X st t)(h2:PSs X rest u):PSs X (st :: rest) (tSeq t u):=by
 intro pins s σ H D I h
 refine wpAny_execs_cons (thn (h1 pins s σ H { D with nx:=u D } I h) fun f s1 q=>?_)
 cases f with
 | next=>
  obtain⟨σ',H',I',q⟩:=q
  exact h2 pins s1 σ' H' D I' q
 | ret v=>exact q
 | brk=>exact q
 | cont=>exact q
theorem za4(h1:PS X st t):PSs X [st] t:=by
 intro pins s σ H D I h
 refine wpAny_execs_cons (thn (h1 pins s σ H D I h) fun f s1 q=>?_)
 cases f with
 | next=>exact wpAny_execs_nil q
 | ret v=>exact q
 | brk=>exact q
 | cont=>exact q
theorem Inv.quiet(I:Inv X pins σ H s):interactive X.env=false:=by simp[interactive,I.ok.kind]
noncomputable def tDrop(te:TE):TS:=fun D σ H=>te σ H fun _ H1=>D.nx σ H1
theorem zz2(he:PE X e te)(hs:swapsWith e none pos.line X.env=pure false:=by rfl):PS X (.Expr e pos) (tDrop te):=by
 intro pins s σ H D I h
 exact wpAny_Expr_any (thn (he pins s σ H _ I h) fun v s1 ⟨x,H1,I1,r1,q1⟩=>⟨σ,H1,I1,q1⟩) I.quiet hs
def tRet(te:TE):TS:=fun D σ H=>te σ H D.rt
theorem za9(he:PE X e te):PS X (.Return (some e) pos) (tRet te):=by
 intro pins s σ H D I h
 exact wpAny_Return_some (thn (he pins s σ H _ I h) fun v s1 ⟨x,H1,I1,r1,q1⟩=>⟨x,σ,H1,I1,r1,q1⟩)
noncomputable def tIfS(c:TT)(t u:TS):TS:=fun D σ H=>c σ H fun b H1=>if b=true then t D σ H1 else u D σ H1
theorem ps_if{c:Expr}{a b:List Stmt}{tc:TT}(hc:PT X c tc)(ha:PSs X a t)(hb:PSs X b u):PS X (.If c a b pos) (tIfS tc t u):=by
 intro pins s σ H D I h
 refine wpAny_If (thn (hc pins s σ H _ I h) fun d s1 ⟨H1,I1,q1⟩=>?_)
 cases d with
 | true=>exact ha pins s1 σ H1 D I1 q1
 | false=>exact hb pins s1 σ H1 D I1 q1
def tNever:TS:=fun _ _ _=>False
theorem zas5:PS X st tNever:=fun _ _ _ _ _ _ h=>h.elim
end
abbrev TG:=V->St->Hp->(St->Hp->Prop)->Prop
noncomputable abbrev TGs:=List V->St->Hp->(St->Hp->Prop)->Prop
noncomputable def PG(X:Cx)(target:Expr)(t:TG):Prop:=
 ∀ (pins:List (Addr×Obj)) (s:Shared) (σ:St) (H:Hp) (v:V) (u:Value) (Q:St->Hp->Prop),Inv X pins σ H s->RelV v u->t v σ H Q ->
  wpAny (model X.prog X.w) X.A (assign target X.env u) (fun _ s'=>∃ σ' H',Inv X pins σ' H' s'/\Q σ' H') X.xe s
noncomputable def PGs(X:Cx)(ts:List Expr)(t:TGs):Prop:=
 ∀ (pins:List (Addr×Obj)) (s:Shared) (σ:St) (H:Hp) (vs:List V) (us:List Value) (Q:St->Hp->Prop),Inv X pins σ H s->Vals vs us->t vs σ H Q ->
  wpAny (model X.prog X.w) X.A (assignInOrder ((assignEach ts X.env).map (·.2)) us) (fun _ s'=>∃ σ' H',Inv X pins σ' H' s'/\Q σ' H') X.xe s
abbrev TSet:=V->V->V->Hp->(Hp->Prop)->Prop
noncomputable def PSet(X:Cx)(t:TSet):Prop:=
 ∀ (pins:List (Addr×Obj)) (s:Shared) (σ:St) (H:Hp) (o i v:V) (ov iv u:Value) (Q:Hp->Prop),Inv X pins σ H s->RelV o ov->RelV i iv->RelV v u->t o i v H Q ->
  wpAny (model X.prog X.w) X.A (setItem ov iv u) (fun _ s'=>∃ H',Inv X pins σ H' s'/\Q H') X.xe s
section
variable {X:Cx}{pos:Pos}
noncomputable def gName(i:Nat):TG:=fun v σ H Q=>Q (σ.set i (some v)) H
theorem za5{x:Str}(hN:X.N.Nodup)(hi:X.N[i]?=some x)(hx:Loc X.env.scope x)(hf:X.fn x=true∨X.env.scope.names.lookup x=some .local:=by first|exact .inl rfl|exact .inr rfl|assumption):PG X (.Name x pos) (gName i):=by
 intro pins s σ H v u Q I r h
 exact wpAny_assign_Name (zag4 I hN hi hx r (fun s' I'=>⟨_,H,I',h⟩) hf)
def gNil:TGs:=fun vs σ H Q=>vs=[]/\Q σ H
noncomputable def gCons(t:TG)(u:TGs):TGs:=fun vs σ H Q=>∃ v r,vs=v :: r/\t v σ H fun σ' H'=>u r σ' H' Q
theorem zcm8:PGs X [] gNil:=by
 intro pins s σ H vs us Q I r h
 obtain⟨e,h⟩:=h
 subst e
 cases r
 exact assignInOrder_nil ⟨σ,H,I,h⟩
theorem zcf4{e:Expr}{es:List Expr}{t:TG}{u:TGs}(h1:PG X e t)(h2:PGs X es u)(hs:(assignEach (e :: es) X.env).map (·.2)=assign e X.env :: (assignEach es X.env).map (·.2):=by rfl):PGs X (e :: es) (gCons t u):=by
 intro pins s σ H vs us Q I r h
 obtain⟨v,vr,e1,h⟩:=h
 subst e1
 cases r with
 | cons r rr=>
  rw[hs]
  refine assignInOrder_cons (thn (h1 pins s σ H _ _ _ I r h) fun _ s1 ⟨σ1,H1,I1,q1⟩=>?_)
  exact h2 pins s1 σ1 H1 _ _ Q I1 rr q1
noncomputable def gTup(K:zcw2)(n:Nat)(t:TGs):TG:=fun v σ H Q=>∃ a xs,v=.ref a/\SqT K H a xs/\xs.length=n/\t xs σ H Q
theorem pg_tup{es:List Expr}{k:Nat}{t:TGs}{n:Nat}(hc:X.calm=true)(h:PGs X es t)(hn:(assignEach es X.env).length=n:=by rfl)(hst:(assignEach es X.env).findIdx? (·.1)=none:=by rfl):PG X (.Tuple es k pos) (gTup X.K n t):=by
 intro pins s σ H v u Q I r hw
 obtain⟨a,xs,e1,hq,hl,hw⟩:=hw
 subst e1
 cases r
 obtain⟨its,rv,ht,hz⟩:=I.tuple hq
 refine assign_Tuple_tuple (I.ok.hd hc) ht (by simp[hn,← hl,rv.length]) hst fun h' hx=>?_
 have I1:Inv X pins σ H { s with heap:=h' }:=I.kept (t':=s.toks) fun b o e=>hx b o (zcz2 (zcx7 e)) e
 exact h pins _ σ H xs _ Q I1 (by simpa using rv) hw
noncomputable def gSub(to ti:TE)(t:TSet):TG:=fun v σ H Q=>to σ H fun o H1=>ti σ H1 fun i H2=>t o i v H2 fun H3=>Q σ H3
theorem zam1{o i:Expr}{to ti:TE}{t:TSet}(ho:PE X o to)(hi:PE X i ti)(hs:PSet X t)(ha:∀ v,assign (.Subscript o i pos) X.env v=(do
   let ov ← holding [v] (eval o X.env)
   let iv ← holding [v,ov] (eval i X.env)
   standAt pos
   holding [v,ov,iv] (setItem ov iv v)
   release [v,ov,iv] []):=by intro _;rfl):PG X (.Subscript o i pos) (gSub to ti t):=by
 intro pins s σ H v u Q I r h
 rw[ha]
 refine zdf3 (zdf8 (thn (ho pins s σ H _ I h) fun ov s1 ⟨x,H1,I1,r1,q1⟩=>?_))
 refine zdf3 (zdf8 (thn (hi pins s1 σ H1 _ I1 q1) fun iv s2 ⟨y,H2,I2,r2,q2⟩=>?_))
 refine zdf3 (wpAny_standAt (zdf3 (zdf8 (thn (hs pins s2 σ H2 x y v ov iv u _ I2 r1 r2 r q2) fun _ s3 ⟨H3,I3,q3⟩=>?_))))
 exact wpAny_release ⟨σ,H3,I3,q3⟩
noncomputable def tAsg(te:TE)(g:TG):TS:=fun D σ H=>te σ H fun x H1=>g x σ H1 D.nx
theorem zu9{e:Expr}{te:TE}{g:TG}(he:PE X e te)(hg:PG X tg g)(hs:swapsWithSole [tg] e pos.line X.env=pure false:=by rfl)(hw:swappedStores [tg] e X.env=pure none:=by rfl)(h1:(assignEach [tg] X.env).map (·.2)=[assign tg X.env]:=by rfl):PS X (.Assign [tg] e pos) (tAsg te g):=by
 intro pins s σ H D I h
 refine wpAny_Assign_stores (thn (he pins s σ H _ I h) fun v s1 ⟨x,H1,I1,r1,q1⟩=>?_) hs hw
 rw[h1]
 exact thn (hg pins s1 σ H1 x v _ I1 r1 q1) fun _ s2 q=>q
theorem ps_set{x:Str}{e:Expr}{te:TE}{pos':Pos}(hN:X.N.Nodup)(hi:X.N[i]?=some x)(hx:Loc X.env.scope x)(he:PE X e te)(hs:swapsWith e (some (.Name x pos')) pos.line X.env=pure false:=by rfl)(hf:X.fn x=true∨X.env.scope.names.lookup x=some .local:=by first|exact .inl rfl|exact .inr rfl|assumption) :
  PS X (.Assign [.Name x pos'] e pos) (tAsg te (gName i)):=by
 intro pins s σ H D I h
 refine wpAny_Assign_Name (thn (he pins s σ H _ I h) fun v s1 ⟨y,H1,I1,r1,q1⟩=>?_) hs
 exact zag4 I1 hN hi hx r1 (fun s2 I2=>⟨_,H1,I2,q1⟩) hf
end
section
variable {X:Cx}{pos:Pos}
noncomputable def tWhile(c:TT)(tb:TS):TS:=fun D σ H=>∃ W:Nat->St->Hp->Prop,(∃ m,W m σ H)/\∀ m σ H,W m σ H ->
 c σ H fun b H1=>if b=true then ∃ N:St->Hp->Prop,(∀ σ' H',N σ' H'->∃ m',m'<m/\W m' σ' H')/\tb { D with nx:=N,ct:=N,bk:=D.nx } σ H1 else D.nx σ H1
theorem zce1{c:Expr}{body:List Stmt}{tc:TT}{tb:TS}(hp:PassesOwn (model X.prog X.w) X.A X.env X.xe)(hc:PT X c tc)(hb:PSs X body tb):PS X (.While c body [] pos) (tWhile tc tb):=by
 intro pins s σ H D I h
 obtain⟨W,⟨m0,w0⟩,turn⟩:=h
 refine wpAny_While (codeAny_whileLoop (fun n s'=>∃ σ' H',Inv X pins σ' H' s'/\W n σ' H') ?_ m0 ⟨σ,H,I,w0⟩)
 rintro n s1 ⟨σ1,H1,I1,w1⟩
 refine wpAny_passesOwn hp (thn (hc pins s1 σ1 H1 _ I1 (turn n σ1 H1 w1)) fun b s2 ⟨H2,I2,q2⟩=>?_)
 cases b with
 | true=>
  obtain⟨N,hN,q2⟩:=q2
  rw[if_pos rfl]
  refine wpAny_passesOwn hp (thn (hb pins s2 σ1 H2 _ I2 q2) fun f s3 q3=>?_)
  cases f with
  | next=>
   obtain⟨σ3,H3,I3,n3⟩:=q3
   obtain⟨m',hm,w3⟩:=hN σ3 H3 n3
   exact⟨m',hm,σ3,H3,I3,w3⟩
  | cont=>
   obtain⟨σ3,H3,I3,n3⟩:=q3
   obtain⟨m',hm,w3⟩:=hN σ3 H3 n3
   exact⟨m',hm,σ3,H3,I3,w3⟩
  | brk=>exact q3
  | ret v=>exact q3
 | false=>
  rw[if_neg zcw5]
  exact wpAny_execs_nil ⟨σ1,H2,I2,q2⟩
end
structure It where
 go:Nat->Hp->Prop
 yld:Nat->Hp->V->Hp->Prop
 stop:Nat->Hp->Prop
noncomputable def FpOk(X:Cx)(pins:List (Addr×Obj))(H:Hp)(b:Addr):Prop:=
 H b=none/\b≠X.env.locals/\b ∉ X.fs/\(b∈X.ex∨X.s₀.heap.objs.size<=b)/\(∀ x c,X.env.cells.lookup x=some c->c≠b)/\∀ p∈X.pn++pins,p.1≠b
theorem Inv.fpOk{X:Cx}{H':Hp}{b:Addr}(I:Inv X pins σ H s)(hb:s.heap.objs.size<=b)(hn:H' b=none):FpOk X pins H' b:=by
 refine⟨hn,Nat.ne_of_gt (zcy5 I.lt hb),I.nofs hb,.inr (zda0 I.sz hb),fun x c e z=>?_,fun p hp z=>?_⟩
 ·obtain⟨v,q⟩:=I.cell x c e
  exact absurd (zcy5 q.lt (by rw[z];exact hb)) (zde3 _)
 ·exact absurd (zcy5 (zcx7 (I.pin p hp).1) (by rw[z];exact hb)) (zde3 _)
structure Turn(P:Program)(w:World)(K:zcw2)(tg:Expr)(J:It)(fp:List Addr)(it:Addr)(tn:Nat->Heap->Prop):Prop where
 mem:it∈fp
 obj:∀ i h,tn i h->∀ b∈fp,∃ o,h.get? b=some o/\∀ v,o.data≠.cell v
 keep:∀ i h h',tn i h->(∀ b∈fp,∀ o,h.get? b=some o->h'.get? b=some o)->tn i h'
 item:∀ (X:Cx),X.prog=P->X.w=w->X.K=K->X.calm=true->∀ (i:Nat) (pins:List (Addr×Obj)) (s:Shared) (σ:St) (H:Hp) (E:Value->Shared->Prop),Inv X pins σ H s->(∀ b∈fp,FpOk X pins H b)->tn i s.heap->J.go i H ->
  wpAny (model P w) X.A (pyNext (.ref it)) (fun r s1=>∃ u,r=some u /\
   wpAny (model P w) X.A (letOwnedTupleGo tg (.ref it) u) (fun _ s2=>∃ x H',Inv X pins σ H' s2/\RelV x u/\J.yld i H x H'/\tn (i+1) s2.heap/\∀ b∈fp,H' b=none) E s1) E s
 done:∀ (X:Cx),X.prog=P->X.w=w->X.K=K->X.calm=true->∀ (i:Nat) (pins:List (Addr×Obj)) (s:Shared) (σ:St) (H:Hp) (E:Value->Shared->Prop),Inv X pins σ H s->(∀ b∈fp,FpOk X pins H b)->tn i s.heap->J.stop i H ->
  wpAny (model P w) X.A (pyNext (.ref it)) (fun r s1=>r=none/\Inv X pins σ H s1) E s
 self:∀ (A:Around) (i:Nat) (s:Shared) (Q:Value->Shared->Prop) (E:Value->Shared->Prop),tn i s.heap->Q (.ref it) s->wpAny (model P w) A (pyIter (.ref it)) Q E s
abbrev TI:=St->Hp->(It->Hp->Prop)->Prop
noncomputable def PIE(X:Cx)(pins:List (Addr×Obj))(σ:St)(tg:Expr)(R:It->Hp->Prop)(itv:Value)(s2:Shared):Prop:=
 ∃ (it:Addr) (fp:List Addr) (tn:Nat->Heap->Prop) (J:It) (H':Hp),itv=.ref it/\Inv X pins σ H' s2/\Turn X.prog X.w X.K tg J fp it tn/\tn 0 s2.heap/\(∀ b∈fp,FpOk X pins H' b)/\R J H'
noncomputable def PI(X:Cx)(tg iter:Expr)(wi:TI):Prop:=
 ∀ (pins:List (Addr×Obj)) (s:Shared) (σ:St) (H:Hp) (R:It->Hp->Prop),Inv X pins σ H s->wi σ H R ->
  wpAny (model X.prog X.w) X.A (eval iter X.env) (fun v s1=>wpAny (model X.prog X.w) X.A (pyIter v) (PIE X pins σ tg R) X.xe s1) X.xe s
theorem go_of{M:Model}{A:Around}{it:Addr}{o:Obj}{n:String}{vs:Array Value}{Q:Unit->Shared->Prop}(ho:s.heap.get? it=some o)(hc:o.cls=.type n)(hd:o.data=.fields vs)(hn:["enumerate","zip","dict_itemiterator","dict_reverseitemiterator","odict_iterator","itertools.zip_longest","itertools.pairwise"].contains n=false)(hQ:Q () s):wpAny M A (letOwnedTupleGo tg (.ref it) u) Q E s:=by
 unfold letOwnedTupleGo
 cases tg<;>first
  | exact zdf4 hQ
  | (cases u<;>first
    | exact zdf4 hQ
    | (refine zdf3 (wpAny_load ho ?_);rw[hc,hd];show wpAny M A (if (["enumerate","zip","dict_itemiterator","dict_reverseitemiterator","odict_iterator","itertools.zip_longest","itertools.pairwise"].contains n&&vs[0]?==some (rawInt _))=true then _ else _) Q E s;rw[if_neg (by intro h;rw[hn,zde9] at h;cases h)];exact zdf4 hQ))
noncomputable def Itl(K:zcw2)(a:Addr):It:=
 ⟨fun i H=>∃ xs x,SqL K H a xs/\xs[i]?=some x,fun i H x H'=>H'=H/\∀ xs,SqL K H a xs->xs[i]?=some x,fun i H=>∃ xs,SqL K H a xs/\xs.length<=i⟩
noncomputable def Itt(K:zcw2)(a:Addr):It:=
 ⟨fun i H=>∃ xs x,SqT K H a xs/\xs[i]?=some x,fun i H x H'=>H'=H/\∀ xs,SqT K H a xs->xs[i]?=some x,fun i H=>∃ xs,SqT K H a xs/\xs.length<=i⟩
noncomputable def Itr(lo:Int)(n:Nat):It:=⟨fun i _=>i<n,fun i H x H'=>H'=H/\x=.int (lo+i),fun i _=>n<=i⟩
theorem zbp4{P:Program}{w:World}{K:zcw2}(a it:Addr):Turn P w K tg (Itl K a) [it] it (fun i h=>h.IsListIter it a i) where
 mem:=by simp
 obj:=fun i h st b hb=>by
  have e:b=it:=by simpa using hb
  subst e
  obtain⟨o,e,c,d⟩:=st
  exact⟨o,e,fun v z=>by rw[d] at z;cases z⟩
 keep:=fun i h h' st k=>st.at fun o e=>k it (by simp) o e
 item:=by
  intro X hP hw hK hc i pins s σ H E I hf st hg
  subst hP hw hK
  obtain⟨xs,x,hq,hx⟩:=hg
  obtain⟨its,rv,p,hz⟩:=I.list hq
  obtain⟨u,hu,ru⟩:=rv.get hx
  obtain⟨f0,f1,f2,f3,f4,f5⟩:=hf it (by simp)
  refine wpAny_pyNext_list_item st p.isList (x:=u) (by simpa using hu) fun h' st' sb=>?_
  have I1:Inv X pins σ H { s with heap:=h' }:=I.turned (t':=s.toks) (fun b o hb e=>(sb.2 b hb).trans e) f0 f1 f3 f4 f5
  obtain⟨o,e,c,d⟩:=id st'
  exact⟨u,rfl,go_of (s:={ s with heap:=h' }) e c d (by decide) ⟨x,H,I1,ru,⟨rfl,fun ys hy=>by rw[I.list_inj hy hq];exact hx⟩,st',fun b hb=>(hf b hb).1⟩⟩
 done:=by
  intro X hP hw hK hc i pins s σ H E I hf st hg
  subst hP hw hK
  obtain⟨xs,hq,hx⟩:=hg
  obtain⟨its,rv,p,hz⟩:=I.list hq
  obtain⟨f0,f1,f2,f3,f4,f5⟩:=hf it (by simp)
  have hl:=rv.length
  exact wpAny_pyNext_list_end (I.ok.hd hc) st p.isList (by simp;omega) fun h' eb=>⟨rfl,I.turned (t':=s.toks) (fun b o hb e=>eb b o hb e) f0 f1 f3 f4 f5⟩
 self:=fun _ _ _ _ _ st h=>wpAny_pyIter_listiter st h
theorem zbl0{P:Program}{w:World}{K:zcw2}(a it:Addr):Turn P w K tg (Itt K a) [it] it (fun i h=>h.IsTupleIter it a i) where
 mem:=by simp
 obj:=fun i h st b hb=>by
  have e:b=it:=by simpa using hb
  subst e
  obtain⟨o,e,c,d⟩:=st
  exact⟨o,e,fun v z=>by rw[d] at z;cases z⟩
 keep:=fun i h h' st k=>st.at fun o e=>k it (by simp) o e
 item:=by
  intro X hP hw hK hc i pins s σ H E I hf st hg
  subst hP hw hK
  obtain⟨xs,x,hq,hx⟩:=hg
  obtain⟨its,rv,p,hz⟩:=I.tuple hq
  obtain⟨u,hu,ru⟩:=rv.get hx
  obtain⟨f0,f1,f2,f3,f4,f5⟩:=hf it (by simp)
  refine wpAny_pyNext_tuple_item st (show s.heap.IsTuple a its.toArray from p) (x:=u) (by simpa using hu) fun h' st' sb=>?_
  have I1:Inv X pins σ H { s with heap:=h' }:=I.turned (t':=s.toks) (fun b o hb e=>(sb.2 b hb).trans e) f0 f1 f3 f4 f5
  obtain⟨o,e,c,d⟩:=id st'
  exact⟨u,rfl,go_of (s:={ s with heap:=h' }) e c d (by decide) ⟨x,H,I1,ru,⟨rfl,fun ys hy=>by rw[I.tuple_inj hy hq];exact hx⟩,st',fun b hb=>(hf b hb).1⟩⟩
 done:=by
  intro X hP hw hK hc i pins s σ H E I hf st hg
  subst hP hw hK
  obtain⟨xs,hq,hx⟩:=hg
  obtain⟨its,rv,p,hz⟩:=I.tuple hq
  obtain⟨f0,f1,f2,f3,f4,f5⟩:=hf it (by simp)
  have hl:=rv.length
  exact wpAny_pyNext_tuple_end (I.ok.hd hc) st (show s.heap.IsTuple a its.toArray from p) (by simp;omega) fun h' eb=>⟨rfl,I.turned (t':=s.toks) (fun b o hb e=>eb b o hb e) f0 f1 f3 f4 f5⟩
 self:=fun _ _ _ _ _ st h=>wpAny_pyIter_tupleiter st h
theorem zbl4{P:Program}{w:World}{K:zcw2}(it:Addr)(lo:Int)(n:Nat):Turn P w K tg (Itr lo n) [it] it (fun i h=>IsRangeIter h it (lo+(i:Nat)*1) ((n:Int) - (i:Nat)) 1) where
 mem:=by simp
 obj:=fun i h st b hb=>by
  have e:b=it:=by simpa using hb
  subst e
  exact⟨_,st,fun v z=>by
   have z':Data.fields _=Data.cell v:=z
   cases z'⟩
 keep:=fun i h h' st k=>k it (by simp) _ st
 item:=by
  intro X hP hw hK hc i pins s σ H E I hf st hg
  subst hP hw hK
  obtain⟨f0,f1,f2,f3,f4,f5⟩:=hf it (by simp)
  have W:=Walks.range (prog:=X.prog) (w:=X.w) (I.ok.hd hc) it lo 1 n
  refine W.item i s _ _ hg st fun v h' tk hv st' kk=>?_
  obtain⟨t,rfl⟩:=hv
  have I1:Inv X pins σ H { s with heap:=h',toks:=tk }:=I.turned (fun b o hb e=>kk b o (by simpa using hb) e) f0 f1 f3 f4 f5
  refine⟨_,rfl,go_of (s:={ s with heap:=h',toks:=tk }) (n:="range_iterator") st' rfl rfl (by decide) ⟨.int (lo+i),H,I1,⟨t,?_⟩,⟨rfl,rfl⟩,st',fun b hb=>(hf b hb).1⟩⟩
  rw[Int.mul_one]
 done:=by
  intro X hP hw hK hc i pins s σ H E I hf st hg
  subst hP hw hK
  obtain⟨f0,f1,f2,f3,f4,f5⟩:=hf it (by simp)
  exact wpAny_pyNext_range_end (I.ok.hd hc) st (by have:n<=i:=hg;omega) fun h' eb=>⟨rfl,I.turned (t':=s.toks) (fun b o hb e=>eb b o hb e) f0 f1 f3 f4 f5⟩
 self:=fun _ _ _ _ _ st h=>wpAny_pyIter_rangeiter st h
section
variable {X:Cx}{tg:Expr}
theorem zbf6{R:It->Hp->Prop}{lo hi:Int}{t u v:Tok}{tk:Nat}(I:Inv X pins σ H s)(h1:-(2 ^ 62)<=lo)(h2:lo<2 ^ 62)(h3:-(2 ^ 62)<=hi)(h4:hi<2 ^ 62)(q:R (Itr lo (hi - lo).toNat) H):wpAny (model X.prog X.w) X.A (pyIter (.ref s.heap.objs.size)) (PIE X pins σ tg R) E { s with heap:=s.heap.push { cls:=.type "range",data:=.fields #[.int lo t,.int hi u,.int 1 v] },toks:=tk }:=by
 refine wpAny_pyIter_range (IsRange.new ..) (small_one h1 h2 h3 h4) ?_
 have I1:Inv X pins σ H { s with heap:=s.heap.push { cls:=.type "range",data:=.fields #[.int lo t,.int hi u,.int 1 v] },toks:=tk }:=I.kept fun b o e=>zcw6 _ e
 refine⟨(s.heap.push { cls:=.type "range",data:=.fields #[.int lo t,.int hi u,.int 1 v] }).objs.size,[(s.heap.push { cls:=.type "range",data:=.fields #[.int lo t,.int hi u,.int 1 v] }).objs.size],_,_,H,rfl,
  I1.kept (t':=tk) fun b o e=>zcw6 _ e,zbl4 _ lo (hi - lo).toNat,?_,fun b hb=>?_,q⟩
 ·have e1:lo+((0:Nat):Int)*1=lo:=by simp
  have e2:(((hi - lo).toNat:Nat):Int) - ((0:Nat):Int)=Builtin.Range.rangeSize lo hi 1:=by rw[rangeSize_one];split<;>omega
  show IsRangeIter _ _ (lo+((0:Nat):Int)*1) ((((hi - lo).toNat:Nat):Int) - ((0:Nat):Int)) 1
  rw[e1,e2]
  exact zcy8 _ rfl
 ·have e:b=(s.heap.push { cls:=.type "range",data:=.fields #[.int lo t,.int hi u,.int 1 v] }).objs.size:=by simpa using hb
  subst e
  exact I1.fpOk (zcx3 _) (I1.hok.fresh (zcx3 _))
noncomputable def tFor(wi:TI)(g:TG)(tb:TS):TS:=fun D σ H=>wi σ H fun J H1=>∃ W:Nat->Nat->St->Hp->Prop,(∃ m,W 0 m σ H1)/\∀ i m σ H,W i m σ H ->
 (J.stop i H/\D.nx σ H)∨(J.go i H/\∃ N:St->Hp->Prop,(∀ σ' H',N σ' H'->∃ m',m'<m/\W (i+1) m' σ' H')/\∀ x H',J.yld i H x H'->g x σ H' fun σ2 H2=>tb { D with nx:=N,ct:=N,bk:=D.nx } σ2 H2)
noncomputable def zan8(fp:List Addr)(h:Heap):List (Addr×Obj):=fp.filterMap fun b=>(h.get? b).map fun o=>(b,o)
theorem zo9{fp:List Addr}{b:Addr}{o:Obj}(hb:b∈fp)(e:h.get? b=some o):(b,o)∈zan8 fp h:=List.mem_filterMap.mpr ⟨b,hb,by rw[e];rfl⟩
theorem zbz3{fp:List Addr}{p:Addr×Obj}(hp:p∈zan8 fp h):p.1∈fp/\h.get? p.1=some p.2:=by
 obtain⟨b,hb,e⟩:=List.mem_filterMap.mp hp
 cases q:h.get? b with
 | none=>rw[q] at e;cases e
 | some o=>
  rw[q] at e
  have e':(b,o)=p:=Option.some.inj e
  subst e'
  exact⟨hb,q⟩
theorem Inv.pinned{fp:List Addr}(I:Inv X pins σ H s)(hf:∀ b∈fp,FpOk X pins H b)(ho:∀ b∈fp,∃ o,s.heap.get? b=some o/\∀ v,o.data≠.cell v):Inv X (pins++zan8 fp s.heap) σ H s:=
 I.pins_of fun p hp=>(zcy1.mp hp).elim (fun z=>I.pin p (zcz9 _ z)) fun z=>by
  obtain⟨hb,e⟩:=zbz3 z
  obtain⟨f0,f1,f2,_⟩:=hf p.1 hb
  obtain⟨o,e',d⟩:=ho p.1 hb
  rw[e] at e';cases e'
  exact⟨e,f0,f1,f2,d⟩
theorem Inv.unpinned{pl:List (Addr×Obj)}(I:Inv X (pins++pl) σ H s):Inv X pins σ H s:=I.pins_of fun p hp=>I.pin p (zcz9 _ (List.mem_append_left _ hp))
theorem ps_for{iter:Expr}{body:List Stmt}{wi:TI}{g:TG}{tb:TS}(hp:PassesOwn (model X.prog X.w) X.A X.env X.xe)(hc:X.calm=true)(hi:PI X tg iter wi)(hg:PG X tg g)(hb:PSs X body tb)(hs:∀ x,foldedSetIterable iter X.env x=pure x:=by intro _;rfl):PS X (.For tg iter body [] pos) (tFor wi g tb):=by
 intro pins s σ H D I h
 refine wpAny_For (thn (hi pins s σ H _ I h) fun v s1 h1=>thn h1 fun itv s2 h2=>?_) hs
 obtain⟨it,fp,tn,J,H2,e,I2,T,st2,f2,W,⟨m0,w0⟩,turn⟩:=h2
 subst e
 have stat:∀ {H':Hp},(∀ b∈fp,H' b=none)->∀ b∈fp,FpOk X pins H' b:=fun hn b hb=>⟨hn b hb,(f2 b hb).2⟩
 refine codeAny_forLoop_any (fun n s'=>∃ i σ' H',Inv X pins σ' H' s'/\tn i s'.heap/\(∀ b∈fp,H' b=none)/\W i n σ' H') ?_ m0 ⟨0,σ,H2,I2,st2,fun b hb=>(f2 b hb).1,w0⟩
 rintro n s3 ⟨i,σ3,H3,I3,st3,fr3,w3⟩
 rcases turn i n σ3 H3 w3 with ⟨stop,qn⟩|⟨go,N,hN,step⟩
 ·refine wpAny_passesOwn hp (thn (T.done X rfl rfl rfl hc i pins s3 σ3 H3 X.xe I3 (stat fr3) st3 stop) fun r s4 ⟨hr,I4⟩=>?_)
  subst hr
  exact wpAny_execs_nil ⟨σ3,H3,I4,qn⟩
 ·refine wpAny_passesOwn hp (thn (T.item X rfl rfl rfl hc i pins s3 σ3 H3 X.xe I3 (stat fr3) st3 go) fun r s4 ⟨u,hr,h4⟩=>?_)
  subst hr
  refine wpAny_passesOwn hp (thn h4 fun _ s5 ⟨x,H5,I5,r5,y5,st5,fr5⟩=>?_)
  have I5':=I5.pinned (stat fr5) (T.obj _ _ st5)
  refine wpAny_passesOwn hp (thn (hg _ s5 σ3 H5 x u _ I5' r5 (step x H5 y5)) fun _ s6 ⟨σ6,H6,I6,q6⟩=>?_)
  refine wpAny_passesOwn hp (thn (hb _ s6 σ6 H6 _ I6 q6) fun f s7 q7=>?_)
  have again:∀ {σ7:St}{H7:Hp},Inv X (pins++zan8 fp s5.heap) σ7 H7 s7->N σ7 H7->∃ m,m<n/\∃ i σ' H',Inv X pins σ' H' s7/\tn i s7.heap/\(∀ b∈fp,H' b=none)/\W i m σ' H':=fun {σ7 H7} I7 n7=>by
   obtain⟨m',hm,w7⟩:=hN σ7 H7 n7
   refine⟨m',hm,i+1,σ7,H7,I7.unpinned,T.keep _ _ _ st5 fun b hb o e=>(I7.pin (b,o) (zcz9 _ (zcz9 _ (zo9 hb e)))).1,fun b hb=>?_,w7⟩
   obtain⟨o,e,d⟩:=T.obj _ _ st5 b hb
   exact (I7.pin (b,o) (zcz9 _ (zcz9 _ (zo9 hb e)))).2.1
  cases f with
  | next=>obtain⟨σ7,H7,I7,n7⟩:=q7;exact again I7 n7
  | cont=>obtain⟨σ7,H7,I7,n7⟩:=q7;exact again I7 n7
  | brk=>obtain⟨σ7,H7,I7,q7⟩:=q7;exact⟨σ7,H7,I7.unpinned,q7⟩
  | ret v=>obtain⟨x7,σ7,H7,I7,r7,q7⟩:=q7;exact⟨x7,σ7,H7,I7.unpinned,r7,q7⟩
end
theorem zcb3{K:zcw2}{a:Addr}{xs:List V}{g:TG}{tb:TS}{D:Ends}(Pv:Nat->St->Hp->Prop)(h0:Pv 0 σ H)(hl:∀ i σ H,i<=xs.length->Pv i σ H->SqL K H a xs)(hs:∀ i x σ H,xs[i]?=some x->Pv i σ H->g x σ H fun σ2 H2=>tb { D with nx:=Pv (i+1),ct:=Pv (i+1),bk:=D.nx } σ2 H2)(hd:∀ σ H,Pv xs.length σ H->D.nx σ H) :
  ∃ W:Nat->Nat->St->Hp->Prop,(∃ m,W 0 m σ H)/\∀ i m σ H,W i m σ H ->
   ((Itl K a).stop i H/\D.nx σ H)∨((Itl K a).go i H/\∃ N:St->Hp->Prop,(∀ σ' H',N σ' H'->∃ m',m'<m/\W (i+1) m' σ' H')/\∀ x H',(Itl K a).yld i H x H'->g x σ H' fun σ2 H2=>tb { D with nx:=N,ct:=N,bk:=D.nx } σ2 H2):=by
 refine⟨fun i m σ H=>m=xs.length - i/\i<=xs.length/\Pv i σ H,⟨xs.length,by simp,zcy3 _,h0⟩,?_⟩
 rintro i m σ H ⟨rfl,hi,p⟩
 have q:=hl i σ H hi p
 by_cases hlt:i<xs.length
 ·refine .inr ⟨⟨xs,xs[i],q,by simp[hlt]⟩,Pv (i+1),fun σ' H' p'=>⟨xs.length - (i+1),by omega,rfl,hlt,p'⟩,fun x H' y=>?_⟩
  obtain⟨e,y⟩:=y
  subst e
  exact hs i x σ _ (y xs q) p
 ·have e:i=xs.length:=by omega
  subst e
  exact .inl ⟨⟨xs,q,zcx3 _⟩,hd σ H p⟩
theorem zbx7{lo:Int}{n:Nat}{g:TG}{tb:TS}{D:Ends}(Pv:Nat->St->Hp->Prop)(h0:Pv 0 σ H)(hs:∀ i σ H,i<n->Pv i σ H->g (.int (lo+i)) σ H fun σ2 H2=>tb { D with nx:=Pv (i+1),ct:=Pv (i+1),bk:=D.nx } σ2 H2)(hd:∀ σ H,Pv n σ H->D.nx σ H) :
  ∃ W:Nat->Nat->St->Hp->Prop,(∃ m,W 0 m σ H)/\∀ i m σ H,W i m σ H ->
   ((Itr lo n).stop i H/\D.nx σ H)∨((Itr lo n).go i H/\∃ N:St->Hp->Prop,(∀ σ' H',N σ' H'->∃ m',m'<m/\W (i+1) m' σ' H')/\∀ x H',(Itr lo n).yld i H x H'->g x σ H' fun σ2 H2=>tb { D with nx:=N,ct:=N,bk:=D.nx } σ2 H2):=by
 refine⟨fun i m σ H=>m=n - i/\i<=n/\Pv i σ H,⟨n,by simp,zcy3 _,h0⟩,?_⟩
 rintro i m σ H ⟨rfl,hi,p⟩
 by_cases hlt:i<n
 ·refine .inr ⟨hlt,Pv (i+1),fun σ' H' p'=>⟨n - (i+1),by omega,rfl,hlt,p'⟩,fun x H' y=>?_⟩
  obtain⟨e,y⟩:=y
  subst e y
  exact hs i σ _ hlt p
 ·have e:i=n:=by omega
  subst e
  exact .inl ⟨zcx3 _,hd σ H p⟩
abbrev R2:=V->V->Hp->VK->Prop
noncomputable def OpR(X:Cx)(f:Value->Value->Sem Value)(r:R2):Prop:=
 ∀ (pins:List (Addr×Obj)) (s:Shared) (σ:St) (H:Hp) (x y:V) (v u:Value) (Q:VK),Inv X pins σ H s->RelV x v->RelV y u->r x y H Q ->
  wpAny (model X.prog X.w) X.A (f v u) (EP X pins σ Q) X.xe s
noncomputable def UnR(X:Cx)(f:Value->Sem Value)(r:V->Hp->VK->Prop):Prop:=
 ∀ (pins:List (Addr×Obj)) (s:Shared) (σ:St) (H:Hp) (x:V) (v:Value) (Q:VK),Inv X pins σ H s->RelV x v->r x H Q ->
  wpAny (model X.prog X.w) X.A (f v) (EP X pins σ Q) X.xe s
noncomputable def zm6(X:Cx)(f:Value)(r:List V->Hp->VK->Prop):Prop:=
 ∀ (pins:List (Addr×Obj)) (s:Shared) (σ:St) (H:Hp) (xs:List V) (us:List Value) (Q:VK),Inv X pins σ H s->Vals xs us->r xs H Q ->
  wpAny (model X.prog X.w) X.A (call f us) (EP X pins σ Q) X.xe s
noncomputable def TruR(X:Cx)(r:V->Hp->(Bool->Hp->Prop)->Prop):Prop:=
 ∀ (pins:List (Addr×Obj)) (s:Shared) (σ:St) (H:Hp) (x:V) (v:Value) (Q:Bool->Hp->Prop),Inv X pins σ H s->RelV x v->r x H Q ->
  wpAny (model X.prog X.w) X.A (truthy v) (TP X pins σ Q) X.xe s
noncomputable def tOp(r:R2)(ta tb:TE):TE:=fun σ H Q=>ta σ H fun x H1=>tb σ H1 fun y H2=>r x y H2 Q
noncomputable def tUn(r:V->Hp->VK->Prop)(ta:TE):TE:=fun σ H Q=>ta σ H fun x H1=>r x H1 Q
noncomputable def rI(C:Int->Int->Prop)(g:Int->Int->V):R2:=fun x y H Q=>∃ i j,x=.int i/\y=.int j/\C i j/\Q (g i j) H
noncomputable def rI0(g:Int->Int->V):R2:=fun x y H Q=>∃ i j,x=.int i/\y=.int j/\Q (g i j) H
noncomputable def rU(g:Int->V):V->Hp->VK->Prop:=fun x H Q=>∃ i,x=.int i/\Q (g i) H
section
variable {X:Cx}{a b c:Expr}{ta tb tc:TE}{pos:Pos}
theorem binT(ha:PE X a ta)(hb:PE X b tb){R:V->V->Hp->Prop}(I:Inv X pins σ H s)(h:ta σ H fun x H1=>tb σ H1 fun y H2=>R x y H2){Q:Value->Shared->Prop}{f:Value->Value->Sem Value}(hf:∀ v u s2 x y H2,Inv X pins σ H2 s2->RelV x v->RelV y u->R x y H2->wpAny (model X.prog X.w) X.A (f v u) Q X.xe s2) :
  wpAny (model X.prog X.w) X.A (eval a X.env) (fun v s₁=>wpAny (model X.prog X.w) X.A (eval b X.env) (fun u s₂=>wpAny (model X.prog X.w) X.A (f v u) Q X.xe s₂) X.xe s₁) X.xe s:=by
 refine thn (ha pins s σ H _ I h) fun v s1 ⟨x,H1,I1,r1,q1⟩=>?_
 refine thn (hb pins s1 σ H1 _ I1 q1) fun u s2 ⟨y,H2,I2,r2,q2⟩=>?_
 exact hf v u s2 x y H2 I2 r1 r2 q2
theorem zb4{op:Operator}{r:R2}(ho:OpR X (binaryOp op) r)(ha:PE X a ta)(hb:PE X b tb):PE X (.BinOp a op b pos) (tOp r ta tb):=by
 intro pins s σ H Q I h
 exact wpAny_BinOp (binT ha hb I h fun v u s2 x y H2 I2 rx ry q=>ho pins s2 σ H2 x y v u Q I2 rx ry q)
theorem zv6{op:UnaryOp}{r:V->Hp->VK->Prop}(ho:UnR X (unaryOp op) r)(ha:PE X a ta):PE X (.UnaryOp op a pos) (tUn r ta):=by
 intro pins s σ H Q I h
 exact UnaryOp_ (thn (ha pins s σ H _ I h) fun v s1 ⟨x,H1,I1,r1,q1⟩=>ho pins s1 σ H1 x v Q I1 r1 q1)
theorem opI{f:Value->Value->Sem Value}{C:Int->Int->Prop}{g:Int->Int->Int}(rule:∀ (i j:Int) (t u:Tok) (s:Shared) (Q:Value->Shared->Prop) (E:Value->Shared->Prop),C i j->Q (.int (g i j) s.toks) { s with toks:=s.toks+1 }->wpAny (model X.prog X.w) X.A (f (.int i t) (.int j u)) Q E s) :
  OpR X f (rI C fun i j=>.int (g i j)):=by
 intro pins s σ H x y v u Q I rx ry h
 obtain⟨i,j,rfl,rfl,hc,q⟩:=h
 obtain⟨t,rfl⟩:=rx
 obtain⟨t',rfl⟩:=ry
 exact rule i j t t' s _ _ hc ⟨.int (g i j),H,I.tok _,⟨_,rfl⟩,q⟩
theorem opI0{f:Value->Value->Sem Value}{g:Int->Int->Int}(rule:∀ (i j:Int) (t u:Tok) (s:Shared) (Q:Value->Shared->Prop) (E:Value->Shared->Prop),Q (.int (g i j) s.toks) { s with toks:=s.toks+1 }->wpAny (model X.prog X.w) X.A (f (.int i t) (.int j u)) Q E s) :
  OpR X f (rI0 fun i j=>.int (g i j)):=by
 intro pins s σ H x y v u Q I rx ry h
 obtain⟨i,j,rfl,rfl,q⟩:=h
 obtain⟨t,rfl⟩:=rx
 obtain⟨t',rfl⟩:=ry
 exact rule i j t t' s _ _ ⟨.int (g i j),H,I.tok _,⟨_,rfl⟩,q⟩
theorem opB0{f:Value->Value->Sem Value}{g:Int->Int->Bool}(rule:∀ (i j:Int) (t u:Tok) (s:Shared) (Q:Value->Shared->Prop) (E:Value->Shared->Prop),Q (.bool (g i j)) s->wpAny (model X.prog X.w) X.A (f (.int i t) (.int j u)) Q E s) :
  OpR X f (rI0 fun i j=>.bl (g i j)):=by
 intro pins s σ H x y v u Q I rx ry h
 obtain⟨i,j,rfl,rfl,q⟩:=h
 obtain⟨t,rfl⟩:=rx
 obtain⟨t',rfl⟩:=ry
 exact rule i j t t' s _ _ ⟨.bl (g i j),H,I,rfl,q⟩
noncomputable def CPow(i j:Int):Prop:=0<=j/\j<=1000000/\i.natAbs<2 ^ 64
noncomputable def CMul(i j:Int):Prop:=(-(2 ^ 64)<i/\i<2 ^ 64)∨(-(2 ^ 64)<j/\j<2 ^ 64)
theorem CMul.ok{i j:Int}(h:CMul i j):IntMulOk i j:=by
 rcases h with ⟨h1,h2⟩|⟨h1,h2⟩
 ·exact .of_left (intBits_le_64 h1 h2)
 ·exact .of_right (intBits_le_64 h1 h2)
theorem op_add:OpR X (binaryOp .Add) (rI0 fun i j=>.int (i+j)):=opI0 fun _ _ _ _ _ _ _ q=>add_int q
theorem op_sub:OpR X (binaryOp .Sub) (rI0 fun i j=>.int (i - j)):=opI0 fun _ _ _ _ _ _ _ q=>sub_int q
theorem zcm0:OpR X (binaryOp .Mod) (rI (fun _ j=>j≠0) fun i j=>.int (i.fmod j)):=opI fun _ _ _ _ _ _ _ hc q=>mod_int' hc q
theorem op_pow:OpR X (binaryOp .Pow) (rI CPow fun i j=>.int (i ^ j.toNat)):=opI fun _ _ _ _ _ _ _ hc q=>pow_int_small hc.1 hc.2.1 hc.2.2 q
theorem unI{f:Value->Sem Value}{g:Int->Int}(rule:∀ (i:Int) (t:Tok) (s:Shared) (Q:Value->Shared->Prop) (E:Value->Shared->Prop),Q (.int (g i) s.toks) { s with toks:=s.toks+1 }->wpAny (model X.prog X.w) X.A (f (.int i t)) Q E s) :
  UnR X f (rU fun i=>.int (g i)):=by
 intro pins s σ H x v Q I rx h
 obtain⟨i,rfl,q⟩:=h
 obtain⟨t,rfl⟩:=rx
 exact rule i t s _ _ ⟨.int (g i),H,I.tok _,⟨_,rfl⟩,q⟩
theorem un_neg:UnR X (unaryOp .USub) (rU fun i=>.int (-i)):=unI fun _ _ _ _ _ q=>neg_int q
end
noncomputable def scal:V->V->Bool
 | .non,.non=>true | .non,.int _=>true | .int _,.non=>true | .non,.bl _=>true | .bl _,.non=>true | .non,.str _=>true | .str _,.non=>true
 | .int _,.int _=>true | .bl _,.bl _=>true | .str _,.str _=>true | .byt _,.byt _=>true
 | .int _,.str _=>true | .str _,.int _=>true | .bl _,.str _=>true | .str _,.bl _=>true
 | _,_=>false
noncomputable def rEq:R2:=fun x y H Q=>scal x y=true/\Q (.bl (decide (x=y))) H
noncomputable def rNe:R2:=fun x y H Q=>scal x y=true/\Q (.bl (!decide (x=y))) H
theorem zbv7{i j:Int}:decide (V.int i=V.int j)=(i==j):=by
 rw[zdb1]
 simp
theorem zch1{i j:Bool}:decide (V.bl i=V.bl j)=(i==j):=by
 rw[zdb1]
 simp
theorem zbn8{i j:Str}:decide (V.str i=V.str j)=(i==j):=by
 rw[zdb1]
 simp
theorem zbt7{i j:Array UInt8}:decide (V.byt i=V.byt j)=(i.toList==j.toList):=by
 rw[zdb1]
 cases i
 cases j
 simp
section
variable {X:Cx}{a b c:Expr}{ta tb tc:TE}{pos:Pos}
theorem ze9{Q:VK}{k k':Bool}(I:Inv X pins σ H s)(q:Q (.bl k) H)(e:k=k'):EP X pins σ Q (.bool k') s:=by
 subst e
 exact⟨.bl k,H,I,rfl,q⟩
theorem zbe6:OpR X (compareOp .Eq) rEq:=by
 intro pins s σ H x y v u Q I rx ry h
 obtain⟨hs,q⟩:=h
 cases x with
 | non=>
  cases rx
  cases y with
  | non=>cases ry;exact PySem.EqNone.eq_none_none (ze9 I q (by simp))
  | bl j=>cases ry;exact PySem.EqNone.eq_none_bool (ze9 I q (by simp))
  | int j=>obtain⟨t',rfl⟩:=ry;exact PySem.EqNone.eq_none_int (ze9 I q (by simp))
  | str j=>obtain⟨t',rfl⟩:=ry;exact PySem.EqNone.eq_none_str (ze9 I q (by simp))
  | _=>exact absurd (show false=true from hs) zcw5
 | bl i=>
  cases rx
  cases y with
  | non=>cases ry;exact PySem.EqNone.eq_bool_none (ze9 I q (by simp))
  | bl j=>cases ry;exact eq_bool (ze9 I q zch1)
  | str j=>obtain⟨t',rfl⟩:=ry;exact PySem.EqMixed.eq_bool_str (ze9 I q (by simp))
  | _=>exact absurd (show false=true from hs) zcw5
 | int i=>
  obtain⟨t,rfl⟩:=rx
  cases y with
  | non=>cases ry;exact PySem.EqNone.eq_int_none (ze9 I q (by simp))
  | int j=>obtain⟨t',rfl⟩:=ry;exact eq_int (ze9 I q zbv7)
  | str j=>obtain⟨t',rfl⟩:=ry;exact PySem.EqMixed.eq_int_str (ze9 I q (by simp))
  | _=>exact absurd (show false=true from hs) zcw5
 | str i=>
  obtain⟨t,rfl⟩:=rx
  cases y with
  | non=>cases ry;exact PySem.EqNone.eq_str_none (ze9 I q (by simp))
  | bl j=>cases ry;exact PySem.EqMixed.eq_str_bool (ze9 I q (by simp))
  | int j=>obtain⟨t',rfl⟩:=ry;exact PySem.EqMixed.eq_str_int (ze9 I q (by simp))
  | str j=>obtain⟨t',rfl⟩:=ry;exact eq_str (ze9 I q zbn8)
  | _=>exact absurd (show false=true from hs) zcw5
 | byt i=>
  obtain⟨t,rfl⟩:=rx
  cases y with
  | byt j=>obtain⟨t',rfl⟩:=ry;exact PySem.W.eq_bytes (ze9 I q zbt7)
  | _=>exact absurd (show false=true from hs) zcw5
 | _=>cases y<;>exact absurd (show false=true from hs) zcw5
theorem op_ne:OpR X (compareOp .NotEq) rNe:=by
 intro pins s σ H x y v u Q I rx ry h
 obtain⟨hs,q⟩:=h
 cases x with
 | non=>
  cases rx
  cases y with
  | non=>cases ry;exact PySem.EqNone.ne_none_none (ze9 I q (by simp))
  | bl j=>cases ry;exact PySem.EqNone.ne_none_bool (ze9 I q (by simp))
  | int j=>obtain⟨t',rfl⟩:=ry;exact PySem.EqNone.ne_none_int (ze9 I q (by simp))
  | str j=>obtain⟨t',rfl⟩:=ry;exact PySem.EqNone.ne_none_str (ze9 I q (by simp))
  | _=>exact absurd (show false=true from hs) zcw5
 | bl i=>
  cases rx
  cases y with
  | non=>cases ry;exact PySem.EqNone.ne_bool_none (ze9 I q (by simp))
  | bl j=>cases ry;exact ne_bool (ze9 I q (congrArg not zch1))
  | str j=>obtain⟨t',rfl⟩:=ry;exact PySem.EqMixed.ne_bool_str (ze9 I q (by simp))
  | _=>exact absurd (show false=true from hs) zcw5
 | int i=>
  obtain⟨t,rfl⟩:=rx
  cases y with
  | non=>cases ry;exact PySem.EqNone.ne_int_none (ze9 I q (by simp))
  | int j=>obtain⟨t',rfl⟩:=ry;exact ne_int (ze9 I q (congrArg not zbv7))
  | str j=>obtain⟨t',rfl⟩:=ry;exact PySem.EqMixed.ne_int_str (ze9 I q (by simp))
  | _=>exact absurd (show false=true from hs) zcw5
 | str i=>
  obtain⟨t,rfl⟩:=rx
  cases y with
  | non=>cases ry;exact PySem.EqNone.ne_str_none (ze9 I q (by simp))
  | bl j=>cases ry;exact PySem.EqMixed.ne_str_bool (ze9 I q (by simp))
  | int j=>obtain⟨t',rfl⟩:=ry;exact PySem.EqMixed.ne_str_int (ze9 I q (by simp))
  | str j=>obtain⟨t',rfl⟩:=ry;exact ne_str (ze9 I q (congrArg not zbn8))
  | _=>exact absurd (show false=true from hs) zcw5
 | byt i=>
  obtain⟨t,rfl⟩:=rx
  cases y with
  | byt j=>obtain⟨t',rfl⟩:=ry;exact PySem.W.ne_bytes (ze9 I q (congrArg not zbt7))
  | _=>exact absurd (show false=true from hs) zcw5
 | _=>cases y<;>exact absurd (show false=true from hs) zcw5
theorem op_lt:OpR X (compareOp .Lt) (rI0 fun i j=>.bl (decide (i<j))):=opB0 fun _ _ _ _ _ _ _ q=>lt_int q
theorem op_le:OpR X (compareOp .LtE) (rI0 fun i j=>.bl (decide (i<=j))):=opB0 fun _ _ _ _ _ _ _ q=>le_int q
theorem op_gt:OpR X (compareOp .Gt) (rI0 fun i j=>.bl (decide (j<i))):=opB0 fun _ _ _ _ _ _ _ q=>gt_int q
theorem op_ge:OpR X (compareOp .GtE) (rI0 fun i j=>.bl (decide (j<=i))):=opB0 fun _ _ _ _ _ _ _ q=>ge_int q
theorem op_isN:OpR X (compareOp .Is) (fun x y H Q=>y=.non/\Q (.bl (decide (x=.non))) H):=by
 intro pins s σ H x y v u Q I rx ry h
 obtain⟨rfl,q⟩:=h
 cases ry
 refine is_none_gen (ze9 I q ?_)
 cases x<;>first
  | (cases rx;rfl)
  | (obtain⟨t,rfl⟩:=rx;rfl)
theorem zck0:OpR X (compareOp .IsNot) (fun x y H Q=>y=.non/\Q (.bl (!decide (x=.non))) H):=by
 intro pins s σ H x y v u Q I rx ry h
 obtain⟨rfl,q⟩:=h
 cases ry
 refine isnot_none_gen (ze9 I q ?_)
 cases x<;>first
  | (cases rx;rfl)
  | (obtain⟨t,rfl⟩:=rx;rfl)
theorem zcf9(b:Expr){op:CmpOp}(h:op≠.In:=by decide)(h2:op≠.NotIn:=by decide):behindInMarks op b=false:=by
 have e1:(op==CmpOp.In)=false:=by cases op<;>first|rfl|exact absurd rfl h
 have e2:(op==CmpOp.NotIn)=false:=by cases op<;>first|rfl|exact absurd rfl h2
 cases b<;>simp[behindInMarks,e1,e2]
theorem zcp5{op:CmpOp}{r:R2}(ho:OpR X (compareOp op) r)(ha:PE X a ta)(hb:PE X b tb)(hm:behindInMarks op b=false):PE X (.Compare a [op] [b] pos) (tOp r ta tb):=by
 intro pins s σ H Q I h
 exact wpAny_Compare1 (binT ha hb I h fun v u s2 x y H2 I2 rx ry q=>ho pins s2 σ H2 x y v u Q I2 rx ry q) hm
noncomputable def TruV(K:zcw2)(x:V)(H:Hp)(k:Bool):Prop:=
 match x with
 | .non=>k=false
 | .bl b=>k=b
 | .int i=>k=(i != 0)
 | .str y=>y.length<=sizeLine/\k=((y.length:Int) != 0)
 | .byt y=>y.size<=sizeLine/\k=((y.size:Int) != 0)
 | .ref p=>(∃ xs,SqL K H p xs/\k=!xs.isEmpty)∨(∃ xs,SqT K H p xs/\k=!xs.isEmpty)∨∃ kvs,H p=some (.dK kvs)/\k=!kvs.isEmpty
 | _=>False
theorem zbk9{κ:Type}{kvs:List (κ×V)}{vs:List (κ×Value)}(r:KV kvs vs):(!vs.isEmpty)=!kvs.isEmpty:=by
 cases r<;>rfl
theorem zao1{xs:List V}{its:List Value}(r:Vals xs its):(!its.toArray.isEmpty)=!xs.isEmpty:=by
 cases r<;>simp
theorem zaj9:(sizeLine:Nat)<2 ^ 63:=by rw[zdf5];decide
theorem zbs4:TruR X (fun x H Q=>∃ k,TruV X.K x H k/\Q k H):=by
 intro pins s σ H x v Q I rx h
 obtain⟨k,e,q⟩:=h
 have hl:=zaj9
 have hs:sizeLine=16777216:=zdf5
 cases x with
 | non=>
  cases rx
  have e':k=false:=e
  subst e'
  exact truthy_none ⟨H,I,q⟩
 | bl b=>
  cases rx
  have e':k=b:=e
  subst e'
  exact wpAny_truthy_bool ⟨H,I,q⟩
 | int i=>
  obtain⟨t,rfl⟩:=rx
  have e':k=(i != 0):=e
  subst e'
  exact PySem.P.truthy_int ⟨H,I,q⟩
 | str y=>
  obtain⟨t,rfl⟩:=rx
  obtain⟨hy,e'⟩:y.length<=sizeLine/\k=((y.length:Int) != 0):=e
  subst e'
  exact PySem.P.truthy_str (by omega) ⟨H,I.tok _,q⟩
 | byt y=>
  obtain⟨t,rfl⟩:=rx
  obtain⟨hy,e'⟩:y.size<=sizeLine/\k=((y.size:Int) != 0):=e
  subst e'
  exact PySem.W.truthy_bytes (by omega) ⟨H,I.tok _,q⟩
 | ref p=>
  cases rx
  have e':(∃ xs,SqL X.K H p xs/\k=!xs.isEmpty)∨(∃ xs,SqT X.K H p xs/\k=!xs.isEmpty)∨∃ kvs,H p=some (.dK kvs)/\k=!kvs.isEmpty:=e
  rcases e' with ⟨xs,hx,e'⟩|⟨xs,hx,e'⟩|⟨kvs,hx,e'⟩
  ·subst e'
   obtain⟨its,r,pl,hz⟩:=I.list hx
   have hlen:=r.length
   exact wpAny_truthy_list pl.isList (by simp only[zcw9];omega) ⟨H,I.tok _,by rw[zao1 r];exact q⟩
  ·subst e'
   obtain⟨its,r,pl,hz⟩:=I.tuple hx
   have hlen:=r.length
   exact truthy_tuple pl (by simp only[zcw9];omega) ⟨H,I.tok _,by rw[zao1 r];exact q⟩
  ·subst e'
   obtain⟨hz,hS,vs,r,m⟩:kvs.length<=sizeLine/\(p==sysModules)=false/\∃ vs,KV kvs vs/\s.heap.DictOf (zi7 X.prog X.w) p vs:=I.hok p _ hx
   have hlen:kvs.length=vs.length:=Paired.length r
   exact wpAny_truthy_dict hS m (by omega) ⟨H,I.tok _,by rw[zbk9 r];exact q⟩
 | _=>exact (show False from e).elim
theorem zbm7:OpR X (binaryOp .Add) (fun x y H Q=>∃ i j,x=.str i/\y=.str j/\i.length+j.length<=sizeLine/\Q (.str (i++j)) H):=by
 intro pins s σ H x y v u Q I rx ry h
 obtain⟨i,j,rfl,rfl,hz,q⟩:=h
 obtain⟨t,rfl⟩:=rx
 obtain⟨t',rfl⟩:=ry
 exact add_str (fun t' tk=>⟨.str (i++j),H,I.tok _,⟨_,rfl⟩,q⟩) hz
theorem zy7{x:V}(r:Vals [x] us):∃ u,us=[u]/\RelV x u:=by
 cases r with
 | cons r1 r2=>cases r2;exact⟨_,rfl,r1⟩
theorem zbn3{x y:V}(r:Vals [x,y] us):∃ u w',us=[u,w']/\RelV x u/\RelV y w':=by
 cases r with
 | cons r1 r2=>
  cases r2 with
  | cons r3 r4=>cases r4;exact⟨_,_,rfl,r1,r3⟩
theorem zbv8(hc:X.calm=true):zm6 X (.builtin "max") (fun xs H Q=>∃ i j,xs=[.int i,.int j]/\Q (.int (if j>i then j else i)) H):=by
 intro pins s σ H xs us Q I r h
 obtain⟨i,j,rfl,q⟩:=h
 obtain⟨u,w',rfl,⟨t,rfl⟩,⟨t',rfl⟩⟩:=zbn3 r
 refine max_two_ints (I.ok.hd hc) fun h' tk k=>⟨_,H,I.kept k,?_,q⟩
 by_cases hj:j>i
 ·rw[if_pos hj,if_pos hj];exact⟨_,rfl⟩
 ·rw[if_neg hj,if_neg hj];exact⟨_,rfl⟩
theorem zbx4(hc:X.calm=true):zm6 X (.builtin "min") (fun xs H Q=>∃ i j,xs=[.int i,.int j]/\Q (.int (if j<i then j else i)) H):=by
 intro pins s σ H xs us Q I r h
 obtain⟨i,j,rfl,q⟩:=h
 obtain⟨u,w',rfl,⟨t,rfl⟩,⟨t',rfl⟩⟩:=zbn3 r
 refine min_two_ints (I.ok.hd hc) fun h' tk k=>⟨_,H,I.kept k,?_,q⟩
 by_cases hj:j<i
 ·rw[if_pos hj,if_pos hj];exact⟨_,rfl⟩
 ·rw[if_neg hj,if_neg hj];exact⟨_,rfl⟩
theorem zax6:zm6 X (.type "int") (fun xs H Q=>(∃ i,xs=[.int i]/\Q (.int i) H)∨∃ k,xs=[.bl k]/\Q (.int (if k then 1 else 0)) H):=by
 intro pins s σ H xs us Q I r h
 rcases h with ⟨i,rfl,q⟩|⟨k,rfl,q⟩
 ·obtain⟨u,rfl,t,rfl⟩:=zy7 r
  exact call_int_int ⟨.int i,H,I,⟨_,rfl⟩,q⟩
 ·obtain⟨u,rfl,r1⟩:=zy7 r
  cases r1
  exact call_int_bool ⟨.int (if k then 1 else 0),H,I.tok _,⟨_,rfl⟩,q⟩
end
structure ObjM(h:Heap)(x dx C:Addr)(mA:Str->Option Value):Prop where
 obj:h.get? x=some (PySem.W.instObj C dx)
 ns:h.Ns1 dx mA
 ne:dx≠x
theorem zbq7{dx:Addr}{mA:Str->Option Value}(n:h.Ns1 dx mA):∃ od,h.get? dx=some od/\∀ name,PySem.W.lookIn name od=some (mA name):=by
 obtain⟨o,es,ep,ho,hd,hk,_,hm⟩:=n
 refine⟨o,ho,fun name=>?_⟩
 have e:=hm name
 unfold nsFind findBy at e
 rw[← Array.find?_toList] at e
 unfold PySem.W.lookIn
 rw[hd]
 dsimp only
 split
 ·rename_i y q
  rw[q] at e
  exact congrArg some e
 ·rename_i q
  rw[q] at e
  have a:es.toList.any (·.refKey)=false:=by
   rw[List.any_eq_false]
   intro y hy
   obtain⟨z,t,hkey⟩:=hk y (zde8.mp hy)
   simp[DictEntry.refKey,hkey]
  have a':¬ es.toList.any (·.refKey)=true:=by rw[a];exact zcw5
  rw[if_neg a']
  exact congrArg some e
theorem ObjM.look{x dx C:Addr}{mA:Str->Option Value}(I:ObjM h x dx C mA):∃ od,PySem.W.InstAt h x (PySem.W.instObj C dx) C (some od)/\∀ name,PySem.W.lookIn name od=some (mA name):=
 let ⟨od,ho,hl⟩:=zbq7 I.ns
 ⟨od,⟨I.obj,rfl,rfl,ho⟩,hl⟩
section
variable {prog:Program}{w:World}{A:Around}{E:Value->Shared->Prop}{s:Shared}{K:zcw2}{x dx C f:Addr}{mA:Str->Option Value}{name:Str}{v:Value}
end
theorem RelO.some_of{v:V}{o:Option Value}(r:RelO (some v) o):∃ u,o=some u/\RelV v u:=by
 cases o with
 | none=>exact (show False from r).elim
 | some u=>exact⟨u,rfl,r⟩
section
variable {P:Program}{w:World}{H H':Hp}{h h':Heap}{a C dx:Addr}{fs fs':List (Str×V)}
theorem zcm5(hok:HOk P w H h)(e:H a=some (.ins C dx fs)):∃ mA,ObjM h a dx C mA/\(∀ f,RelO (fs.lookup f) (mA f))/\PySem.Within mA (fs.map (·.1))/\fs.length<=1000/\H dx=some (.own a):=by
 obtain⟨d,z,ne,ob,mA,n,r,q⟩:=(show zi5 P w H h a (.ins C dx fs) from hok a _ e)
 exact⟨mA,⟨ob,n,ne⟩,r,q,z,d⟩
end
structure Cls(K:zcw2)(C:Addr):Prop where
 pg:PySem.W.plainGet K C Str.empty=true
 hd:PySem.W.hasDictIn K C=true
 po:PySem.W.plainOver K C=true
 sa:PySem.W.findIn K (.ref C) "__setattr__"=some (some (.builtin "object.__setattr__"))
theorem Cls.get{K:zcw2}{C:Addr}(c:Cls K C)(f:Str):PySem.W.plainGet K C f=true:=c.pg
section
variable {X:Cx}{pins:List (Addr×Obj)}{σ:St}{H:Hp}{s:Shared}{a C dx:Addr}{fs:List (Str×V)}{f:Str}{v:V}{A:Around}{E:Value->Shared->Prop}
end
section
variable {X:Cx}{pins:List (Addr×Obj)}{σ:St}{H:Hp}{s:Shared}{A:Around}{E:Value->Shared->Prop}{Q:Value->Shared->Prop}{c:Value}{b:Bool}
inductive TyOf(K:zcw2)(H:Hp):V->Value->Prop where
 | non:TyOf K H .non (.type "NoneType")
 | bl (x:Bool):TyOf K H (.bl x) (.type "bool")
 | int (i:Int):TyOf K H (.int i) (.type "int")
 | str (x:Str):TyOf K H (.str x) (.type "str")
 | flt (x:UInt64):TyOf K H (.flt x) (.type "float")
 | lst {a:Addr}{xs:List V}(e:H a=some (.lst xs)):TyOf K H (.ref a) (.type "list")
 | frz {a:Addr}{o:Obj}{xs:List V}(e:H a=some (.frz o (.lst xs))):TyOf K H (.ref a) (.type "list")
 | tup {a:Addr}{xs:List V}(e:H a=some (.tup xs)):TyOf K H (.ref a) (.type "tuple")
 | dK {a:Addr}{kvs:List (Key×V)}(e:H a=some (.dK kvs)):TyOf K H (.ref a) (.type "dict")
 | dT {a:Addr}{kvs:List (List Key×V)}(e:H a=some (.dT kvs)):TyOf K H (.ref a) (.type "dict")
 | ins {a C dx:Addr}{fs:List (Str×V)}(e:H a=some (.ins C dx fs)) (cl:Cls K C) (ha:PySem.W.findIn K (.ref C) "__class__"=some (some (.builtin "object.__class__")))
   (hn:PySem.W.specialIn K (.builtin "object.__class__") "__get__"=some (some (.builtin "getset_descriptor.__get__"))) (htk:PySem.W.takesIn K (.builtin "object.__class__")=some true)
   (hm:PySem.W.mroIn K C (.type "object")=some true):TyOf K H (.ref a) (.ref C)
theorem zbr4{x:V}{t:Value}(I:Inv X pins σ H s)(rx:RelV x u)(ty:TyOf X.K H x t)(e:zdd3 X.K t c=some b)(h:∀ tk,Q (.bool b) { s with toks:=tk }) :
  wpAny (model X.prog X.w) A (call (.builtin "isinstance") [u,c]) Q E s:=by
 cases ty with
 | non=>cases (show u=Value.none from rx);exact zdb7 PySem.W.kitx_none I.kIn True.intro e (fun z=>nomatch z) h
 | bl y=>cases (show u=Value.bool y from rx);exact zdb7 PySem.W.kitx_bool I.kIn True.intro e (fun z=>nomatch z) h
 | int i=>obtain⟨t,q⟩:=(show ∃ t,u=Value.int i t from rx);cases q;exact zdb7 PySem.W.kitx_int I.kIn True.intro e (fun z=>nomatch z) h
 | str y=>obtain⟨t,q⟩:=(show ∃ t,u=Value.str y t from rx);cases q;exact zdb7 PySem.W.kitx_str I.kIn True.intro e (fun z=>nomatch z) h
 | flt y=>obtain⟨t,q⟩:=(show ∃ t,u=Value.float y t from rx);cases q;exact zdb7 PySem.W.kitx_float I.kIn True.intro e (fun z=>nomatch z) h
 | @lst a xs ea=>
  cases (show u=Value.ref a from rx)
  obtain⟨_,_,n,_,h1⟩:=(show zi5 X.prog X.w H s.heap a (.lst xs) from I.hok a _ ea)
  exact zdb7 PySem.W.kitx_list I.kIn ⟨_,h1,rfl⟩ e (fun z=>nomatch z) h
 | @frz a ob xs ea=>
  cases (show u=Value.ref a from rx)
  obtain⟨_,_,_,n,_,h1⟩:=(show zi5 X.prog X.w H s.heap a (.frz ob (.lst xs)) from I.hok a _ ea)
  exact zdb7 PySem.W.kitx_list I.kIn ⟨_,h1,rfl⟩ e (fun z=>nomatch z) h
 | @tup a xs ea=>
  cases (show u=Value.ref a from rx)
  obtain⟨_,_,_,p⟩:=(show zi5 X.prog X.w H s.heap a (.tup xs) from I.hok a _ ea)
  obtain⟨o,h1,h2,_⟩:=p
  exact zdb7 PySem.W.kitx_tuple I.kIn ⟨o,h1,h2⟩ e (fun z=>nomatch z) h
 | @dK a kvs ea=>
  cases (show u=Value.ref a from rx)
  obtain⟨_,_,vs,_,p⟩:=(show zi5 X.prog X.w H s.heap a (.dK kvs) from I.hok a _ ea)
  obtain⟨o,es,ep,h1,h2,_⟩:=p
  exact zdb7 PySem.W.kitx_dict I.kIn ⟨o,h1,h2.1⟩ e (fun z=>nomatch z) h
 | @dT a kvs ea=>
  cases (show u=Value.ref a from rx)
  obtain⟨_,_,xs,_,o,es,ep,h1,h2,_⟩:=(show zi5 X.prog X.w H s.heap a (.dT kvs) from I.hok a _ ea)
  exact zdb7 PySem.W.kitx_dict I.kIn ⟨o,h1,h2.1⟩ e (fun z=>nomatch z) h
 | @ins a C dx fs ea cl ha hn htk hm=>
  cases (show u=Value.ref a from rx)
  obtain⟨mA,O,_⟩:=zcm5 I.hok ea
  obtain⟨od,J,_⟩:=O.look
  exact zdb7 (PySem.W.kitx_own (cl.get _) cl.hd ha hn htk hm) I.kIn J e (fun z=>nomatch z) h
end
structure Room(k:Nat)(A:Around):Prop where
 hd:A.handled=none
 dp:A.depth+3*k+5<recursionLimit
 un:A.units+16*k+200<cLine
 gd:A.guards=some []
theorem Room.mono{j k:Nat}{A:Around}(r:Room k A)(h:j<=k):Room j A:=⟨r.hd,by have:=r.dp;omega,by have:=r.un;omega,r.gd⟩
theorem Room.deeper{k:Nat}{A:Around}(r:Room (k+1) A)(env:Env):Room k (A.deeper env):=
 ⟨r.hd,by have:=r.dp;show A.depth+1+3*k+5<_;omega,by have:=r.un;show A.units+3+16*k+200<_;omega,r.gd⟩
theorem Room.depth{k:Nat}{A:Around}(r:Room k A):A.depth<recursionLimit:=by have:=r.dp;omega
theorem Room.units{k:Nat}{A:Around}(r:Room k A):A.units+64<cLine:=by have:=r.un;omega
def tNil:TA:=fun _ H Q=>Q [] H
noncomputable def tCons(ta:TE)(tr:TA):TA:=fun σ H Q=>ta σ H fun x H1=>tr σ H1 fun xs H2=>Q (x :: xs) H2
section
variable {X:Cx}{e:Expr}{es:List Expr}{te:TE}{t:TA}{pos:Pos}
theorem za1:PA X [] tNil:=fun _ _ _ _ H Q I h=>Calls.spliced_nil ⟨[],H,I,.nil,h⟩
theorem za0(ha:PE X e te)(hr:PA X es t)(hs:starEach (e :: es) X.env=(false,eval e X.env) :: starEach es X.env:=by rfl):PA X (e :: es) (tCons te t):=by
 intro pos pins s σ H Q I h
 rw[hs]
 show wpAny _ _ (spliced ((false,eval e X.env) :: backTo pos (starEach es X.env))) _ _ s
 refine Calls.spliced_cons (thn (ha pins s σ H _ I h) fun u s1 ⟨x,H1,I1,r1,q1⟩=>?_)
 exact thn (hr pos pins s1 σ H1 _ I1 q1) fun us s2 ⟨xs,H2,I2,r2,q2⟩=>⟨x :: xs,H2,I2,.cons r1 r2,q2⟩
end
abbrev Sp:=List V->Hp->VK->XK->Prop
noncomputable abbrev CXT:=List Env->Hp->Shared->XK->Value->Shared->Prop
structure Env0(P:Program)(w:World)(K:zcw2)(mg:Str->Option Value)(base:Heap)(A:Around)(outer:List Env)(s:Shared)(H:Hp):Prop where
 frames:A.frames=some outer
 mod:Mod K mg base
 bs:∀ b o,base.get? b=some o->s.heap.get? b=some o/\H b=none
 bsz:base.objs.size<=s.heap.objs.size
 funs:s.heap.FunFrames base outer
 frf:∀ b∈frs outer,H b=none
 hok:HOk P w H s.heap
 bare:AllBare s.gens
noncomputable def CE(outer:List Env)(P:Program)(w:World)(H:Hp)(s:Shared)(Q:VK)(u:Value)(s':Shared):Prop:=
 ∃ v H',s'.os=s.os/\AllBare s'.gens/\Un (frs outer) [] H H' s.heap s'.heap/\HOk P w H' s'.heap/\RelV v u/\Q v H'
noncomputable def CR(CX:CXT)(outer:List Env)(P:Program)(w:World)(H:Hp)(s:Shared)(Q:VK)(E:XK)(r:Result)(s':Shared):Prop:=
 match r with
 | .ok (.ret u)=>CE outer P w H s Q u s'
 | .ok _=>False
 | .error e=>CX outer H s E e s'
structure FnOk(P:Program)(w:World)(K:zcw2)(mg:Str->Option Value)(base:Heap)(CX:CXT)(k:Nat)(f:Addr)(fd:FuncData)(ps:List Str)(sp:Sp):Prop where
 len:∀ vs H Q E,sp vs H Q E->vs.length=ps.length
 run:∀ (A:Around) (outer:List Env) (s:Shared) (H:Hp) (args:Args) (us:List Value) (vs:List V) (Q:VK) (E:XK),Room k A->Env0 P w K mg base A outer s H->BindsTo s fd args (ps.zip us)->Vals vs us->sp vs H Q E ->
  codeAny (model P w) A (.call (.ref f) args) (CR CX outer P w H s Q E) s
section
variable {X:Cx}{pins:List (Addr×Obj)}{σ:St}{H:Hp}{s s':Shared}
theorem Inv.env0(I:Inv X pins σ H s):Env0 X.prog X.w X.K X.mg X.base X.A X.stack s H:=
 ⟨I.ok.frames,I.ok.mod,I.bs,zda0 I.ok.bsz I.sz,I.stack,I.stkFree,I.hok,I.bare⟩
theorem Inv.after{Q:VK}(I:Inv X pins σ H s)(h:CE X.stack X.prog X.w H s Q u s'):EP X pins σ Q u s':=by
 obtain⟨v,H',os,bare,un,hok,r,q⟩:=h
 obtain⟨hh,g,d,t,os'⟩:=s'
 obtain rfl:os'=s.os:=os
 exact⟨v,H',I.call (h':=hh) (g':=g) (d':=d) (t':=t) (ch:=[]) un hok bare (fun b z=>absurd z (by simp)),r,q⟩
end
noncomputable def tCall(sp:Sp)(dvs:List V)(E:XK)(t:TA):TE:=fun σ H Q=>t σ H fun vs H1=>sp (vs++dvs) H1 Q E
noncomputable def zau1(K:zcw2)(fd:FuncData)(ps:List Str)(ds:List Value):Prop:=
 ∀ (s:Shared) (us:List Value),K.In s.heap->(us++ds).length=ps.length->BindsTo s fd ⟨us,[]⟩ (ps.zip (us++ds))
theorem zau1.all{K:zcw2}{fd:FuncData}{ps:List Str}(h:∀ us:List Value,us.length=ps.length->bindArgs fd ⟨us,[]⟩=pure (ps.zip us)):zau1 K fd ps []:=fun s us _ hl=>by
 rw[List.append_nil] at hl ⊢
 exact .of_eq (h us hl)
noncomputable def zbj9(CX:CXT)(X:Cx)(E:XK):Prop:=∀ (pins:List (Addr×Obj)) (σ:St) (H:Hp) (s:Shared) (e:Value) (s':Shared),Inv X pins σ H s->CX X.stack H s E e s'->X.xe e s'
section
variable {X:Cx}{CX:CXT}{k:Nat}{f C:Addr}{fd:FuncData}{ps:List Str}{sp:Sp}{dvs:List V}{ds:List Value}{E:XK}{x m:Str}{p pos apos:Pos}{e o:Expr}{es:List Expr}{ta:TE}{t:TA}
theorem run_fn{Q:VK}{vs:List V}(F:FnOk X.prog X.w X.K X.mg X.base CX k f fd ps sp)(hr:Room k X.A)(hb:zau1 X.K fd ps ds)(hd:Vals dvs ds)(hx:zbj9 CX X E)(I:Inv X pins σ H s)(r:Vals vs us)(h:sp (vs++dvs) H Q E):wpAny (model X.prog X.w) X.A (call (.ref f) us) (EP X pins σ Q) X.xe s:=by
 have r2:Vals (vs++dvs) (us++ds):=r.append hd
 have hl:(us++ds).length=ps.length:=by rw[← r2.length];exact F.len _ _ _ _ h
 refine wpAny_call (codeAny_mono (F.run X.A X.stack s H ⟨us,[]⟩ (us++ds) (vs++dvs) Q E hr I.env0 (hb s us I.kIn hl) r2 h) fun r s' hq=>?_)
 cases r with
 | error e=>exact hx pins σ H s e s' I hq
 | ok fl=>
  cases fl with
  | ret u=>exact I.after hq
  | next=>exact False.elim hq
  | brk=>exact False.elim hq
  | cont=>exact False.elim hq
theorem zco3(F:FnOk X.prog X.w X.K X.mg X.base CX k f fd ps sp)(hr:Room k X.A)(hg:Gl X x)(hm:X.mg x=some (.ref f))(hk:zdd4 X.K (.ref f)=true)(hb:zau1 X.K fd ps ds)(hd:Vals dvs ds)(hx:zbj9 CX X E)(ha:PA X (e :: es) t)(hdb:(x==("__debug__":Str))=false:=by decide)(he:starEach (e :: es) X.env=(false,eval e X.env) :: starEach es X.env:=by rfl)(hpl:(backTo pos (starEach es X.env)).any (·.1)=false:=by rfl) :
  PE X (.Call (.Name x p) (e :: es) [] pos) (tCall sp dvs E t):=by
 intro pins s σ H Q I h
 refine wpAny_Call_Name_kw (zbu5 I hg hm ?_ hdb)
 refine PySem.W.callWith_K (h₀:=X.base) I.ok.mod.kin hk (thn (ha pos pins s σ H _ I h) fun us s1 ⟨vs,H1,I1,r,q⟩=>⟨I1.kIn,?_⟩) he hpl
 exact run_fn F hr hb hd hx I1 r q
end
structure zb5(N P:List Str)(sc:Scope):Prop where
 kind:sc.kind=.function
 co:sc.isCoroutine=false
 gen:sc.isGenerator=false
 nd:N.Nodup
 pre:N.take P.length=P
 par:∀ x∈P,sc.names.lookup x=some .local∨sc.names.lookup x=some .cell
 nofree:∀ y∈sc.names,y.2≠.free
theorem zau8{kindOf:Str->Option NameKind}{x:Str}:∀ {binds:List (Str×Value)}{m:Str->Option Value},(∀ v,(x,v) ∉ binds)->bindL kindOf binds m x=m x
 | [],_,_=>rfl
 | (n,v) :: r,m,h=>by
  unfold bindL
  rw[zau8 fun w hw=>h w (zda6 _ hw)]
  split
  ·have:x≠n:=by rintro rfl;exact h v zdc1
   simp[this]
  ·rfl
theorem zat3{kindOf:Str->Option NameKind}{x:Str}:∀ {binds:List (Str×Value)}{m:Str->Option Value},(∀ v,(x,v) ∉ binds)->bindC kindOf binds m x=m x
 | [],_,_=>rfl
 | (n,v) :: r,m,h=>by
  unfold bindC
  rw[zat3 fun w hw=>h w (zda6 _ hw)]
  split
  ·rfl
  ·have:x≠n:=by rintro rfl;exact h v zdc1
   simp[this]
theorem zax7{kindOf:Str->Option NameKind}{x:Str}{v:Value}:∀ {P:List Str}{vs:List Value}{i:Nat}{m:Str->Option Value},P.Nodup->P[i]?=some x->vs[i]?=some v->kindOf x=some .local ->
  bindL kindOf (P.zip vs) m x=some v
 | [],_,_,_,_,h,_,_=>by simp at h
 | _ :: _,[],_,_,_,_,h,_=>by simp at h
 | p :: P,w :: vs,0,m,nd,h1,h2,hk=>by
  simp at h1 h2;subst h1;subst h2
  show bindL kindOf ((p,w) :: P.zip vs) m p=_
  unfold bindL
  rw[zau8 fun v hv=>(zdb3.mp nd).1 (List.of_mem_zip hv).1,if_pos hk]
  simp
 | p :: P,w :: vs,i+1,m,nd,h1,h2,hk=>by
  show bindL kindOf ((p,w) :: P.zip vs) m x=_
  unfold bindL
  exact zax7 (i:=i) (zdb3.mp nd).2 (by simpa using h1) (by simpa using h2) hk
theorem zav8{kindOf:Str->Option NameKind}{x:Str}{v:Value}:∀ {P:List Str}{vs:List Value}{i:Nat}{m:Str->Option Value},P.Nodup->P[i]?=some x->vs[i]?=some v->kindOf x≠some .local ->
  bindC kindOf (P.zip vs) m x=some v
 | [],_,_,_,_,h,_,_=>by simp at h
 | _ :: _,[],_,_,_,_,h,_=>by simp at h
 | p :: P,w :: vs,0,m,nd,h1,h2,hk=>by
  simp at h1 h2;subst h1;subst h2
  show bindC kindOf ((p,w) :: P.zip vs) m p=_
  unfold bindC
  rw[zat3 fun v hv=>(zdb3.mp nd).1 (List.of_mem_zip hv).1,if_neg hk]
  simp
 | p :: P,w :: vs,i+1,m,nd,h1,h2,hk=>by
  show bindC kindOf ((p,w) :: P.zip vs) m x=_
  unfold bindC
  exact zav8 (i:=i) (zdb3.mp nd).2 (by simpa using h1) (by simpa using h2) hk
noncomputable def zay0(N:List Str)(vs:List V):St:=vs.map some++List.replicate (N.length - vs.length) none
noncomputable def cxOf(CX:CXT)(P:Program)(w:World)(K:zcw2)(mg:Str->Option Value)(base:Heap)(N:List Str)(qual:Str)(scope:Scope)(f:Addr)(cd:Value)(A:Around)(outer:List Env)(s:Shared)(H:Hp)(E:XK):Cx where
 prog:=P
 w:=w
 K:=K
 mg:=mg
 base:=base
 A:=A.deeper (envOfC qual scope s.heap.objs.size f cd)
 N:=N
 s₀:=s
 H₀:=H
 env:=envOfC qual scope s.heap.objs.size f cd
 outer:=outer
 stack:=envOfC qual scope s.heap.objs.size f cd :: outer
 ex:=[]
 calm:=true
 fn:=fun _=>true
 pn:=[]
 xe:=fun e s'=>wpAny (model P w) (A.deeper (envOfC qual scope s.heap.objs.size f cd)) (leaving (envOfC qual scope s.heap.objs.size f cd) e) (fun _ s''=>CX outer H s E e s'') (fun e' s''=>CX outer H s E e' s'') s'
theorem zbj2{sc:Scope}{n:Nat}{x:Str}(h:sc.names.lookup x=some .cell):∃ c,(cellsFrom n sc.names []).lookup x=some c:=by
 have q:=PySem.W.cellsFrom_some sc.names n [] (.inl h)
 exact Option.isSome_iff_exists.mp q
theorem zbq9{CX:CXT}{P:Program}{w:World}{K:zcw2}{mg:Str->Option Value}{base:Heap}{N ps:List Str}{qual:Str}{scope:Scope}{f:Addr}{cd:Value}{A:Around}{outer:List Env}{s1:Shared}{E:XK}{vs:List V}(S:zb5 N ps scope)(hd:A.handled=none)(e0:Env0 P w K mg base A outer s H)(hl:vs.length=ps.length)(r:Vals vs us)(x:InCallC s s.heap.objs.size (bindL (envOfC qual scope s.heap.objs.size f cd).kindOf (ps.zip us) fun _=>none) (cellsFrom (s.heap.objs.size+1) scope.names []) (bindC (envOfC qual scope s.heap.objs.size f cd).kindOf (ps.zip us) fun _=>none) s1) :
  Inv (cxOf CX P w K mg base N qual scope f cd A outer s H E) [] (zay0 N vs) H s1:=by
 have hpl:ps.length<=N.length:=by have:=congrArg List.length S.pre;rw[zda3] at this;omega
 obtain⟨h1,tk,rfl,hk⟩:=x.done
 have noA:∀ b:Addr,b ∉ (cxOf CX P w K mg base N qual scope f cd A outer s H E).ex:=fun b z=>absurd (show b∈([]:List Addr) from z) (by simp)
 refine⟨⟨e0.mod,S.kind,rfl,rfl,zcx3 _,fun y z c h1 h2=>?_,fun y hy=>?_,fun y c _ h=>?_,fun _=>hd,Around.frames_deeper e0.frames,.inr ⟨rfl,rfl⟩,fun b z=>absurd z (noA b),e0.bs,e0.bsz,fun b _ _=>noA b,fun b z=>absurd z (noA b),e0.funs,e0.frf⟩,
  rfl,e0.bare,Un.kept hk,⟨_,x.toInCall.ns,fun i y v h1 h2 h3=>?_⟩,fun y c h=>⟨_,x.cell y c h⟩,e0.hok.fresh (zcx3 _),fun y c h=>?_,fun p hp=>absurd (show p∈([]:List (Addr×Obj)) from hp) (by simp),e0.hok.kept hk,?_⟩
 ·exact name_of_addr x.apart (PySem.mem_of_lookup h1) (PySem.mem_of_lookup h2)
 ·have hy:scope.names.lookup y=some .cell∨scope.names.lookup y=some .free:=hy
  rcases hy with hy|hy
  ·exact zbj2 hy
  ·exact absurd rfl (S.nofree _ (PySem.mem_of_lookup hy))
 ·exact Nat.le_of_lt (x.above y c (PySem.mem_of_lookup h))
 ·have hi:i<vs.length:=by
   unfold zay0 at h2
   by_cases hi:i<vs.length
   ·exact hi
   ·rw[zcz5 (by simpa using hi)] at h2
    rw[List.getElem?_replicate] at h2
    split at h2<;>cases h2
  have ha:vs[i]?=some v:=by
   unfold zay0 at h2
   rw[zcz0 (by simpa using hi),zcw0] at h2
   cases e:vs[i]? with
   | none=>rw[e] at h2;cases h2
   | some a=>rw[e] at h2;cases h2;rfl
  obtain⟨u,hu,rv⟩:=r.get ha
  have hp:ps[i]?=some y:=by
   rw[← S.pre,List.getElem?_take_of_lt (by omega)];exact h1
  have ndP:ps.Nodup:=by rw[← S.pre];exact S.nd.sublist (List.take_sublist _ _)
  refine⟨u,rv,?_⟩
  rcases S.par y (zcw3 hp) with k|k
  ·exact .inl ⟨k,zax7 ndP hp hu k⟩
  ·obtain⟨c,e⟩:=zbj2 (n:=s.heap.objs.size+1) k
   refine .inr ⟨.inl k,c,e,?_⟩
   have q:=x.cell y c e
   rw[zav8 ndP hp hu (by show scope.names.lookup y≠_;rw[k];decide)] at q
   exact q
 ·exact e0.hok.fresh (Nat.le_of_lt (x.above y c (PySem.mem_of_lookup h)))
 ·unfold zay0
  show _=N.length
  rw[zcw7,zcv8,List.length_replicate]
  omega
theorem fn_of{CX:CXT}{P:Program}{w:World}{K:zcw2}{mg:Str->Option Value}{base:Heap}{k:Nat}{f:Addr}{name qual:Str}{params:Arguments}{body:List Stmt}{scope:Scope}{dV kV doc pm cdv ct oc:Value}{an od:Option Addr}{osl:Array (Option Value)}{N ps:List Str}{sp:Sp}(lk:K.lookup f=some ⟨oc,od,.func (zdc9 name qual params body scope dV kV doc pm an cdv ct),osl⟩)(hcd:PySem.W.codeIn K cdv qual=true)(S:zb5 N ps scope)(len:∀ vs H Q E,sp vs H Q E->vs.length=ps.length)(hbody:∀ (A:Around) (outer:List Env) (s:Shared) (H:Hp) (vs:List V) (Q:VK) (E:XK),Room k (A.deeper (envOfC qual scope s.heap.objs.size f cdv))->sp vs H Q E ->
   ∃ t,PSs (cxOf CX P w K mg base N qual scope f cdv A outer s H E) body t/\t { nx:=fun _ H'=>Q .non H',rt:=Q } (zay0 N vs) H) :
  FnOk P w K mg base CX (k+1) f (zdc9 name qual params body scope dV kV doc pm an cdv ct) ps sp:=by
 refine⟨len,fun A outer s H args us vs Q E hr e0 hb r hsp=>?_⟩
 have hl:=len _ _ _ _ hsp
 have KX:K.In s.heap:=e0.mod.kin.keeps fun b o e=>(e0.bs b o e).1
 have lim:s.heap.NoLimit:=e0.mod.nolimit.keeps fun b o e=>(e0.bs b o e).1
 have hkind:∀ y∈ps.zip us,scope.names.lookup y.1=some .local∨(scope.names.lookup y.1=some .cell/\((cellsFrom (s.heap.objs.size+1) scope.names []).lookup y.1).isSome=true):=fun ⟨n,v⟩ hy=>by
  rcases S.par n (List.of_mem_zip hy).1 with q|q
  ·exact .inl q
  ·exact .inr ⟨q,PySem.W.cellsFrom_some _ _ _ (.inl q)⟩
 refine codeAny_call_function hr.depth (KX _ _ lk) rfl S.co S.gen rfl (PySem.W.codeRec_of KX hcd) (hb _ _ _ _ ?_)
 refine wpAny_newFunctionEnv_cells S.kind hkind fun env he s1 x=>?_
 subst he
 refine⟨lim.keeps x.toInCall.keep,codeAny_func ?_⟩
 obtain⟨t,ht,hq⟩:=hbody A outer s H vs Q E (hr.deeper _) hsp
 have I:Inv (cxOf CX P w K mg base N qual scope f cdv A outer s H E) [] (zay0 N vs) H s1:=zbq9 S hr.hd e0 hl r x
 refine wpAny_mono (ht [] s1 (zay0 N vs) H _ I hq) (fun fl s' hs=>?_) fun e s' hs=>hs
 have fin:∀ {σ':St}{H':Hp}{v:V}{u:Value},Inv (cxOf CX P w K mg base N qual scope f cdv A outer s H E) [] σ' H' s'->RelV v u->Q v H'->CE outer P w H s Q u s':=
  fun {σ' H' v u} J rv q=>⟨v,H',J.os,J.bare,J.base,J.hok,rv,q⟩
 cases fl with
 | ret u=>
  obtain⟨v,σ',H',J,rv,q⟩:=hs
  exact fin J rv q
 | next=>
  obtain⟨σ',H',J,q⟩:=hs
  exact fin (v:=V.non) (u:=Value.none) J rfl q
 | brk=>
  obtain⟨_,_,_,q⟩:=hs
  exact False.elim q
 | cont=>
  obtain⟨_,_,_,q⟩:=hs
  exact False.elim q
section
variable {X:Cx}{x:Str}{p pos:Pos}{e:Expr}{es:List Expr}{t:TA}{id T:String}{r:List V->Hp->VK->Prop}
noncomputable def tCB(r:List V->Hp->VK->Prop)(t:TA):TE:=fun σ H Q=>t σ H fun vs H1=>r vs H1 Q
theorem zcc5(hc:zm6 X (.builtin id) r)(hg:Gl X x)(hm:X.mg x=none)(hv:bootBuiltins x=some (.builtin id))(ha:PA X (e :: es) t)(hn:x≠"__name__":=by decide)(hdb:(x==("__debug__":Str))=false:=by decide)(he:starEach (e :: es) X.env=(false,eval e X.env) :: starEach es X.env:=by rfl)(hpl:(backTo pos (starEach es X.env)).any (·.1)=false:=by rfl):PE X (.Call (.Name x p) (e :: es) [] pos) (tCB r t):=by
 intro pins s σ H Q I h
 refine wpAny_Call_Name_kw (zx7 I hg hm hv ?_ hn hdb)
 exact PyProof.Rows.callWith_builtin1 (thn (ha pos pins s σ H _ I h) fun us s1 ⟨vs,H1,I1,r1,q1⟩=>hc pins s1 σ H1 vs us Q I1 r1 q1) he hpl
theorem zbq8(hc:zm6 X (.type T) r)(hg:Gl X x)(hm:X.mg x=none)(hv:bootBuiltins x=some (.type T))(ha:PA X (e :: es) t)(hn:x≠"__name__":=by decide)(hdb:(x==("__debug__":Str))=false:=by decide)(he:starEach (e :: es) X.env=(false,eval e X.env) :: starEach es X.env:=by rfl)(hpl:(backTo pos (starEach es X.env)).any (·.1)=false:=by rfl):PE X (.Call (.Name x p) (e :: es) [] pos) (tCB r t):=by
 intro pins s σ H Q I h
 refine wpAny_Call_Name_kw (zx7 I hg hm hv ?_ hn hdb)
 exact PyProof.Rows.callWith_type1 (thn (ha pos pins s σ H _ I h) fun us s1 ⟨vs,H1,I1,r1,q1⟩=>hc pins s1 σ H1 vs us Q I1 r1 q1) he hpl
end
end L2
namespace HT
open PySem PyProof.Rows
section
open PySem.SeqAt
open PySem.AutoSeq1 (wpAny_loadPart')
open PySem.MeetsSeq PySem.MeetsSeq2 PySem.MeetsSeq3
end
section
variable {prog:Program}{w:World}{A:Around}{E:Value->Shared->Prop}{s:Shared}
noncomputable def sIx(n d:Nat):Option Int->Nat
 | none=>d
 | some v=>if v<0 then (v+(n:Int)).toNat else min v.toNat n
theorem sIx_le(n d:Nat)(hd:d<=n)(o:Option Int):sIx n d o<=n:=by
 cases o with
 | none=>exact hd
 | some v=>
  show (if v<0 then (v+(n:Int)).toNat else min v.toNat n)<=n
  by_cases hv:v<0
  ·rw[if_pos hv];omega
  ·rw[if_neg hv];exact Nat.min_le_right _ _
theorem zbp1(v:Int)(n d:Nat):(if v<0 then max (v+(n:Int)) 0 else min v (n:Int))=((sIx n d (some v):Nat):Int):=by
 show (if v<0 then max (v+(n:Int)) 0 else min v (n:Int))=(((if v<0 then (v+(n:Int)).toNat else min v.toNat n):Nat):Int)
 by_cases hv:v<0
 ·simp only[if_pos hv];omega
 ·simp only[if_neg hv];omega
theorem zbl5(lo hi:Option Int)(n:Nat):Builtin.Slice.sliceAdjust lo hi 1 (n:Int)=(((sIx n 0 lo:Nat):Int),((sIx n n hi:Nat):Int)):=by
 have h1:¬ ((1:Int)<0):=by omega
 unfold Builtin.Slice.sliceAdjust
 simp only[h1,if_false]
 refine Prod.ext ?_ ?_
 ·cases lo with
  | none=>rfl
  | some v=>exact zbp1 v n 0
 ·cases hi with
  | none=>rfl
  | some v=>exact zbp1 v n n
theorem zbk7(i j:Nat):Builtin.Slice.slicePlaces (i:Int) (j:Int) 1=j - i:=by
 unfold Builtin.Slice.slicePlaces
 have h1:(1:Int)>0:=by omega
 simp only[h1,if_true,Int.ediv_one]
 split<;>omega
theorem zam5{v:Value}{o:Option Int}{Q:Option Int->Shared->Prop}(p:IsPart v o)(h:Q o s):wpAny (model prog w) A (Builtin.Slice.slicePartIndex v) Q E s:=by
 cases p with
 | none=>exact slicePart_none h
 | int i t=>exact slicePart_int h
theorem zaf8{sl:Addr}{vl vu:Value}{lo hi:Option Int}{n:Nat}{Q:Int×Int×Nat->Shared->Prop}(hs:s.heap.IsSliceOf sl vl vu .none)(pl:IsPart vl lo)(pu:IsPart vu hi)(h:Q (((sIx n 0 lo:Nat):Int),1,sIx n n hi - sIx n 0 lo) s):wpAny (model prog w) A (Builtin.Slice.sliceApplied (.ref sl) (pure (n:Int))) Q E s:=by
 obtain⟨os,hos,hcs,hds⟩:=id hs
 unfold Builtin.Slice.sliceApplied Builtin.Slice.sliceFields
 refine zdf3 (zdf3 (wpAny_field hos hds (x:=vl) rfl (zdf3 (wpAny_field hos hds (x:=vu) rfl (zdf3 (wpAny_field hos hds (x:=.none) rfl (zdf4 ?_)))))))
 refine zdf3 (slicePart_none ?_)
 show wpAny _ _ (if ((1:Int)==0)=true then _ else _) _ _ s
 rw[if_neg (by decide)]
 refine zdf3 (zam5 pl (zdf3 (zam5 pu (zdf3 (zdf4 ?_)))))
 show wpAny _ _ (match Builtin.Slice.sliceAdjust lo hi 1 (n:Int) with|(lo,hi)=>pure (lo,(1:Int),Builtin.Slice.slicePlaces lo hi 1)) _ _ s
 rw[zbl5 lo hi n]
 show wpAny _ _ (pure (((sIx n 0 lo:Nat):Int),(1:Int),Builtin.Slice.slicePlaces ((sIx n 0 lo:Nat):Int) ((sIx n n hi:Nat):Int) 1)) _ _ s
 rw[zbk7]
 exact zdf4 h
theorem zcd6(xs:Array Value)(i k:Nat):((List.range k).filterMap fun (m:Nat)=>xs[((i:Int)+(m:Int)*1).toNat]?).toArray=((xs.toList.drop i).take k).toArray:=by
 have e:(fun (m:Nat)=>xs[((i:Int)+(m:Int)*1).toNat]?)=fun m=>xs[i+m]?:=by
  funext m
  have:((i:Int)+(m:Int)*1).toNat=i+m:=by omega
  rw[this]
 rw[e]
 have:=pick_run xs i k
 rw[List.filterMap_map] at this
 have e2:((fun x=>xs[x]?)∘fun x=>i+x)=fun m=>xs[i+m]?:=rfl
 rw[e2] at this
 rw[this]
theorem getItem_tuple_cut{t sl:Addr}{items:Array Value}{vl vu:Value}{lo hi:Option Int}{Q:Value->Shared->Prop}(ht:IsTup s.heap t items)(hs:s.heap.IsSliceOf sl vl vu .none)(pl:IsPart vl lo)(pu:IsPart vu hi)(hw:¬ (sIx items.size 0 lo=0/\sIx items.size items.size hi=items.size))(h:Q (.ref s.heap.objs.size) { s with heap:=s.heap.push { cls:=.type "tuple",data:=.seq ((items.toList.drop (sIx items.size 0 lo)).take (sIx items.size items.size hi - sIx items.size 0 lo)).toArray } })(hsz:items.size<=sizeLine):wpAny (model prog w) A (getItem (.ref t) (.ref sl)) Q E s:=by
 have htake:sizeOk (.seq ((items.toList.drop (sIx items.size 0 lo)).take (sIx items.size items.size hi - sIx items.size 0 lo)).toArray):=by
  show ((items.toList.drop (sIx items.size 0 lo)).take (sIx items.size items.size hi - sIx items.size 0 lo)).toArray.size<=sizeLine
  rw[zcw9,zda3,zda4,zcx1]
  omega
 have hj:sIx items.size items.size hi<=items.size:=sIx_le _ _ (zcx3 _) hi
 obtain⟨os,hos,hcs,hds⟩:=id hs
 have hTs:s.TypeIs (.ref sl) "slice":=⟨os,hos,hcs⟩
 unfold getItem
 try with_reducible refine zdf8 ?_
 first|refine zdf3 (zdf4 ?_)|skip
 refine zdf3 (wpAny_sequenceKey ht.typeIs (by decide) ?_)
 refine zdf3 (wpAny_callSpecial?_slot (name:=Str.ofString "__getitem__") ht.typeIs PyProof.Rows.slot_tuple_getitem
  (wpAny_call_entry PyProof.Rows.slot_tuple_getitem ht.typeIs entry_tuple_getitem ?_ (args_tuple_getitem _ _)))
 show wpAny _ _ (Builtin.Tuple.tupleItemsOf (.ref t) >>= _) _ _ s
 refine zdf3 (tupleItemsOf_ ht ?_)
 refine zdf3 (wpAny_typeOf hTs ?_)
 rw[if_pos (by decide)]
 refine zdf3 (zaf8 hs pl pu ?_)
 have hno:¬ ((((sIx items.size 0 lo:Nat):Int)==0&&(1:Int)==1&&(sIx items.size items.size hi - sIx items.size 0 lo)==items.size)=true):=by
  intro q
  rw[zcx4,zcx4] at q
  have q1:((sIx items.size 0 lo:Nat):Int)=0:=eq_of_beq q.1.1
  have q2:sIx items.size items.size hi - sIx items.size 0 lo=items.size:=eq_of_beq q.2
  exact hw ⟨by omega,by omega⟩
 show wpAny _ _ (if (((sIx items.size 0 lo:Nat):Int)==0&&(1:Int)==1&&(sIx items.size items.size hi - sIx items.size 0 lo)==items.size)=true then _ else _) _ _ s
 rw[if_neg hno,zcd6]
 first
  | exact zdf3 (m:=Builtin.Tuple.tupleExact _) (wpAny_newObj_type (zdf4 ⟨_,rfl,zdf4 h⟩) htake)
  | exact zdf3 (m:=Builtin.Tuple.tupleExact _) (wpAny_newObj_type (zdf3 (zdf4 (zdf4 ⟨_,rfl,zdf4 h⟩))) htake)
  | exact zdf3 (zdf3 (m:=Builtin.Tuple.tupleExact _) (wpAny_newObj_type (zdf4 (zdf4 ⟨_,rfl,zdf4 h⟩)) htake))
  | exact zdf3 (zdf3 (m:=Builtin.Tuple.tupleExact _) (wpAny_newObj_type (zdf4 ⟨_,rfl,zdf4 h⟩) htake))
end
end HT
namespace L2
open PySem PySem.Spec PyProof.Rows
noncomputable abbrev TO:=St->Hp->(Option Int->Hp->Prop)->Prop
noncomputable def PO(X:Cx)(e:Option Expr)(t:TO):Prop:=
 ∀ (pins:List (Addr×Obj)) (s:Shared) (σ:St) (H:Hp) (Q:Option Int->Hp->Prop),Inv X pins σ H s->t σ H Q ->
  wpAny (model X.prog X.w) X.A (evalPart e X.env) (fun u s'=>∃ o H',Inv X pins σ H' s'/\IsPart u o/\Q o H') X.xe s
variable {s:Shared}
def zcp9:TO:=fun _ H Q=>Q none H
theorem zad1{ns:List Int}:∀ {us:List Value},Vals (ns.map V.int) us->IntsAre us ns:=by
 induction ns with
 | nil=>intro us r;rw[List.map_nil] at r;cases r;exact .nil
 | cons n ns ih=>
  intro us r
  rw[zcz4] at r
  cases r with
  | cons r1 r2=>
   obtain⟨t,e⟩:=r1
   subst e
   exact .cons n t (ih r2)
section
variable {X:Cx}{e:Expr}{te:TE}{lo hi:Option Expr}{tl th:TO}{pos p2:Pos}
theorem zi8:PO X none zcp9:=by
 intro pins s σ H Q I h
 rw[evalPart_none]
 exact zdf4 ⟨none,H,I,.none,h⟩
noncomputable def SlR(X:Cx)(r:V->Option Int->Option Int->Hp->VK->Prop):Prop:=
 ∀ (pins:List (Addr×Obj)) (s:Shared) (σ:St) (H:Hp) (x:V) (v vl vu:Value) (lo hi:Option Int) (sl:Addr) (Q:VK),Inv X pins σ H s->RelV x v->s.heap.IsSliceOf sl vl vu .none->IsPart vl lo->IsPart vu hi->r x lo hi H Q ->
  ∃ T id,typeLookup (.type T) "__getitem__"=pure (some (.builtin id))/\s.TypeIs v T/\wpAny (model X.prog X.w) X.A (getItem v (.ref sl)) (EP X pins σ Q) X.xe s
noncomputable def tSl(r:V->Option Int->Option Int->Hp->VK->Prop)(te:TE)(tl th:TO):TE:=fun σ H Q=>te σ H fun x H1=>tl σ H1 fun l H2=>th σ H2 fun u H3=>r x l u H3 Q
theorem zg1{r:V->Option Int->Option Int->Hp->VK->Prop}(hr:SlR X r)(he:PE X e te)(hl:PO X lo tl)(hu:PO X hi th):PE X (.Subscript e (.Slice lo hi none p2) pos) (tSl r te tl th):=by
 intro pins s σ H Q I h
 refine Subscript_ (thn (he pins s σ H _ I h) fun v s1 ⟨x,H1,I1,r1,q1⟩=>?_)
 refine wpAny_Slice (thn (hl pins s1 σ H1 _ I1 q1) fun vl s2 ⟨l,H2,I2,pl,q2⟩=>thn (hu pins s2 σ H2 _ I2 q2) fun vu s3 ⟨u,H3,I3,pu,q3⟩=>?_)
 rw[evalPart_none]
 refine zdf4 ?_
 have I4:Inv X pins σ H3 { s3 with heap:=s3.heap.push { cls:=.type "slice",data:=.fields #[vl,vu,.none] } }:=I3.kept (t':=s3.toks) fun b ob q=>zcw6 _ q
 obtain⟨T,id,hT,ht,hg⟩:=hr pins { s3 with heap:=s3.heap.push { cls:=.type "slice",data:=.fields #[vl,vu,.none] } } σ H3 x v vl vu l u s3.heap.objs.size Q I4 r1 (Heap.IsSliceOf.new ..) pl pu q3
 show wpAny (model X.prog X.w) X.A (subscriptTail e (.Slice lo hi none p2) v (.ref s3.heap.objs.size)) (EP X pins σ Q) X.xe { s3 with heap:=s3.heap.push { cls:=.type "slice",data:=.fields #[vl,vu,.none] } }
 exact tail_any (ops:=[.ref s3.heap.objs.size,v]) ht hT hg (by with_unfolding_all rfl)
noncomputable def cutV(xs:List V)(lo hi:Option Int):List V:=(xs.drop (HT.sIx xs.length 0 lo)).take (HT.sIx xs.length xs.length hi - HT.sIx xs.length 0 lo)
theorem zah7(xs:List V)(lo hi:Option Int):(cutV xs lo hi).length<=xs.length:=by
 unfold cutV
 rw[zda3,zda4]
 omega
noncomputable def rSlT(K:zcw2):V->Option Int->Option Int->Hp->VK->Prop:=fun x lo hi H Q=>∃ a xs,x=.ref a/\SqT K H a xs /\
 ¬ (HT.sIx xs.length 0 lo=0/\HT.sIx xs.length xs.length hi=xs.length)/\∀ p,H p=none->Q (.ref p) (upd H p (.tup (cutV xs lo hi)))
theorem sl_tup:SlR X (rSlT X.K):=by
 intro pins s σ H x v vl vu lo hi sl Q I rx hs pl pu h
 obtain⟨a,xs,rfl,hx,hw,q⟩:=h
 cases rx
 obtain⟨its,r,ht,hz⟩:=I.tuple hx
 have hlen:its.toArray.size=xs.length:=by rw[zcw9];exact r.length.symm
 refine⟨"tuple",_,PyProof.Rows.slot_tuple_getitem.lookup,ht.typeIs,?_⟩
 refine HT.getItem_tuple_cut ht hs pl pu (by rw[hlen];exact hw) ?_ (by rw[hlen];exact hz)
 rw[hlen]
 refine⟨.ref s.heap.objs.size,_,I.laid (t':=s.toks) (o:=.tup (cutV xs lo hi)) (fun b ob q=>zcw6 _ q) (zcx3 _) ?_,rfl,q _ (I.hok.fresh (zcx3 _))⟩
 exact⟨zda0 (zah7 xs lo hi) hz,_,(r.drop (HT.sIx xs.length 0 lo)).take (HT.sIx xs.length xs.length hi - HT.sIx xs.length 0 lo),IsTup.new _ _⟩
end
noncomputable def ixN(n:Nat)(i:Int):Option Nat:=if 0<=i then (if i<n then some i.toNat else none) else if -(n:Int)<=i then some (i+n).toNat else none
noncomputable def atI{α:Type}(xs:List α)(i:Int):Option α:=(ixN xs.length i).bind fun j=>xs[j]?
theorem zbn6{n:Nat}{i:Int}{j:Nat}(h:ixN n i=some j):seqIndex? i n=some j/\j<n/\-(n:Int)<=i/\i<n:=by
 unfold ixN at h
 by_cases h0:0<=i
 ·rw[if_pos h0] at h
  by_cases h1:i<n
  ·rw[if_pos h1] at h
   have e:i.toNat=j:=Option.some.inj h
   exact⟨by rw[seqIndex_of h0 h1,e],by omega,by omega,h1⟩
  ·rw[if_neg h1] at h;cases h
 ·rw[if_neg h0] at h
  by_cases h1:-(n:Int)<=i
  ·rw[if_pos h1] at h
   have e:(i+n).toNat=j:=Option.some.inj h
   exact⟨by rw[seqIndex_neg (by omega) h1,e],by omega,h1,by omega⟩
  ·rw[if_neg h1] at h;cases h
theorem zbd5{α:Type}{xs:List α}{i:Int}{v:α}(h:atI xs i=some v):∃ j,seqIndex? i xs.length=some j/\xs[j]?=some v/\j<xs.length/\-(xs.length:Int)<=i/\i<xs.length:=by
 unfold atI at h
 cases e:ixN xs.length i with
 | none=>rw[e] at h;cases h
 | some j=>
  rw[e] at h
  obtain⟨h1,h2,h3,h4⟩:=zbn6 e
  exact⟨j,h1,h,h2,h3,h4⟩
theorem zc1{α:Type}{xs:List α}{j:Nat}{v:α}(h:xs[j]?=some v):atI xs (j:Int)=some v:=by
 have hj:j<xs.length:=(zcv9.mp h).1
 have e:ixN xs.length (j:Int)=some j:=by
  unfold ixN
  rw[if_pos (by omega),if_pos (by omega)];simp
 unfold atI;rw[e];exact h
noncomputable def zba9(b:Expr):Prop:=∀ o i,subscripted b false o i=operate [o,i] (getItem o i)
noncomputable def IxR(X:Cx)(r:R2):Prop:=
 ∀ (value slice:Expr) (pins:List (Addr×Obj)) (s:Shared) (σ:St) (H:Hp) (x y:V) (v u:Value) (Q:VK),Inv X pins σ H s->RelV x v->RelV y u->r x y H Q ->
  subscripted slice false v u=operate [v,u] (getItem v u)->wpAny (model X.prog X.w) X.A (subscriptTail value slice v u) (EP X pins σ Q) X.xe s
noncomputable def MtR(X:Cx)(id:String)(r:V->List V->Hp->VK->Prop):Prop:=
 ∀ (pins:List (Addr×Obj)) (s:Shared) (σ:St) (H:Hp) (x:V) (xs:List V) (v:Value) (us:List Value) (Q:VK),Inv X pins σ H s->RelV x v->Vals xs us->r x xs H Q ->
  wpAny (model X.prog X.w) X.A (call (.builtin id) (v :: us)) (EP X pins σ Q) X.xe s
section
variable {X:Cx}{a b:Expr}{ta tb:TE}{pos:Pos}
theorem pe_ix{r:R2}(hr:IxR X r)(ha:PE X a ta)(hb:PE X b tb)(hs:zba9 b):PE X (.Subscript a b pos) (tOp r ta tb):=by
 intro pins s σ H Q I h
 exact Subscript_ (binT ha hb I h fun v u s2 x y H2 I2 rx ry q=>hr a b pins s2 σ H2 x y v u Q I2 rx ry q (hs _ _))
noncomputable def rIxL(K:zcw2):R2:=fun x y H Q=>∃ p xs i v,x=.ref p/\y=.int i/\SqL K H p xs/\atI xs i=some v/\Q v H
noncomputable def rIxT(K:zcw2):R2:=fun x y H Q=>∃ p xs i v,x=.ref p/\y=.int i/\SqT K H p xs/\atI xs i=some v/\Q v H
noncomputable def rIxS:R2:=fun x y H Q=>∃ z i c,x=.str z/\y=.int i/\z.length<=sizeLine/\atI z.cps.toList i=some c/\Q (.str ⟨#[c]⟩) H
theorem zcm9:IxR X (rIxL X.K):=by
 intro value slice pins s σ H x y v u Q I rx ry h hs
 obtain⟨p,xs,i,z,rfl,rfl,hq,he,q⟩:=h
 cases rx
 obtain⟨t,rfl⟩:=ry
 obtain⟨its,r,pl,hz⟩:=I.list hq
 obtain⟨j,h1,h2,h3,h4,h5⟩:=zbd5 he
 obtain⟨w,ew,rw'⟩:=r.get h2
 have hl:=r.length
 have hn:=zaj9
 have fin:EP X pins σ Q w s:=⟨z,H,I,rw',q⟩
 by_cases h0:0<=i
 ·have hj:i.toNat=j:=by
   rw[seqIndex_of h0 h5] at h1
   exact Option.some.inj h1
  exact item_listR pl.isList h0 (by omega) (by rw[hj];simpa using ew) fin hs
 ·have hj:(i+(its.toArray.size:Int)).toNat=j:=by
   rw[seqIndex_neg (by omega) h4] at h1
   rw[zcw9,← hl]
   exact Option.some.inj h1
  exact subscriptTail_builtinR (x:=w) pl.isList.typeIs slot_list_getitem.lookup
   (wpAny_getItem_list_neg (Q:=fun r s'=>r=w/\EP X pins σ Q r s') pl.isList (by omega) (by rw[zcw9]<;>omega) (by omega) (by rw[hj];simpa using ew) ⟨rfl,fin⟩) hs
theorem ix_tup:IxR X (rIxT X.K):=by
 intro value slice pins s σ H x y v u Q I rx ry h hs
 obtain⟨p,xs,i,z,rfl,rfl,hq,he,q⟩:=h
 cases rx
 obtain⟨t,rfl⟩:=ry
 obtain⟨its,r,pl,hz⟩:=I.tuple hq
 obtain⟨j,h1,h2,h3,h4,h5⟩:=zbd5 he
 obtain⟨w,ew,rw'⟩:=r.get h2
 have hl:=r.length
 have hn:=zaj9
 have fin:EP X pins σ Q w s:=⟨z,H,I,rw',q⟩
 exact subscriptTail_builtinR (x:=w) pl.typeIs slot_tuple_getitem.lookup
  (getItem_tuple (j:=j) (Q:=fun r s'=>r=w/\EP X pins σ Q r s') pl (by omega) (by omega) (by rw[zcw9,← hl];exact h1) (by simpa using ew) ⟨rfl,fin⟩) hs
theorem ix_str:IxR X rIxS:=by
 intro value slice pins s σ H x y v u Q I rx ry h hs
 obtain⟨z,i,c,rfl,rfl,hz,he,q⟩:=h
 obtain⟨t,rfl⟩:=rx
 obtain⟨t',rfl⟩:=ry
 obtain⟨j,h1,h2,h3,h4,h5⟩:=zbd5 he
 have hl:z.cps.toList.length=z.length:=by simp[Str.length]
 rw[hl] at h1 h4 h5
 have hn:=zaj9
 exact tail_any (typeIs_str s z t) slot_str_getitem.lookup (getItem_str (c:=c) (by
  have e1:decide (i < -(2 ^ 63:Int))=false:=decide_eq_false (by omega)
  have e2:decide (i≥2 ^ 63)=false:=decide_eq_false (by omega)
  rw[e1,e2,Bool.or_false]) (by rw[h1];simpa using h2) ⟨.str ⟨#[c]⟩,H,I.tok _,⟨_,rfl⟩,q⟩) hs
theorem zbm5(its:List Value)(n j:Nat)(u:Value):Obj.mapSeq (·.setIfInBounds j u) { cls:=.type "list",data:=.seq its.toArray n }={ cls:=.type "list",data:=.seq (its.set j u).toArray n }:=by
 simp[Obj.mapSeq]
theorem Inv.lst{pins:List (Addr×Obj)}{σ:St}{H:Hp}{p:Addr}{xs:List V}(I:Inv X pins σ H s)(h:H p=some (.lst xs)) :
  ∃ (its:List Value) (n:Nat),Vals xs its/\s.heap.get? p=some { cls:=.type "list",data:=.seq its.toArray n }/\xs.length<=sizeLine:=by
 obtain⟨z,its,n,r,e⟩:=I.hok p _ h
 exact⟨its,n,r,e,z⟩
theorem Inv.lstUpd{pins:List (Addr×Obj)}{σ:St}{H:Hp}{p:Addr}{xs ys:List V}{its its':List Value}{n n':Nat}{f:Obj->Obj}(I:Inv X pins σ H s)(h:H p=some (.lst xs))(ho:s.heap.get? p=some { cls:=.type "list",data:=.seq its.toArray n })(hf:f { cls:=.type "list",data:=.seq its.toArray n }={ cls:=.type "list",data:=.seq its'.toArray n' })(r:Vals ys its')(hz:ys.length<=sizeLine)(t:Nat) :
  Inv X pins σ (upd H p (.lst ys)) { s with heap:=s.heap.update p f,toks:=t }:=by
 have e:(s.heap.update p f).get? p=some { cls:=.type "list",data:=.seq its'.toArray n' }:=by
  rw[Heap.get?_update_self f ho (by rw[hf]<;>rfl),hf]
 refine I.write (x:=p) (e:=p) (by rw[h];trivial) (.inl rfl) (fun b u hb q=>(Heap.get?_update_other _ _ (Ne.symm hb)).trans q) ⟨_,e⟩ ?_
 exact⟨hz,its',n',r,e⟩
noncomputable def rSetL:V->V->V->Hp->(Hp->Prop)->Prop:=fun o i v H Q=>∃ p xs k j,o=.ref p/\i=.int k/\H p=some (.lst xs)/\ixN xs.length k=some j/\Q (upd H p (.lst (xs.set j v)))
theorem zcf8:PSet X rSetL:=by
 intro pins s σ H o i v ov iv u Q I ro ri rv h
 obtain⟨p,xs,k,j,rfl,rfl,hp,hj,q⟩:=h
 cases ro
 obtain⟨t,rfl⟩:=ri
 obtain⟨its,n,r,ho,hz⟩:=I.lst hp
 obtain⟨h1,h2,h3,h4⟩:=zbn6 hj
 have hl:=r.length
 have hn:=zaj9
 have I':Inv X pins σ (upd H p (.lst (xs.set j v))) { s with heap:=s.heap.update p (Obj.mapSeq (·.setIfInBounds j u)) }:=
  I.lstUpd hp ho (zbm5 its n j u) (r.set rv j) (by rw[List.length_set];exact hz) s.toks
 by_cases h0:0<=k
 ·have hk:k.toNat=j:=by
   rw[seqIndex_of h0 h4] at h1
   exact Option.some.inj h1
  exact PySem.W.ki_setAt ho h0 (by omega) (by rw[zcw9,← hl];exact h4) (by rw[hk];exact⟨_,I',q⟩)
 ·have hk:(k+(its.toArray.size:Int)).toNat=j:=by
   rw[seqIndex_neg (by omega) h3] at h1
   rw[zcw9,← hl]
   exact Option.some.inj h1
  exact PySem.W.ki_setBack ho (by omega) (by rw[zcw9,← hl];exact h3) (by omega) (by rw[hk];exact⟨_,I',q⟩)
theorem zau3(lo hi:Option Int)(n:Nat):(sliceBounds lo hi none n).1=((HT.sIx n 0 lo:Nat):Int)/\(sliceBounds lo hi none n).2.1=((HT.sIx n n hi:Nat):Int)/\(sliceBounds lo hi none n).2.2=1:=by
 refine⟨?_,?_,rfl⟩
 ·cases lo with
  | none=>simp[sliceBounds,HT.sIx]
  | some i=>
   simp only[sliceBounds,HT.sIx,Option.getD_none,show (1:Int)>0 by decide,if_true]
   by_cases h:i<0
   ·simp only[h,if_true]<;>omega
   ·simp only[h,if_false]<;>omega
 ·cases hi with
  | none=>simp[sliceBounds,HT.sIx]
  | some i=>
   simp only[sliceBounds,HT.sIx,Option.getD_none,show (1:Int)>0 by decide,if_true]
   by_cases h:i<0
   ·simp only[h,if_true]<;>omega
   ·simp only[h,if_false]<;>omega
theorem zas6(its:List Value)(lo hi:Option Int):slicePick its.toArray lo hi none=((its.drop (HT.sIx its.length 0 lo)).take (HT.sIx its.length its.length hi - HT.sIx its.length 0 lo)).toArray:=by
 obtain⟨h1,h2,h3⟩:=zau3 lo hi its.toArray.size
 unfold slicePick
 rw[h1,h2,h3]
 simp only[sliceRange_one,pick_run,zcw9]<;>rfl
noncomputable def rSlL(K:zcw2):V->Option Int->Option Int->Hp->VK->Prop:=fun x lo hi H Q=>∃ a xs,x=.ref a/\SqL K H a xs/\∀ p,H p=none->Q (.ref p) (upd H p (.lst (cutV xs lo hi)))
theorem zck9:SlR X (rSlL X.K):=by
 intro pins s σ H x v vl vu lo hi sl Q I rx hs pl pu h
 obtain⟨a,xs,rfl,hx,q⟩:=h
 cases rx
 obtain⟨its,r,ht,hz⟩:=I.list hx
 have hlen:=r.length
 refine⟨"list",_,slot_list_getitem.lookup,ht.isList.typeIs,?_⟩
 refine wpAny_getItem_list_slice ht.isList hs pl pu .none (by simp) ?_ (by rw[zcw9]<;>omega)
 rw[zas6,← hlen]
 refine⟨.ref s.heap.objs.size,_,I.laid (t':=s.toks) (o:=.lst (cutV xs lo hi)) (fun b ob q=>zcw6 _ q) (zcx3 _) ?_,rfl,q _ (I.hok.fresh (zcx3 _))⟩
 exact⟨zda0 (zah7 xs lo hi) hz,_,0,(r.drop (HT.sIx xs.length 0 lo)).take (HT.sIx xs.length xs.length hi - HT.sIx xs.length 0 lo),zcy8 _ rfl⟩
noncomputable def zs0:V->Bool
 | .non=>true
 | .bl _=>true
 | .int _=>true
 | .str _=>true
 | _=>false
noncomputable def eqV:V->V->Bool
 | .non,.non=>true
 | .bl a,.bl b=>a==b
 | .bl a,.int b=>(if a then 1 else 0)==b
 | .int a,.bl b=>a==(if b then 1 else 0)
 | .int a,.int b=>a==b
 | .str a,.str b=>a==b
 | _,_=>false
theorem zbt3{A:Around}{y x:V}{u v:Value}(ry:RelV y u)(rx:RelV x v)(fy:zs0 y=true)(fx:zs0 x=true):SeqAt.EqAt A s u v (eqV y x):=by
 cases y with
 | non=>
  cases ry
  cases x with
  | non=>cases rx;exact SeqAt.EqAt.same _
  | bl b=>cases rx;exact SeqAt.EqAt.none_bool b
  | int b=>obtain⟨t,rfl⟩:=rx;exact SeqAt.EqAt.none_int b t
  | str b=>obtain⟨t,rfl⟩:=rx;exact SeqAt.EqAt.none_str b t
  | _=>exact absurd (show false=true from fx) zcw5
 | bl a=>
  cases ry
  cases x with
  | non=>cases rx;exact SeqAt.EqAt.bool_none a
  | bl b=>cases rx;exact SeqAt.EqAt.bool_bool a b
  | int b=>obtain⟨t,rfl⟩:=rx;exact SeqAt.EqAt.bool_int a b t
  | str b=>obtain⟨t,rfl⟩:=rx;exact SeqAt.EqAt.bool_str a b t
  | _=>exact absurd (show false=true from fx) zcw5
 | int a=>
  obtain⟨t',rfl⟩:=ry
  cases x with
  | non=>cases rx;exact SeqAt.EqAt.int_none a t'
  | bl b=>cases rx;exact SeqAt.EqAt.int_bool a t' b
  | int b=>obtain⟨t,rfl⟩:=rx;exact SeqAt.EqAt.int_int a t' b t
  | str b=>obtain⟨t,rfl⟩:=rx;exact SeqAt.EqAt.int_str a t' b t
  | _=>exact absurd (show false=true from fx) zcw5
 | str a=>
  obtain⟨t',rfl⟩:=ry
  cases x with
  | non=>cases rx;exact SeqAt.EqAt.str_none a t'
  | bl b=>cases rx;exact SeqAt.EqAt.str_bool a t' b
  | int b=>obtain⟨t,rfl⟩:=rx;exact SeqAt.EqAt.str_int a t' b t
  | str b=>obtain⟨t,rfl⟩:=rx;exact SeqAt.EqAt.str_str a t' b t
  | _=>exact absurd (show false=true from fx) zcw5
 | _=>exact absurd (show false=true from fy) zcw5
noncomputable def eqU(x:V)(u:Value):Bool:=match u with
 | .none=>eqV .non x
 | .bool b=>eqV (.bl b) x
 | .int i _=>eqV (.int i) x
 | .str z _=>eqV (.str z) x
 | _=>false
theorem zcj2{x y:V}{u:Value}(r:RelV y u)(f:zs0 y=true):eqU x u=eqV y x:=by
 cases y with
 | non=>cases r;rfl
 | bl b=>cases r;rfl
 | int i=>obtain⟨t,rfl⟩:=r;rfl
 | str z=>obtain⟨t,rfl⟩:=r;rfl
 | _=>exact absurd (show false=true from f) zcw5
theorem zai6{x:V}:∀ {xs:List V}{us:List Value},Vals xs us->xs.all zs0=true->us.any (eqU x)=xs.any fun y=>eqV y x
 | _,_,.nil,_=>rfl
 | y :: xs,u :: us,.cons r t,f=>by
  rw[List.all_cons,zcx4] at f
  rw[List.any_cons,List.any_cons,zcj2 r f.1,zai6 t f.2]
theorem zab0{A:Around}{s:Shared}{x:V}{v:Value}(rx:RelV x v)(fx:zs0 x=true):∀ {xs:List V}{us:List Value},Vals xs us->xs.all zs0=true->∀ u∈us,SeqAt.EqAt A s u v (eqU x u)
 | _,_,.nil,_=>fun u hu=>by cases hu
 | y :: xs,u :: us,.cons r t,f=>fun u' hu=>by
  rw[List.all_cons,zcx4] at f
  rcases zcw8.mp hu with rfl|hu
  ·rw[zcj2 r f.1];exact zbt3 r rx f.1 fx
  ·exact zab0 rx fx t f.2 u' hu
noncomputable def inV(x:V)(xs:List V):Bool:=xs.any fun y=>eqV y x
noncomputable def rIn(K:zcw2)(neg:Bool):R2:=fun x y H Q=>∃ p xs,y=.ref p/\(SqL K H p xs∨SqT K H p xs)/\zs0 x=true/\xs.all zs0=true/\Q (.bl (if neg then !inV x xs else inV x xs)) H
theorem zbr6:OpR X (compareOp .In) (rIn X.K false):=by
 intro pins s σ H x y v u Q I rx ry h
 obtain⟨p,xs,rfl,hq,fx,fs,q⟩:=h
 cases ry
 rcases hq with hq|hq
 ·obtain⟨its,r,pl,hz⟩:=I.list hq
  refine SeqAt.in_listAt (eqU x) pl.isList (fun w hw=>zab0 rx fx r fs w (by simpa using hw)) ⟨.bl _,H,I,rfl,?_⟩
  rw[show its.toArray.any (eqU x)=its.any (eqU x) by simp,zai6 r fs]
  exact q
 ·obtain⟨its,r,pl,hz⟩:=I.tuple hq
  refine SeqAt.in_tupleAt (eqU x) pl (fun w hw=>zab0 rx fx r fs w (by simpa using hw)) ⟨.bl _,H,I,rfl,?_⟩
  rw[show its.toArray.any (eqU x)=its.any (eqU x) by simp,zai6 r fs]
  exact q
theorem zau6:OpR X (compareOp .NotIn) (rIn X.K true):=by
 intro pins s σ H x y v u Q I rx ry h
 obtain⟨p,xs,rfl,hq,fx,fs,q⟩:=h
 cases ry
 rcases hq with hq|hq
 ·obtain⟨its,r,pl,hz⟩:=I.list hq
  refine SeqAt.notIn_listAt (eqU x) pl.isList (fun w hw=>zab0 rx fx r fs w (by simpa using hw)) ⟨.bl _,H,I,rfl,?_⟩
  rw[show its.toArray.any (eqU x)=its.any (eqU x) by simp,zai6 r fs]
  exact q
 ·obtain⟨its,r,pl,hz⟩:=I.tuple hq
  refine SeqAt.notIn_tupleAt (eqU x) pl (fun w hw=>zab0 rx fx r fs w (by simpa using hw)) ⟨.bl _,H,I,rfl,?_⟩
  rw[show its.toArray.any (eqU x)=its.any (eqU x) by simp,zai6 r fs]
  exact q
theorem zas9:zm6 X (.builtin "len") (fun xs H Q=>∃ p ys,xs=[.ref p]/\(SqL X.K H p ys∨SqT X.K H p ys)/\Q (.int ys.length) H):=by
 intro pins s σ H xs us Q I r h
 obtain⟨p,ys,rfl,hq,q⟩:=h
 obtain⟨u,rfl,rx⟩:=zy7 r
 cases rx
 have hn:=zaj9
 rcases hq with hq|hq
 ·obtain⟨its,r',pl,hz⟩:=I.list hq
  have hlen:=r'.length
  exact Calls.call_len_list pl.isList (by simp only[zcw9]<;>omega) ⟨.int ys.length,H,I.tok _,⟨s.toks+1,by rw[zcw9,hlen]⟩,q⟩
 ·obtain⟨its,r',pl,hz⟩:=I.tuple hq
  have hlen:=r'.length
  exact len_tuple pl (by simp only[zcw9]<;>omega) ⟨.int ys.length,H,I.tok _,⟨s.toks+1,by rw[zcw9,hlen]⟩,q⟩
theorem zax0:zm6 X (.builtin "len") (fun xs H Q=>∃ z,xs=[.str z]/\z.length<=sizeLine/\Q (.int z.length) H):=by
 intro pins s σ H xs us Q I r h
 obtain⟨z,rfl,hz,q⟩:=h
 obtain⟨u,rfl,t,rfl⟩:=zy7 r
 have hn:=zaj9
 exact len_str (by omega) ⟨.int z.length,H,I.tok _,⟨_,rfl⟩,q⟩
theorem zau2:zm6 X (.type "list") (fun xs H Q=>∃ p ys,xs=[.ref p]/\(SqL X.K H p ys∨SqT X.K H p ys)/\∀ l,H l=none->Q (.ref l) (upd H l (.lst ys))):=by
 intro pins s σ H xs us Q I r h
 obtain⟨p,ys,rfl,hq,q⟩:=h
 obtain⟨u,rfl,rx⟩:=zy7 r
 cases rx
 have fin:∀ (its:List Value),Vals ys its->ys.length<=sizeLine->∀ (h':Heap) (c':Nat),(∀ b o',s.heap.get? b=some o'->h'.get? b=some o') ->
   h'.get? s.heap.objs.size=some { cls:=.type "list",dict:=none,data:=.seq its.toArray c',slots:=#[] }->EP X pins σ Q (.ref s.heap.objs.size) { s with heap:=h' }:=fun its r' hz h' c' kp e=>
  ⟨.ref s.heap.objs.size,_,I.laid (t':=s.toks) kp (zcx3 _) (show zi5 X.prog X.w _ h' _ (.lst ys) from ⟨hz,its,c',r',e⟩),rfl,q _ (I.hok.fresh (zcx3 _))⟩
 rcases hq with hq|hq
 ·obtain⟨its,r',pl,hz⟩:=I.list hq
  have hlen:=r'.length
  obtain⟨o,ho,hc,n,hd⟩:=pl.isList
  exact call_list_seq p (.inl rfl) ho hc hd (fun h' c' kp e=>fin its r' hz h' c' kp e) (by simp only[zcw9]<;>omega)
 ·obtain⟨its,r',pl,hz⟩:=I.tuple hq
  have hlen:=r'.length
  obtain⟨o,ho,hc,n,hd⟩:=pl
  exact call_list_seq p (.inr rfl) ho hc hd (fun h' c' kp e=>fin its r' hz h' c' kp e) (by simp only[zcw9]<;>omega)
theorem zap1:zm6 X (.type "tuple") (fun xs H Q=>∃ p ys,xs=[.ref p]/\((SqL X.K H p ys/\∀ l,H l=none->Q (.ref l) (upd H l (.tup ys)))∨(SqT X.K H p ys/\Q (.ref p) H))):=by
 intro pins s σ H xs us Q I r h
 obtain⟨p,ys,rfl,h⟩:=h
 obtain⟨u,rfl,rx⟩:=zy7 r
 cases rx
 rcases h with ⟨hq,q⟩|⟨hq,q⟩
 ·obtain⟨its,r',pl,hz⟩:=I.list hq
  have hlen:=r'.length
  refine call_tuple_list pl.isList (fun h' kp=>?_) (by simp only[zcw9]<;>omega)
  have I1:Inv X pins σ H { s with heap:=h' }:=I.kept (t':=s.toks) kp
  have I2:Inv X pins σ (upd H h'.objs.size (.tup ys)) { s with heap:=h'.push { cls:=.type "tuple",data:=.seq its.toArray } }:=
   I1.laid (t':=s.toks) (fun b o e=>zcw6 _ e) (zcx3 _) (show zi5 X.prog X.w _ _ _ (.tup ys) from ⟨hz,its,r',IsTup.new _ _⟩)
  exact⟨.ref h'.objs.size,_,I2,rfl,q _ (I1.hok.fresh (zcx3 _))⟩
 ·obtain⟨its,r',pl,hz⟩:=I.tuple hq
  exact call_tuple_same pl ⟨.ref p,H,I,rfl,q⟩
noncomputable def tyV(K:zcw2)(T:String)(x:V)(H:Hp):Prop:=match x with
 | .str _=>T="str"
 | .int _=>T="int"
 | .ref p=>(T="list"/\∃ xs,SqL K H p xs)∨(T="tuple"/\∃ o,K.lookup p=some o/\o.cls=.type "tuple"/\o.dict=none) ∨
   (T="dict"/\((∃ kvs,H p=some (.dK kvs))∨∃ kvs,H p=some (.dT kvs)))∨(T="set"/\∃ S n,H p=some (.set S n))
 | _=>False
theorem tyV_is{pins:List (Addr×Obj)}{σ:St}{H:Hp}{T:String}{x:V}{v:Value}(I:Inv X pins σ H s)(r:RelV x v)(ty:tyV X.K T x H) :
  s.TypeIs v T/\∀ a,v=.ref a->∃ ob,s.heap.get? a=some ob/\ob.dict=none:=by
 cases x with
 | str z=>
  obtain⟨t,rfl⟩:=r
  cases (show T="str" from ty)
  exact⟨typeIs_str s z t,fun _ e=>nomatch e⟩
 | int i=>
  obtain⟨t,rfl⟩:=r
  cases (show T="int" from ty)
  exact⟨typeIs_int s i t,fun _ e=>nomatch e⟩
 | ref p=>
  cases r
  rcases ty with ⟨rfl,xs,hq⟩|⟨rfl,o,hk,hc,hd⟩|⟨rfl,hk⟩|⟨rfl,S,n,hk⟩
  ·obtain⟨its,_,pl,_⟩:=I.list hq
   refine⟨pl.isList.typeIs,fun a e=>?_⟩
   cases e
   obtain⟨o,n,e,c,hd,_⟩:=pl
   exact⟨o,e,hd⟩
  ·refine⟨⟨o,I.kIn p o hk,hc⟩,fun a e=>?_⟩
   cases e
   exact⟨o,I.kIn _ o hk,hd⟩
  ·have z:∃ o,s.heap.get? p=some o/\o.ExactDict:=by
    rcases hk with ⟨kvs,hk⟩|⟨kvs,hk⟩
    ·obtain⟨_,_,_,_,o,_,_,e,ex,_⟩:=I.hok p _ hk
     exact⟨o,e,ex⟩
    ·obtain⟨_,_,_,_,o,_,_,e,ex,_⟩:=I.hok p _ hk
     exact⟨o,e,ex⟩
   obtain⟨o,e,ex⟩:=z
   refine⟨⟨o,e,ex.1⟩,fun a e2=>?_⟩
   cases e2
   exact⟨o,e,ex.2.1⟩
  ·obtain⟨o,_,_,_,e,ex,_⟩:=I.hok p _ hk
   refine⟨⟨o,e,ex.1⟩,fun a e2=>?_⟩
   cases e2
   exact⟨o,e,ex.2.1⟩
 | _=>exact False.elim ty
variable {o e:Expr}{es:List Expr}{to:TE}{t:TA}{name:Str}{apos cpos:Pos}{T id:String}{r:V->List V->Hp->VK->Prop}
end
noncomputable def MtM(X:Cx)(id:String)(r:V->List V->Hp->VK->Prop):Prop:=
 ∀ (pins:List (Addr×Obj)) (s:Shared) (σ:St) (H:Hp) (x:V) (xs:List V) (v:Value) (us:List Value) (Q:VK),Inv X pins σ H s->RelV x v->Vals xs us->r x xs H Q ->
  wpAny (model X.prog X.w) X.A (call (.builtin id) (v :: us)) (EP X pins σ Q) X.xe s
theorem Vals.one:∀ {x:V}{us:List Value},Vals [x] us->∃ u,us=[u]/\RelV x u
 | _,_,.cons r .nil=>⟨_,rfl,r⟩
theorem Vals.rep{xs:List V}{us:List Value}(h:Vals xs us):∀ k:Nat,Vals (List.replicate k xs).flatten (List.replicate k us).flatten
 | 0=>.nil
 | k+1=>by
  rw[zde1,zde1,List.flatten_cons,List.flatten_cons]
  exact Vals.append h (Vals.rep h k)
theorem zat7(its:List Value):∀ (k:Nat) (acc:List Value),
  List.foldl (fun x1 x2=>x1++x2) acc.toArray (List.replicate k its.toArray)=(acc++(List.replicate k its).flatten).toArray
 | 0,acc=>by simp
 | k+1,acc=>by
  have e:acc.toArray++its.toArray=(acc++its).toArray:=by simp
  have e2:(acc++its)++(List.replicate k its).flatten=acc++(List.replicate (k+1) its).flatten:=by
   rw[zde1,List.flatten_cons,List.append_assoc]
  rw[← e2,← zat7 its k (acc++its),← e,zde1,List.foldl_cons]
section
variable {X:Cx}{pins:List (Addr×Obj)}{σ:St}{H:Hp}{s:Shared}{l b:Addr}{xs ys zs:List V}
theorem Inv.lset{its its':List Value}{n:Nat}{f:Array Value->Array Value}{t':Nat}(I:Inv X pins σ H s)(hH:H l=some (.lst xs))(e:s.heap.get? l=some { cls:=.type "list",data:=.seq its.toArray n })(hf:f its.toArray=its'.toArray)(hv:Vals ys its')(hz:ys.length<=sizeLine) :
  Inv X pins σ (upd H l (.lst ys)) { s with heap:=s.heap.update l (Obj.mapSeq f),toks:=t' }:=by
 have q:=PySem.IsL.update e f
 rw[hf] at q
 refine I.write (x:=l) (e:=l) (by rw[hH];exact trivial) (.inl rfl) (fun b' u hb hu=>(Heap.get?_update_other s.heap (Obj.mapSeq f) (Ne.symm hb)).trans hu) ⟨_,q⟩ ?_
 exact⟨hz,its',_,hv,q⟩
theorem Inv.lnew{its:List Value}{t':Nat}(I:Inv X pins σ H s)(hv:Vals ys its)(hz:ys.length<=sizeLine) :
  Inv X pins σ (upd H s.heap.objs.size (.lst ys)) { s with heap:=s.heap.push { cls:=.type "list",data:=.seq its.toArray },toks:=t' }:=
 I.laid (fun _ _ q=>zcw6 _ q) (zcx3 _) ⟨hz,its,0,hv,zcy8 _ rfl⟩
theorem Inv.fresh(I:Inv X pins σ H s):H s.heap.objs.size=none:=I.hok.fresh (zcx3 _)
theorem Inv.lstM(I:Inv X pins σ H s)(hH:H l=some (.lst xs)):xs.length<=sizeLine/\∃ (its:List Value) (n:Nat),Vals xs its/\xs.length=its.length/\s.heap.get? l=some { cls:=.type "list",data:=.seq its.toArray n }:=by
 obtain⟨z,its,n,r,e⟩:=I.hok l _ hH
 exact⟨z,its,n,r,r.length,e⟩
theorem zbg1{n:Nat}(h:n<=sizeLine):Builtin.List.listTooLong n=false:=by
 unfold Builtin.List.listTooLong
 exact decide_eq_false (by omega)
end
section
variable {X:Cx}
noncomputable def zck2:V->List V->Hp->VK->Prop:=fun x vs H Q=>∃ l xs y,x=.ref l/\vs=[y]/\H l=some (.lst xs)/\xs.length<sizeLine/\Q .non (upd H l (.lst (xs++[y])))
theorem zaj2:MtM X "list.append" zck2:=by
 intro pins s σ H x vs v us Q I rx rv h
 obtain⟨l,xs,y,rfl,rfl,hH,hz,q⟩:=h
 cases rx
 obtain⟨u,rfl,ru⟩:=rv.one
 obtain⟨z,its,n,r,hl,e⟩:=I.lstM hH
 refine call_meets F.slot_list_append ⟨_,e,rfl⟩ F.entry_list_append (F.args_list_append_2 _ _) (PySem.list_append l its.toArray n u (by rw[zcw9];omega)) ⟨e,?_⟩
 refine⟨.non,_,I.lset (its':=its++[u]) hH e (by simp) (r.append (.cons ru .nil)) ?_,rfl,q⟩
 rw[zcw7,zcy4]
 omega
noncomputable def zcl5:V->List V->Hp->VK->Prop:=fun x vs H Q=>∃ l b xs zs,x=.ref l/\vs=[.ref b]/\H l=some (.lst xs)/\H b=some (.lst zs)/\xs.length+zs.length<=sizeLine/\Q .non (upd H l (.lst (xs++zs)))
theorem mt_extend:MtM X "list.extend" zcl5:=by
 intro pins s σ H x vs v us Q I rx rv h
 obtain⟨l,b,xs,zs,rfl,rfl,hH,hB,hz,q⟩:=h
 cases rx
 obtain⟨u,rfl,ru⟩:=rv.one
 cases ru
 obtain⟨z,its,n,r,hl,e⟩:=I.lstM hH
 obtain⟨z2,its2,n2,r2,hl2,e2⟩:=I.lstM hB
 have hsz:its.toArray.size+its2.toArray.size<=sizeLine:=by rw[zcw9,zcw9];omega
 have hlong:¬ (!its.toArray.isEmpty&&Builtin.List.listTooLong (its.toArray.size+its2.toArray.size))=true:=by
  rw[zbg1 hsz,zdf0]
  exact zcw5
 refine call_meets F.slot_list_extend ⟨_,e,rfl⟩ F.entry_list_extend (F.args_list_extend_2 _ _)
  (AutoSeq1.list_extend_list_list_0 l its.toArray n b its2.toArray n2 hlong (by rw[zcw9];omega) (by omega)) ⟨e,e2,?_⟩
 refine⟨.non,_,I.lset (its':=its++its2) hH e (by simp) (r.append r2) ?_,rfl,q⟩
 rw[zcw7]
 omega
noncomputable def rCat:R2:=fun x y H Q=>∃ l b xs zs,x=.ref l/\y=.ref b/\H l=some (.lst xs)/\H b=some (.lst zs)/\xs.length+zs.length<=sizeLine/\∀ p,H p=none->Q (.ref p) (upd H p (.lst (xs++zs)))
theorem op_cat:OpR X (binaryOp .Add) rCat:=by
 intro pins s σ H x y v u Q I rx ry h
 obtain⟨l,b,xs,zs,rfl,rfl,hH,hB,hz,q⟩:=h
 cases rx
 cases ry
 obtain⟨z,its,n,r,hl,e⟩:=I.lstM hH
 obtain⟨z2,its2,n2,r2,hl2,e2⟩:=I.lstM hB
 refine PySem.P.add_list e e2 ?_ (by rw[zcw9,zcw9];omega)
 have ea:its.toArray++its2.toArray=(its++its2).toArray:=by simp
 rw[ea]
 exact⟨.ref _,_,I.lnew (t':=s.toks) (r.append r2) (by rw[zcw7];omega),rfl,q _ I.fresh⟩
noncomputable def rRep:R2:=fun x y H Q=>∃ l k xs,x=.ref l/\y=.int k/\H l=some (.lst xs)/\-(2 ^ 63)<=k/\k<2 ^ 63/\xs.length*k.toNat<=sizeLine /\
 ∀ p,H p=none->Q (.ref p) (upd H p (.lst (List.replicate k.toNat xs).flatten))
theorem zck6{α:Type}(xs:List α)(k:Nat):(List.replicate k xs).flatten.length=k*xs.length:=by
 induction k with
 | zero=>simp
 | succ k ih=>rw[zde1,List.flatten_cons,zcw7,ih,Nat.succ_mul,Nat.add_comm]
theorem op_rep:OpR X (binaryOp .Mult) rRep:=by
 intro pins s σ H x y v u Q I rx ry h
 obtain⟨l,k,xs,rfl,rfl,hH,h1,h2,hz,q⟩:=h
 cases rx
 obtain⟨t,rfl⟩:=ry
 obtain⟨z,its,n,r,hl,e⟩:=I.lstM hH
 have hlen:its.toArray.size*k.toNat<=sizeLine:=by rw[zcw9,← hl];exact hz
 have hcap:¬ its.toArray.size*k.toNat>(2 ^ 63 - 1) / 8:=by
  have:(sizeLine:Nat)<=(2 ^ 63 - 1) / 8:=by decide
  omega
 have hfit:¬ (!Builtin.List.listFitsIndex k)=true:=by
  rw[fitsIndex_both h1 h2]
  exact zcw5
 have hlong:¬ Builtin.List.listTooLong (its.toArray.size*k.toNat)=true:=by
  rw[zbg1 hlen]
  exact zcw5
 have hnew:List.foldl (fun x1 x2=>x1++x2) #[] (List.replicate (if its.toArray.isEmpty=true then 0 else k.toNat) its.toArray)=(List.replicate k.toNat its).flatten.toArray:=by
  have f0:∀ m:Nat,List.foldl (fun x1 x2=>x1++x2) #[] (List.replicate m its.toArray)=(List.replicate m its).flatten.toArray:=fun m=>by
   have:=zat7 its m []
   rw[List.nil_append] at this
   exact this
  rw[f0]
  cases its with
  | nil=>simp
  | cons a r'=>rw[if_neg (by simp)]
 refine wpAny_binaryOp_repeat_ref (T:="list") (U:="int") (by decide) ⟨_,e,rfl⟩ (fun s'=>typeIs_int s' k t) noFill_list_mul F.fills_int_mul F.slot_int_rmul repeat_list F.slot_int_index.lookup
  (call_meets F.slot_int_rmul (typeIs_int s k t) F.entry_int_rmul (F.args_int_rmul_2 _ _) (int___rmul___int_list k t l its.toArray n)
   ⟨e,rfl,⟨_,e,rfl⟩,call_meets F.slot_list_mul ⟨_,e,rfl⟩ F.entry_list_mul (F.args_list_mul_2 _ _) (AutoListH.list___mul___list_int_3 l its.toArray n k t hfit hcap hlong) ⟨e,?_⟩⟩)
 rw[hnew]
 exact⟨.ref _,_,I.lnew (t':=s.toks) (r.rep k.toNat) (by rw[zck6,Nat.mul_comm];exact hz),rfl,q _ I.fresh⟩
end
end L2
namespace Att
open PySem PySem.W PySem.Calls PyProof.Rows
theorem zah9{P:Params}{h:Heap}:∀ (ns:List Int) (vs:List Value),WellAll P h vs (ns.map WData.int)->IntsAre vs ns:=by
 intro ns
 induction ns with
 | nil=>
  intro vs w
  rw[List.map_nil] at w
  cases w
  exact .nil
 | cons n ns ih=>
  intro vs w
  rw[zcz4] at w
  cases w with
  | cons a b=>
   cases a
   exact .cons _ _ (ih _ b)
theorem zbs5{l:OpenLaw}{n:Nat}(hn:l.most=some n){P:Params}{h:Heap}{args:List WData}{vals:List Value}(hpre:l.row.toRowW.claim.pre args=true)(hwl:WellAll P h vals args) :
  ∃ a vs ns,vals=[Value.ref a]/\args=[WData.list (ns.map WData.int)]/\h.get? a=some { cls:=.type "list",data:=.seq vs.toArray }/\IntsAre vs ns/\ns.length<=n:=by
 have hsh:WShape.hasAll [] args [.list .int]=true:=(pre_splitW hpre).1
 have hc:l.pre.holds [] { args:=args }=true:=(pre_splitW hpre).2
 obtain⟨d,r,rfl,h1,h2⟩:=hasAllW_cons hsh
 obtain rfl:=hasAllW_nil h2
 obtain⟨xs,rfl,h3⟩:=hasW_list h1
 obtain⟨ns,rfl⟩:=items_int h3
 have hlen:ns.length<=n:=by
  unfold OpenLaw.pre at hc
  have h4:(WTm.not (.lt (.lit (.int (n:Int))) (.len (.arg 0)))).holds [] { args:=[.list (ns.map .int)] }=true:=by
   have h4:=(holds_andW hc).1
   rw[hn] at h4
   exact h4
  have h5:=condW_of h4 (w_not (w_lt w_lit (w_len_list (w_arg rfl))))
  rw[zcv8] at h5
  refine Nat.le_of_not_lt fun q=>?_
  have q':(n:Int)<((ns.length:Nat):Int):=by omega
  first
   | (rw[decide_eq_true q'] at h5;exact absurd h5 (by decide))
   | (simp at h5;omega)
 cases hwl with
 | cons w1 w2=>
  cases w2
  cases w1 with
  | list ho hall=>exact⟨_,_,ns,rfl,rfl,ho,zah9 ns _ hall,hlen⟩
theorem zby2(l:OpenLaw)(args:List WData):l.row.toRowW.claim.post args (.bool true) args=true:=
 postW_of (r:=l.row.toRowW) (X:=(true==true))
  (show WShape.has [] (.bool true) .bool=true by first|rfl|decide|simp[WShape.has,WShape.arms,WShape.armsAll])
  (show (WTm.eq .res (.lit (.bool true))).value [] { args:=args,res:=some (.bool true),after:=args }=some (.bool (true==true)) from w_eq_bool (w_res rfl) w_lit) rfl
theorem attach_call{l:OpenLaw}{n:Nat}{q:Program}{loose:List Str}{XP:(Str->Option Value)->Heap->Prop}{YP:World->Heap->Prop}{d:DefRec}(hn:l.most=some n)(hdf:d.params.defaults=[])(call:∀ (w:World) (s₀ s₁:Shared) (mg mb:Str->Option Value) (fa:Addr) (o:Obj) (pm cd doc:Value) (a:Addr) (vs:List Value) (ns:List Int),
   Ground q loose [] XP w s₀ mg mb s₁.heap->YP w s₁.heap ->
   s₁.heap.get? fa=some o->o.data=.func (docDef d.name d.params d.body d.scope pm cd doc)->s₁.heap.CodeRec cd d.name->mg d.name=some (.ref fa) ->
   s₁.heap.get? a=some { cls:=.type "list",data:=.seq vs.toArray }->IntsAre vs ns->ns.length<=n->s₁.gens=#[] ->
   codeAny (model l.prog w) callerA (.call (.ref fa) ⟨[.ref a],[]⟩) (fun r s'=>r=.ok (.ret (.bool true))/\OldK s₁.heap s'.heap/\s'.os=s₁.os/\AllBare s'.gens) s₁) :
  WalkO q loose XP YP l.row.toRowW d [] (fun f vs=>PySem.call f vs):=by
 intro w s₀ s₁ mg mb G Y fa o pm cd doc dV kV ho hd hcd hD hmg hg args vals as hpre hlay hrd hwl hlo
 obtain rfl:dV=.none:=Dflts.none hD hdf
 obtain rfl:kV=.none:=Dflts.noKw hD
 obtain⟨a,vs,ns,rfl,rfl,hobj,hints,hlen⟩:=zbs5 hn hpre hwl
 refine enter_call (codeAny_mono (call w s₀ s₁ mg mb fa o pm cd doc a vs ns G Y ho (fd_plain hd) hcd hmg hobj hints hlen hg) fun r s' hq=>?_)
 obtain⟨rfl,h2,h3,h4⟩:=hq
 exact⟨.inl ⟨.bool true,.bool true,[],rfl,fun _=>rfl,.bool true,zby2 l _,fun _=>⟨List.Pairwise.nil,fun _ hm=>(nomatch hm)⟩⟩,h2,h3,h4⟩
section
variable {prog:Program}{w:World}{A:Around}{E:Value->Shared->Prop}{s:Shared}{K:Frag}
noncomputable def ledger(h:Heap)(L d:Addr):List (Addr×Obj):=(List.range h.objs.size).filterMap fun a=>if a=L∨a=d then none else (h.get? a).map fun o=>(a,o)
end
end Att
namespace L2
open PySem PySem.Spec PyProof.Rows
variable {pos:Pos}{H H' H1 H2:Hp}{xs:List V}{o:HO}{tg:Expr}{elts es:List Expr}{i:Nat}{scope:Scope}{Q:VK}{c:Addr}{ta:TA}{ps:List Addr}
theorem zax4:∀ {vs:List Value}{ns:List Int},IntsAre vs ns->Vals (ns.map V.int) vs
 | _,_,.nil=>.nil
 | _,_,.cons n t h=>.cons ⟨t,rfl⟩ (zax4 h)
noncomputable def Only(H:Hp):Prop:=∀ b,H b=none∨∃ o xs,H b=some (.frz o (.lst xs))
theorem zcd2{P:Program}{w:World}{K:zcw2}{mg mb:Str->Option Value}{CX:CXT}{k:Nat}{fa a:Addr}{fd:FuncData}{x:Str}{sp:Sp}{s₁:Shared}{vs:List Value}{ns:List Int}(KX:K.In s₁.heap)(hns:s₁.heap.Ns zdf9 mg)(hb:s₁.heap.Ns builtinsNs mb)(hbb:∀ x:Str,x≠"__name__"->mb x=bootBuiltins x)(hlim:s₁.heap.NoLimit)(hg:s₁.gens=#[])(ha:s₁.heap.get? a=some { cls:=.type "list",data:=.seq vs.toArray })(hi:IntsAre vs ns)(hl:ns.length<=sizeLine)(hr:Room k callerA)(F:∀ base:Heap,K.In base->base.Ns zdf9 mg->FnOk P w K mg base CX k fa fd [x] sp)(hbind:∀ (s:Shared) (u:Value),BindsTo s fd ⟨[u],[]⟩ [(x,u)])(hsp:∀ H:Hp,Only H->SqL K H a (ns.map V.int)->sp [.ref a] H (fun v _=>v=.bl true) fun _ _ _=>False)(hCX:∀ H e s',CX [] H s₁ (fun _ _ _=>False) e s'->False) :
  codeAny (model P w) callerA (.call (.ref fa) ⟨[.ref a],[]⟩) (fun r s'=>r=.ok (.ret (.bool true))/\OldK s₁.heap s'.heap/\s'.os=s₁.os/\AllBare s'.gens) s₁:=by
 have rv:=zax4 hi
 have lenV:=hi.length
 have core:∀ H:Hp,Only H->SqL K H a (ns.map V.int)->HOk P w H s₁.heap->(∀ b,H b≠none->b=a)->(H a≠none->K.lookup a=none) ->
   codeAny (model P w) callerA (.call (.ref fa) ⟨[.ref a],[]⟩) (fun r s'=>r=.ok (.ret (.bool true))/\OldK s₁.heap s'.heap/\s'.os=s₁.os/\AllBare s'.gens) s₁:=by
  intro H hO hS hok hA hK
  have base_of:∀ {b:Addr}{o:Obj},s₁.heap.get? b=some o->H b=none->(hidT s₁.heap H).get? b=some o:=fun e n=>zcd8 e n
  have noA:∀ {b:Addr}{o:Obj}{es:Array DictEntry}{ep:Nat},s₁.heap.get? b=some o->o.data=.dict es ep->H b=none:=fun {b o es ep} e d=>by
   cases q:H b with
   | none=>rfl
   | some u=>
    have e':b=a:=hA b (by rw[q];simp)
    subst e'
    rw[ha] at e;cases e
    have d':Data.seq vs.toArray _=Data.dict es ep:=d
    cases d'
  have nsK:∀ {b:Addr}{m:Str->Option Value},s₁.heap.Ns b m->(hidT s₁.heap H).Ns b m:=fun {b m} ⟨o,es,ep,e,d,r⟩=>⟨o,es,ep,base_of e (noA e d),d,r⟩
  have hKb:K.In (hidT s₁.heap H):=fun b o e=>base_of (KX b o e) (by
   cases q:H b with
   | none=>rfl
   | some u=>
    have e':b=a:=hA b (by rw[q];simp)
    subst e'
    rw[hK (by rw[q];simp)] at e;cases e)
  have hM:Mod K mg (hidT s₁.heap H):=⟨hKb,nsK hns,⟨mb,nsK hb,hbb⟩,let ⟨mc,h1,h2⟩:=hlim;⟨mc,nsK h1,h2⟩⟩
  have e0:Env0 P w K mg (hidT s₁.heap H) callerA [] s₁ H:=⟨rfl,hM,fun b o e=>zcj6 e,Nat.le_of_eq (zbo7 _ _),trivial,fun b hb=>absurd (show b∈([]:List Addr) from hb) (by simp),hok,.of_eq hg⟩
  refine codeAny_mono ((F _ hKb (nsK hns)).run callerA [] s₁ H ⟨[.ref a],[]⟩ [.ref a] [.ref a] _ _ hr e0 (hbind s₁ (.ref a)) (.cons rfl .nil) (hsp H hO hS)) fun r s' h=>?_
  cases r with
  | error e=>exact (hCX H e s' h).elim
  | ok fl=>
   cases fl with
   | next=>exact False.elim h
   | brk=>exact False.elim h
   | cont=>exact False.elim h
   | ret u=>
    obtain⟨v,H',os,bare,un,hok',r',q⟩:=h
    have q':v=.bl true:=q
    subst q'
    obtain rfl:u=Value.bool true:=r'
    refine⟨rfl,OldK.of_keep fun b o e=>?_,os,bare⟩
    cases q:H b with
    | none=>exact un.keep b o e q (by intro z;exact absurd (show b∈([]:List Addr) from z) (by simp)) (by simp)
    | some u=>
     rcases hO b with z|⟨ob,xs,z⟩
     ·rw[q] at z;cases z
     ·have z2:=un.frzs b ob _ z
      obtain⟨e1,_⟩:=hok b _ z
      obtain⟨e2,_⟩:=hok' b _ z2
      rw[e] at e1;cases e1
      exact e2
 cases hk:K.lookup a with
 | some o=>
  have e:=KX a o hk
  rw[ha] at e
  cases e
  refine core (fun _=>none) (fun _=>.inl rfl) (.inr ⟨_,vs.toArray,_,hk,rfl,rfl,rfl,by rw[zcw9,lenV];exact hl,by simpa using rv⟩) (fun b u z=>by have z':(none:Option HO)=some u:=z;cases z') (fun b z=>absurd rfl z) fun z=>absurd rfl z
 | none=>
  refine core (fun b=>if b=a then some (.frz { cls:=.type "list",data:=.seq vs.toArray } (.lst (ns.map V.int))) else none) (fun b=>?_) (.inl (.inr ⟨{ cls:=.type "list",data:=.seq vs.toArray },if_pos rfl⟩)) (fun b u z=>?_) (fun b z=>?_) fun _=>hk
  ·by_cases hb:b=a
   ·exact .inr ⟨_,_,if_pos hb⟩
   ·exact .inl (if_neg hb)
  ·by_cases hb:b=a
   ·have z':=(if_pos hb).symm.trans z
    cases z'
    subst hb
    exact⟨ha,by rw[zcv8];exact hl,vs,_,rv,ha⟩
   ·have z':=(if_neg hb).symm.trans z
    cases z'
  ·by_cases hb:b=a
   ·exact hb
   ·exact absurd (if_neg hb) z
theorem walk_of{l:PySem.W.OpenLaw}{n k:Nat}{q:Program}{loose:List Str}{XP:(Str->Option Value)->Heap->Prop}{YP:World->Heap->Prop}{d:DefRec}{K:Params->zcw2}{CX:World->CXT}{sp:World->Sp}{x:Str}(hn:l.most=some n)(hn2:n<=sizeLine)(hdf:d.params.defaults=[])(hr:Room k callerA)(hY:∀ (w:World) (h:Heap),YP w h->(K w.params).In h)(F:∀ (w:World) (mg:Str->Option Value) (fa:Addr) (h:Heap),(K w.params).In h->h.Ns zdf9 mg->mg d.name=some (.ref fa) ->
   ∃ fd:FuncData,(∀ (s:Shared) (u:Value),BindsTo s fd ⟨[u],[]⟩ [(x,u)]) /\
    ∀ base:Heap,(K w.params).In base->base.Ns zdf9 mg->FnOk l.prog w (K w.params) mg base (CX w) k fa fd [x] (sp w))(hsp:∀ (w:World) (H:Hp) (a:Addr) (ns:List Int),ns.length<=n->Only H->SqL (K w.params) H a (ns.map V.int)->sp w [.ref a] H (fun v _=>v=.bl true) fun _ _ _=>False)(hCX:∀ (w:World) (H:Hp) (s:Shared) (e:Value) (s':Shared),CX w [] H s (fun _ _ _=>False) e s'->False) :
  PySem.W.WalkO q loose XP YP l.row.toRowW d [] (fun f vs=>PySem.call f vs):=by
 refine Att.attach_call hn hdf fun w s₀ s₁ mg mb fa o pm cd doc a vs ns G Y ho hd hcd hmg hobj hints hlen hg=>?_
 have KX:=hY w _ Y
 obtain⟨fd,hb,hF⟩:=F w mg fa _ KX G.T.g hmg
 exact zcd2 KX G.T.g G.T.b G.T.builtins G.T.nolimit hg hobj hints (zda0 hlen hn2) hr hF hb (fun H hO hS=>hsp w H a ns hlen hO hS) fun H e s'=>hCX w H s₁ e s'
noncomputable def zt9(s:Stmt):Arguments:=match s with
 | .FunctionDef _ a _ _ _ _ _ _ _ _=>a
 | _=>{ posonlyargs:=[],args:=[],vararg:=none,kwonlyargs:=[],kw_defaults:=[],kwarg:=none,defaults:=[] }
noncomputable def zr0(s:Stmt):List Stmt:=match s with
 | .FunctionDef _ _ b _ _ _ _ _ _ _=>b
 | _=>[]
noncomputable def za8(s:Stmt):Scope:=match s with
 | .FunctionDef _ _ _ _ _ _ sc _ _ _=>sc
 | _=>{ kind:=.function,names:=[],isGenerator:=false,isCoroutine:=false }
abbrev CX0:CXT:=fun _ _ _ _ _ _=>False
abbrev E0:XK:=fun _ _ _=>False
theorem zb3{X:Cx}:zbj9 CX0 X E0:=fun _ _ _ _ _ _ _ h=>h.elim
structure Fun(K:zcw2)(x qual:Str)(st:Stmt)(f:Addr)(fd:FuncData):Prop where
 ex:∃ (oc:Value) (od:Option Addr) (kV doc pm:Value) (an:Option Addr) (cdv ct:Value) (osl:Array (Option Value)),
  fd=zdc9 x qual (zt9 st) (zr0 st) (za8 st) .none kV doc pm an cdv ct/\K.lookup f=some ⟨oc,od,.func fd,osl⟩/\PySem.W.codeIn K cdv qual=true
 kp:zdd4 K (.ref f)=true
section
variable {P:Program}{w:World}{K:zcw2}{mg:Str->Option Value}{base:Heap}
theorem Fun.ok{x qual:Str}{st:Stmt}{f:Addr}{fd:FuncData}{N ps:List Str}{k:Nat}{sp:Sp}(F:Fun K x qual st f fd)(S:zb5 N ps (za8 st))(len:∀ vs H Q E,sp vs H Q E->vs.length=ps.length)(hbody:∀ (cdv:Value) (A:Around) (outer:List Env) (s:Shared) (H:Hp) (vs:List V) (Q:VK) (E:XK),Room k (A.deeper (envOfC qual (za8 st) s.heap.objs.size f cdv))->sp vs H Q E ->
   ∃ t,PSs (cxOf CX0 P w K mg base N qual (za8 st) f cdv A outer s H E).nox (zr0 st) t/\t { nx:=fun _ H'=>Q .non H',rt:=Q } (zay0 N vs) H):FnOk P w K mg base CX0 (k+1) f fd ps sp:=by
 obtain⟨oc,od,kV,doc,pm,an,cdv,ct,osl,rfl,lk,hcd⟩:=F.ex
 refine fn_of lk hcd S len fun A outer s H vs Q E hr hsp=>?_
 obtain⟨t,h,q⟩:=hbody cdv A outer s H vs Q E hr hsp
 exact⟨t,h.nox,q⟩
theorem Fun.binds{x qual:Str}{st:Stmt}{f:Addr}{fd:FuncData}{ps:List Str}(F:Fun K x qual st f fd)(h:∀ (kV doc pm:Value) (an:Option Addr) (cdv ct:Value) (us:List Value),us.length=ps.length->bindArgs (zdc9 x qual (zt9 st) (zr0 st) (za8 st) .none kV doc pm an cdv ct) ⟨us,[]⟩=pure (ps.zip us)):zau1 K fd ps []:=by
 obtain⟨oc,od,kV,doc,pm,an,cdv,ct,osl,rfl,lk,hcd⟩:=F.ex
 exact .all (h kV doc pm an cdv ct)
theorem zci9{x qual:Str}{st:Stmt}{f:Addr}{oc:Value}{od an:Option Addr}{osl:Array (Option Value)}{kV doc pm cdv ct:Value}(l:K.lookup f=some ⟨oc,od,.func (zdc9 x qual (zt9 st) (zr0 st) (za8 st) .none kV doc pm an cdv ct),osl⟩)(c:PySem.W.codeIn K cdv qual=true)(k:zdd4 K (.ref f)=true):Fun K x qual st f (zdc9 x qual (zt9 st) (zr0 st) (za8 st) .none kV doc pm an cdv ct):=⟨⟨oc,od,kV,doc,pm,an,cdv,ct,osl,rfl,l,c⟩,k⟩
end
section
variable {X:Cx}
theorem pv(i:Nat){x:Str}(hN:X.N[i]?=some x:=by rfl)(hv:Vis X.env.scope x:=by first|exact Or.inl rfl|exact Or.inr (Or.inl rfl)|exact Or.inr (Or.inr rfl))(hd:(x==("__debug__":Str))=false:=by decide)(hcd:(x==("__classdict__":Str))=false:=by decide):PE X (.Name x pos) (tVar i):=zcj0 hN hv hd hcd
end
theorem iteF{A B:Prop}(h:B):if false=true then A else B:=by
 rw[if_neg zcw5]
 exact h
theorem iteT{A B:Prop}(h:A):if true=true then A else B:=by
 rw[if_pos rfl]
 exact h
theorem ite2{c A B:Prop}[Decidable c](h1:c->A)(h2:¬ c->B):if c then A else B:=by
 by_cases h:c
 ·rw[if_pos h]
  exact h1 h
 ·rw[if_neg h]
  exact h2 h
noncomputable def Same(H H':Hp):Prop:=∀ b o,H b=some o->H' b=some o
theorem Same.refl(H:Hp):Same H H:=fun _ _ h=>h
theorem Same.trans(a:Same H H1)(b:Same H1 H2):Same H H2:=fun c o h=>b c o (a c o h)
theorem Same.free(e:Same H H'){l:Addr}(h:H' l=Option.none):H l=Option.none:=by
 cases q:H l with
 | none=>rfl
 | some o=>
  rw[e l o q] at h
  cases h
theorem Same.seq{K:zcw2}{a:Addr}(e:Same H H')(h:SqL K H a xs):SqL K H' a xs:=by
 rcases h with (h|⟨o,h⟩)|h
 ·exact .inl (.inl (e _ _ h))
 ·exact .inl (.inr ⟨o,e _ _ h⟩)
 ·exact .inr h
set_option maxHeartbeats 1000000
@[irreducible] noncomputable def br(c:Bool)(A B:Prop):Prop:=if c=true then A else B
section
variable {A B p:Prop}{c:Bool}
theorem zae9:br c A B=(if c=true then A else B):=by unfold br;rfl
theorem br_T(h:A):br true A B:=by unfold br;exact iteT h
theorem br_F(h:B):br false A B:=by unfold br;exact iteF h
theorem br_any(h1:c=true->A)(h2:c=false->B):br c A B:=by
 cases c with
 | true=>exact br_T (h1 rfl)
 | false=>exact br_F (h2 rfl)
theorem zc8 [Decidable p](h1:p->A)(h2:¬ p->B):br (decide p) A B:=br_any (fun h=>h1 (of_decide_eq_true h)) fun h=>h2 (of_decide_eq_false h)
theorem zk2 [Decidable p](hp:p)(h:A):br (decide p) A B:=zc8 (fun _=>h) fun n=>absurd hp n
theorem zl7 [Decidable p](hp:¬ p)(h:B):br (decide p) A B:=zc8 (fun n=>absurd n hp) fun _=>h
theorem zb9(h:br c B A):br (!c) A B:=by
 cases c with
 | true=>unfold br at h ⊢;simpa using h
 | false=>unfold br at h ⊢;simpa using h
end
noncomputable def Chg(a:Addr)(H H':Hp):Prop:=∀ b o,b≠a->H b=some o->H' b=some o
theorem Chg.upd{H:Hp}{a:Addr}{o:HO}:Chg a H (upd H a o):=fun b u hb e=>by rw[zd9 hb];exact e
theorem Same.upd{H:Hp}{a:Addr}{o:HO}(h:H a=none):Same H (L2.upd H a o):=fun b u e=>by rw[zd9 (za6 e h)];exact e
theorem Same.chg{H0:Hp}{a:Addr}(s:Same H0 H)(n:H0 a=none)(c:Chg a H H'):Same H0 H':=fun b o e=>c b o (za6 e n) (s b o e)
theorem Chg.refl(a:Addr)(H:Hp):Chg a H H:=fun _ _ _ e=>e
theorem Chg.trans{a:Addr}(x:Chg a H H1)(y:Chg a H1 H2):Chg a H H2:=fun b o h e=>y b o h (x b o h e)
theorem Chg.same{a:Addr}(x:Chg a H H1)(y:Same H1 H2):Chg a H H2:=fun b o h e=>y b o (x b o h e)
theorem Same.toChg{a:Addr}(x:Same H H1):Chg a H H1:=fun b o _ e=>x b o e
theorem Same.at{b:Addr}(s:Same H H')(e:H b=some o):H' b=some o:=s b o e
theorem Chg.at{a b:Addr}(s:Chg a H H')(e:H b=some o)(n:b≠a):H' b=some o:=s b o n e
noncomputable def qV(i:Nat):TE:=fun σ H Q=>match σ[i]? with
 | some (some v)=>Q v H
 | _=>False
section
variable {X:Cx}
theorem pq(i:Nat){x:Str}(hN:X.N[i]?=some x:=by rfl)(hv:Vis X.env.scope x:=by first|exact Or.inl rfl|exact Or.inr (Or.inl rfl)|exact Or.inr (Or.inr rfl))(hd:(x==("__debug__":Str))=false:=by decide)(hcd:(x==("__classdict__":Str))=false:=by decide):PE X (.Name x pos) (qV i):=fun pins s σ H Q I h=>by
 refine zcj0 hN hv hd hcd pins s σ H Q I ?_
 unfold qV at h
 split at h
 ·rename_i v e
  exact⟨v,e,h⟩
 ·exact h.elim
@[irreducible] noncomputable def zbl8(i j:Int)(H:Hp)(Q:VK):Prop:=IntMulOk i j/\Q (.int (i*j)) H
@[irreducible] noncomputable def zbk5(i j:Int)(H:Hp)(Q:VK):Prop:=(j≠0/\j.natAbs.log2<9000)/\Q (.int (i.fdiv j)) H
@[irreducible] noncomputable def zbu6(i j:Int)(H:Hp)(Q:VK):Prop:=j≠0/\Q (.int (i.fmod j)) H
@[irreducible] noncomputable def rPowI(i j:Int)(H:Hp)(Q:VK):Prop:=CPow i j/\Q (.int (i ^ j.toNat)) H
@[irreducible] noncomputable def rCatL(a b:Addr)(H:Hp)(Q:VK):Prop:=∃ xs zs,H a=some (.lst xs)/\H b=some (.lst zs)/\xs.length+zs.length<=sizeLine /\
 ∀ p H',H p=none->Same H H'->H' p=some (.lst (xs++zs))->Q (.ref p) H'
@[irreducible] noncomputable def rRepL(a:Addr)(k:Int)(H:Hp)(Q:VK):Prop:=∃ xs,H a=some (.lst xs)/\-(2 ^ 63)<=k/\k<2 ^ 63/\xs.length*k.toNat<=sizeLine /\
 ∀ p H',H p=none->Same H H'->H' p=some (.lst (List.replicate k.toNat xs).flatten)->Q (.ref p) H'
noncomputable def rAddM:R2:=fun x y H Q=>match x,y with
 | .int i,.int j=>Q (.int (i+j)) H
 | .ref a,.ref b=>rCatL a b H Q
 | .str a,.str b=>a.length+b.length<=sizeLine/\Q (.str (a++b)) H
 | _,_=>False
noncomputable def rSubM:R2:=fun x y H Q=>match x,y with
 | .int i,.int j=>Q (.int (i - j)) H
 | _,_=>False
noncomputable def rMulM:R2:=fun x y H Q=>match x,y with
 | .int i,.int j=>zbl8 i j H Q
 | .ref a,.int k=>rRepL a k H Q
 | _,_=>False
noncomputable def rDivM:R2:=fun x y H Q=>match x,y with
 | .int i,.int j=>zbk5 i j H Q
 | _,_=>False
noncomputable def rModM:R2:=fun x y H Q=>match x,y with
 | .int i,.int j=>zbu6 i j H Q
 | _,_=>False
noncomputable def rPowM:R2:=fun x y H Q=>match x,y with
 | .int i,.int j=>rPowI i j H Q
 | _,_=>False
theorem oAdd:OpR X (binaryOp .Add) rAddM:=by
 intro pins s σ H x y v u Q I rx ry h
 unfold rAddM at h
 split at h
 ·exact op_add pins s σ H _ _ v u Q I rx ry ⟨_,_,rfl,rfl,h⟩
 ·unfold rCatL at h
  obtain⟨xs,zs,h1,h2,h3,h4⟩:=h
  exact op_cat pins s σ H _ _ v u Q I rx ry ⟨_,_,xs,zs,rfl,rfl,h1,h2,h3,fun p hp=>h4 p _ hp (Same.upd hp) zd0⟩
 ·exact zbm7 pins s σ H _ _ v u Q I rx ry ⟨_,_,rfl,rfl,h.1,h.2⟩
 ·exact h.elim
theorem oSub:OpR X (binaryOp .Sub) rSubM:=by
 intro pins s σ H x y v u Q I rx ry h
 unfold rSubM at h
 split at h
 ·exact op_sub pins s σ H _ _ v u Q I rx ry ⟨_,_,rfl,rfl,h⟩
 ·exact h.elim
theorem oMul:OpR X (binaryOp .Mult) rMulM:=by
 intro pins s σ H x y v u Q I rx ry h
 unfold rMulM at h
 split at h
 ·unfold zbl8 at h
  obtain⟨t,rfl⟩:=rx
  obtain⟨t',rfl⟩:=ry
  exact mul_int ⟨.int _,H,I.tok _,⟨_,rfl⟩,h.2⟩ h.1
 ·unfold rRepL at h
  obtain⟨xs,h1,h2,h3,h4,h5⟩:=h
  exact op_rep pins s σ H _ _ v u Q I rx ry ⟨_,_,xs,rfl,rfl,h1,h2,h3,h4,fun p hp=>h5 p _ hp (Same.upd hp) zd0⟩
 ·exact h.elim
theorem oDiv:OpR X (binaryOp .FloorDiv) rDivM:=by
 intro pins s σ H x y v u Q I rx ry h
 unfold rDivM at h
 split at h
 ·unfold zbk5 at h
  obtain⟨⟨h1,h2⟩,h3⟩:=h
  obtain⟨t,rfl⟩:=rx
  obtain⟨t',rfl⟩:=ry
  exact floordiv_int h1 ⟨.int _,H,I.tok _,⟨_,rfl⟩,h3⟩ (.inl (PyProof.noPylong_of_log2 h2))
 ·exact h.elim
theorem oMod:OpR X (binaryOp .Mod) rModM:=by
 intro pins s σ H x y v u Q I rx ry h
 unfold rModM at h
 split at h
 ·unfold zbu6 at h
  exact zcm0 pins s σ H _ _ v u Q I rx ry ⟨_,_,rfl,rfl,h.1,h.2⟩
 ·exact h.elim
theorem oPow:OpR X (binaryOp .Pow) rPowM:=by
 intro pins s σ H x y v u Q I rx ry h
 unfold rPowM at h
 split at h
 ·unfold rPowI at h
  exact op_pow pins s σ H _ _ v u Q I rx ry ⟨_,_,rfl,rfl,h.1,h.2⟩
 ·exact h.elim
noncomputable def rNegM:V->Hp->VK->Prop:=fun x H Q=>match x with
 | .int i=>Q (.int (-i)) H
 | _=>False
theorem uNeg:UnR X (unaryOp .USub) rNegM:=by
 intro pins s σ H x v Q I rx h
 unfold rNegM at h
 split at h
 ·exact un_neg pins s σ H _ v Q I rx ⟨_,rfl,h⟩
 ·exact h.elim
section
variable {i j:Int}{H:Hp}{Q:VK}
theorem zu2(h:IntMulOk i j)(q:Q (.int (i*j)) H):zbl8 i j H Q:=by unfold zbl8;exact⟨h,q⟩
theorem log2_lt{n k:Nat}(h:n<2 ^ k)(hk:0<k):n.log2<k:=by
 by_cases h0:n=0
 ·subst h0;simpa using hk
 ·exact (Nat.log2_lt h0).mpr h
theorem zbc5{j:Int}(h1:-(10 ^ 240)<j)(h2:j<10 ^ 240):j.natAbs<2 ^ 2000:=by
 have e:(10:Int) ^ 240=((10 ^ 240:Nat):Int):=by norm_cast
 have e2:(10:Nat) ^ 240<2 ^ 2000:=by decide +kernel
 rw[e] at h1 h2
 generalize hN:(10:Nat) ^ 240=N at h1 h2 e2
 generalize hM:(2:Nat) ^ 2000=M at e2
 omega
theorem zn1(h1:-(10 ^ 240)<i)(h2:i<10 ^ 240)(h3:-(10 ^ 240)<j)(h4:j<10 ^ 240):IntMulOk i j:=by
 have f:∀ {k:Int},-(10 ^ 240)<k->k<10 ^ 240->Builtin.Int.intBits k<=2 ^ 20:=fun {k} a b=>by
  have h:=log2_lt (zbc5 a b) (by decide)
  unfold Builtin.Int.intBits
  have e:(2:Nat) ^ 20=1048576:=by decide
  rw[e]
  split<;>omega
 exact .of_bits (f h1 h2) (f h3 h4)
theorem div_rd(h1:0<j)(h2:j<10 ^ 240)(q:Q (.int (i / j)) H):zbk5 i j H Q:=by
 unfold zbk5
 refine⟨⟨by omega,?_⟩,?_⟩
 ·have h:=log2_lt (zbc5 (j:=j) (by have:(0:Int)<10 ^ 240:=(by decide +kernel);generalize (10:Int) ^ 240=N at this;omega) h2) (by decide)
  omega
 ·rw[Int.fdiv_eq_ediv_of_nonneg _ (by omega)];exact q
theorem zbt9(h0:j≠0)(h1:-(10 ^ 240)<j)(h2:j<10 ^ 240)(q:Q (.int (i.fdiv j)) H):zbk5 i j H Q:=by
 unfold zbk5
 refine⟨⟨h0,?_⟩,q⟩
 have h:=log2_lt (zbc5 h1 h2) (by decide)
 omega
theorem zbt5(h1:0<j)(q:Q (.int (i % j)) H):zbu6 i j H Q:=by
 unfold zbu6
 refine⟨by omega,?_⟩
 rw[Int.fmod_eq_emod_of_nonneg _ (by omega)];exact q
theorem zci4(h:CPow i j)(q:Q (.int (i ^ j.toNat)) H):rPowI i j H Q:=by unfold rPowI;exact⟨h,q⟩
theorem zx5{a b:Addr}{zs:List V}(h1:H a=some (.lst xs))(h2:H b=some (.lst zs))(h3:xs.length+zs.length<=sizeLine)(q:∀ p H',H p=none->Same H H'->H' p=some (.lst (xs++zs))->Q (.ref p) H'):rCatL a b H Q:=by unfold rCatL;exact⟨xs,zs,h1,h2,h3,q⟩
theorem zci5{a:Addr}{k:Int}(h1:H a=some (.lst xs))(h2:-(2 ^ 63)<=k)(h3:k<2 ^ 63)(h4:xs.length*k.toNat<=sizeLine)(q:∀ p H',H p=none->Same H H'->H' p=some (.lst (List.replicate k.toNat xs).flatten)->Q (.ref p) H'):rRepL a k H Q:=by unfold rRepL;exact⟨xs,h1,h2,h3,h4,q⟩
end
noncomputable def rLtM:R2:=fun x y H Q=>match x,y with
 | .int i,.int j=>Q (.bl (decide (i<j))) H
 | _,_=>False
noncomputable def rLeM:R2:=fun x y H Q=>match x,y with
 | .int i,.int j=>Q (.bl (decide (i<=j))) H
 | _,_=>False
noncomputable def rGtM:R2:=fun x y H Q=>match x,y with
 | .int i,.int j=>Q (.bl (decide (j<i))) H
 | _,_=>False
noncomputable def rGeM:R2:=fun x y H Q=>match x,y with
 | .int i,.int j=>Q (.bl (decide (j<=i))) H
 | _,_=>False
theorem oLt:OpR X (compareOp .Lt) rLtM:=by
 intro pins s σ H x y v u Q I rx ry h
 unfold rLtM at h
 split at h
 ·exact op_lt pins s σ H _ _ v u Q I rx ry ⟨_,_,rfl,rfl,h⟩
 ·exact h.elim
theorem oLe:OpR X (compareOp .LtE) rLeM:=by
 intro pins s σ H x y v u Q I rx ry h
 unfold rLeM at h
 split at h
 ·exact op_le pins s σ H _ _ v u Q I rx ry ⟨_,_,rfl,rfl,h⟩
 ·exact h.elim
theorem oGt:OpR X (compareOp .Gt) rGtM:=by
 intro pins s σ H x y v u Q I rx ry h
 unfold rGtM at h
 split at h
 ·exact op_gt pins s σ H _ _ v u Q I rx ry ⟨_,_,rfl,rfl,h⟩
 ·exact h.elim
theorem oGe:OpR X (compareOp .GtE) rGeM:=by
 intro pins s σ H x y v u Q I rx ry h
 unfold rGeM at h
 split at h
 ·exact op_ge pins s σ H _ _ v u Q I rx ry ⟨_,_,rfl,rfl,h⟩
 ·exact h.elim
inductive EqR(K:zcw2)(H:Hp):Nat->V->V->Bool->Prop where
 | flat {n:Nat}{x y:V}(fx:zs0 x=true) (fy:zs0 y=true):EqR K H n x y (eqV x y)
 | tup {n:Nat}{a b:Addr}{xs ys:List V}(e:Nat->Bool) (ha:SqT K H a xs) (hb:SqT K H b ys) (h:∀ (j:Nat) (x y:V),xs[j]?=some x->ys[j]?=some y->EqR K H n x y (e j)) :
   EqR K H (n+1) (.ref a) (.ref b) ((List.range (min xs.length ys.length)).all e&&xs.length==ys.length)
 | lst {n:Nat}{a b:Addr}{xs ys:List V}(e:Nat->Bool) (ha:SqL K H a xs) (hb:SqL K H b ys) (hl:xs.length=ys.length) (h:∀ (j:Nat) (x y:V),xs[j]?=some x->ys[j]?=some y->EqR K H n x y (e j)) :
   EqR K H (n+1) (.ref a) (.ref b) ((List.range xs.length).all e)
 | lstN {n:Nat}{a b:Addr}{xs ys:List V}(ha:SqL K H a xs) (hb:SqL K H b ys) (hl:xs.length≠ys.length):EqR K H (n+1) (.ref a) (.ref b) false
theorem zcd1{x:V}(f:zs0 x=true):eqV x x=true:=by
 cases x<;>first|rfl|(simp[eqV];done)|exact absurd (show false=true from f) zcw5
section
variable {pins:List (Addr×Obj)}{σ:St}{H:Hp}{s:Shared}
theorem EqR.self(I:Inv X pins σ H s){n:Nat}{x y:V}{b:Bool}(h:EqR X.K H n x y b):x=y->b=true:=by
 induction h with
 | flat fx fy=>rintro rfl;exact zcd1 fx
 | tup e ha hb h ih=>
  intro q
  cases q
  have q:=I.tuple_inj ha hb
  subst q
  rw[Nat.min_self,zcx4]
  refine⟨zcx2.mpr fun j hj=>?_,by simp⟩
  have hj:=zcy0.mp hj
  exact ih j _ _ (zcv7 hj) (zcv7 hj) rfl
 | lst e ha hb hl h ih=>
  intro q
  cases q
  have q:=I.list_inj ha hb
  subst q
  refine zcx2.mpr fun j hj=>?_
  have hj:=zcy0.mp hj
  exact ih j _ _ (zcv7 hj) (zcv7 hj) rfl
 | lstN ha hb hl=>
  intro q
  cases q
  exact absurd (congrArg List.length (I.list_inj ha hb)) hl
theorem zn3(A:Around):A.in1.units=A.units+1:=rfl
mutual
theorem EqR.at(I:Inv X pins σ H s):∀ {n:Nat}{x y:V}{b:Bool},EqR X.K H n x y b->∀ {u v:Value}{A:Around},RelV x u->RelV y v->A.units+n<cLine->SeqAt.EqAt A s u v b
 | _,_,_,_,.flat fx fy,u,v,A,rx,ry,_=>zbt3 rx ry fx fy
 | _,.ref a,.ref b,_,h,u,v,A,rx,ry,hu=>by
  cases rx
  cases ry
  by_cases e:a=b
  ·subst e
   rw[h.self I rfl]
   exact SeqAt.EqAt.same _
  ·exact SeqAt.EqAt.of_refs e (EqR.rc I h hu)
theorem EqR.rc(I:Inv X pins σ H s):∀ {n:Nat}{a b:Addr}{c:Bool},EqR X.K H n (.ref a) (.ref b) c->∀ {A:Around},A.units+n<cLine->SeqAt.RcAt A s (.ref a) (.ref b) c
 | _,_,_,_,.flat fx _,_,_=>absurd (show false=true from fx) zcw5
 | _,a,b,_,.tup (xs:=xs) (ys:=ys) e ha hb h,A,hu=>by
  obtain⟨its,r1,t1,z1⟩:=I.tuple ha
  obtain⟨its2,r2,t2,z2⟩:=I.tuple hb
  have l1:its.toArray.size=xs.length:=by rw[zcw9];exact r1.length.symm
  have l2:its2.toArray.size=ys.length:=by rw[zcw9];exact r2.length.symm
  have q:=SeqAt.RcAt.tuples (A:=A) (e:=e) t1 t2 (by omega) fun j h1 h2=>by
   rw[l1] at h1
   rw[l2] at h2
   obtain⟨u1,e1,q1⟩:=r1.get (zcv7 h1)
   obtain⟨u2,e2,q2⟩:=r2.get (zcv7 h2)
   have i1:its.toArray[j]=u1:=by
    have:=(zcv9.mp e1).2
    simpa using this
   have i2:its2.toArray[j]=u2:=by
    have:=(zcv9.mp e2).2
    simpa using this
   rw[i1,i2]
   exact EqR.at I (h j _ _ (zcv7 h1) (zcv7 h2)) q1 q2 (by rw[zn3];omega)
  rw[l1,l2] at q
  exact q
 | _,a,b,_,.lst (xs:=xs) (ys:=ys) e ha hb hl h,A,hu=>by
  obtain⟨its,r1,t1,z1⟩:=I.list ha
  obtain⟨its2,r2,t2,z2⟩:=I.list hb
  have l1:its.toArray.size=xs.length:=by rw[zcw9];exact r1.length.symm
  have l2:its2.toArray.size=ys.length:=by rw[zcw9];exact r2.length.symm
  have q:=SeqAt.RcAt.lists (A:=A) (e:=e) t1.isList t2.isList (by rw[l1,l2];exact hl) (by omega) fun j h1 h2=>by
   rw[l1] at h1
   rw[l2] at h2
   obtain⟨u1,e1,q1⟩:=r1.get (zcv7 h1)
   obtain⟨u2,e2,q2⟩:=r2.get (zcv7 h2)
   have i1:its.toArray[j]=u1:=by
    have:=(zcv9.mp e1).2
    simpa using this
   have i2:its2.toArray[j]=u2:=by
    have:=(zcv9.mp e2).2
    simpa using this
   rw[i1,i2]
   exact EqR.at I (h j _ _ (zcv7 h1) (zcv7 h2)) q1 q2 (by rw[zn3];omega)
  rw[l1] at q
  exact q
 | _,a,b,_,.lstN (xs:=xs) (ys:=ys) ha hb hl,A,hu=>by
  obtain⟨its,r1,t1,z1⟩:=I.list ha
  obtain⟨its2,r2,t2,z2⟩:=I.list hb
  have l1:its.toArray.size=xs.length:=by rw[zcw9];exact r1.length.symm
  have l2:its2.toArray.size=ys.length:=by rw[zcw9];exact r2.length.symm
  exact SeqAt.RcAt.lists_lengths t1.isList t2.isList (by rw[l1,l2];simpa using hl) (by omega)
end
theorem EqR.rcNe(I:Inv X pins σ H s):∀ {n:Nat}{a b:Addr}{c:Bool},EqR X.K H n (.ref a) (.ref b) c->∀ {A:Around},A.units+n<cLine->SeqAt.RcNeAt A s (.ref a) (.ref b) (!c)
 | _,_,_,_,.flat fx _,_,_=>absurd (show false=true from fx) zcw5
 | _,a,b,_,.tup (xs:=xs) (ys:=ys) e ha hb h,A,hu=>by
  obtain⟨its,r1,t1,z1⟩:=I.tuple ha
  obtain⟨its2,r2,t2,z2⟩:=I.tuple hb
  have l1:its.toArray.size=xs.length:=by rw[zcw9];exact r1.length.symm
  have l2:its2.toArray.size=ys.length:=by rw[zcw9];exact r2.length.symm
  have q:=SeqAt.RcNeAt.tuples (A:=A) (e:=e) t1 t2 (by omega) fun j h1 h2=>by
   rw[l1] at h1
   rw[l2] at h2
   obtain⟨u1,e1,q1⟩:=r1.get (zcv7 h1)
   obtain⟨u2,e2,q2⟩:=r2.get (zcv7 h2)
   have i1:its.toArray[j]=u1:=by
    have:=(zcv9.mp e1).2
    simpa using this
   have i2:its2.toArray[j]=u2:=by
    have:=(zcv9.mp e2).2
    simpa using this
   rw[i1,i2]
   exact EqR.at I (h j _ _ (zcv7 h1) (zcv7 h2)) q1 q2 (by rw[zn3];omega)
  rw[l1,l2] at q
  exact q
 | _,a,b,_,.lst (xs:=xs) (ys:=ys) e ha hb hl h,A,hu=>by
  obtain⟨its,r1,t1,z1⟩:=I.list ha
  obtain⟨its2,r2,t2,z2⟩:=I.list hb
  have l1:its.toArray.size=xs.length:=by rw[zcw9];exact r1.length.symm
  have l2:its2.toArray.size=ys.length:=by rw[zcw9];exact r2.length.symm
  have q:=SeqAt.RcNeAt.lists (A:=A) (e:=e) t1.isList t2.isList (by rw[l1,l2];exact hl) (by omega) fun j h1 h2=>by
   rw[l1] at h1
   rw[l2] at h2
   obtain⟨u1,e1,q1⟩:=r1.get (zcv7 h1)
   obtain⟨u2,e2,q2⟩:=r2.get (zcv7 h2)
   have i1:its.toArray[j]=u1:=by
    have:=(zcv9.mp e1).2
    simpa using this
   have i2:its2.toArray[j]=u2:=by
    have:=(zcv9.mp e2).2
    simpa using this
   rw[i1,i2]
   exact EqR.at I (h j _ _ (zcv7 h1) (zcv7 h2)) q1 q2 (by rw[zn3];omega)
  rw[l1] at q
  exact q
 | _,a,b,_,.lstN (xs:=xs) (ys:=ys) ha hb hl,A,hu=>by
  obtain⟨its,r1,t1,z1⟩:=I.list ha
  obtain⟨its2,r2,t2,z2⟩:=I.list hb
  have l1:its.toArray.size=xs.length:=by rw[zcw9];exact r1.length.symm
  have l2:its2.toArray.size=ys.length:=by rw[zcw9];exact r2.length.symm
  exact SeqAt.RcNeAt.lists_lengths t1.isList t2.isList (by rw[l1,l2];simpa using hl) (by omega)
end
@[irreducible] noncomputable def rEqO(K:zcw2)(a b:Addr)(H:Hp)(Q:VK):Prop:=∃ n c,n<=40/\EqR K H n (.ref a) (.ref b) c/\Q (.bl c) H
noncomputable def rEqM(K:zcw2):R2:=fun x y H Q=>match x,y with
 | .int i,.int j=>Q (.bl (decide (i=j))) H
 | .bl i,.bl j=>Q (.bl (decide (i=j))) H
 | .str i,.str j=>Q (.bl (decide (i=j))) H
 | .ref a,.ref b=>rEqO K a b H Q
 | x,y=>scal x y=true/\Q (.bl (decide (x=y))) H
noncomputable def rNeM(K:zcw2):R2:=fun x y H Q=>rEqM K x y H fun v H'=>match v with
 | .bl b=>Q (.bl (!b)) H'
 | _=>False
theorem zt2{α β:Type}[DecidableEq α][DecidableEq β]{f:α->β}(hf:∀ a b,f a=f b->a=b)(a b:α):decide (f a=f b)=decide (a=b):=by
 by_cases h:a=b
 ·subst h;simp
 ·rw[decide_eq_false h,decide_eq_false fun e=>h (hf _ _ e)]
theorem oEq(hu:X.A.units+40<cLine):OpR X (compareOp .Eq) (rEqM X.K):=by
 intro pins s σ H x y v u Q I rx ry h
 unfold rEqM at h
 split at h
 ·rename_i i j
  exact zbe6 pins s σ H _ _ v u Q I rx ry ⟨rfl,by rw[zt2 (f:=V.int) fun a b e=>V.int.inj e];exact h⟩
 ·exact zbe6 pins s σ H _ _ v u Q I rx ry ⟨rfl,by rw[zt2 (f:=V.bl) fun a b e=>V.bl.inj e];exact h⟩
 ·exact zbe6 pins s σ H _ _ v u Q I rx ry ⟨rfl,by rw[zt2 (f:=V.str) fun a b e=>V.str.inj e];exact h⟩
 ·unfold rEqO at h
  obtain⟨n,c,hn,h1,h2⟩:=h
  cases rx
  cases ry
  exact EqR.rc I h1 (A:=X.A) (by omega) _ _ _ _ ⟨.bl c,H,I,rfl,h2⟩
 ·exact zbe6 pins s σ H _ _ v u Q I rx ry h
noncomputable def qB(t:TE):TT:=fun σ H Q=>t σ H fun x H1=>match x with
 | .bl c=>Q c H1
 | .int i=>Q (!decide (i=0)) H1
 | _=>False
theorem ptV{e:Expr}{t:TE}(h:PE X e t)(he:∀ whole,isTrue e X.env whole=(do let v ← whole;standAt e.pos;holding [v] (truthy v)):=by intro _;rfl):PT X e (qB t):=fun pins s σ H Q I hw=>by
 refine isTrue_plain (thn (h pins s σ H _ I hw) fun v s1 ⟨x,H1,I1,r1,q1⟩=>?_) (he _)
 dsimp only at q1
 split at q1
 ·exact zbs4 pins s1 σ H1 _ v Q I1 r1 ⟨_,rfl,q1⟩
 ·rename_i i
  refine zbs4 pins s1 σ H1 _ v Q I1 r1 ⟨_,rfl,?_⟩
  have e:(i != 0)=!decide (i=0):=by by_cases h:i=0<;>simp[h]
  rw[e];exact q1
 ·exact q1.elim
theorem ptC{a b:Expr}{ta tb:TE}{op:CmpOp}{r:R2}(ho:OpR X (compareOp op) r)(ha:PE X a ta)(hb:PE X b tb)(hm:behindInMarks op b=false:=by first|exact zcf9 _|with_unfolding_all rfl):PT X (.Compare a [op] [b] pos) (qB (tOp r ta tb)):=by
 intro pins s σ H Q I h
 refine wpAny_isTrue_Compare1 (thn (ha pins s σ H _ I h) fun v s1 ⟨x,H1,I1,r1,q1⟩=>thn (hb pins s1 σ H1 _ I1 q1) fun u s2 ⟨y,H2,I2,r2,q2⟩=>
  thn (ho pins s2 σ H2 x y v u _ I2 r1 r2 q2) fun c s3 ⟨z,H3,I3,r3,q3⟩=>?_) hm
 dsimp only at q3
 split at q3
 ·cases r3
  exact wpAny_truthy_bool ⟨H3,I3,q3⟩
 ·rename_i i
  refine zbs4 pins s3 σ H3 _ c Q I3 r3 ⟨_,rfl,?_⟩
  have e:(i != 0)=!decide (i=0):=by by_cases h:i=0<;>simp[h]
  rw[e];exact q3
 ·exact q3.elim
theorem peC{a b:Expr}{ta tb:TE}{op:CmpOp}{r:R2}(ho:OpR X (compareOp op) r)(ha:PE X a ta)(hb:PE X b tb)(hm:behindInMarks op b=false:=by first|exact zcf9 _|with_unfolding_all rfl):PE X (.Compare a [op] [b] pos) (tOp r ta tb):=
 zcp5 ho ha hb hm
variable {a b:Expr}{rest:List Expr}{tA tB':TT}{ta tb:TE}{pos:Pos}
noncomputable def qAnd(t u:TT):TT:=fun σ H Q=>t σ H fun c H1=>br c (u σ H1 Q) (Q false H1)
noncomputable def qOr(t u:TT):TT:=fun σ H Q=>t σ H fun c H1=>br c (Q true H1) (u σ H1 Q)
theorem zaf6(ha:PT X a tA)(hb:PW X (.BoolOp .And (b :: rest) pos) tB'):PW X (.BoolOp .And (a :: b :: rest) pos) (qAnd tA tB'):=fun wh pins s σ H Q I h=>
 pw_and ha hb wh pins s σ H Q I (by unfold qAnd at h;simp only[zae9] at h;exact h)
theorem pwOr(ha:PT X a tA)(hb:PW X (.BoolOp .Or (b :: rest) pos) tB'):PW X (.BoolOp .Or (a :: b :: rest) pos) (qOr tA tB'):=fun wh pins s σ H Q I h=>
 pw_or ha hb wh pins s σ H Q I (by unfold qOr at h;simp only[zae9] at h;exact h)
noncomputable def qAndV(ta tb:TE):TE:=fun σ H Q=>ta σ H fun x H1=>match x with
 | .bl c=>br c (tb σ H1 Q) (Q (.bl false) H1)
 | _=>False
noncomputable def qNotV(ta:TE):TE:=fun σ H Q=>ta σ H fun x H1=>match x with
 | .bl c=>Q (.bl (!c)) H1
 | _=>False
theorem zu4(ha:PE X a ta)(hb:PE X (.BoolOp .And (b :: rest) pos) tb):PE X (.BoolOp .And (a :: b :: rest) pos) (qAndV ta tb):=by
 intro pins s σ H Q I h
 refine BoolOp_and (thn (ha pins s σ H _ I h) fun v s1 ⟨x,H1,I1,r1,q1⟩=>?_)
 dsimp only at q1
 split at q1
 ·rename_i c
  cases r1
  refine wpAny_truthy_bool ?_
  rw[zae9] at q1
  cases c with
  | true=>exact hb pins s1 σ H1 Q I1 (by simpa using q1)
  | false=>exact⟨.bl false,H1,I1,rfl,by simpa using q1⟩
 ·exact q1.elim
theorem peNot(ha:PE X a ta):PE X (.UnaryOp .Not a pos) (qNotV ta):=by
 intro pins s σ H Q I h
 refine UnaryOp_ (thn (ha pins s σ H _ I h) fun v s1 ⟨x,H1,I1,r1,q1⟩=>?_)
 dsimp only at q1
 split at q1
 ·rename_i c
  cases r1
  exact not_of (wpAny_truthy_bool ⟨.bl (!c),H1,I1,rfl,q1⟩)
 ·exact q1.elim
noncomputable def qIf(t:TT)(ta tb:TE):TE:=fun σ H Q=>t σ H fun c H1=>br c (ta σ H1 Q) (tb σ H1 Q)
theorem peIf{c:Expr}(hc:PT X c tA)(ha:PE X a ta)(hb:PE X b tb):PE X (.IfExp c a b pos) (qIf tA ta tb):=fun pins s σ H Q I h=>
 zcc7 hc ha hb pins s σ H Q I (by unfold qIf at h;simp only[zae9] at h;exact h)
noncomputable def qChain(r r':R2)(ta tb tc:TE):TE:=fun σ H Q=>ta σ H fun x H1=>tb σ H1 fun y H2=>r x y H2 fun z H3=>match z with
 | .bl k=>br k (tc σ H3 fun w' H4=>r' y w' H4 Q) (Q (.bl false) H3)
 | _=>False
theorem zcm1{c:Expr}{tc:TE}{op op':CmpOp}{r r':R2}(ho:OpR X (compareOp op) r)(ho':OpR X (compareOp op') r')(ha:PE X a ta)(hb:PE X b tb)(hc:PE X c tc)(hm:lastMarks [op,op'] [b,c]=false:=by with_unfolding_all rfl):PE X (.Compare a [op,op'] [b,c] pos) (qChain r r' ta tb tc):=by
 intro pins s σ H Q I h
 refine Compare_chain (thn (ha pins s σ H _ I h) fun v s1 ⟨x,H1,I1,r1,q1⟩=>chain_link (thn (hb pins s1 σ H1 _ I1 q1) fun u s2 ⟨y,H2,I2,r2,q2⟩=>
  thn (ho pins s2 σ H2 x y v u _ I2 r1 r2 q2) fun d s3 ⟨z,H3,I3,r3,q3⟩=>?_)) hm
 dsimp only at q3
 split at q3
 ·rename_i k
  cases r3
  refine wpAny_truthy_bool ?_
  rw[zae9] at q3
  cases k with
  | false=>exact ite_ff ⟨.bl false,H3,I3,rfl,by simpa using q3⟩
  | true=>exact ite_tt (chain_last (thn (hc pins s3 σ H3 _ I3 (by simpa using q3)) fun w' s4 ⟨z',H4,I4,r4,q4⟩=>ho' pins s4 σ H4 y z' u w' Q I4 r2 r4 q4))
 ·exact q3.elim
variable {st:Stmt}{t u:TS}{e:Expr}{te:TE}
noncomputable def qIfS(c:TT)(t u:TS):TS:=fun D σ H=>c σ H fun b H1=>br b (t D σ H1) (u D σ H1)
theorem psIf{c:Expr}{a b:List Stmt}{tc:TT}(hc:PT X c tc)(ha:PSs X a t)(hb:PSs X b u):PS X (.If c a b pos) (qIfS tc t u):=fun pins s σ H D I h=>
 ps_if hc ha hb pins s σ H D I (by unfold qIfS at h;simp only[zae9] at h;exact h)
@[irreducible] noncomputable def zal3(J:It)(g:TG)(tb:TS)(D:Ends)(σ:St)(H1:Hp):Prop:=∃ W:Nat->Nat->St->Hp->Prop,(∃ m,W 0 m σ H1)/\∀ i m σ H,W i m σ H ->
 (J.stop i H/\D.nx σ H)∨(J.go i H/\∃ N:St->Hp->Prop,(∀ σ' H',N σ' H'->∃ m',m'<m/\W (i+1) m' σ' H')/\∀ x H',J.yld i H x H'->g x σ H' fun σ2 H2=>tb { D with nx:=N,ct:=N,bk:=D.nx } σ2 H2)
noncomputable def qFor(wi:TI)(g:TG)(tb:TS):TS:=fun D σ H=>wi σ H fun J H1=>zal3 J g tb D σ H1
theorem zp5{iter:Expr}{body:List Stmt}{wi:TI}{g:TG}{tb:TS}(hp:PassesOwn (model X.prog X.w) X.A X.env X.xe)(hc:X.calm=true)(hi:PI X tg iter wi)(hg:PG X tg g)(hb:PSs X body tb)(hs:∀ x,foldedSetIterable iter X.env x=pure x:=by intro _;rfl):PS X (.For tg iter body [] pos) (qFor wi g tb):=fun pins s σ H D I h=>
 ps_for hp hc hi hg hb hs pins s σ H D I (by unfold qFor at h;unfold zal3 at h;exact h)
@[irreducible] noncomputable def zbk3(K:zcw2)(a:Addr)(H:Hp)(R:It->Hp->Prop):Prop:=((∃ xs,SqL K H a xs)/\R (Itl K a) H)∨((∃ xs,SqT K H a xs)/\R (Itt K a) H)
noncomputable def qiSeq(K:zcw2)(tl:TE):TI:=fun σ H R=>tl σ H fun x H1=>match x with
 | .ref a=>zbk3 K a H1 R
 | _=>False
theorem piSeq{l:Expr}{tl:TE}(hl:PE X l tl):PI X tg l (qiSeq X.K tl):=by
 intro pins s σ H R I h
 refine thn (hl pins s σ H _ I h) fun v s1 ⟨x,H1,I1,r1,q1⟩=>?_
 dsimp only at q1
 split at q1
 ·rename_i a
  unfold zbk3 at q1
  cases r1
  have fp:∀ b∈[s1.heap.objs.size],FpOk X pins H1 b:=fun b hb=>by
   have e:b=s1.heap.objs.size:=by simpa using hb
   subst e
   exact I1.fpOk (zcx3 _) (I1.hok.fresh (zcx3 _))
  rcases q1 with ⟨⟨xs,hq⟩,q⟩|⟨⟨xs,hq⟩,q⟩
  ·obtain⟨its,rv,p,hz⟩:=I1.list hq
   refine wpAny_pyIter_list p.isList ?_
   exact⟨s1.heap.objs.size,[s1.heap.objs.size],_,_,H1,rfl,I1.kept (t':=s1.toks) fun b o e=>zcw6 _ e,zbp4 a _,⟨_,zcy8 _ rfl,rfl,rfl⟩,fp,q⟩
  ·obtain⟨its,rv,p,hz⟩:=I1.tuple hq
   refine wpAny_pyIter_tuple (show s1.heap.IsTuple a its.toArray from p) ?_
   exact⟨s1.heap.objs.size,[s1.heap.objs.size],_,_,H1,rfl,I1.kept (t':=s1.toks) fun b o e=>zcw6 _ e,zbl0 a _,⟨_,zcy8 _ rfl,rfl,rfl⟩,fp,q⟩
 ·exact q1.elim
@[irreducible] noncomputable def zan6(i j:Int)(H:Hp)(R:It->Hp->Prop):Prop:=(-(2 ^ 62)<=i/\i<2 ^ 62/\-(2 ^ 62)<=j/\j<2 ^ 62)/\R (Itr i (j - i).toNat) H
noncomputable def qiRng(ta:TA):TI:=fun σ H R=>ta σ H fun vs H1=>match vs with
 | [.int j]=>zan6 0 j H1 R
 | [.int i,.int j]=>zan6 i j H1 R
 | _=>False
theorem zl6{a:Expr}{ta:TA}{p:Pos}(hm:X.mg "range"=none)(ha:PA X [a] ta)(hg:Gl X "range":=by rfl)(hs:starEach [a] X.env=[(false,eval a X.env)]:=by rfl):PI X tg (.Call (.Name "range" p) [a] [] pos) (qiRng ta):=by
 intro pins s σ H R I h
 refine Call_ (zx7 I hg hm boot_range (PyProof.Rows.callWith_type1 (thn (ha pos pins s σ H _ I h) fun us s1 ⟨vs,H1,I1,r1,q1⟩=>?_) hs rfl))
 dsimp only at q1
 split at q1
 ·unfold zan6 at q1
  obtain⟨⟨a1,a2,a3,a4⟩,q⟩:=q1
  cases r1 with
  | cons r rr=>
   cases rr
   obtain⟨t,rfl⟩:=r
   exact call_range_1 (zbf6 I1 a1 a2 a3 a4 q)
 ·unfold zan6 at q1
  cases r1 with
  | cons r rr=>
   cases rr with
   | cons r' rr=>
    cases rr
    obtain⟨t,rfl⟩:=r
    obtain⟨t',rfl⟩:=r'
    obtain⟨⟨a1,a2,a3,a4⟩,q⟩:=q1
    exact call_range_2 (zbf6 I1 a1 a2 a3 a4 q)
 ·exact q1.elim
section
variable {K:zcw2}{g:TG}{tb:TS}{D:Ends}{σ:St}{H:Hp}{R:It->Hp->Prop}
theorem zc4{a:Addr}(h:H a=some (.lst xs))(q:R (Itl K a) H):zbk3 K a H R:=by unfold zbk3;exact .inl ⟨⟨xs,SqL.of h⟩,q⟩
theorem zas4{a:Addr}(h:H a=some (.tup xs))(q:R (Itt K a) H):zbk3 K a H R:=by unfold zbk3;exact .inr ⟨⟨xs,SqT.of h⟩,q⟩
theorem ze2{i j:Int}(h1:-(2 ^ 62)<=i)(h2:i<2 ^ 62)(h3:-(2 ^ 62)<=j)(h4:j<2 ^ 62)(q:R (Itr i (j - i).toNat) H):zan6 i j H R:=by unfold zan6;exact⟨⟨h1,h2,h3,h4⟩,q⟩
theorem zn7{a:Addr}(Pv:Nat->St->Hp->Prop)(h0:Pv 0 σ H)(hl:∀ i σ H,i<=xs.length->Pv i σ H->SqL K H a xs)(hs:∀ i x σ H,xs[i]?=some x->Pv i σ H->g x σ H fun σ2 H2=>tb { D with nx:=Pv (i+1),ct:=Pv (i+1),bk:=D.nx } σ2 H2)(hd:∀ σ H,Pv xs.length σ H->D.nx σ H):zal3 (Itl K a) g tb D σ H:=by
 unfold zal3;exact zcb3 Pv h0 hl hs hd
theorem zf5{lo:Int}{n:Nat}(Pv:Nat->St->Hp->Prop)(h0:Pv 0 σ H)(hs:∀ i σ H,i<n->Pv i σ H->g (.int (lo+i)) σ H fun σ2 H2=>tb { D with nx:=Pv (i+1),ct:=Pv (i+1),bk:=D.nx } σ2 H2)(hd:∀ σ H,Pv n σ H->D.nx σ H):zal3 (Itr lo n) g tb D σ H:=by
 unfold zal3;exact zbx7 Pv h0 hs hd
end
@[irreducible] noncomputable def wIf(W:Nat->St->Hp->Prop)(m:Nat)(tb:TS)(D:Ends)(σ:St)(b:Bool)(H1:Hp):Prop:=
 if b=true then ∃ N:St->Hp->Prop,(∀ σ' H',N σ' H'->∃ m',m'<m/\W m' σ' H')/\tb { D with nx:=N,ct:=N,bk:=D.nx } σ H1 else D.nx σ H1
@[irreducible] noncomputable def zbh6(c:TT)(tb:TS):TS:=fun D σ H=>∃ W:Nat->St->Hp->Prop,(∃ m,W m σ H)/\∀ m σ H,W m σ H->c σ H fun b H1=>wIf W m tb D σ b H1
theorem zcp7{c:Expr}{body:List Stmt}{tc:TT}{tb:TS}(hp:PassesOwn (model X.prog X.w) X.A X.env X.xe)(hc:PT X c tc)(hb:PSs X body tb):PS X (.While c body [] pos) (zbh6 tc tb):=fun pins s σ H D I h=>
 zce1 hp hc hb pins s σ H D I (by unfold zbh6 at h;unfold wIf at h;exact h)
section
variable {c:TT}{tb:TS}{D:Ends}{σ:St}{H H1:Hp}{W:Nat->St->Hp->Prop}{m:Nat}{p:Prop}
theorem zcb4(Pv:St->Hp->Prop)(μ:St->Hp->Nat)(h0:Pv σ H)(hs:∀ σ H,Pv σ H->c σ H fun b H1=>wIf (fun m σ H=>m=μ σ H/\Pv σ H) (μ σ H) tb D σ b H1):zbh6 c tb D σ H:=by
 unfold zbh6
 refine⟨fun m σ H=>m=μ σ H/\Pv σ H,⟨_,rfl,h0⟩,?_⟩
 rintro m σ H ⟨rfl,p⟩
 exact hs σ H p
theorem zck5{Pv:St->Hp->Prop}{μ:St->Hp->Nat}[Decidable p](h1:p->tb { D with nx:=fun σ' H'=>Pv σ' H'/\μ σ' H'<m,ct:=fun σ' H'=>Pv σ' H'/\μ σ' H'<m,bk:=D.nx } σ H1)(h2:¬ p->D.nx σ H1) :
  wIf (fun m σ H=>m=μ σ H/\Pv σ H) m tb D σ (decide p) H1:=by
 unfold wIf
 refine ite2 (fun h=>⟨_,fun σ' H' ⟨a,b⟩=>⟨_,b,rfl,a⟩,h1 (of_decide_eq_true h)⟩) fun h=>h2 fun hp=>h (decide_eq_true hp)
end
@[irreducible] noncomputable def rNewT(xs:List V)(H:Hp)(Q:VK):Prop:=xs.length<=sizeLine/\∀ p H',H p=none->Same H H'->H' p=some (.tup xs)->Q (.ref p) H'
@[irreducible] noncomputable def rNewL(xs:List V)(H:Hp)(Q:VK):Prop:=xs.length<=sizeLine/\∀ p H',H p=none->Same H H'->H' p=some (.lst xs)->Q (.ref p) H'
noncomputable def qTup(t:TA):TE:=fun σ H Q=>t σ H fun xs H1=>rNewT xs H1 Q
noncomputable def qLst(t:TA):TE:=fun σ H Q=>t σ H fun xs H1=>rNewL xs H1 Q
theorem zf2{x1}{t:TA}(h:PA X es t):PE X (.Tuple es x1 pos) (qTup t):=by
 intro pins s σ H Q I hq
 refine wpAny_Tuple_spliced (thn (h pos pins s σ H _ I hq) fun us s1 ⟨xs,H1,I1,r,z⟩=>?_)
 unfold rNewT at z
 obtain⟨z,q⟩:=z
 refine⟨by rw[← r.length];exact z,?_⟩
 have hf:H1 s1.heap.objs.size=none:=I1.hok.fresh (zcx3 _)
 refine⟨.ref s1.heap.objs.size,upd H1 s1.heap.objs.size (.tup xs),I1.laid (t':=s1.toks) (fun b u e=>zcw6 _ e) (zcx3 _) ?_,rfl,q _ _ hf (Same.upd hf) zd0⟩
 exact⟨z,us,r,⟨_,zcy8 _ rfl,rfl,_,rfl⟩⟩
theorem zg3{t:TA}(h:PA X es t):PE X (.List es pos) (qLst t):=by
 intro pins s σ H Q I hq
 refine wpAny_List_spliced (thn (h pos pins s σ H _ I hq) fun us s1 ⟨xs,H1,I1,r,z⟩=>?_)
 unfold rNewL at z
 obtain⟨z,q⟩:=z
 refine⟨by rw[← r.length];exact z,?_⟩
 have hf:H1 s1.heap.objs.size=none:=I1.hok.fresh (zcx3 _)
 refine⟨.ref s1.heap.objs.size,upd H1 s1.heap.objs.size (.lst xs),I1.laid (t':=s1.toks) (fun b u e=>zcw6 _ e) (zcx3 _) ?_,rfl,q _ _ hf (Same.upd hf) zd0⟩
 exact⟨z,us,0,r,zcy8 _ rfl⟩
@[irreducible] noncomputable def rIxA(K:zcw2)(p:Addr)(i:Int)(H:Hp)(Q:VK):Prop:=∃ xs v,(SqL K H p xs∨SqT K H p xs)/\atI xs i=some v/\Q v H
noncomputable def rIxM(K:zcw2):R2:=fun x y H Q=>match x,y with
 | .ref p,.int i=>rIxA K p i H Q
 | .str z,.int i=>∃ c,z.length<=sizeLine/\atI z.cps.toList i=some c/\Q (.str ⟨#[c]⟩) H
 | _,_=>False
theorem ixM:IxR X (rIxM X.K):=by
 intro value slice pins s σ H x y v u Q I rx ry h hs
 unfold rIxM at h
 split at h
 ·unfold rIxA at h
  obtain⟨xs,z,h1,h2,q⟩:=h
  rcases h1 with h1|h1
  ·exact zcm9 value slice pins s σ H _ _ v u Q I rx ry ⟨_,xs,_,z,rfl,rfl,h1,h2,q⟩ hs
  ·exact ix_tup value slice pins s σ H _ _ v u Q I rx ry ⟨_,xs,_,z,rfl,rfl,h1,h2,q⟩ hs
 ·obtain⟨c,h1,h2,q⟩:=h
  exact ix_str value slice pins s σ H _ _ v u Q I rx ry ⟨_,_,c,rfl,rfl,h1,h2,q⟩ hs
 ·exact h.elim
theorem peIx(ha:PE X a ta)(hb:PE X b tb)(hs:zba9 b:=by exact fun _ _=>rfl):PE X (.Subscript a b pos) (tOp (rIxM X.K) ta tb):=pe_ix ixM ha hb hs
@[irreducible] noncomputable def rSetA(p:Addr)(k:Int)(v:V)(H:Hp)(Q:Hp->Prop):Prop:=∃ xs j,H p=some (.lst xs)/\ixN xs.length k=some j/\∀ H',Chg p H H'->H' p=some (.lst (xs.set j v))->Q H'
noncomputable def rSetM:TSet:=fun o i v H Q=>match o,i with
 | .ref p,.int k=>rSetA p k v H Q
 | _,_=>False
theorem setM:PSet X rSetM:=by
 intro pins s σ H o i v ov iv u Q I ro ri rv h
 unfold rSetM at h
 split at h
 ·unfold rSetA at h
  obtain⟨xs,j,h1,h2,q⟩:=h
  exact zcf8 pins s σ H _ _ v ov iv u Q I ro ri rv ⟨_,xs,_,j,rfl,rfl,h1,h2,q _ Chg.upd zd0⟩
 ·exact h.elim
noncomputable def qPart(t:TE):TO:=fun σ H Q=>t σ H fun x H1=>match x with
 | .int i=>Q (some i) H1
 | _=>False
theorem zn5(h:PE X e te):PO X (some e) (qPart te):=by
 intro pins s σ H Q I hw
 rw[evalPart_some]
 refine thn (h pins s σ H _ I hw) fun u s1 ⟨x,H1,I1,r1,q1⟩=>?_
 dsimp only at q1
 split at q1
 ·rename_i i
  obtain⟨t,rfl⟩:=r1
  exact⟨some i,H1,I1,.int i t,q1⟩
 ·exact q1.elim
section
variable {K:zcw2}{H:Hp}{Q:VK}{p:Addr}{xs:List V}{v:V}{i:Int}
theorem zb6(q:∀ p H',H p=none->Same H H'->H' p=some (.tup xs)->Q (.ref p) H')(h:xs.length<=sizeLine:=by first|assumption|(simp only[zcx5,zcz1,Nat.zero_add,Nat.reduceAdd];decide)):rNewT xs H Q:=by unfold rNewT;exact⟨h,q⟩
theorem zc3(q:∀ p H',H p=none->Same H H'->H' p=some (.lst xs)->Q (.ref p) H')(h:xs.length<=sizeLine:=by first|assumption|(simp only[zcx5,zcz1,Nat.zero_add,Nat.reduceAdd];decide)):rNewL xs H Q:=by unfold rNewL;exact⟨h,q⟩
theorem zb1(h:H p=some (.tup xs))(e:atI xs i=some v)(q:Q v H):rIxA K p i H Q:=by unfold rIxA;exact⟨xs,v,.inr (SqT.of h),e,q⟩
theorem zb0(h:H p=some (.lst xs))(e:atI xs i=some v)(q:Q v H):rIxA K p i H Q:=by unfold rIxA;exact⟨xs,v,.inl (SqL.of h),e,q⟩
theorem zan3{R:Hp->Prop}{j:Nat}(h:H p=some (.lst xs))(e:ixN xs.length i=some j)(q:∀ H',Chg p H H'->H' p=some (.lst (xs.set j v))->R H'):rSetA p i v H R:=by unfold rSetA;exact⟨xs,j,h,e,q⟩
end
noncomputable def qgNil:TGs:=fun vs σ H Q=>match vs with
 | []=>Q σ H
 | _=>False
noncomputable def zch7(t:TG)(u:TGs):TGs:=fun vs σ H Q=>match vs with
 | v :: r=>t v σ H fun σ' H'=>u r σ' H' Q
 | _=>False
theorem zj0:PGs X [] qgNil:=fun pins s σ H vs us Q I r h=>by
 unfold qgNil at h
 split at h
 ·exact zcm8 pins s σ H _ us Q I r ⟨rfl,h⟩
 ·exact h.elim
theorem zb7{e:Expr}{t:TG}{u:TGs}(h1:PG X e t)(h2:PGs X es u)(hs:(assignEach (e :: es) X.env).map (·.2)=assign e X.env :: (assignEach es X.env).map (·.2):=by rfl):PGs X (e :: es) (zch7 t u):=fun pins s σ H vs us Q I r h=>by
 unfold zch7 at h
 split at h
 ·exact zcf4 h1 h2 hs pins s σ H _ us Q I r ⟨_,_,rfl,h⟩
 ·exact h.elim
noncomputable def qPar(i j:Nat)(ta:TA):TS:=fun D σ H=>ta σ H fun vs H1=>match vs with
 | [v,w]=>D.nx ((σ.set i (some v)).set j (some w)) H1
 | _=>False
theorem psPar{j:Nat}{x y:Str}{a b:Expr}{ta:TA}{px py pt:Pos}{kt k2 pt2}(hc:X.calm=true)(hN:X.N.Nodup)(hi:X.N[i]?=some x)(hj:X.N[j]?=some y)(hij:i≠j)(hx:X.env.scope.names.lookup x=some .local)(hy:X.env.scope.names.lookup y=some .local)(ha:PA X [a,b] ta)(hw:swappedStores [.Tuple [.Name x px,.Name y py] kt pt] (.Tuple [a,b] k2 pt2) X.env=pure (some [x,y]))(hs:swapsWithSole [.Tuple [.Name x px,.Name y py] kt pt] (.Tuple [a,b] k2 pt2) pos.line X.env=pure false:=by rfl) :
  PS X (.Assign [.Tuple [.Name x px,.Name y py] kt pt] (.Tuple [a,b] k2 pt2) pos) (qPar i j ta) :=by
 intro pins s σ H D I h
 rw[exec_Assign_arm]
 refine zdf3 (wpAny_standAt ?_)
 rw[hs]
 refine zdf3 (zdf4 ?_)
 rw[if_neg (by decide)]
 refine zdf3 (Tuple_ (thn (ha _ pins s σ H _ I h) fun us s1 ⟨vs,H1,I1,r1,q1⟩=>?_))
 dsimp only at q1
 split at q1
 case h_2=>exact q1.elim
 rename_i v w
 obtain⟨u1,u2,rfl,rv,rw'⟩:∃ u1 u2,us=[u1,u2]/\RelV v u1/\RelV w u2:=by
  cases r1 with
  | cons p q=>
   cases q with
   | cons p' q'=>
    cases q'
    exact⟨_,_,rfl,p,p'⟩
 refine wpAny_newObj_type ?_ (by show 2<=sizeLine;decide)
 have I2:Inv X pins σ H1 { s1 with heap:=s1.heap.push { cls:=.type "tuple",data:=.seq [u1,u2].toArray } }:=I1.kept (t':=s1.toks) fun b o e=>zcw6 _ e
 rw[hw]
 refine zdf3 (zdf4 ?_)
 show wpAny (model X.prog X.w) X.A (do rule "assign.swapped-stores";let items ← unpackItems (.ref s1.heap.objs.size) 2 none;assignInOrder [fun v=>bindName X.env y v,fun v=>bindName X.env x v] items.reverse;pure Flow.next) _ _ _
 refine zdf3 (wpAny_rule (zdf3 (unpackItems_tuple (items:=#[u1,u2]) (I.ok.hd hc) (IsTup.new s1.heap _) fun h' hx'=>?_)))
 have I3:=I2.kept (h':=h') (t':=s1.toks) fun b o e=>hx' b o (zcz2 (zcx7 e)) e
 show wpAny _ _ (assignInOrder [fun v=>bindName X.env y v,fun v=>bindName X.env x v] [u2,u1] >>= fun _=>pure Flow.next) _ _ _
 refine zdf3 (assignInOrder_cons (wpAny_bindName (zag4 I3 hN hj (.inl hy) rw' (fun s2 I4=>?_) (.inr hy))))
 refine assignInOrder_cons (wpAny_bindName (zag4 I4 hN hi (.inl hx) rv (fun s3 I5=>assignInOrder_nil (zdf4 ?_)) (.inr hx)))
 rw[List.set_comm _ _ (Ne.symm hij)] at I5
 exact⟨_,H1,I5,q1⟩
end
section
variable {X:Cx}
noncomputable def rAbsM:List V->Hp->VK->Prop:=fun xs H Q=>match xs with
 | [.int i]=>Q (.int (i.natAbs:Int)) H
 | _=>False
noncomputable def rIntM:List V->Hp->VK->Prop:=fun xs H Q=>match xs with
 | [.int i]=>Q (.int i) H
 | [.bl k]=>Q (.int (if k=true then 1 else 0)) H
 | _=>False
theorem cInt:zm6 X (.type "int") rIntM:=fun pins s σ H xs us Q I r h=>by
 unfold rIntM at h
 split at h
 ·exact zax6 pins s σ H _ us Q I r (.inl ⟨_,rfl,h⟩)
 ·exact zax6 pins s σ H _ us Q I r (.inr ⟨_,rfl,h⟩)
 ·exact h.elim
@[irreducible] noncomputable def zbn4(K:zcw2)(p:Addr)(H:Hp)(Q:VK):Prop:=∃ ys,(SqL K H p ys∨SqT K H p ys)/\Q (.int ys.length) H
noncomputable def rLenM(K:zcw2):List V->Hp->VK->Prop:=fun xs H Q=>match xs with
 | [.ref p]=>zbn4 K p H Q
 | [.str z]=>z.length<=sizeLine/\Q (.int z.length) H
 | _=>False
theorem cLen:zm6 X (.builtin "len") (rLenM X.K):=fun pins s σ H xs us Q I r h=>by
 unfold rLenM at h
 split at h
 ·unfold zbn4 at h
  obtain⟨ys,h1,h2⟩:=h
  exact zas9 pins s σ H _ us Q I r ⟨_,ys,rfl,h1,h2⟩
 ·exact zax0 pins s σ H _ us Q I r ⟨_,rfl,h.1,h.2⟩
 ·exact h.elim
@[irreducible] noncomputable def zz8(K:zcw2)(x c:V)(H:Hp)(Q:VK):Prop:=∃ t b,TyOf K H x t/\(∀ cv,RelV c cv->zdd3 K t cv=some b)/\Q (.bl b) H
noncomputable def rIsiM(K:zcw2):List V->Hp->VK->Prop:=fun xs H Q=>match xs with
 | [x,c]=>zz8 K x c H Q
 | _=>False
theorem cIsi:zm6 X (.builtin "isinstance") (rIsiM X.K):=fun pins s σ H xs us Q I r h=>by
 unfold rIsiM at h
 split at h
 ·unfold zz8 at h
  obtain⟨t,b,h1,h2,h3⟩:=h
  obtain⟨u,w,rfl,r1,r2⟩:=zbn3 r
  exact zbr4 I r1 h1 (h2 _ r2) fun tk=>⟨.bl b,H,I.tok _,rfl,h3⟩
 ·exact h.elim
section
variable {K:zcw2}{H:Hp}{Q:VK}{p:Addr}{xs:List V}
theorem zc5(h:H p=some (.lst xs))(q:Q (.int xs.length) H):zbn4 K p H Q:=by unfold zbn4;exact⟨xs,.inl (SqL.of h),q⟩
theorem zp6(h:H p=some (.tup xs))(q:Q (.int xs.length) H):zbn4 K p H Q:=by unfold zbn4;exact⟨xs,.inr (SqT.of h),q⟩
theorem zah1{i:Int}{n:String}{b:Bool}(q:Q (.bl b) H)(e:zdd3 K (.type "int") (.type n)=some b:=by rfl):zz8 K (.int i) (.ty n) H Q:=by
 unfold zz8;exact⟨_,b,.int i,fun cv r=>by cases r;exact e,q⟩
theorem zag8{i:Bool}{n:String}{b:Bool}(q:Q (.bl b) H)(e:zdd3 K (.type "bool") (.type n)=some b:=by rfl):zz8 K (.bl i) (.ty n) H Q:=by
 unfold zz8;exact⟨_,b,.bl i,fun cv r=>by cases r;exact e,q⟩
theorem zbz0{n:String}{b:Bool}(q:Q (.bl b) H)(e:zdd3 K (.type "NoneType") (.type n)=some b:=by rfl):zz8 K .non (.ty n) H Q:=by
 unfold zz8;exact⟨_,b,.non,fun cv r=>by cases r;exact e,q⟩
theorem zbx0{x:Str}{n:String}{b:Bool}(q:Q (.bl b) H)(e:zdd3 K (.type "str") (.type n)=some b:=by rfl):zz8 K (.str x) (.ty n) H Q:=by
 unfold zz8;exact⟨_,b,.str x,fun cv r=>by cases r;exact e,q⟩
theorem zae5{n:String}{b:Bool}(h:H p=some (.tup xs))(q:Q (.bl b) H)(e:zdd3 K (.type "tuple") (.type n)=some b:=by rfl):zz8 K (.ref p) (.ty n) H Q:=by
 unfold zz8;exact⟨_,b,.tup h,fun cv r=>by cases r;exact e,q⟩
theorem zbx3{n:String}{b:Bool}(h:H p=some (.lst xs))(q:Q (.bl b) H)(e:zdd3 K (.type "list") (.type n)=some b:=by rfl):zz8 K (.ref p) (.ty n) H Q:=by
 unfold zz8;exact⟨_,b,.lst h,fun cv r=>by cases r;exact e,q⟩
end
theorem zci6:bootBuiltins "max"=some (.builtin "max"):=by decide +kernel
theorem zcg7:bootBuiltins "min"=some (.builtin "min"):=by decide +kernel
theorem zd2:bootBuiltins "len"=some (.builtin "len"):=by decide +kernel
theorem zan1:bootBuiltins "sum"=some (.builtin "sum"):=by decide +kernel
theorem zac1:bootBuiltins "all"=some (.builtin "all"):=by decide +kernel
theorem zb8:bootBuiltins "isinstance"=some (.builtin "isinstance"):=by decide +kernel
theorem zaa4:bootBuiltins "sorted"=some (.builtin "sorted"):=by decide +kernel
theorem zaw9:bootBuiltins "int"=some (.type "int"):=by decide +kernel
theorem zba8:bootBuiltins "bool"=some (.type "bool"):=by decide +kernel
theorem zp7:bootBuiltins "list"=some (.type "list"):=by decide +kernel
theorem zp9:bootBuiltins "tuple"=some (.type "tuple"):=by decide +kernel
theorem pTy{x:Str}{n:String}(hm:X.mg x=none)(hv:bootBuiltins x=some (.type n))(hg:Gl X x:=by rfl)(hn:x≠"__name__":=by decide)(hd:(x==("__debug__":Str))=false:=by decide):PE X (.Name x pos) (tC (.ty n)):=
 zcq1 hg hm hv rfl hn hd
theorem pB{x:Str}{p:Pos}{e:Expr}{t:TA}{id:String}{r:List V->Hp->VK->Prop}(hc:zm6 X (.builtin id) r)(hm:X.mg x=none)(hv:bootBuiltins x=some (.builtin id))(ha:PA X (e :: es) t)(hg:Gl X x:=by rfl)(hn:x≠"__name__":=by decide)(hdb:(x==("__debug__":Str))=false:=by decide)(he:starEach (e :: es) X.env=(false,eval e X.env) :: starEach es X.env:=by rfl)(hpl:(backTo pos (starEach es X.env)).any (·.1)=false:=by rfl):PE X (.Call (.Name x p) (e :: es) [] pos) (tCB r t):=zcc5 hc hg hm hv ha hn hdb he hpl
theorem pT{x:Str}{p:Pos}{e:Expr}{t:TA}{id:String}{r:List V->Hp->VK->Prop}(hc:zm6 X (.type id) r)(hm:X.mg x=none)(hv:bootBuiltins x=some (.type id))(ha:PA X (e :: es) t)(hg:Gl X x:=by rfl)(hn:x≠"__name__":=by decide)(hdb:(x==("__debug__":Str))=false:=by decide)(he:starEach (e :: es) X.env=(false,eval e X.env) :: starEach es X.env:=by rfl)(hpl:(backTo pos (starEach es X.env)).any (·.1)=false:=by rfl):PE X (.Call (.Name x p) (e :: es) [] pos) (tCB r t):=zbq8 hc hg hm hv ha hn hdb he hpl
structure Def(P:Program)(w:World)(K:zcw2)(mg:Str->Option Value)(base:Heap)(CX:CXT)(k:Nat)(x:Str)(ps:List Str)(sp:Sp):Prop where
 ex:∃ (f:Addr) (fd:FuncData),FnOk P w K mg base CX k f fd ps sp/\mg x=some (.ref f)/\zdd4 K (.ref f)=true/\zau1 K fd ps []
noncomputable def qCall(sp:Sp)(E:XK)(t:TA):TE:=fun σ H Q=>t σ H fun vs H1=>sp vs H1 Q E
theorem pD{CX:CXT}{k j:Nat}{x:Str}{ps:List Str}{sp:Sp}{E:XK}{p:Pos}{e:Expr}{t:TA}(F:Def X.prog X.w X.K X.mg X.base CX k x ps sp)(hr:Room j X.A)(hx:zbj9 CX X E)(ha:PA X (e :: es) t)(hk:k<=j:=by decide)(hg:Gl X x:=by rfl)(hdb:(x==("__debug__":Str))=false:=by decide)(he:starEach (e :: es) X.env=(false,eval e X.env) :: starEach es X.env:=by rfl)(hpl:(backTo pos (starEach es X.env)).any (·.1)=false:=by rfl) :
  PE X (.Call (.Name x p) (e :: es) [] pos) (qCall sp E t):=by
 obtain⟨f,fd,F1,F2,F3,F4⟩:=F.ex
 intro pins s σ H Q I h
 refine zco3 F1 (hr.mono hk) hg F2 F3 F4 .nil hx ha hdb he hpl pins s σ H Q I ?_
 unfold tCall
 simp only[List.append_nil]
 exact h
theorem psS{x:Str}{e:Expr}{te:TE}{pos':Pos}(hN:X.N.Nodup)(he:PE X e te)(hi:X.N[i]?=some x:=by rfl)(hx:Loc X.env.scope x:=by first|exact Or.inl rfl|exact Or.inr rfl)(hs:swapsWith e (some (.Name x pos')) pos.line X.env=pure false:=by rfl)(hf:X.fn x=true∨X.env.scope.names.lookup x=some .local:=by first|exact .inl rfl|exact .inr rfl|assumption) :
  PS X (.Assign [.Name x pos'] e pos) (tAsg te (gName i)):=ps_set hN hi hx he hs hf
section
variable {K:zcw2}{H:Hp}{Q:VK}{p:Addr}{xs:List V}{i j:Int}
theorem zai4(h1:-18446744073709551616<i)(h2:i<18446744073709551616)(q:Q (.int (i*j)) H):zbl8 i j H Q:=zu2 (.of_left (intBits_le_64 (by simpa using h1) (by simpa using h2))) q
theorem zcp1(h1:-18446744073709551616<j)(h2:j<18446744073709551616)(q:Q (.int (i*j)) H):zbl8 i j H Q:=zu2 (.of_right (intBits_le_64 (by simpa using h1) (by simpa using h2))) q
theorem zac4(h:0<j)(q:∀ r:Int,0<=r->r<j->Q (.int r) H):zbu6 i j H Q:=zbt5 h (q _ (Int.emod_nonneg _ (by omega)) (Int.emod_lt_of_pos _ h))
theorem zi3(h:H p=some (.lst xs))(h0:0<=i)(h1:i<xs.length)(q:∀ v,v∈xs->Q v H):rIxA K p i H Q:=by
 have hl:i.toNat<xs.length:=by omega
 refine zb0 h (v:=xs[i.toNat]) ?_ (q _ (zdb0 hl))
 have e:((i.toNat:Nat):Int)=i:=by omega
 have z:=zc1 (zcv7 hl)
 rw[e] at z
 exact z
theorem hu40{A:Around}{k:Nat}(hr:Room k A):A.units+40<cLine:=by have:=hr.units;omega
end
@[irreducible] noncomputable def qCut(t:TS):TS:=fun D σ H=>∃ R:St->Hp->Prop,t { D with nx:=R } σ H/\∀ σ' H',R σ' H'->D.nx σ' H'
theorem psCut{st:Stmt}{t:TS}(h:PS X st t):PS X st (qCut t):=fun pins s σ H D I hq=>by
 unfold qCut at hq
 obtain⟨R,h1,h2⟩:=hq
 refine thn (h pins s σ H _ I h1) fun f s' q=>?_
 cases f with
 | next=>obtain⟨σ',H',I',z⟩:=q;exact⟨σ',H',I',h2 _ _ z⟩
 | brk=>exact q
 | cont=>exact q
 | ret u=>exact q
theorem zak4{t:TS}{D:Ends}{σ:St}(R:St->Hp->Prop)(h1:t { D with nx:=R } σ H)(h2:∀ σ' H',R σ' H'->D.nx σ' H'):qCut t D σ H:=by unfold qCut;exact⟨R,h1,h2⟩
theorem zu7{lo hi:Option Int}{x:V}(h:x∈cutV xs lo hi):x∈xs:=zdc2 (zdd5 h)
theorem EqR.ints2{K:zcw2}{a b:Addr}{t u x y:Int}(ha:H a=some (.tup [.int t,.int u]))(hb:H b=some (.tup [.int x,.int y])):EqR K H 1 (.ref a) (.ref b) (decide (t=x/\u=y)):=by
 have h:=EqR.tup (K:=K) (H:=H) (n:=0) (fun j=>match j with|0=>decide (t=x)|1=>decide (u=y)|_=>true) (SqT.of ha) (SqT.of hb) (fun j p q hp hq=>by
  have fl:∀ (i k:Int),EqR K H 0 (.int i) (.int k) (decide (i=k)):=fun i k=>by
   have:=EqR.flat (K:=K) (H:=H) (n:=0) (x:=.int i) (y:=.int k) rfl rfl
   have e:eqV (.int i) (.int k)=decide (i=k):=by
    by_cases z:i=k
    ·subst z;simp[eqV]
    ·simp[eqV,z]
   rw[e] at this;exact this
  match j with
  | 0=>simp at hp hq;subst hp hq;exact fl t x
  | 1=>simp at hp hq;subst hp hq;exact fl u y
  | j+2=>simp at hp)
 have e:((List.range (min [V.int t,V.int u].length [V.int x,V.int y].length)).all (fun j=>match j with|0=>decide (t=x)|1=>decide (u=y)|_=>true)&&([V.int t,V.int u].length==[V.int x,V.int y].length))=decide (t=x/\u=y):=by
  show ((decide (t=x)&&(decide (u=y)&&true))&&true)=_
  rw[Bool.and_true,Bool.and_true,Bool.decide_and]
 rw[e] at h
 exact h
end
set_option maxHeartbeats 2000000
theorem zae6{env:Env}:∀ (names:List (Str×NameKind)) (acc:List (Str×Addr)),(∀ x∈names,x.2=.free->∃ c,env.cells.lookup x.1=some c) ->
  ∃ acc',(forIn (m:=Sem) names acc (fun (x:Str×NameKind) (r:List (Str×Addr))=>if (x.2==.free)=true then (do let c ← cellOf env x.1;pure (ForInStep.yield ((x.1,c) :: r))) else pure (ForInStep.yield r)))=pure acc' /\
   (∀ x c,acc'.lookup x=some c->acc.lookup x=some c∨env.cells.lookup x=some c)/\(∀ x c,acc.lookup x=some c->∃ c',acc'.lookup x=some c')/\∀ x∈names,x.2=.free->∃ c,acc'.lookup x.1=some c
 | [],acc,_=>⟨acc,rfl,fun _ _ h=>.inl h,fun _ c h=>⟨c,h⟩,fun _ h=>by cases h⟩
 | (n,k) :: r,acc,h=>by
  by_cases hk:k=.free
  ·subst hk
   obtain⟨c,hc⟩:=h (n,.free) zdc1 rfl
   obtain⟨acc',e,h1,h2,h3⟩:=zae6 r ((n,c) :: acc) fun x hx=>h x (zda6 _ hx)
   have hco:cellOf env n=pure c:=by unfold cellOf;rw[hc]
   refine⟨acc',?_,fun x d hd=>?_,fun x d hd=>?_,fun x hx hf=>?_⟩
   ·rw[List.forIn_cons]
    simp only[hco]
    exact e
   ·rcases h1 x d hd with q|q
    ·rw[zcz8] at q
     split at q
     ·rename_i hx
      have hx:x=n:=by simpa using hx
      subst hx
      cases q
      exact .inr hc
     ·exact .inl q
    ·exact .inr q
   ·by_cases hx:x=n
    ·subst hx
     exact h2 x c (by simp[zcz8])
    ·refine h2 x d ?_
     rw[zcz8]
     have:(x==n)=false:=by simpa using hx
     rw[this];exact hd
   ·rcases zcw8.mp hx with rfl|hx
    ·exact h2 n c (by simp[zcz8])
    ·exact h3 x hx hf
  ·obtain⟨acc',e,h1,h2,h3⟩:=zae6 r acc fun x hx=>h x (zda6 _ hx)
   refine⟨acc',?_,h1,h2,fun x hx hf=>?_⟩
   ·rw[List.forIn_cons]
    have:(k==NameKind.free)=false:=by simpa using hk
    simp only[this]
    exact e
   ·rcases zcw8.mp hx with rfl|hx
    ·exact absurd hf hk
    ·exact h3 x hx hf
theorem zac7{env:Env}(h:∀ x∈scope.names,x.2=.free->∃ c,env.cells.lookup x.1=some c) :
  ∃ cl,closureFor scope env=pure cl/\(∀ x c,cl.lookup x=some c->env.cells.lookup x=some c)/\∀ x∈scope.names,x.2=.free->∃ c,cl.lookup x.1=some c:=by
 obtain⟨cl,e,h1,_,h3⟩:=zae6 (env:=env) scope.names [] h
 refine⟨cl,?_,fun x c hc=>(h1 x c hc).elim (fun q=>by cases q) id,h3⟩
 unfold closureFor
 show (forIn (m:=Sem) scope.names ([]:List (Str×Addr)) _ >>= fun r=>pure r)=_
 rw[e]
 rfl
theorem zv5{env:Env}:∀ {names:List (Str×NameKind)}{x:Str},names.lookup x=some .free ->
  (names.map fun (n,k)=>if (k==NameKind.free&&env.scope.kind==.function&&env.kindOf n==some .cell) then (n,NameKind.cell) else (n,k)).lookup x=some .cell ∨
  (names.map fun (n,k)=>if (k==NameKind.free&&env.scope.kind==.function&&env.kindOf n==some .cell) then (n,NameKind.cell) else (n,k)).lookup x=some .free
 | [],_,h=>by simp at h
 | (n,k) :: r,x,h=>by
  have ih:=@zv5 env r x
  show List.lookup x ((if (k==NameKind.free&&env.scope.kind==.function&&env.kindOf n==some .cell)=true then (n,NameKind.cell) else (n,k)) :: _)=_∨List.lookup x ((if (k==NameKind.free&&env.scope.kind==.function&&env.kindOf n==some .cell)=true then (n,NameKind.cell) else (n,k)) :: _)=_
  cases hx:x==n with
  | true=>
   simp only[zcz8,hx] at h
   cases h
   by_cases hc:(NameKind.free==NameKind.free&&env.scope.kind==.function&&env.kindOf n==some .cell)=true
   ·left;rw[if_pos hc];simp only[zcz8,hx]
   ·right;rw[if_neg hc];simp only[zcz8,hx]
  | false=>
   simp only[zcz8,hx] at h
   by_cases hc:(k==NameKind.free&&env.scope.kind==.function&&env.kindOf n==some .cell)=true
   ·rw[if_pos hc];simp only[zcz8,hx];exact ih h
   ·rw[if_neg hc];simp only[zcz8,hx];exact ih h
theorem zv8{env:Env}:∀ {names:List (Str×NameKind)}{x:Str}{k':NameKind},(∀ y∈names,y.2≠.cell)->(k'=.cell∨k'=.free) ->
  (names.map fun (n,k)=>if (k==NameKind.free&&env.scope.kind==.function&&env.kindOf n==some .cell) then (n,NameKind.cell) else (n,k)).lookup x=some k'->∃ y∈names,y.1=x/\y.2=.free
 | [],_,_,_,_,h=>by simp at h
 | (n,k) :: r,x,k',hn,hk,h=>by
  have ih:=@zv8 env r x k' (fun y hy=>hn y (zda6 _ hy)) hk
  replace h:List.lookup x ((if (k==NameKind.free&&env.scope.kind==.function&&env.kindOf n==some .cell)=true then (n,NameKind.cell) else (n,k)) :: List.map (fun (n,k)=>if (k==NameKind.free&&env.scope.kind==.function&&env.kindOf n==some .cell) then (n,NameKind.cell) else (n,k)) r)=some k':=h
  cases hx:x==n with
  | true=>
   have hx':x=n:=by simpa using hx
   by_cases hf:k=.free
   ·exact⟨(n,k),zdc1,hx'.symm,hf⟩
   ·have hc:¬ (k==NameKind.free&&env.scope.kind==.function&&env.kindOf n==some .cell)=true:=by
     have:(k==NameKind.free)=false:=by simpa using hf
     rw[this];simp
    rw[if_neg hc] at h
    simp only[zcz8,hx] at h
    have:k=k':=Option.some.inj h
    subst this
    rcases hk with hk|hk
    ·exact absurd hk (hn (n,k) zdc1)
    ·exact absurd hk hf
  | false=>
   have h':List.lookup x (List.map (fun (n,k)=>if (k==NameKind.free&&env.scope.kind==.function&&env.kindOf n==some .cell) then (n,NameKind.cell) else (n,k)) r)=some k':=by
    by_cases hc:(k==NameKind.free&&env.scope.kind==.function&&env.kindOf n==some .cell)=true
    ·rw[if_pos hc] at h;simp only[zcz8,hx] at h;exact h
    ·rw[if_neg hc] at h;simp only[zcz8,hx] at h;exact h
   obtain⟨y,hy,h1,h2⟩:=ih h'
   exact⟨y,zda6 _ hy,h1,h2⟩
noncomputable def blk(X:Cx)(N:List Str)(scope:Scope)(cl:List (Str×Addr))(C:Addr)(s3:Shared)(H3:Hp)(fp:List Addr):Cx:=
 { X with N:=N,s₀:=s3,H₀:=H3,env:=compEnvC scope cl C X.env,outer:=X.stack,ex:=fp,fn:=fun _=>false,pn:=[],xe:=fun _ _=>False }
noncomputable def PTs(X:Cx)(ifs:List Expr)(t:TT):Prop:=
 ∀ (pins:List (Addr×Obj)) (s:Shared) (σ:St) (H:Hp) (Q:Bool->Hp->Prop),Inv X pins σ H s->t σ H Q ->
  wpAny (model X.prog X.w) X.A (forIn ifs true fun c r=>if r=true then do let ok ← isTrue c X.env (eval c X.env);pure (ForInStep.yield ok) else pure (ForInStep.yield r)) (TP X pins σ Q) X.xe s
theorem zc7{X:Cx}:PTs X [] (fun _ H Q=>Q true H):=fun _ _ _ H _ I h=>wpAny_tests_nil ⟨H,I,h⟩
theorem zbz9{X:Cx}{c:Expr}{t:TT}(h:PT X c t):PTs X [c] t:=fun pins s σ H Q I hq=>wpAny_tests_one (h pins s σ H Q I hq)
@[irreducible] noncomputable def cPut(W:Nat->Nat->List V->St->Hp->Prop)(acc:Addr)(ys:List V)(i m:Nat)(σ2:St)(v:V)(H5:Hp):Prop:=
 H5 acc=some (.lst ys)/\∀ H6,Chg acc H5 H6->H6 acc=some (.lst (ys++[v]))->∃ m',m'<m/\W (i+1) m' (ys++[v]) σ2 H6
@[irreducible] noncomputable def zas3(W:Nat->Nat->List V->St->Hp->Prop)(ys:List V)(i m:Nat)(σ2:St)(H4:Hp):Prop:=∃ m',m'<m/\W (i+1) m' ys σ2 H4
@[irreducible] noncomputable def zad6(J:It)(g:TG)(tt:TT)(te:TE)(σ0:St)(H1:Hp)(Q:VK):Prop:=
 ∀ acc H2,H1 acc=none->Same H1 H2->H2 acc=some (.lst [])->∃ W:Nat->Nat->List V->St->Hp->Prop,(∃ m,W 0 m [] σ0 H2)/\∀ i m ys σ H,W i m ys σ H->H acc=some (.lst ys)/\ys.length<sizeLine /\
  ((J.stop i H/\Q (.ref acc) H)∨(J.go i H/\∀ x H',J.yld i H x H'->g x σ H' fun σ2 H3=>tt σ2 H3 fun b H4=>
   br b (te σ2 H4 fun v H5=>cPut W acc ys i m σ2 v H5) (zas3 W ys i m σ2 H4)))
section
variable {X:Cx}{pins:List (Addr×Obj)}{σ:St}{H:Hp}{s2:Shared}
theorem zcm2{N:List Str}{cl:List (Str×Addr)}{C:Addr}{s3 s4:Shared}{H3:Hp}{fp:List Addr}{σc:St}(I:Inv X pins σ H3 s3)(hcl1:∀ x c,cl.lookup x=some c->X.env.cells.lookup x=some c)(hcl2:∀ x∈scope.names,x.2=.free->∃ c,cl.lookup x.1=some c)(hkind:scope.kind=.function)(hcell:∀ y∈scope.names,y.2≠.cell)(hcap:∀ (i:Nat) (x:Str) (v:V),N[i]?=some x->σc[i]?=some (some v)->∃ j:Nat,X.N[j]?=some x/\σ[j]?=some (some v)/\scope.names.lookup x=some .free/\(X.env.kindOf x=some .cell∨X.env.kindOf x=some .free))(hlen:σc.length=N.length)(hC:s3.heap.objs.size=C)(hfp:∀ b∈fp,FpOk X pins H3 b)(hfpl:∀ b∈fp,b<C)(hex:∀ b o,X.base.get? b=some o->b ∉ fp)(hns:∃ m,s4.heap.Ns C m)(hk:∀ b o,s3.heap.get? b=some o->s4.heap.get? b=some o)(h4:s4.os=s3.os)(h5:s4.gens=s3.gens) :
  Inv (blk X N scope cl C s3 H3 fp) [] σc H3 s4:=by
 subst hC
 have look:∀ x,(blk X N scope cl s3.heap.objs.size s3 H3 fp).env.kindOf x=(relabel scope X.env).names.lookup x:=fun x=>rfl
 have cne:∀ x c,cl.lookup x=some c->c<s3.heap.objs.size:=fun x c h=>by
  obtain⟨v,o,ho,_⟩:=I.cell x c (hcl1 x c h)
  exact zcx7 ho
 refine⟨⟨I.ok.mod,?_,I.ok.glob,I.ok.blt,zcx3 _,fun x y c h1 h2=>I.ok.inj x y c (hcl1 _ _ h1) (hcl1 _ _ h2),fun x hx=>?_,fun x c h=>?_,I.ok.hd,I.ok.frames,.inl rfl,fun b hb=>⟨zcz2 (hfpl b hb),fun x c h=>?_⟩,fun b o e=>I.bs b o e,zda0 I.ok.bsz I.sz,fun b o e=>hex b o e,fun b hb=>?_,I.stack,I.stkFree⟩,
  h4,by rw[h5];exact I.bare,Un.kept hk,?_,fun x c h=>?_,I.hok.fresh (zcx3 _),fun x c h=>I.freeC x c (hcl1 _ _ h),fun p hp=>(by cases hp),I.hok.kept hk,hlen⟩
 ·exact hkind
 ·have hx':(relabel scope X.env).names.lookup x=some .cell∨(relabel scope X.env).names.lookup x=some .free:=hx
  have hz:∃ y∈scope.names,y.1=x/\y.2=.free:=by
   rcases hx' with q|q
   ·exact zv8 hcell (.inl rfl) q
   ·exact zv8 hcell (.inr rfl) q
  obtain⟨y,hy,rfl,hf⟩:=hz
  exact hcl2 y hy hf
 ·exact absurd (show false=true from h) zcw5
 ·exact (hfp b hb).2.2.2.2.1 x c (hcl1 x c h)
 ·have:=(hfp b hb).1
  intro hz
  obtain⟨f0,f1,f2,_⟩:=hfp b hb
  have hz:b∈frs X.stack:=hz
  rcases zcw8.mp (I.stkSub b hz) with q|q
  ·exact f1 q
  ·exact f2 q
 ·obtain⟨m,hm⟩:=hns
  refine⟨m,hm,fun i x v h1 h2 h3=>?_⟩
  obtain⟨j,e1,e2,e3,e4⟩:=hcap i x v h1 h2
  obtain⟨mX,_,hl⟩:=I.loc
  obtain⟨u,r,q⟩:=hl j x v e1 e2 (by rcases e4 with e4|e4;exact .inr (.inl e4);exact .inr (.inr e4))
  refine⟨u,r,.inr ⟨zv5 e3,?_⟩⟩
  obtain⟨c,hc⟩:=hcl2 (x,.free) (PySem.mem_of_lookup e3) rfl
  refine⟨c,hc,?_⟩
  have hc':=hcl1 x c hc
  rcases q with ⟨k,_⟩|⟨_,c2,e5,o,ho,hd⟩
  ·rcases e4 with e4|e4<;>rw[e4] at k<;>cases k
  ·rw[hc'] at e5
   cases e5
   exact⟨o,hk _ _ ho,hd⟩
 ·obtain⟨v,o,ho,hd⟩:=I.cell x c (hcl1 x c h)
  exact⟨v,o,hk _ _ ho,hd⟩
theorem zay5{prog:Program}{w:World}{A:Around}{R:Result->Shared->Prop}{s:Shared}{elt target iter:Expr}{ifs:List Expr}{it acc:Value}{env:Env}(I:Nat->Shared->Prop)(turn:∀ n s,I n s->wpAny (model prog w) A (pyNext it) (fun r s₁=>match r with
   | none=>R (.ok .next) s₁
   | some v=>wpAny (model prog w) A (letOwnedTupleGo target it v) (fun _ s₁'=>wpAny (model prog w) A (assign target env v) (fun _ s₂=>
     wpAny (model prog w) A (forIn ifs true fun c r=>if r=true then do let ok ← isTrue c env (eval c env);pure (ForInStep.yield ok) else pure (ForInStep.yield r)) (fun ok s₃=>
      if ok=true then wpAny (model prog w) A (eval elt env) (fun x s₄=>
       wpAny (model prog w) A (call (.builtin "list.append") [acc,x]) (fun _ s₅=>∃ m,m<n/\I m s₅) (fun _ _=>False) s₄) (fun _ _=>False) s₃
      else ∃ m,m<n/\I m s₃) (fun _ _=>False) s₂) (fun _ _=>False) s₁') (fun _ _=>False) s₁) (fun _ _=>False) s)(n:Nat)(h:I n s):codeAny (model prog w) A (.compLoop (.ListComp elt [⟨target,iter,ifs,0⟩] scope pos) 0 it acc env) R s:=by
 refine codeAny_loop rfl I (fun n s hI=>?_) n h
 show wpAny _ A ((compTurn (.ListComp elt [⟨target,iter,ifs,0⟩] scope pos) 0 it acc env).onRaise (fun x=>do noteFrame x env;theTreesLotGoes x)) _ _ s
 refine wpAny_noted ?_
 rw[compTurn_list]
 refine zdf3 (wpAny_standAt (zdf3 (wpAny_mono (turn n s hI) (fun r s₁ h₁=>?_) fun _ _ h'=>h'.elim)))
 cases r with
 | none=>exact zdf4 h₁
 | some v=>
  refine zdf3 (wpAny_mono h₁ (fun _ s₁' h₁'=>?_) fun _ _ h'=>h'.elim)
  refine zdf3 (wpAny_mono h₁' (fun _ s₂ h₂=>zdf3 (wpAny_mono h₂ (fun ok s₃ h₃=>?_) fun _ _ h'=>h'.elim)) fun _ _ h'=>h'.elim)
  cases ok with
  | false=>exact zdf4 ⟨rfl,h₃⟩
  | true=>
   exact zdf3 (zdf3 (wpAny_mono h₃ (fun x s₄ h₄=>zdf3 (wpAny_mono h₄ (fun _ s₅ h₅=>zdf4 (zdf4 ⟨rfl,h₅⟩)) fun _ _ h'=>h'.elim)) fun _ _ h'=>h'.elim))
theorem zav2{E:Value->Shared->Prop}{elt iter:Expr}{ifs:List Expr}{cl:List (Str×Addr)}{N:List Str}{σc:St}{J:It}{fp:List Addr}{it:Addr}{tn:Nat->Heap->Prop}{g:TG}{tt:TT}{te:TE}{RR:Value->Addr->Result->Shared->Prop}(hcl1:∀ x c,cl.lookup x=some c->X.env.cells.lookup x=some c)(hcl2:∀ x∈scope.names,x.2=.free->∃ c,cl.lookup x.1=some c)(hkind:scope.kind=.function)(hcell:∀ y∈scope.names,y.2≠.cell)(hcap:∀ (i:Nat) (x:Str) (v:V),N[i]?=some x->σc[i]?=some (some v)->∃ j:Nat,X.N[j]?=some x/\σ[j]?=some (some v)/\scope.names.lookup x=some .free/\(X.env.kindOf x=some .cell∨X.env.kindOf x=some .free))(hlen:σc.length=N.length)(hc:X.calm=true)(I:Inv X pins σ H s2)(T:Turn X.prog X.w X.K tg J fp it tn)(st:tn 0 s2.heap)(fpok:∀ b∈fp,FpOk X pins H b)(hg:∀ C s3 H3 fp,PG (blk X N scope cl C s3 H3 fp) tg g)(ht:∀ C s3 H3 fp,PTs (blk X N scope cl C s3 H3 fp) ifs tt)(he:∀ C s3 H3 fp,PE (blk X N scope cl C s3 H3 fp) elt te)(h:zad6 J g tt te σc H Q)(hRR:∀ (acc C:Addr) (H':Hp) (s':Shared),Inv X pins σ H' s'->FpOk X pins H' C->(∃ m,s'.heap.Ns C m)->Q (.ref acc) H'->RR (.ref acc) C (.ok .next) s') :
  wpAny (model X.prog X.w) X.A (newList []) (fun acc s₃=>wpAny (model X.prog X.w) X.A (newFunctionEnv scope X.env.globals cl [] X.env.qual none .none (some X.env)) (fun cenv s₄=>
   codeAny (model X.prog X.w) X.A (.compStart (.ListComp elt [⟨tg,iter,ifs,0⟩] scope pos) 0 (.ref it) acc { cenv with scope:=relabel scope X.env }) (RR acc cenv.locals) s₄) E s₃) E s2:=by
 refine wpAny_newObj_type (wpAny_newFunctionEnv hcell (by intro y hy;simp at hy) (fun h₁ hns₁ hsb₁=>?_) hkind)
 dsimp only at hns₁ hsb₁ ⊢
 have hf:H s2.heap.objs.size=none:=I.fresh
 have I3:Inv X pins σ (upd H s2.heap.objs.size (.lst [])) { s2 with heap:=s2.heap.push { cls:=.type "list",data:=.seq ([]:List Value).toArray } }:=I.lnew (t':=s2.toks) (its:=[]) .nil (zcy3 _)
 generalize hs3:({ s2 with heap:=s2.heap.push { cls:=.type "list",data:=.seq ([]:List Value).toArray } }:Shared)=s3 at I3
 have hH:s2.heap.push { cls:=.type "list",dict:=none,data:=.seq ([]:List Value).toArray }=s3.heap:=by rw[← hs3]
 rw[hH] at hns₁ hsb₁ ⊢
 have hsz:s3.heap.objs.size=s2.heap.objs.size+1:=by rw[← hH,Heap.size_push]
 have old23:∀ b o,s2.heap.get? b=some o->s3.heap.get? b=some o:=fun b o e=>by rw[← hH];exact zcw6 _ e
 have fplt:∀ b∈fp,b<s2.heap.objs.size:=fun b hb=>by
  obtain⟨o,e,_⟩:=T.obj 0 _ st b hb
  exact zcx7 e
 have fp3:∀ b∈fp,FpOk X pins (upd H s2.heap.objs.size (.lst [])) b:=fun b hb=>by
  obtain⟨f0,f1⟩:=fpok b hb
  refine⟨?_,f1⟩
  rw[zd9 (zcz2 (fplt b hb))]
  exact f0
 have old34:∀ b o,s3.heap.get? b=some o->h₁.get? b=some o:=fun b o e=>hsb₁.extBut b o (zcz2 (zcx7 e)) (zcw6 _ e)
 have nob:∀ b o,X.base.get? b=some o->b ∉ fp:=fun b o e hb=>by
  obtain⟨_,_,_,f3,_,_⟩:=fpok b hb
  rcases f3 with f3|f3
  ·exact I.ok.noex b o e f3
  ·exact absurd (zcy5 (zcx7 e) I.ok.bsz) (Nat.not_lt.mpr f3)
 have hs4e:({ s2 with heap:=h₁,toks:=s2.toks+([]:List (Str×Value)).length }:Shared).os=s3.os:=by rw[← hs3]
 have hs4g:({ s2 with heap:=h₁,toks:=s2.toks+([]:List (Str×Value)).length }:Shared).gens=s3.gens:=by rw[← hs3]
 have I4:Inv (blk X N scope cl s3.heap.objs.size s3 (upd H s2.heap.objs.size (.lst [])) fp) [] σc (upd H s2.heap.objs.size (.lst [])) { s2 with heap:=h₁,toks:=s2.toks+([]:List (Str×Value)).length }:=
  zcm2 (s4:={ s2 with heap:=h₁,toks:=s2.toks+([]:List (Str×Value)).length }) I3 hcl1 hcl2 hkind hcell hcap hlen rfl fp3 (fun b hb=>zcy5 (fplt b hb) (by rw[hsz];exact zdd9 _)) nob ⟨_,hns₁⟩ old34 hs4e hs4g
 have st4:tn 0 h₁:=T.keep _ _ _ st fun b hb o e=>old34 b o (old23 b o e)
 unfold zad6 at h
 obtain⟨W,⟨m0,w0⟩,turn⟩:=h s2.heap.objs.size _ hf (Same.upd hf) zd0
 have loop:codeAny (model X.prog X.w) X.A (.compLoop (.ListComp elt [⟨tg,iter,ifs,0⟩] scope pos) 0 (.ref it) (.ref s2.heap.objs.size) (blk X N scope cl s3.heap.objs.size s3 (upd H s2.heap.objs.size (.lst [])) fp).env)
   (RR (.ref s2.heap.objs.size) s3.heap.objs.size) { s2 with heap:=h₁,toks:=s2.toks+([]:List (Str×Value)).length }:=by
  refine zay5 (fun n s'=>∃ i ys σ' H',Inv (blk X N scope cl s3.heap.objs.size s3 (upd H s2.heap.objs.size (.lst [])) fp) [] σ' H' s'/\tn i s'.heap/\(∀ b∈fp,H' b=none)/\W i n ys σ' H') ?_ m0 ⟨0,[],σc,_,I4,st4,fun b hb=>(fp3 b hb).1,w0⟩
  rintro n s5 ⟨i,ys,σ5,H5,I5,st5,fr5,w5⟩
  obtain⟨hacc,hl5,hcase⟩:=turn i n ys σ5 H5 w5
  have stat:∀ {H':Hp},(∀ b∈fp,H' b=none)->∀ b∈fp,FpOk (blk X N scope cl s3.heap.objs.size s3 (upd H s2.heap.objs.size (.lst [])) fp) [] H' b:=fun hn b hb=>by
   obtain⟨_,f1,f2,f3,f4,_⟩:=fpok b hb
   refine⟨hn b hb,zcz2 (zcy5 (fplt b hb) (by rw[hsz];exact zdd9 _)),fun hz=>?_,.inl hb,fun x c hx=>f4 x c (hcl1 x c hx),fun p hp=>by cases hp⟩
   rcases zcw8.mp (I.stkSub b hz) with q|q
   ·exact f1 q
   ·exact f2 q
  rcases hcase with ⟨stop,hq⟩|⟨go,step⟩
  ·refine thn (T.done (blk X N scope cl s3.heap.objs.size s3 (upd H s2.heap.objs.size (.lst [])) fp) rfl rfl rfl hc i [] s5 σ5 H5 (fun _ _=>False) I5 (stat fr5) st5 stop) fun r s6 ⟨hr,I6⟩=>?_
   subst hr
   have u1:Un (frs X.stack) fp H (upd H s2.heap.objs.size (.lst [])) s2.heap s3.heap:=Un.laid old23 (zcx3 _) hf
   have u2:Un (frs X.stack) fp (upd H s2.heap.objs.size (.lst [])) H5 s3.heap s6.heap:=I6.base
   have hC:H5 s3.heap.objs.size=none:=I6.free
   obtain⟨m6,hm6,_⟩:=I6.loc
   have hos:s6.os=s2.os:=by rw[I6.os];show s3.os=s2.os;rw[← hs3]
   have hok6:=I6.hok
   have bare6:=I6.bare
   obtain⟨hh,gg,dd,tt',os'⟩:=s6
   obtain rfl:os'=s2.os:=hos
   exact hRR _ _ H5 _ (I.call (h':=hh) (g':=gg) (d':=dd) (t':=tt') (ch:=fp) (u1.trans u2) hok6 bare6 fun b hb=>⟨(fpok b hb).2.2.2.1,(fpok b hb).2.1,(fpok b hb).2.2.2.2.1,(fpok b hb).2.2.2.2.2⟩)
    (I.fpOk (by rw[hsz];exact zdd9 _) hC) ⟨m6,hm6⟩ hq
  ·refine thn (T.item (blk X N scope cl s3.heap.objs.size s3 (upd H s2.heap.objs.size (.lst [])) fp) rfl rfl rfl hc i [] s5 σ5 H5 (fun _ _=>False) I5 (stat fr5) st5 go) fun r s6 ⟨u,hr,h6⟩=>?_
   subst hr
   refine thn h6 fun _ s7 ⟨x,H7,I7,r7,y7,st7,fr7⟩=>?_
   have I7':=I7.pinned (stat fr7) (T.obj _ _ st7)
   refine thn (hg _ _ _ _ _ s7 σ5 H7 x u _ I7' r7 (step x H7 y7)) fun _ s8 ⟨σ8,H8,I8,q8⟩=>?_
   refine thn (ht _ _ _ _ _ s8 σ8 H8 _ I8 q8) fun ok s9 ⟨H9,I9,q9⟩=>?_
   have again:∀ {s10:Shared}{σ10:St}{H10:Hp}{zs:List V},Inv (blk X N scope cl s3.heap.objs.size s3 (upd H s2.heap.objs.size (.lst [])) fp) ([]++zan8 fp s7.heap) σ10 H10 s10->(∃ m',m'<n/\W (i+1) m' zs σ10 H10) ->
     ∃ m,m<n/\∃ i ys σ' H',Inv (blk X N scope cl s3.heap.objs.size s3 (upd H s2.heap.objs.size (.lst [])) fp) [] σ' H' s10/\tn i s10.heap/\(∀ b∈fp,H' b=none)/\W i m ys σ' H':=fun {s10 σ10 H10 zs} I10 ⟨m',hm,w10⟩=>by
    refine⟨m',hm,i+1,zs,σ10,H10,I10.unpinned,T.keep _ _ _ st7 fun b hb o e=>(I10.pin (b,o) (zcz9 _ (zcz9 _ (zo9 hb e)))).1,fun b hb=>?_,w10⟩
    obtain⟨o,e,d⟩:=T.obj _ _ st7 b hb
    exact (I10.pin (b,o) (zcz9 _ (zcz9 _ (zo9 hb e)))).2.1
   dsimp only at q9
   rw[zae9] at q9
   cases ok with
   | false=>
    have q9:∃ m',m'<n/\W (i+1) m' ys σ8 H9:=by rw[if_neg zcw5] at q9;unfold zas3 at q9;exact q9
    exact again I9 q9
   | true=>
    have q9:=(if_pos rfl▸q9:te σ8 H9 _)
    refine thn (he _ _ _ _ _ s9 σ8 H9 _ I9 q9) fun v s10 ⟨y,H10,I10,r10,q10⟩=>?_
    unfold cPut at q10
    obtain⟨e10,q10⟩:=q10
    refine thn (zaj2 _ s10 σ8 H10 (.ref s2.heap.objs.size) [y] (.ref s2.heap.objs.size) [v] (fun _ H11=>∃ m',m'<n/\W (i+1) m' (ys++[y]) σ8 H11) I10 rfl (.cons r10 .nil) ⟨_,ys,y,rfl,rfl,e10,hl5,q10 _ Chg.upd zd0⟩) fun _ s11 ⟨z,H11,I11,_,q11⟩=>?_
    exact again I11 q11
 exact codeAny_compStart_list loop (T.self _ 0 _ _ _ st4 loop)
noncomputable def capS(ks:List (Option Nat))(σ:St):St:=ks.map fun k=>match k with
 | none=>none
 | some j=>(σ[j]?).join
inductive zaf5(X:Cx)(scope:Scope):List Str->List (Option Nat)->Prop where
 | nil:zaf5 X scope [] []
 | skip {x:Str}{N:List Str}{ks:List (Option Nat)}(t:zaf5 X scope N ks):zaf5 X scope (x :: N) (none :: ks)
 | take {x:Str}{N:List Str}{ks:List (Option Nat)}{j:Nat}(h1:X.N[j]?=some x) (h2:scope.names.lookup x=some .free) (h3:X.env.kindOf x=some .cell∨X.env.kindOf x=some .free) (t:zaf5 X scope N ks):zaf5 X scope (x :: N) (some j :: ks)
theorem zaf5.cap{N:List Str}{ks:List (Option Nat)}(h:zaf5 X scope N ks)(σ:St):∀ (i:Nat) (x:Str) (v:V),N[i]?=some x->(capS ks σ)[i]?=some (some v)->∃ j:Nat,X.N[j]?=some x/\σ[j]?=some (some v)/\scope.names.lookup x=some .free/\(X.env.kindOf x=some .cell∨X.env.kindOf x=some .free):=by
 induction h with
 | nil=>intro i x v h;simp at h
 | skip t ih=>
  intro i x v h1 h2
  cases i with
  | zero=>simp[capS] at h2
  | succ i=>exact ih i x v (by simpa using h1) (by simpa [capS] using h2)
 | take a b c t ih=>
  intro i x v h1 h2
  cases i with
  | zero=>
   simp only[List.getElem?_cons_zero,Option.some.injEq] at h1
   subst h1
   refine⟨_,a,?_,b,c⟩
   simpa [capS,Option.join_eq_some_iff] using h2
  | succ i=>exact ih i x v (by simpa using h1) (by simpa [capS] using h2)
theorem zaf5.len{N:List Str}{ks:List (Option Nat)}(h:zaf5 X scope N ks)(σ:St):(capS ks σ).length=N.length:=by
 have:ks.length=N.length:=by
  induction h with
  | nil=>rfl
  | skip t ih=>simp[ih]
  | take a b c t ih=>simp[ih]
 simp[capS,this]
noncomputable def qComp(ks:List (Option Nat))(wi:TI)(g:TG)(tt:TT)(te:TE):TE:=fun σ H Q=>wi σ H fun J H1=>zad6 J g tt te (capS ks σ) H1 Q
noncomputable def freeB(scope:Scope)(f:Str->Option NameKind):Bool:=scope.names.all fun x=>x.2 != .free || (f x.1==some .cell || f x.1==some .free)
noncomputable def zbj5(scope:Scope):Bool:=scope.names.all (fun x=>x.2 != .cell)&&scope.names.all fun x=>x.2 != .local || scope.names.lookup x.1==some .local
theorem zap0{f:Str->Option NameKind}(h:freeB scope f=true):∀ x∈scope.names,x.2=.free->f x.1=some .cell∨f x.1=some .free:=fun x hx hf=>by
 have:=zcx2.mp h x hx
 simpa [hf] using this
theorem zat1(h:zbj5 scope=true):(∀ y∈scope.names,y.2≠.cell)/\∀ x∈scope.names,x.2=.local->scope.names.lookup x.1=some .local:=by
 unfold zbj5 at h
 rw[zcx4] at h
 refine⟨fun y hy=>?_,fun x hx hl=>?_⟩
 ·have:=zcx2.mp h.1 y hy
  simpa using this
 ·have:=zcx2.mp h.2 x hx
  simpa [hl] using this
theorem ze8{elt iter:Expr}{ifs:List Expr}{N:List Str}{ks:List (Option Nat)}{wi:TI}{g:TG}{tt:TT}{te:TE}(hi:PI X tg iter wi)(hg:∀ cl C s3 H3 fp,PG (blk X N scope cl C s3 H3 fp) tg g)(ht:∀ cl C s3 H3 fp,PTs (blk X N scope cl C s3 H3 fp) ifs tt)(he:∀ cl C s3 H3 fp,PE (blk X N scope cl C s3 H3 fp) elt te)(hcap:zaf5 X scope N ks)(hc:X.calm=true:=by rfl)(hkind:scope.kind=.function:=by rfl)(hb:freeB scope X.env.kindOf=true:=by rfl)(hn:zbj5 scope=true:=by rfl)(hs:∀ x,foldedSetIterable iter X.env x=pure x:=by intro _;rfl) :
  PE X (.ListComp elt [⟨tg,iter,ifs,0⟩] scope pos) (qComp ks wi g tt te):=by
 intro pins s σ H Q I h
 obtain⟨hcell,hnames⟩:=zat1 hn
 obtain⟨cl,hcl,hcl1,hcl2⟩:=zac7 (scope:=scope) (env:=X.env) fun x hx hf=>I.ok.has x.1 (zap0 hb x hx hf)
 rw[eval_ListComp]
 refine wpAny_comprehension_free (use:=none) rfl hs hcl hkind hnames ?_
 show wpAny _ _ (eval iter X.env) _ _ s
 refine thn (hi pins s σ H _ I h) fun v s1 h1=>thn h1 fun itv s2 h2=>?_
 obtain⟨it,fp,tn,J,H2,e,I2,T,st2,f2,q2⟩:=h2
 subst e
 refine zav2 (RR:=fun acc C=>compPost (model X.prog X.w) X.A X.xe none (EP X pins σ Q) acc C) hcl1 hcl2 hkind hcell (hcap.cap σ) (hcap.len σ) hc I2 T st2 f2 (hg cl) (ht cl) (he cl) q2 ?_
 rintro acc C H' s' I' hC ⟨m,hm⟩ hq
 refine⟨m,hm,fun h' hsb=>⟨.ref acc,H',?_,rfl,hq⟩⟩
 exact I'.turned (t':=s'.toks) (fun b o hb e=>hsb.extBut b o hb e) hC.1 hC.2.1 hC.2.2.2.1 hC.2.2.2.2.1 hC.2.2.2.2.2
theorem psC{y:Str}{py spos:Pos}{elt iter:Expr}{ifs:List Expr}{N:List Str}{ks:List (Option Nat)}{wi:TI}{g:TG}{tt:TT}{te:TE}(hN:X.N.Nodup)(hi:PI X tg iter wi)(hg:∀ cl C s3 H3 fp,PG (blk X N scope cl C s3 H3 fp) tg g)(ht:∀ cl C s3 H3 fp,PTs (blk X N scope cl C s3 H3 fp) ifs tt)(he:∀ cl C s3 H3 fp,PE (blk X N scope cl C s3 H3 fp) elt te)(hcap:zaf5 X scope N ks)(hy:X.N[i]?=some y:=by rfl)(hl:X.env.scope.names.lookup y=some .local:=by rfl)(hsw:swapsWith (.ListComp elt [⟨tg,iter,ifs,0⟩] scope pos) (some (.Name y py)) spos.line X.env=pure true:=by rfl)(hc:X.calm=true:=by rfl)(hkind:scope.kind=.function:=by rfl)(hb:freeB scope X.env.kindOf=true:=by rfl)(hn:zbj5 scope=true:=by rfl)(hs:∀ x,foldedSetIterable iter X.env x=pure x:=by intro _;rfl) :
  PS X (.Assign [.Name y py] (.ListComp elt [⟨tg,iter,ifs,0⟩] scope pos) spos) (tAsg (qComp ks wi g tt te) (gName i)):=by
 intro pins s σ H D I h
 obtain⟨hcell,hnames⟩:=zat1 hn
 obtain⟨cl,hcl,hcl1,hcl2⟩:=zac7 (scope:=scope) (env:=X.env) fun x hx hf=>I.ok.has x.1 (zap0 hb x hx hf)
 rw[exec_Assign_Name_used _ _ _ _ hsw]
 refine zdf3 (wpAny_standAt (zdf3 ?_))
 show wpAny _ X.A (do let _ ← comprehension (.ListComp elt [⟨tg,iter,ifs,0⟩] scope pos) scope X.env _ (newList []) false (eval iter X.env) (some (assign (.Name y py) X.env))) _ _ s
 refine zdf3 (wpAny_mono (wpAny_comprehension_free (use:=some (assign (.Name y py) X.env)) (Q:=fun _ s'=>SP X pins D .next s') rfl hs hcl hkind hnames ?_) (fun _ s' hq=>zdf4 (zdf4 hq)) fun _ _ e=>e)
 refine thn (hi pins s σ H _ I h) fun v s1 h1=>thn h1 fun itv s2 h2=>?_
 obtain⟨it,fp,tn,J,H2,e,I2,T,st2,f2,q2⟩:=h2
 subst e
 refine zav2 (RR:=fun acc C=>compPost (model X.prog X.w) X.A X.xe (some (assign (.Name y py) X.env)) (fun _ s'=>SP X pins D .next s') acc C) hcl1 hcl2 hkind hcell (hcap.cap σ) (hcap.len σ) hc I2 T st2 f2 (hg cl) (ht cl) (he cl) q2 ?_
 rintro acc C H' s' I' hC ⟨m,hm⟩ hq
 show wpAny _ _ (assign (.Name y py) X.env (.ref acc)) _ _ _
 refine wpAny_assign_Name (zaw2 I' hN hy (.inl hl) (v:=.ref acc) rfl (fun s'' I'' hsb=>?_) (.inr hl))
 obtain⟨a,hsb,ha⟩:=hsb
 have hCa:C≠a:=by
  rcases ha with ha|ha
  ·rw[ha];exact hC.2.1
  ·exact (hC.2.2.2.2.1 y a ha).symm
 refine⟨m,hm.sameBut hsb hCa,fun h' hsb'=>⟨σ.set i (some (.ref acc)),H',?_,hq⟩⟩
 exact I''.turned (t':=s''.toks) (fun b o hb e=>hsb'.extBut b o hb e) hC.1 hC.2.1 hC.2.2.2.1 hC.2.2.2.2.1 hC.2.2.2.2.2
end
section
variable {X:Cx}
@[irreducible] noncomputable def rSumA(K:zcw2)(p:Addr)(H:Hp)(Q:VK):Prop:=∃ ns:List Int,SqL K H p (ns.map V.int)/\Q (.int ns.sum) H
noncomputable def rSumM(K:zcw2):List V->Hp->VK->Prop:=fun xs H Q=>match xs with
 | [.ref p]=>rSumA K p H Q
 | _=>False
theorem cSum(hc:X.calm=true):zm6 X (.builtin "sum") (rSumM X.K):=fun pins s σ H xs us Q I r h=>by
 unfold rSumM at h
 split at h
 ·unfold rSumA at h
  obtain⟨ns,h1,h2⟩:=h
  obtain⟨u,rfl,rx⟩:=zy7 r
  cases rx
  obtain⟨its,r',pl,hz⟩:=I.list h1
  have hi:=zad1 r'
  obtain⟨ys,hx⟩:=hi.allInts.items
  have hl':s.heap.IsList _ (intItems ys):=hx▸pl.isList
  refine sum_intListG (I.ok.hd hc) hl' fun h' tk t' hk=>?_
  have e1:ns=ys.toList.map (·.1):=by
   rw[← nums_intItems,← hx]
   exact (show numsOf its.toArray.toList=ns from hi.numsOf).symm
  have e2:preSum (numAt ys) ys.size=ns.sum:=by
   rw[preSum_eq,zdb5 (by simp),e1]
  rw[e2]
  exact⟨.int ns.sum,H,I.kept hk,⟨_,rfl⟩,h2⟩
 ·exact h.elim
theorem zam7{K:zcw2}{p:Addr}{ns:List Int}(h:H p=some (.lst (ns.map V.int)))(q:Q (.int ns.sum) H):rSumA K p H Q:=by unfold rSumA;exact⟨ns,SqL.of h,q⟩
theorem zai2:∀ {bs:List Bool}{us:List Value},Vals (bs.map V.bl) us->LSm.BoolsAre us bs
 | [],us,r=>by rw[List.map_nil] at r;cases r;exact .nil
 | b :: bs,us,r=>by
  rw[zcz4] at r
  cases r with
  | cons r1 r2=>
   cases r1
   exact .cons b (zai2 r2)
@[irreducible] noncomputable def rAllA(K:zcw2)(p:Addr)(H:Hp)(Q:VK):Prop:=∃ bs:List Bool,SqL K H p (bs.map V.bl)/\Q (.bl (bs.all id)) H
noncomputable def rAllM(K:zcw2):List V->Hp->VK->Prop:=fun xs H Q=>match xs with
 | [.ref p]=>rAllA K p H Q
 | _=>False
theorem cAll(hc:X.calm=true):zm6 X (.builtin "all") (rAllM X.K):=fun pins s σ H xs us Q I r h=>by
 unfold rAllM at h
 split at h
 ·rename_i p
  unfold rAllA at h
  obtain⟨bs,h1,h2⟩:=h
  obtain⟨u,rfl,rx⟩:=zy7 r
  cases rx
  obtain⟨its,r',pl,hz⟩:=I.list h1
  have hb:=zai2 r'
  have hlt:p<s.heap.objs.size:=by obtain⟨_,e,_⟩:=pl.isList;exact zcx7 e
  refine call_all_walk (wpAny_pyIter_list pl.isList ?_)
  refine⟨s.heap.objs.size,[s.heap.objs.size,_],[s.heap.objs.size],its.toArray.size,_,_,fun i=>(bs[i]?).getD true,rfl,Walks.list (A:=X.A.in1) (I.ok.hd hc) _ _ (zcz2 hlt) its.toArray,
   ⟨⟨_,zcy8 _ rfl,rfl,rfl⟩,pl.isList.push _⟩,fun i v s' Q' E' hP hQ=>?_,fun h' tk hk=>?_⟩
  ·obtain⟨b,e,rfl⟩:=hb.get i v (by simpa using hP)
   simp only[e,Option.getD_some] at hQ
   exact wpAny_truthy_bool hQ
  ·have e:((List.range its.toArray.size).all fun i=>(bs[i]?).getD true)=bs.all id:=by
    rw[zcw9,hb.length];exact LSm.range_all bs
   rw[e]
   exact⟨.bl _,H,I.kept (LSm.kept_iter hk),rfl,h2⟩
 ·exact h.elim
theorem zx4{K:zcw2}{p:Addr}{bs:List Bool}(h:H p=some (.lst (bs.map V.bl)))(q:Q (.bl (bs.all id)) H):rAllA K p H Q:=by unfold rAllA;exact⟨bs,SqL.of h,q⟩
@[irreducible] noncomputable def zbe9(K:zcw2)(p:Addr)(H:Hp)(Q:VK):Prop:=∃ ys,(SqL K H p ys∨SqT K H p ys)/\∀ l H',H l=none->Same H H'->H' l=some (.lst ys)->Q (.ref l) H'
noncomputable def zbo6(K:zcw2):List V->Hp->VK->Prop:=fun xs H Q=>match xs with
 | [.ref p]=>zbe9 K p H Q
 | _=>False
theorem cList:zm6 X (.type "list") (zbo6 X.K):=fun pins s σ H xs us Q I r h=>by
 unfold zbo6 at h
 split at h
 ·unfold zbe9 at h
  obtain⟨ys,h1,h2⟩:=h
  exact zau2 pins s σ H _ us Q I r ⟨_,ys,rfl,h1,fun l hl=>h2 l _ hl (Same.upd hl) zd0⟩
 ·exact h.elim
theorem zbh2{K:zcw2}{p:Addr}{ys:List V}(h:SqL K H p ys)(q:∀ l H',H l=none->Same H H'->H' l=some (.lst ys)->Q (.ref l) H'):zbe9 K p H Q:=by unfold zbe9;exact⟨ys,.inl h,q⟩
@[irreducible] noncomputable def zbi0(K:zcw2)(p:Addr)(H:Hp)(R:Prop):Prop:=(∃ xs,SqL K H p xs)/\R
noncomputable def qBM(K:zcw2)(r:Addr->List V->Hp->VK->Prop)(to:TE)(t:TA):TE:=fun σ H Q=>to σ H fun x H1=>match x with
 | .ref p=>zbi0 K p H1 (t σ H1 fun xs H2=>r p xs H2 Q)
 | _=>False
theorem zat4{K:zcw2}{p:Addr}{R:Prop}(h:H p=some (.lst xs))(q:R):zbi0 K p H R:=by unfold zbi0;exact⟨⟨xs,SqL.of h⟩,q⟩
noncomputable def MtA(X:Cx)(id:String)(r:Addr->List V->Hp->VK->Prop):Prop:=
 ∀ (pins:List (Addr×Obj)) (s:Shared) (σ:St) (H:Hp) (p:Addr) (xs:List V) (us:List Value) (Q:VK),Inv X pins σ H s->Vals xs us->r p xs H Q ->
  wpAny (model X.prog X.w) X.A (call (.builtin id) (.ref p :: us)) (EP X pins σ Q) X.xe s
theorem peBM{o e:Expr}{to:TE}{t:TA}{name:Str}{apos cpos:Pos}{id:String}{r:Addr->List V->Hp->VK->Prop}(slot:Slot "list" name id)(hty:typeOf (.builtin id)=pure (.type "method_descriptor"))(hm:MtA X id r)(ho:PE X o to)(ha:PA X (e :: es) t)(hbase:attributeBase o name X.env (eval o X.env)=eval o X.env:=by rfl)(hfew:((backTo cpos (starEach (e :: es) X.env)).all (fun x=>!x.1)&&(backToKw cpos (keywordEach [] X.env)).all (fun x=>x.1.isSome)
   && decide ((e :: es).length+([]:List Keyword).length+(if ([]:List Keyword).isEmpty then 0 else 1)<30))=true:=by rfl)(hline:(apos.endLine==cpos.line)=true:=by rfl)(hs:starEach (e :: es) X.env=(false,eval e X.env) :: starEach es X.env:=by rfl)(hplain:(backTo cpos (starEach es X.env)).any (·.1)=false:=by rfl) :
  PE X (.Call (.Attribute o name apos) (e :: es) [] cpos) (qBM X.K r to t):=by
 intro pins s σ H Q I h
 refine wpAny_Call_method_late hbase hfew hline rfl (thn (ho pins s σ H _ I h) fun v s1 ⟨x,H1,I1,r1,q1⟩=>?_)
 dsimp only at q1
 split at q1
 ·rename_i p
  unfold zbi0 at q1
  obtain⟨hq,q1⟩:=q1
  obtain⟨h1,h2⟩:=tyV_is (T:="list") I1 r1 (.inl ⟨rfl,hq⟩)
  refine⟨"list",id,PySem.F.plainAttrs_list,slot,hty,h1,h2,?_⟩
  have hA:=ha cpos pins s1 σ H1 _ I1 q1
  rw[hs] at hA ⊢
  refine Calls.callWith_builtin (by show (false || (backTo cpos (starEach es X.env)).any (·.1))=false;rw[hplain]<;>rfl) (Calls.evalArgs_plain ?_)
  cases r1
  exact thn hA fun us s2 ⟨vs,H2,I2,r2,q2⟩=>hm pins s2 σ H2 p vs us Q I2 r2 q2
 ·exact q1.elim
@[irreducible] noncomputable def rAppA(p:Addr)(v:V)(H:Hp)(Q:VK):Prop:=∃ xs,H p=some (.lst xs)/\xs.length<sizeLine/\∀ H',Chg p H H'->H' p=some (.lst (xs++[v]))->Q .non H'
noncomputable def rAppM:Addr->List V->Hp->VK->Prop:=fun p vs H Q=>match vs with
 | [v]=>rAppA p v H Q
 | _=>False
theorem zcn0:MtA X "list.append" rAppM:=fun pins s σ H p xs us Q I r h=>by
 unfold rAppM at h
 split at h
 ·unfold rAppA at h
  obtain⟨ys,h1,h2,h3⟩:=h
  exact zaj2 pins s σ H (.ref p) _ (.ref p) us Q I rfl r ⟨p,ys,_,rfl,rfl,h1,h2,h3 _ Chg.upd zd0⟩
 ·exact h.elim
theorem zax3{p:Addr}{v:V}(h:H p=some (.lst xs))(hz:xs.length<sizeLine)(q:∀ H',Chg p H H'->H' p=some (.lst (xs++[v]))->Q .non H'):rAppA p v H Q:=by unfold rAppA;exact⟨xs,h,hz,q⟩
theorem zr5{o e:Expr}{to:TE}{t:TA}{apos cpos:Pos}(ho:PE X o to)(ha:PA X [e] t)(hbase:attributeBase o "append" X.env (eval o X.env)=eval o X.env:=by rfl)(hfew:((backTo cpos (starEach [e] X.env)).all (fun x=>!x.1)&&(backToKw cpos (keywordEach [] X.env)).all (fun x=>x.1.isSome)
   && decide ([e].length+([]:List Keyword).length+(if ([]:List Keyword).isEmpty then 0 else 1)<30))=true:=by rfl)(hline:(apos.endLine==cpos.line)=true:=by rfl)(hs:starEach [e] X.env=(false,eval e X.env) :: starEach [] X.env:=by rfl)(hplain:(backTo cpos (starEach [] X.env)).any (·.1)=false:=by rfl):PE X (.Call (.Attribute o "append" apos) [e] [] cpos) (qBM X.K rAppM to t):=
 peBM PySem.F.slot_list_append PySem.F.type_list_append zcn0 ho ha hbase hfew hline hs hplain
section
variable {prog:Program}{w:World}{A:Around}{E:Value->Shared->Prop}{s:Shared}
theorem zax9{it t:Addr}{items:Array Value}(hne:t≠it):∀ (n i:Nat) (s:Shared) (Q:List Value->Shared->Prop),s.heap.IsListIter it t i->s.heap.IsList t items->i+n<=items.size ->
  (∀ h',h'.IsListIter it t (i+n)->Heap.SameBut it s.heap h'->Q ((items.toList.drop i).take n) { s with heap:=h' })->wpAny (model prog w) A (draw (.ref it) n) Q E s
 | 0,i,s,Q,hit,_,_,hQ=>by
  show wpAny _ _ (pure []) Q E s
  exact zdf4 (by simpa using hQ s.heap hit (Heap.SameBut.refl ..))
 | n+1,i,s,Q,hit,ht,hle,hQ=>by
  have hlt:i<items.size:=by omega
  show wpAny _ _ (pyNext (.ref it) >>= _) Q E s
  refine zdf3 (wpAny_pyNext_list_item hit ht (x:=items[i]) (by simp[hlt]) fun h₁ hit₁ hs₁=>?_)
  refine zdf3 (zdf8 (zax9 hne n (i+1) _ _ hit₁ (ht.extBut hs₁.extBut hne) (by omega) fun h₂ hit₂ hs₂=>zdf4 ?_))
  have hd:items.toList.drop i=items[i] :: items.toList.drop (i+1):=by simp[zdd0,hlt]
  have:=hQ h₂ (by rw[show i+(n+1)=i+1+n by omega];exact hit₂) (hs₁.trans hs₂)
  rw[hd,List.take_succ_cons] at this
  exact this
theorem zad9{env:Env}{x1}{t:Addr}{items:Array Value}{Q:Unit->Shared->Prop}(hh:A.handled=none)(ht:s.heap.IsList t items)(hn:(assignEach elts env).length=items.size)(hstar:(assignEach elts env).findIdx? (·.1)=none)(h:∀ h',Heap.ExtBut s.heap.objs.size s.heap h'->wpAny (model prog w) A (assignInOrder ((assignEach elts env).map (·.2)) items.toList) Q E { s with heap:=h' }) :
  wpAny (model prog w) A (assign (.Tuple elts x1 pos) env (.ref t)) Q E s:=by
 rw[assign_Tuple]
 refine zdf3 (wpAny_standAt ?_)
 unfold unpack
 rw[hn,hstar]
 refine zdf3 (zdf8 ?_)
 have hlt:t≠s.heap.objs.size:=by obtain⟨o,ho,_⟩:=ht;exact zcz2 (zcx7 ho)
 unfold unpackItems
 refine zdf3 ?_
 unfold notIterableAtAll
 refine zdf3 (wpAny_specialOf ht.typeIs F.slot_list_iter.lookup ?_)
 refine zdf4 ?_
 simp only[zdd1,if_false]
 refine zdf3 (zdf8 (wpAny_pyIter_list ht ?_))
 refine zdf3 (zdf8 (zax9 hlt items.size 0 _ _ ⟨_,zcy8 _ rfl,rfl,rfl⟩ (ht.push _) (by omega) fun h₁ hit₁ hs₁=>?_))
 have hall:List.take items.size (List.drop 0 items.toList)=items.toList:=by
  rw[List.drop_zero];exact zdb5 (by simp)
 rw[hall]
 rw[if_neg (by simp)]
 have ht₁:h₁.IsList t items:=(ht.push _).extBut hs₁.extBut hlt
 refine zdf3 (zdf8 (wpAny_pyNext_list_end hh hit₁ ht₁ (by simp) fun h₂ he₂=>?_))
 simp only[Option.isSome_none,zdd1,if_false]
 exact zdf4 (h h₂ fun b o hb e=>he₂ b o hb (hs₁.extBut b o hb (zcw6 _ e)))
end
@[irreducible] noncomputable def rUnpA(K:zcw2)(a:Addr)(n:Nat)(t:TGs)(σ:St)(H:Hp)(Q:St->Hp->Prop):Prop:=∃ xs,(SqT K H a xs∨SqL K H a xs)/\xs.length=n/\t xs σ H Q
noncomputable def qgAny(K:zcw2)(n:Nat)(t:TGs):TG:=fun v σ H Q=>match v with
 | .ref a=>rUnpA K a n t σ H Q
 | _=>False
theorem pgAny{k:Nat}{t:TGs}{n:Nat}(hc:X.calm=true)(h:PGs X es t)(hn:(assignEach es X.env).length=n:=by rfl)(hst:(assignEach es X.env).findIdx? (·.1)=none:=by rfl):PG X (.Tuple es k pos) (qgAny X.K n t):=fun pins s σ H v u Q I r hq=>by
 unfold qgAny at hq
 split at hq
 ·unfold rUnpA at hq
  obtain⟨xs,a1,a2,a3⟩:=hq
  rcases a1 with a1|a1
  ·exact pg_tup hc h hn hst pins s σ H _ u Q I r ⟨_,xs,rfl,a1,a2,a3⟩
  ·cases r
   obtain⟨its,rv,pl,hz⟩:=I.list a1
   refine zad9 (I.ok.hd hc) pl.isList (by simp[hn,← a2,rv.length]) hst fun h' hx=>?_
   have I1:Inv X pins σ H { s with heap:=h' }:=I.kept (t':=s.toks) fun b o e=>hx b o (zcz2 (zcx7 e)) e
   exact h pins _ σ H xs _ Q I1 (by simpa using rv) a3
 ·exact hq.elim
theorem zd8{K:zcw2}{a:Addr}{n:Nat}{t:TGs}{σ:St}{Q:St->Hp->Prop}(h:H a=some (.tup xs))(q:t xs σ H Q)(e:xs.length=n:=by rfl):rUnpA K a n t σ H Q:=by
 unfold rUnpA;exact⟨xs,.inl (SqT.of h),e,q⟩
end
noncomputable def Chg2(a c:Addr)(H H':Hp):Prop:=∀ b o,b≠a->b≠c->H b=some o->H' b=some o
theorem Chg2.trans{a:Addr}(x:Chg2 a c H H1)(y:Chg2 a c H1 H2):Chg2 a c H H2:=fun b o h1 h2 e=>y b o h1 h2 (x b o h1 h2 e)
theorem Chg2.same{a:Addr}(x:Chg2 a c H H1)(y:Same H1 H2):Chg2 a c H H2:=fun b o h1 h2 e=>y b o (x b o h1 h2 e)
theorem Chg.toL{a:Addr}(x:Chg a H H1):Chg2 a c H H1:=fun b o h1 _ e=>x b o h1 e
theorem Chg.toR{a:Addr}(x:Chg c H H1):Chg2 a c H H1:=fun b o _ h2 e=>x b o h2 e
theorem Same.to2{a:Addr}(x:Same H H1):Chg2 a c H H1:=fun b o _ _ e=>x b o e
theorem Chg2.at{a b:Addr}(x:Chg2 a c H H')(e:H b=some o)(h1:b≠a)(h2:b≠c):H' b=some o:=x b o h1 h2 e
noncomputable def cV(n:Nat)(acc:Addr)(Pv:Nat->List V->St->Hp->Prop):Nat->Nat->List V->St->Hp->Prop:=fun i m ys σ H=>m=n - i/\i<=n/\ys.length<=i/\H acc=some (.lst ys)/\Pv i ys σ H
section
variable {K:zcw2}{g:TG}{tt:TT}{te:TE}{σ0:St}{H1:Hp}{Q:VK}
theorem zaa8{n m:Nat}{acc:Addr}{Pv:Nat->List V->St->Hp->Prop}{ys:List V}{σ2:St}{v:V}{H5:Hp}(hi:i<n)(hm:m=n - i)(hl:ys.length<=i)(ha:H5 acc=some (.lst ys))(q:∀ H6,Chg acc H5 H6->H6 acc=some (.lst (ys++[v]))->Pv (i+1) (ys++[v]) σ2 H6):cPut (cV n acc Pv) acc ys i m σ2 v H5:=by
 unfold cPut
 exact⟨ha,fun H6 hc h6=>⟨n - (i+1),by omega,rfl,by omega,by rw[zcw7,zcy4];omega,h6,q H6 hc h6⟩⟩
theorem zp3{lo:Int}{n:Nat}(hn:n<sizeLine)(h:∀ acc H2,H1 acc=none->Same H1 H2->H2 acc=some (.lst [])->∃ Pv:Nat->List V->St->Hp->Prop,Pv 0 [] σ0 H2 /\
  (∀ i m ys σ H,i<n->m=n - i->ys.length<=i->H acc=some (.lst ys)->Pv i ys σ H->g (.int (lo+i)) σ H fun σ2 H3=>tt σ2 H3 fun b H4=>br b (te σ2 H4 fun v H5=>cPut (cV n acc Pv) acc ys i m σ2 v H5) (zas3 (cV n acc Pv) ys i m σ2 H4)) /\
  ∀ ys σ H,H acc=some (.lst ys)->Pv n ys σ H->Q (.ref acc) H):zad6 (Itr lo n) g tt te σ0 H1 Q:=by
 unfold zad6
 intro acc H2 hf hs ha
 obtain⟨Pv,h0,turn,fin⟩:=h acc H2 hf hs ha
 refine⟨cV n acc Pv,⟨n,by simp,zcy3 _,zcx3 _,ha,h0⟩,?_⟩
 rintro i m ys σ H ⟨hm,hi,hl,ha',hp⟩
 refine⟨ha',by omega,?_⟩
 by_cases hlt:i<n
 ·refine .inr ⟨hlt,fun x H' y=>?_⟩
  obtain⟨e,y⟩:=y
  subst e y
  exact turn i m ys σ _ hlt hm hl ha' hp
 ·have e:i=n:=by omega
  subst e
  exact .inl ⟨zcx3 _,fin ys σ H ha' hp⟩
end
section
variable {X:Cx}{K:zcw2}
theorem za7{a b:Expr}{ta tb:TE}(hK:X.K=K)(ha:PE X a ta)(hb:PE X b tb)(hs:zba9 b:=by exact fun _ _=>rfl):PE X (.Subscript a b pos) (tOp (rIxM K) ta tb):=by subst hK;exact peIx ha hb hs
theorem zf7(hK:X.K=K):zm6 X (.builtin "len") (rLenM K):=by subst hK;exact cLen
theorem zq2(hK:X.K=K):zm6 X (.builtin "isinstance") (rIsiM K):=by subst hK;exact cIsi
theorem zbm4(hK:X.K=K)(hc:X.calm=true):zm6 X (.builtin "sum") (rSumM K):=by subst hK;exact cSum hc
theorem zap6(hK:X.K=K)(hc:X.calm=true):zm6 X (.builtin "all") (rAllM K):=by subst hK;exact cAll hc
theorem zch4(hK:X.K=K):zm6 X (.type "list") (zbo6 K):=by subst hK;exact cList
theorem oEqK(hK:X.K=K)(hu:X.A.units+40<cLine):OpR X (compareOp .Eq) (rEqM K):=by subst hK;exact oEq hu
theorem ze4{l:Expr}{tl:TE}(hK:X.K=K)(hl:PE X l tl):PI X tg l (qiSeq K tl):=by subst hK;exact piSeq hl
theorem zi6{k:Nat}{t:TGs}{n:Nat}(hK:X.K=K)(hc:X.calm=true)(h:PGs X es t)(hn:(assignEach es X.env).length=n:=by rfl)(hst:(assignEach es X.env).findIdx? (·.1)=none:=by rfl):PG X (.Tuple es k pos) (qgAny K n t):=by subst hK;exact pgAny hc h hn hst
end
noncomputable def Ite(K:zcw2)(a:Addr):It:=
 ⟨fun i H=>∃ xs x,SqL K H a xs/\xs[i]?=some x,fun i H v H'=>∃ p y,v=.ref p/\H p=none/\Same H H'/\H' p=some (.tup [.int i,y])/\∀ xs,SqL K H a xs->xs[i]?=some y,fun i H=>∃ xs,SqL K H a xs/\xs.length<=i⟩
theorem zbq2{P:Program}{w:World}{K:zcw2}{k:Nat}(a it e:Addr)(hne:e≠it):Turn P w K (.Tuple elts k pos) (Ite K a) [it,e] e (fun i h=>(∃ old,IsEnum h e it i old)/\h.IsListIter it a i) where
 mem:=by simp
 obj:=fun i h st b hb=>by
  obtain⟨⟨old,he⟩,o,e1,c,d⟩:=st
  rcases zcw8.mp hb with rfl|hb
  ·exact⟨o,e1,fun v z=>by rw[d] at z;cases z⟩
  ·have:b=e:=by simpa using hb
   subst this
   exact⟨_,he,fun v z=>by cases z⟩
 keep:=fun i h h' st kp=>by
  obtain⟨⟨old,he⟩,hi⟩:=st
  exact⟨⟨old,kp e (by simp) _ he⟩,hi.at fun o x=>kp it (by simp) o x⟩
 item:=by
  intro X hP hw hK hc i pins s σ H E I hf st hg
  subst hP hw hK
  obtain⟨⟨old,he⟩,hit⟩:=st
  obtain⟨xs,x,hq,hx⟩:=hg
  obtain⟨its,rv,p,hz⟩:=I.list hq
  obtain⟨u,hu,ru⟩:=rv.get hx
  obtain⟨f0,f1,f2,f3,f4,f5⟩:=hf it (by simp)
  obtain⟨g0,g1,g2,g3,g4,g5⟩:=hf e (by simp)
  refine wpAny_pyNext_enum_item he hit p.isList (x:=u) (by simpa using hu) hne fun h1 heo hit1 ht1 hz1 hk1=>?_
  refine⟨_,rfl,wpAny_letOwnedTupleGo_enum heo fun h2 he2 hs2=>?_⟩
  replace hs2:Heap.SameBut e h1 h2:=hs2
  have hel:e<s.heap.objs.size:=zcx7 he
  have kp:∀ b o,b ∉ [it,e]->s.heap.get? b=some o->h2.get? b=some o:=fun b o hb x=>by
   have b1:b≠it:=fun z=>hb (by simp[z])
   have b2:b≠e:=fun z=>hb (by simp[z])
   exact (hs2.2 b b2).trans (hk1 b o b2 b1 x)
  have ht2:h2.get? s.heap.objs.size=some { cls:=.type "tuple",data:=.seq #[.int i s.toks,u] }:=(hs2.2 _ (Nat.ne_of_gt hel)).trans ht1
  have hfr:H s.heap.objs.size=none:=I.fresh
  have nof:∀ b v,H b=some v->b ∉ [it,e]:=fun b v hb z=>by
   rcases zcw8.mp z with rfl|z
   ·rw[f0] at hb;cases hb
   ·have:b=e:=by simpa using z
    subst this
    rw[g0] at hb;cases hb
  have nlt:∀ b o,s.heap.get? b=some o->b≠s.heap.objs.size:=fun b o x=>zcz2 (zcx7 x)
  have hok:HOk X.prog X.w (upd H s.heap.objs.size (.tup [.int i,x])) h2:=fun b v hb=>by
   by_cases e1:b=s.heap.objs.size
   ·subst e1
    rw[zd0] at hb
    cases hb
    exact⟨by show 2<=sizeLine;decide,[.int i s.toks,u],.cons ⟨_,rfl⟩ (.cons ru .nil),⟨_,ht2,rfl,_,rfl⟩⟩
   ·rw[zd9 e1] at hb
    refine (I.hok b v hb).stay (fun c w' hc q=>?_) (fun c q=>?_) (fun c ys q=>?_)
    ·rcases hc with rfl|hc
     ·exact kp _ _ (nof _ _ hb) q
     ·exact kp _ _ (nof _ _ hc) q
    ·rw[zd9 (za6 q hfr)];exact q
    ·rw[zd9 (za6 q hfr)];exact q
  have chs:∀ b∈[it,e],(b∈X.ex∨X.s₀.heap.objs.size<=b)/\b≠X.env.locals/\(∀ x c,X.env.cells.lookup x=some c->c≠b)/\∀ p∈X.pn++pins,p.1≠b:=fun b hb=>by
   rcases zcw8.mp hb with rfl|hb
   ·exact⟨f3,f1,f4,f5⟩
   ·have:b=e:=by simpa using hb
    subst this
    exact⟨g3,g1,g4,g5⟩
  have I2:Inv X pins σ (upd H s.heap.objs.size (.tup [.int i,x])) { s with heap:=h2,toks:=s.toks+1 }:=
   I.step (g':=s.gens) (d':=s.drawn) (t':=s.toks+1) (ch:=[it,e]) chs (fun b o _ _ hb x _=>kp b o hb x) (fun b o _ _ hb x _=>⟨o.slots,kp b o hb x⟩)
    (fun b o _ x n=>by rw[zd9 (nlt b o x)];exact n) (fun b o hb x=>⟨o,kp b o hb x⟩) (fun b ys q=>by rw[zd9 (za6 q hfr)];exact q) (fun b o v q=>by rw[zd9 (za6 q hfr)];exact q)
    (fun b ps q=>⟨#[],by rw[zd9 (za6 q hfr),q];simp⟩)
    (fun m hm=>by
     obtain⟨o,es,ep,ho,r⟩:=hm
     exact⟨o,es,ep,kp _ o (fun z=>by
      rcases zcw8.mp z with z|z
      ·exact f1 z.symm
      ·exact g1 (by simpa using z:X.env.locals=e).symm) ho,r⟩) hok I.bare
  have hi1:h2.IsListIter it a (i+1):=hit1.extBut hs2.extBut (Ne.symm hne)
  have he3:IsEnum h2 e it ((i+1:Nat):Int) u:=by
   have:((i+1:Nat):Int)=(i:Int)+1:=by push_cast;rfl
   rw[this];exact he2
  refine⟨.ref s.heap.objs.size,_,I2,rfl,⟨_,x,rfl,hfr,Same.upd hfr,zd0,fun ys hy=>by rw[I.list_inj hy hq];exact hx⟩,⟨⟨u,he3⟩,hi1⟩,fun b hb=>?_⟩
  have hb0:H b=none:=(hf b hb).1
  have hlt:b≠s.heap.objs.size:=by
   rcases zcw8.mp hb with rfl|hb
   ·obtain⟨o,ho,_⟩:=hit;exact nlt _ _ ho
   ·have:b=e:=by simpa using hb
    subst this
    exact zcz2 hel
  rw[zd9 hlt];exact hb0
 done:=by
  intro X hP hw hK hc i pins s σ H E I hf st hg
  subst hP hw hK
  obtain⟨⟨old,he⟩,hit⟩:=st
  obtain⟨xs,hq,hx⟩:=hg
  obtain⟨its,rv,p,hz⟩:=I.list hq
  obtain⟨f0,f1,f2,f3,f4,f5⟩:=hf it (by simp)
  have hl:=rv.length
  exact wpAny_pyNext_enum_end (I.ok.hd hc) he hit p.isList (by simp;omega) fun h' eb=>⟨rfl,I.turned (t':=s.toks) (fun b o hb e=>eb b o hb e) f0 f1 f3 f4 f5⟩
 self:=fun _ _ _ _ _ st h=>by
  obtain⟨⟨old,he⟩,_⟩:=st
  exact wpAny_pyIter_enum he h
section
variable {X:Cx}{K:zcw2}
theorem zat2:bootBuiltins "enumerate"=some (.type "enumerate"):=by decide +kernel
@[irreducible] noncomputable def rEnum(K:zcw2)(a:Addr)(H:Hp)(R:It->Hp->Prop):Prop:=(∃ xs,SqL K H a xs)/\R (Ite K a) H
noncomputable def zch5(K:zcw2)(ta:TA):TI:=fun σ H R=>ta σ H fun vs H1=>match vs with
 | [.ref a]=>rEnum K a H1 R
 | _=>False
theorem piEnum{k:Nat}{pt:Pos}{a:Expr}{p:Pos}(hm:X.mg "enumerate"=none)(ha:PA X [a] ta)(hg:Gl X "enumerate":=by rfl)(hs:starEach [a] X.env=[(false,eval a X.env)]:=by rfl) :
  PI X (.Tuple elts k pt) (.Call (.Name "enumerate" p) [a] [] pos) (zch5 X.K ta):=by
 intro pins s σ H R I h
 refine Call_ (zx7 I hg hm zat2 (PyProof.Rows.callWith_type1 (thn (ha pos pins s σ H _ I h) fun us s1 ⟨vs,H1,I1,r1,q1⟩=>?_) hs rfl))
 dsimp only at q1
 split at q1
 ·rename_i l
  unfold rEnum at q1
  obtain⟨⟨xs,hq⟩,q⟩:=q1
  obtain⟨u,rfl,rx⟩:=zy7 r1
  cases rx
  obtain⟨its,rv,pl,hz⟩:=I1.list hq
  refine call_enumerate_list pl.isList fun h' he hit hsz hk=>?_
  refine wpAny_pyIter_enum he ?_
  have I2:Inv X pins σ H1 { s1 with heap:=h' }:=I1.kept (t':=s1.toks) hk
  refine⟨s1.heap.objs.size+1,[s1.heap.objs.size,s1.heap.objs.size+1],_,Ite X.K l,H1,rfl,I2,zbq2 l _ _ (Nat.succ_ne_self _),⟨⟨_,he⟩,hit⟩,fun b hb=>?_,q⟩
  have hb':s1.heap.objs.size<=b:=by
   rcases zcw8.mp hb with rfl|hb
   ·exact zcx3 _
   ·have:b=s1.heap.objs.size+1:=by simpa using hb
    subst this
    exact zdd9 _
  exact I1.fpOk hb' (I1.hok.fresh hb')
 ·exact q1.elim
theorem zaz3{k:Nat}{pt:Pos}{a:Expr}{p:Pos}(hK:X.K=K)(hm:X.mg "enumerate"=none)(ha:PA X [a] ta)(hg:Gl X "enumerate":=by rfl)(hs:starEach [a] X.env=[(false,eval a X.env)]:=by rfl) :
  PI X (.Tuple elts k pt) (.Call (.Name "enumerate" p) [a] [] pos) (zch5 K ta):=by subst hK;exact piEnum hm ha hg hs
end
section
variable {K:zcw2}{g:TG}{tb:TS}{D:Ends}{σ:St}{H:Hp}{R:It->Hp->Prop}
theorem zar4{a:Addr}(h:H a=some (.lst xs))(q:R (Ite K a) H):rEnum K a H R:=by unfold rEnum;exact⟨⟨xs,SqL.of h⟩,q⟩
theorem zaa1{a:Addr}(Pv:Nat->St->Hp->Prop)(h0:Pv 0 σ H)(hl:∀ i σ H,i<=xs.length->Pv i σ H->SqL K H a xs)(hs:∀ i y σ H p H',xs[i]?=some y->Pv i σ H->H p=none->Same H H'->H' p=some (.tup [.int i,y])->g (.ref p) σ H' fun σ2 H2=>tb { D with nx:=Pv (i+1),ct:=Pv (i+1),bk:=D.nx } σ2 H2)(hd:∀ σ H,Pv xs.length σ H->D.nx σ H):zal3 (Ite K a) g tb D σ H:=by
 unfold zal3
 refine⟨fun i m σ H=>m=xs.length - i/\i<=xs.length/\Pv i σ H,⟨xs.length,by simp,zcy3 _,h0⟩,?_⟩
 rintro i m σ H ⟨rfl,hi,p⟩
 have q:=hl i σ H hi p
 by_cases hlt:i<xs.length
 ·refine .inr ⟨⟨xs,xs[i],q,by simp[hlt]⟩,Pv (i+1),fun σ' H' p'=>⟨xs.length - (i+1),by omega,rfl,hlt,p'⟩,fun x H' y=>?_⟩
  obtain⟨pp,yy,rfl,y1,y2,y3,y4⟩:=y
  exact hs i yy σ H pp H' (y4 xs q) p y1 y2 y3
 ·have e:i=xs.length:=by omega
  subst e
  exact .inl ⟨⟨xs,q,zcx3 _⟩,hd σ H p⟩
end
theorem zag2{k:Int}(h:0<=k):cutV xs (some k) none=xs.drop k.toNat:=by
 show List.take (xs.length - (if k<0 then (k+(xs.length:Int)).toNat else min k.toNat xs.length)) (List.drop (if k<0 then (k+(xs.length:Int)).toNat else min k.toNat xs.length) xs)=_
 rw[if_neg (by omega)]
 by_cases hk:k.toNat<=xs.length
 ·rw[Nat.min_eq_left hk,zdb5 (by rw[zda4];omega)]
 ·rw[Nat.min_eq_right (by omega),zdc8 (by omega),zdc8 (by omega),List.take_nil]
theorem zah6{k:Int}(h:0<=k):cutV xs none (some k)=xs.take k.toNat:=by
 show List.take ((if k<0 then (k+(xs.length:Int)).toNat else min k.toNat xs.length) - 0) (List.drop 0 xs)=_
 rw[if_neg (by omega),List.drop_zero,Nat.sub_zero]
 by_cases hk:k.toNat<=xs.length
 ·rw[Nat.min_eq_left hk]
 ·rw[Nat.min_eq_right (by omega),zdb5 (zcx3 _),zdb5 (by omega)]
noncomputable def rowV(n:Nat)(r:Nat->Int):List V:=(List.range n).map fun t=>V.int (r t)
theorem zd3(n:Nat)(r:Nat->Int):(rowV n r).length=n:=by unfold rowV;simp
theorem ze5{n:Nat}{r:Nat->Int}(h:i<n):(rowV n r)[i]?=some (.int (r i)):=by unfold rowV;simp[h]
theorem zag3{n:Nat}{r s:Nat->Int}(h:∀ t,t<n->r t=s t):rowV n r=rowV n s:=by
 unfold rowV
 refine zcy9 fun t ht=>?_
 rw[h t (zcy0.mp ht)]
theorem zby9(n:Nat)(r:Nat->Int):rowV (n+1) r=rowV n r++[.int (r n)]:=by unfold rowV;rw[List.range_succ,zcy6];rfl
theorem zcc3{n:Nat}{r:Nat->Int}{j:Nat}{v:Int}:(rowV n r).set j (.int v)=rowV n fun t=>if t=j then v else r t:=by
 apply zdb4
 intro i
 rw[List.getElem?_set]
 by_cases hi:i<n
 ·rw[ze5 hi,ze5 hi]
  by_cases hj:j=i
  ·subst hj;simp[zd3,hi]
  ·simp[hj,Ne.symm hj]
 ·have e:∀ r:Nat->Int,(rowV n r)[i]?=none:=fun r=>by simp[zd3];omega
  rw[e,e]
  split
  ·simp[zd3];omega
  ·rfl
theorem ref_at{i:Int}{p:Addr}(h0:0<=i)(h:ps[i.toNat]?=some p):atI (ps.map V.ref) i=some (.ref p):=by
 have:=zc1 (xs:=ps.map V.ref) (j:=i.toNat) (v:=.ref p) (by rw[zcw0,h];rfl)
 rw[show ((i.toNat:Nat):Int)=i by omega] at this
 exact this
theorem int_at{ns:List Int}{i:Int}{n:Int}(h0:0<=i)(h:ns[i.toNat]?=some n):atI (ns.map V.int) i=some (.int n):=by
 have:=zc1 (xs:=ns.map V.int) (j:=i.toNat) (v:=.int n) (by rw[zcw0,h];rfl)
 rw[show ((i.toNat:Nat):Int)=i by omega] at this
 exact this
theorem zar1{v:V}{n:Nat}(h:xs.length=n+1)(e:xs[n]?=some v):atI xs (-1)=some v:=by
 unfold atI ixN
 rw[if_neg (by decide),if_pos (by omega)]
 show xs[((-1:Int)+xs.length).toNat]?=_
 rw[show ((-1:Int)+xs.length).toNat=n by omega];exact e
theorem zbq0{n:Nat}{i:Int}(h0:0<=i)(h1:i<n):ixN n i=some i.toNat:=by unfold ixN;rw[if_pos h0,if_pos h1]
structure zf0(H:Hp)(a:Addr)(ps:List Addr)(n h:Nat)(g:Nat->Nat->Int):Prop where
 out:H a=some (.lst (ps.map V.ref))
 len:ps.length=n
 row:∀ (i:Nat) (p:Addr),ps[i]?=some p->H p=some (.lst (rowV h (g i)))
theorem zf0.same{a:Addr}{n h:Nat}{g:Nat->Nat->Int}(G:zf0 H a ps n h g)(s:Same H H'):zf0 H' a ps n h g:=⟨s _ _ G.out,G.len,fun i p e=>s _ _ (G.row i p e)⟩
theorem zf0.ext{a:Addr}{n h:Nat}{g g':Nat->Nat->Int}(G:zf0 H a ps n h g)(e:∀ i t,i<n->t<h->g i t=g' i t):zf0 H a ps n h g':=
 ⟨G.out,G.len,fun i p q=>by rw[G.row i p q];rw[zag3 fun t ht=>e i t (by have:=(zcv9.mp q).1;have:=G.len;omega) ht]⟩
theorem zf0.some{H:Hp}{a:Addr}{ps:List Addr}{n h:Nat}{g:Nat->Nat->Int}(G:zf0 H a ps n h g){i:Nat}(hi:i<n):∃ p,ps[i]?=.some p/\H p=.some (.lst (rowV h (g i))):=by
 have hl:i<ps.length:=by rw[G.len];exact hi
 exact⟨ps[i],zcv7 hl,G.row i _ (zcv7 hl)⟩
structure Wk(J:It)(n:Nat)(H1:Hp)(X:Nat->V->Hp->Prop):Prop where
 go:∀ i H,Same H1 H->i<n->J.go i H
 stop:∀ H,Same H1 H->J.stop n H
 yld:∀ i H x H',Same H1 H->i<n->J.yld i H x H'->Same H H'/\X i x H'
theorem Wk.range{lo:Int}{n:Nat}:Wk (Itr lo n) n H1 fun i x _=>x=.int (lo+i):=
 ⟨fun i H _ h=>h,fun H _=>zcx3 _,fun i H x H' _ _ y=>by obtain⟨rfl,rfl⟩:=y;exact⟨Same.refl _,rfl⟩⟩
theorem Wk.list{K:zcw2}{a:Addr}(h:SqL K H1 a xs):Wk (Itl K a) xs.length H1 fun i x _=>xs[i]?=some x:=
 ⟨fun i H s hi=>⟨xs,xs[i],s.seq h,by simp[hi]⟩,fun H s=>⟨xs,s.seq h,zcx3 _⟩,fun i H x H' s _ y=>by
  obtain⟨e,y⟩:=y
  subst e
  exact⟨Same.refl _,y xs (s.seq h)⟩⟩
structure zam8(H1 H:Hp)(acc:Addr)(ps:List Addr)(n:Nat)(f:Nat->HO):Prop where
 facc:H1 acc=none
 same:Same H1 H
 out:H acc=some (.lst (ps.map V.ref))
 len:ps.length=n
 nd:ps.Nodup
 nin:acc ∉ ps
 row:∀ i p,ps[i]?=some p->H1 p=none/\H p=some (f i)
theorem zam8.free{acc:Addr}{n:Nat}{f:Nat->HO}(F:zam8 H1 H acc ps n f){p:Addr}(h:p∈ps):H1 p=none:=by
 obtain⟨i,hi⟩:=zcx8 h
 exact (F.row i p hi).1
theorem zam8.some{H1 H:Hp}{acc:Addr}{ps:List Addr}{n:Nat}{f:Nat->HO}(F:zam8 H1 H acc ps n f){i:Nat}(hi:i<n):∃ p,ps[i]?=.some p/\H p=.some (f i):=by
 have hl:i<ps.length:=by rw[F.len];exact hi
 exact⟨ps[i],zcv7 hl,(F.row i _ (zcv7 hl)).2⟩
section
variable {K:zcw2}{g:TG}{tt:TT}{te:TE}{σ0:St}{H1:Hp}{Q:VK}{J:It}{n:Nat}{X:Nat->V->Hp->Prop}
theorem zaf2(w:Wk J n H1 X)(hn:n<sizeLine)(f:Nat->HO)(Ps:Nat->St->Prop)(h0:Ps 0 σ0)(turn:∀ i x σ H (R:St->V->Hp->Prop) (S:St->Hp->Prop),i<n->Same H1 H->X i x H->Ps i σ->(∀ σ2 p H5,H p=none->Same H H5->H5 p=some (f i)->Ps (i+1) σ2->R σ2 (.ref p) H5)->g x σ H fun σ2 H3=>tt σ2 H3 fun b H4=>br b (te σ2 H4 fun v H5=>R σ2 v H5) (S σ2 H4))(fin:∀ acc ps H,zam8 H1 H acc ps n f->Q (.ref acc) H):zad6 J g tt te σ0 H1 Q:=by
 unfold zad6
 intro acc H2 hf hs ha
 refine⟨fun i m ys σ H=>m=n - i/\i<=n/\∃ ps:List Addr,ys=ps.map V.ref/\zam8 H1 H acc ps i f/\Ps i σ,⟨n,by simp,zcy3 _,[],rfl,⟨hf,hs,ha,rfl,List.nodup_nil,by simp,fun i p e=>by simp at e⟩,h0⟩,?_⟩
 rintro i m ys σ H ⟨rfl,hi,ps,rfl,F,P⟩
 refine⟨F.out,by rw[zcv8,F.len];omega,?_⟩
 by_cases hlt:i<n
 ·refine .inr ⟨w.go i H F.same hlt,fun x H' y=>?_⟩
  obtain⟨s1,x1⟩:=w.yld i H x H' F.same hlt y
  refine turn i x σ H' (fun σ2 v H5=>cPut _ acc (ps.map V.ref) i (n - i) σ2 v H5) (fun σ2 H4=>zas3 _ (ps.map V.ref) i (n - i) σ2 H4) hlt (F.same.trans s1) x1 P ?_
  intro σ2 p H5 fp s5 hp P2
  have fp0:H p=none:=s1.free fp
  have s15:=s1.trans s5
  have na:p≠acc:=Ne.symm (za6 F.out fp0)
  unfold cPut
  refine⟨s15 _ _ F.out,fun H6 c6 h6=>⟨n - (i+1),by omega,rfl,hlt,ps++[p],by rw[zcy6];rfl,⟨F.facc,(F.same.trans s15).chg F.facc c6,by rw[zcy6];exact h6,by rw[zcw7,F.len];rfl,?_,?_,?_⟩,P2⟩⟩
  ·rw[List.nodup_append]
   refine⟨F.nd,by simp,fun a ha b hb=>?_⟩
   have:b=p:=by simpa using hb
   subst this
   obtain⟨k,hk⟩:=zcx8 ha
   exact za6 (F.row k a hk).2 fp0
  ·intro hz
   rcases zcy1.mp hz with hz|hz
   ·exact F.nin hz
   ·exact na (by simpa using hz:acc=p).symm
  ·intro k q e
   by_cases hk:k<ps.length
   ·rw[zcz0 hk] at e
    obtain⟨z1,z2⟩:=F.row k q e
    exact⟨z1,c6 _ _ (fun z=>F.nin (z▸zcw3 e)) (s15 _ _ z2)⟩
   ·rw[zcz5 (by omega)] at e
    have hk2:k - ps.length=0:=by
     have:=(zcv9.mp e).1
     simp at this;omega
    rw[hk2] at e
    have:p=q:=by simpa using e
    subst this
    have:k=i:=by have:=F.len;omega
    subst this
    exact⟨F.same.free fp0,c6 _ _ na hp⟩
 ·have e:i=n:=by omega
  subst e
  exact .inl ⟨w.stop H F.same,fin acc ps H F⟩
theorem zk0(w:Wk J n H1 X)(hn:n<sizeLine)(f:Nat->V)(p:Nat->Bool)(Ps:Nat->St->Prop)(h0:Ps 0 σ0)(turn:∀ i x σ H (R:St->V->Hp->Prop) (S:St->Hp->Prop),i<n->Same H1 H->X i x H->Ps i σ->(p i=true->∀ σ2 H5,Same H H5->Ps (i+1) σ2->R σ2 (f i) H5)->(p i=false->∀ σ2 H5,Same H H5->Ps (i+1) σ2->S σ2 H5) ->
   g x σ H fun σ2 H3=>tt σ2 H3 fun b H4=>br b (te σ2 H4 fun v H5=>R σ2 v H5) (S σ2 H4))(fin:∀ acc H,H1 acc=none->Same H1 H->H acc=some (.lst (((List.range n).filter p).map f))->Q (.ref acc) H):zad6 J g tt te σ0 H1 Q:=by
 unfold zad6
 intro acc H2 hf hs ha
 refine⟨fun i m ys σ H=>m=n - i/\i<=n/\ys=((List.range i).filter p).map f/\Same H1 H/\H acc=some (.lst ys)/\Ps i σ,⟨n,by simp,zcy3 _,rfl,hs,ha,h0⟩,?_⟩
 rintro i m ys σ H ⟨rfl,hi,rfl,s,hy,P⟩
 have hlen:(((List.range i).filter p).map f).length<=i:=by
  rw[zcv8]
  have:=List.length_filter_le p (List.range i)
  rwa [zcx6] at this
 refine⟨hy,by omega,?_⟩
 by_cases hlt:i<n
 ·refine .inr ⟨w.go i H s hlt,fun x H' y=>?_⟩
  obtain⟨s1,x1⟩:=w.yld i H x H' s hlt y
  refine turn i x σ H' (fun σ2 v H5=>cPut _ acc _ i (n - i) σ2 v H5) (fun σ2 H4=>zas3 _ _ i (n - i) σ2 H4) hlt (s.trans s1) x1 P ?_ ?_
  ·intro hp σ2 H5 s5 P2
   unfold cPut
   refine⟨s5 _ _ (s1 _ _ hy),fun H6 c6 h6=>⟨n - (i+1),by omega,rfl,hlt,?_,((s.trans s1).trans s5).chg hf c6,h6,P2⟩⟩
   rw[List.range_succ,List.filter_append,zcy6]
   congr 1
   simp[hp]
  ·intro hp σ2 H5 s5 P2
   unfold zas3
   refine⟨n - (i+1),by omega,rfl,hlt,?_,(s.trans s1).trans s5,s5 _ _ (s1 _ _ hy),P2⟩
   rw[List.range_succ,List.filter_append,zcy6]
   simp[hp]
 ·have e:i=n:=by omega
  subst e
  exact .inl ⟨w.stop H s,fin acc H hf s hy⟩
theorem ze6(n:Nat):(List.range n).filter (fun _=>true)=List.range n:=by simp
end
noncomputable def ChgS(ps:List Addr)(H H':Hp):Prop:=∀ b o,b ∉ ps->H b=some o->H' b=some o
theorem ChgS.same(x:ChgS ps H H1)(y:Same H1 H2):ChgS ps H H2:=fun b o h e=>y b o (x b o h e)
theorem EqR.intL{K:zcw2}{a b:Addr}{xs ys:List Int}(ha:SqL K H a (xs.map V.int))(hb:SqL K H b (ys.map V.int)):EqR K H 1 (.ref a) (.ref b) (decide (xs=ys)):=by
 by_cases hl:xs.length=ys.length
 ·have h:=EqR.lst (K:=K) (H:=H) (n:=0) (fun j=>decide (xs[j]?=ys[j]?)) ha hb (by simpa using hl) (fun j x y hx hy=>by
   rw[zcw0] at hx hy
   obtain⟨i,e1,rfl⟩:=zcw4.mp hx
   obtain⟨k,e2,rfl⟩:=zcw4.mp hy
   have e:eqV (.int i) (.int k)=decide (xs[j]?=ys[j]?):=by
    rw[e1,e2]
    by_cases z:i=k
    ·subst z;simp[eqV]
    ·simp[eqV,z]
   rw[← e]
   exact EqR.flat rfl rfl)
  have e:(List.range (xs.map V.int).length).all (fun j=>decide (xs[j]?=ys[j]?))=decide (xs=ys):=by
   rw[zdb1,zcx2,decide_eq_true_iff]
   constructor
   ·intro q
    apply zdb4
    intro j
    by_cases hj:j<xs.length
    ·exact of_decide_eq_true (q j (zcy0.mpr (by simpa using hj)))
    ·rw[zcy7 (by omega),zcy7 (by omega)]
   ·rintro rfl j _
    exact decide_eq_true rfl
  rw[e] at h
  exact h
 ·have:decide (xs=ys)=false:=decide_eq_false fun e=>hl (by rw[e])
  rw[this]
  exact EqR.lstN ha hb (by simpa using hl)
noncomputable def Itd(hi:Int)(n:Nat):It:=⟨fun i _=>i<n,fun i H x H'=>H'=H/\x=.int (hi - i),fun i _=>n<=i⟩
theorem zbc3{P:Program}{w:World}{K:zcw2}(it:Addr)(lo:Int)(n:Nat):Turn P w K tg (Itd lo n) [it] it (fun i h=>IsRangeIter h it (lo+(i:Nat)*(-1)) ((n:Int) - (i:Nat)) (-1)) where
 mem:=by simp
 obj:=fun i h st b hb=>by
  have e:b=it:=by simpa using hb
  subst e
  exact⟨_,st,fun v z=>by
   have z':Data.fields _=Data.cell v:=z
   cases z'⟩
 keep:=fun i h h' st k=>k it (by simp) _ st
 item:=by
  intro X hP hw hK hc i pins s σ H E I hf st hg
  subst hP hw hK
  obtain⟨f0,f1,f2,f3,f4,f5⟩:=hf it (by simp)
  have W:=Walks.range (prog:=X.prog) (w:=X.w) (I.ok.hd hc) it lo (-1) n
  refine W.item i s _ _ hg st fun v h' tk hv st' kk=>?_
  obtain⟨t,rfl⟩:=hv
  have I1:Inv X pins σ H { s with heap:=h',toks:=tk }:=I.turned (fun b o hb e=>kk b o (by simpa using hb) e) f0 f1 f3 f4 f5
  refine⟨_,rfl,go_of (s:={ s with heap:=h',toks:=tk }) (n:="range_iterator") st' rfl rfl (by decide) ⟨.int (lo - i),H,I1,⟨t,?_⟩,⟨rfl,rfl⟩,st',fun b hb=>(hf b hb).1⟩⟩
  rw[show lo+(i:Int)*(-1)=lo - i by omega]
 done:=by
  intro X hP hw hK hc i pins s σ H E I hf st hg
  subst hP hw hK
  obtain⟨f0,f1,f2,f3,f4,f5⟩:=hf it (by simp)
  exact wpAny_pyNext_range_end (I.ok.hd hc) st (by have:n<=i:=hg;omega) fun h' eb=>⟨rfl,I.turned (t':=s.toks) (fun b o hb e=>eb b o hb e) f0 f1 f3 f4 f5⟩
 self:=fun _ _ _ _ _ st h=>wpAny_pyIter_rangeiter st h
section
variable {X:Cx}{tg:Expr}
@[irreducible] noncomputable def zcn8(i j:Int)(H:Hp)(R:It->Hp->Prop):Prop:=(-(2 ^ 62)<=i/\i<2 ^ 62/\-(2 ^ 62)<=j/\j<2 ^ 62)/\R (Itd i (i - j).toNat) H
noncomputable def qiRngD(ta:TA):TI:=fun σ H R=>ta σ H fun vs H1=>match vs with
 | [.int i,.int j,.int (-1)]=>zcn8 i j H1 R
 | _=>False
end
section
variable {K:zcw2}{g:TG}{tb:TS}{D:Ends}{σ:St}{H:Hp}{R:It->Hp->Prop}
theorem zbe1{hi:Int}{n:Nat}(Pv:Nat->St->Hp->Prop)(h0:Pv 0 σ H)(hs:∀ i σ H,i<n->Pv i σ H->g (.int (hi - i)) σ H fun σ2 H2=>tb { D with nx:=Pv (i+1),ct:=Pv (i+1),bk:=D.nx } σ2 H2)(hd:∀ σ H,Pv n σ H->D.nx σ H):zal3 (Itd hi n) g tb D σ H:=by
 unfold zal3
 refine⟨fun i m σ H=>m=n - i/\i<=n/\Pv i σ H,⟨n,by simp,zcy3 _,h0⟩,?_⟩
 rintro i m σ H ⟨rfl,hi',p⟩
 by_cases hlt:i<n
 ·refine .inr ⟨hlt,Pv (i+1),fun σ' H' p'=>⟨n - (i+1),by omega,rfl,hlt,p'⟩,fun x H' y=>?_⟩
  obtain⟨rfl,rfl⟩:=y
  exact hs i σ _ hlt p
 ·have e:i=n:=by omega
  subst e
  exact .inl ⟨zcx3 _,hd σ H p⟩
end
section
variable {X:Cx}{K:zcw2}
@[irreducible] noncomputable def rMinL(K:zcw2)(p:Addr)(H:Hp)(Q:VK):Prop:=∃ ns:List Int,SqL K H p (ns.map V.int)/\0<ns.length/\∀ M:Int,M∈ns->(∀ a∈ns,M<=a)->Q (.int M) H
noncomputable def zcg0(K:zcw2):List V->Hp->VK->Prop:=fun xs H Q=>match xs with
 | [.ref p]=>rMinL K p H Q
 | [.int i,.int j]=>Q (.int (if j<i then j else i)) H
 | _=>False
theorem cMinK(hK:X.K=K)(hc:X.calm=true):zm6 X (.builtin "min") (zcg0 K):=by
 subst hK
 intro pins s σ H xs us Q I r h
 unfold zcg0 at h
 split at h
 ·unfold rMinL at h
  obtain⟨ns,h1,h2,h3⟩:=h
  obtain⟨u,rfl,rx⟩:=zy7 r
  cases rx
  obtain⟨its,r',pl,hz⟩:=I.list h1
  have hi:=zad1 r'
  obtain⟨ys,hx⟩:=hi.allInts.items
  have e1:ns=ys.toList.map (·.1):=by
   rw[← nums_intItems,← hx]
   exact (show numsOf its.toArray.toList=ns from hi.numsOf).symm
  have hs:0<ys.size:=by
   have z:ns.length=ys.size:=by
    conv=>lhs;rw[e1]
    rw[zcv8,zcx1]
   omega
  have hl':s.heap.IsList _ (intItems ys):=hx▸pl.isList
  refine min_intList (I.ok.hd hc) hl' hs fun v h' tk hv hk=>?_
  obtain⟨t,rfl⟩:=intItems_at hv
  have best:=argBest_lt (numAt ys) (ys.size - 1)
  refine⟨.int _,H,I.kept hk,⟨t,rfl⟩,h3 _ ?_ fun a ha=>?_⟩
  ·rw[e1,numAt_eq]
   exact getD_mem (by rw[zcv8,zcx1];omega)
  ·rw[e1] at ha
   obtain⟨j,hj,rfl⟩:=mem_getD ha
   rw[zcv8,zcx1] at hj
   rw[← numAt_eq]
   exact best.2 j (by omega)
 ·exact zbx4 hc pins s σ H _ us Q I r ⟨_,_,rfl,h⟩
 ·exact h.elim
theorem zbt8{p:Addr}{ns:List Int}(h:SqL K H p (ns.map V.int))(h0:0<ns.length)(q:∀ M:Int,M∈ns->(∀ a∈ns,M<=a)->Q (.int M) H):rMinL K p H Q:=by unfold rMinL;exact⟨ns,h,h0,q⟩
theorem ptW{e:Expr}{t:TT}(h:PW X e t):PT X e t:=h.pt
end
set_option maxHeartbeats 4000000
noncomputable def ExcIs(e:Addr)(cls:Value)(dx:Option Addr)(h:Heap):Prop:=∃ (oe:Obj) (vs:Array Value),h.get? e=some oe/\oe.cls=cls/\oe.dict=dx/\oe.data=.fields vs
noncomputable abbrev excO(ea:Addr)(cls:Value)(dx:Option Addr):HO:=.ext (ExcIs ea cls dx)
section
variable {X:Cx}{pins:List (Addr×Obj)}{σ:St}{H:Hp}{s:Shared}
theorem zi5.ex{P:Program}{w:World}{h:Heap}{a:Addr}(x:zi5 P w H h a o):∃ u,h.get? a=some u:=by
 cases o with
 | lst xs=>obtain⟨_,_,_,_,e⟩:=x;exact⟨_,e⟩
 | tup xs=>obtain⟨_,_,_,ob,e,_⟩:=x;exact⟨ob,e⟩
 | dK kvs=>obtain⟨_,_,_,_,ob,_,_,e,_⟩:=x;exact⟨ob,e⟩
 | dT kvs=>obtain⟨_,_,_,_,ob,_,_,e,_⟩:=x;exact⟨ob,e⟩
 | set S n=>obtain⟨ob,_,_,_,e,_⟩:=x;exact⟨ob,e⟩
 | ins C dx fs=>obtain⟨_,_,_,e,_⟩:=x;exact⟨_,e⟩
 | own y=>exact x
 | xd fs=>obtain⟨_,⟨ob,_,_,e,_⟩,_⟩:=x;exact⟨ob,e⟩
 | rng lo hi=>obtain⟨_,_,_,e⟩:=x;exact⟨_,e⟩
 | frz ob u=>obtain⟨e,_⟩:=x;exact⟨_,e⟩
 | tbl ps=>exact⟨_,(show h.get? a=some _ from x)⟩
 | met f y=>exact⟨_,(show h.get? a=some _ from x)⟩
 | ext φ=>obtain⟨_,e,_⟩:=x;exact e
end
set_option maxHeartbeats 1000000
set_option maxHeartbeats 2000000
noncomputable def Itz(K:zcw2)(a b:Addr):It:=
 ⟨fun i H=>∃ xs ys x y,SqL K H a xs/\SqL K H b ys/\xs[i]?=some x/\ys[i]?=some y,
  fun i H v H'=>∃ p x y,v=.ref p/\H p=none/\Same H H'/\H' p=some (.tup [x,y])/\(∀ xs,SqL K H a xs->xs[i]?=some x)/\∀ ys,SqL K H b ys->ys[i]?=some y,
  fun i H=>∃ xs ys,SqL K H a xs/\SqL K H b ys/\(xs.length<=i∨ys.length<=i)⟩
theorem zcd7{P:Program}{w:World}{K:zcw2}{k:Nat}(l1 l2 z TI TO i1 i2:Addr)(D:ZipApart z TI TO i1 i2 l1 l2) :
  Turn P w K (.Tuple elts k pos) (Itz K l1 l2) [z,TI,TO,i1,i2] z (fun i h=>IsZip h z TI TO .none/\IsPair h TI (.ref i1) (.ref i2)/\(∃ a b,IsPair h TO a b)/\h.IsListIter i1 l1 i/\h.IsListIter i2 l2 i) where
 mem:=by simp
 obj:=fun i h st b hb=>by
  obtain⟨hz,hTI,⟨a,b',hTO⟩,⟨o1,e1,c1,d1⟩,⟨o2,e2,c2,d2⟩⟩:=st
  simp only[zcw8,zcx9,or_false] at hb
  rcases hb with rfl|rfl|rfl|rfl|rfl
  ·exact⟨_,hz,fun v z=>by cases z⟩
  ·exact⟨_,hTI,fun v z=>by cases z⟩
  ·exact⟨_,hTO,fun v z=>by cases z⟩
  ·exact⟨o1,e1,fun v z=>by rw[d1] at z;cases z⟩
  ·exact⟨o2,e2,fun v z=>by rw[d2] at z;cases z⟩
 keep:=fun i h h' st kp=>by
  obtain⟨hz,hTI,⟨a,b',hTO⟩,h1,h2⟩:=st
  exact⟨kp z (by simp) _ hz,kp TI (by simp) _ hTI,⟨a,b',kp TO (by simp) _ hTO⟩,h1.at fun o x=>kp i1 (by simp) o x,h2.at fun o x=>kp i2 (by simp) o x⟩
 item:=by
  intro X hP hw hK hc i pins s σ H E I hf st hg
  subst hP hw hK
  obtain⟨hz,hTI,⟨a0,b0,hTO⟩,h1,h2⟩:=st
  obtain⟨xs,ys,x,y,hq1,hq2,hx,hy⟩:=hg
  obtain⟨its1,rv1,p1,_⟩:=I.list hq1
  obtain⟨its2,rv2,p2,_⟩:=I.list hq2
  obtain⟨u,hu,ru⟩:=rv1.get hx
  obtain⟨v,hv,rv⟩:=rv2.get hy
  have hzl:z<s.heap.objs.size:=zcx7 hz
  refine wpAny_pyNext_zip_item D hz hTI hTO h1 h2 p1.isList p2.isList (x:=u) (y:=v) (by simpa using hu) (by simpa using hv) fun h3 z3 TO3 j1 j2 T3 sz3 kp3=>?_
  refine⟨_,rfl,wpAny_letOwnedTupleGo_zip z3 fun h4 z4 hs4=>?_⟩
  replace hs4:Heap.SameBut z h3 h4:=hs4
  have kp:∀ b o,b ∉ [z,TI,TO,i1,i2]->s.heap.get? b=some o->h4.get? b=some o:=fun b o hb x=>by
   simp only[zcw8,zcx9,or_false,not_or] at hb
   obtain⟨b1,b2,b3,b4,b5⟩:=hb
   exact (hs4.2 b b1).trans (kp3 b o b1 b3 b4 b5 x)
  have ht4:h4.get? s.heap.objs.size=some { cls:=.type "tuple",data:=.seq #[u,v] }:=(hs4.2 _ (Nat.ne_of_gt hzl)).trans T3
  have hfr:H s.heap.objs.size=none:=I.fresh
  have nof:∀ b v,H b=some v->b ∉ [z,TI,TO,i1,i2]:=fun b v hb m=>by
   have:=(hf b m).1
   rw[this] at hb
   cases hb
  have nlt:∀ b o,s.heap.get? b=some o->b≠s.heap.objs.size:=fun b o x=>zcz2 (zcx7 x)
  have hok:HOk X.prog X.w (upd H s.heap.objs.size (.tup [x,y])) h4:=fun b v' hb=>by
   by_cases e1:b=s.heap.objs.size
   ·subst e1
    rw[zd0] at hb
    cases hb
    exact⟨by show 2<=sizeLine;decide,[u,v],.cons ru (.cons rv .nil),⟨_,ht4,rfl,_,rfl⟩⟩
   ·rw[zd9 e1] at hb
    refine (I.hok b v' hb).stay (fun c w' hc q=>?_) (fun c q=>?_) (fun c ys q=>?_)
    ·rcases hc with rfl|hc
     ·exact kp _ _ (nof _ _ hb) q
     ·exact kp _ _ (nof _ _ hc) q
    ·rw[zd9 (za6 q hfr)];exact q
    ·rw[zd9 (za6 q hfr)];exact q
  have chs:∀ b∈[z,TI,TO,i1,i2],(b∈X.ex∨X.s₀.heap.objs.size<=b)/\b≠X.env.locals/\(∀ x c,X.env.cells.lookup x=some c->c≠b)/\∀ p∈X.pn++pins,p.1≠b:=fun b hb=>by
   obtain⟨f0,f1,f2,f3,f4,f5⟩:=hf b hb
   exact⟨f3,f1,f4,f5⟩
  have I2:Inv X pins σ (upd H s.heap.objs.size (.tup [x,y])) { s with heap:=h4 }:=
   I.step (g':=s.gens) (d':=s.drawn) (t':=s.toks) (ch:=[z,TI,TO,i1,i2]) chs (fun b o _ _ hb x _=>kp b o hb x) (fun b o _ _ hb x _=>⟨o.slots,kp b o hb x⟩)
    (fun b o _ x n=>by rw[zd9 (nlt b o x)];exact n) (fun b o hb x=>⟨o,kp b o hb x⟩) (fun b ys q=>by rw[zd9 (za6 q hfr)];exact q) (fun b o v q=>by rw[zd9 (za6 q hfr)];exact q)
    (fun b ps q=>⟨#[],by rw[zd9 (za6 q hfr),q];simp⟩)
    (fun m hm=>by
     obtain⟨o,es,ep,ho,r⟩:=hm
     exact⟨o,es,ep,kp _ o (fun m=>(chs _ m).2.1 rfl) ho,r⟩) hok I.bare
  refine⟨.ref s.heap.objs.size,_,I2,rfl,⟨_,x,y,rfl,hfr,Same.upd hfr,zd0,fun ys hy'=>by rw[I.list_inj hy' hq1];exact hx,fun ys hy'=>by rw[I.list_inj hy' hq2];exact hy⟩,⟨z4,?_,⟨u,v,?_⟩,?_,?_⟩,fun b hb=>?_⟩
  ·exact (hs4.2 _ D.TIz).trans (kp3 _ _ D.TIz D.TITO D.TIi1 D.TIi2 hTI)
  ·exact (hs4.2 _ D.TOz).trans TO3
  ·exact j1.extBut hs4.extBut D.i1z
  ·exact j2.extBut hs4.extBut D.i2z
  ·have hb0:H b=none:=(hf b hb).1
   have hlt:b≠s.heap.objs.size:=by
    simp only[zcw8,zcx9,or_false] at hb
    rcases hb with rfl|rfl|rfl|rfl|rfl
    ·exact nlt _ _ hz
    ·exact nlt _ _ hTI
    ·exact nlt _ _ hTO
    ·obtain⟨o,ho,_⟩:=h1;exact nlt _ _ ho
    ·obtain⟨o,ho,_⟩:=h2;exact nlt _ _ ho
   rw[zd9 hlt];exact hb0
 done:=by
  intro X hP hw hK hc i pins s σ H E I hf st hg
  subst hP hw hK
  obtain⟨hz,hTI,⟨a0,b0,hTO⟩,h1,h2⟩:=st
  obtain⟨xs,ys,hq1,hq2,hx⟩:=hg
  obtain⟨its1,rv1,p1,_⟩:=I.list hq1
  obtain⟨its2,rv2,p2,_⟩:=I.list hq2
  have hl1:=rv1.length
  have hl2:=rv2.length
  have nof:∀ b v,H b=some v->b ∉ [z,TI,TO,i1,i2]:=fun b v hb m=>by
   have:=(hf b m).1
   rw[this] at hb
   cases hb
  have chs:∀ b∈[z,TI,TO,i1,i2],(b∈X.ex∨X.s₀.heap.objs.size<=b)/\b≠X.env.locals/\(∀ x c,X.env.cells.lookup x=some c->c≠b)/\∀ p∈X.pn++pins,p.1≠b:=fun b hb=>by
   obtain⟨f0,f1,f2,f3,f4,f5⟩:=hf b hb
   exact⟨f3,f1,f4,f5⟩
  refine wpAny_pyNext_zip_end (I.ok.hd hc) D hz hTI hTO h1 h2 p1.isList p2.isList ?_ fun h' kp3=>⟨rfl,?_⟩
  ·rcases hx with hx|hx
   ·exact .inl (by simp;omega)
   ·exact .inr (by simp;omega)
  ·have kp:∀ b o,b ∉ [z,TI,TO,i1,i2]->s.heap.get? b=some o->h'.get? b=some o:=fun b o hb x=>by
    simp only[zcw8,zcx9,or_false,not_or] at hb
    obtain⟨b1,b2,b3,b4,b5⟩:=hb
    exact kp3 b o b1 b3 b4 b5 x
   have hok:HOk X.prog X.w H h':=fun b v' hb=>by
    refine (I.hok b v' hb).stay (fun c w' hc q=>?_) (fun c q=>q) (fun c ys q=>q)
    rcases hc with rfl|hc
    ·exact kp _ _ (nof _ _ hb) q
    ·exact kp _ _ (nof _ _ hc) q
   exact I.step (g':=s.gens) (d':=s.drawn) (t':=s.toks) (ch:=[z,TI,TO,i1,i2]) chs (fun b o _ _ hb x _=>kp b o hb x) (fun b o _ _ hb x _=>⟨o.slots,kp b o hb x⟩)
    (fun b o _ x n=>n) (fun b o hb x=>⟨o,kp b o hb x⟩) (fun b ys q=>q) (fun b o v q=>q)
    (fun b ps q=>⟨#[],by rw[q];simp⟩)
    (fun m hm=>by
     obtain⟨o,es,ep,ho,r⟩:=hm
     exact⟨o,es,ep,kp _ o (fun m=>(chs _ m).2.1 rfl) ho,r⟩) hok I.bare
 self:=fun _ _ _ _ _ st h=>wpAny_pyIter_zip st.1 h
section
variable {X:Cx}{K:zcw2}
theorem bt_zip:bootBuiltins "zip"=some (.type "zip"):=by decide +kernel
@[irreducible] noncomputable def rZip(K:zcw2)(a b:Addr)(H:Hp)(R:It->Hp->Prop):Prop:=(∃ xs,SqL K H a xs)/\(∃ ys,SqL K H b ys)/\R (Itz K a b) H
noncomputable def qiZip(K:zcw2)(ta:TA):TI:=fun σ H R=>ta σ H fun vs H1=>match vs with
 | [.ref a,.ref b]=>rZip K a b H1 R
 | _=>False
theorem zbu0{k:Nat}{pt:Pos}{a b:Expr}{p:Pos}(hK:X.K=K)(hm:X.mg "zip"=none)(ha:PA X [a,b] ta)(hg:Gl X "zip":=by rfl)(hs:starEach [a,b] X.env=(false,eval a X.env) :: starEach [b] X.env:=by rfl)(hpl:(backTo pos (starEach [b] X.env)).any (·.1)=false:=by rfl) :
  PI X (.Tuple elts k pt) (.Call (.Name "zip" p) [a,b] [] pos) (qiZip K ta):=by
 subst hK
 intro pins s σ H R I h
 refine Call_ (zx7 I hg hm bt_zip (PyProof.Rows.callWith_type1 (thn (ha pos pins s σ H _ I h) fun us s1 ⟨vs,H1,I1,r1,q1⟩=>?_) hs hpl))
 dsimp only at q1
 split at q1
 ·rename_i l m
  unfold rZip at q1
  obtain⟨⟨xs,hq1⟩,⟨ys,hq2⟩,q⟩:=q1
  obtain⟨u1,u2,rfl,rx,ry⟩:=zbn3 r1
  cases rx
  cases ry
  obtain⟨its1,rv1,p1,_⟩:=I1.list hq1
  obtain⟨its2,rv2,p2,_⟩:=I1.list hq2
  have l1:@LT.lt Nat _ l s1.heap.objs.size:=by obtain⟨o,ho,_⟩:=p1.isList;exact zcx7 ho
  have l2:@LT.lt Nat _ m s1.heap.objs.size:=by obtain⟨o,ho,_⟩:=p2.isList;exact zcx7 ho
  refine call_zip_2 p1.isList p2.isList fun h' hz hTI hTO j1 j2 hsz hk=>?_
  refine wpAny_pyIter_zip hz ?_
  have I2:Inv X pins σ H1 { s1 with heap:=h' }:=I1.kept (t':=s1.toks) hk
  have D:ZipApart (s1.heap.objs.size+4) (s1.heap.objs.size+2) (s1.heap.objs.size+3) s1.heap.objs.size (s1.heap.objs.size+1) l m:=by
   constructor<;>(intro z;have z:(_:Nat)=_:=z;omega)
  refine⟨_,_,_,Itz X.K l m,H1,rfl,I2,zcd7 l m _ _ _ _ _ D,⟨hz,hTI,⟨_,_,hTO⟩,j1,j2⟩,fun b hb=>?_,q⟩
  have hb':s1.heap.objs.size<=b:=by
   simp only[zcw8,zcx9,or_false] at hb
   rcases hb with rfl|rfl|rfl|rfl|rfl
   ·exact zde4 _ _
   ·exact zde4 _ _
   ·exact zde4 _ _
   ·exact zcx3 _
   ·exact zde4 _ _
  exact I1.fpOk hb' (I1.hok.fresh hb')
 ·exact q1.elim
end
section
variable {K:zcw2}{g:TG}{tb:TS}{D:Ends}{σ:St}{H:Hp}{R:It->Hp->Prop}
theorem zbp6{a b:Addr}{ys:List V}(h:SqL K H a xs)(h':SqL K H b ys)(q:R (Itz K a b) H):rZip K a b H R:=by unfold rZip;exact⟨⟨xs,h⟩,⟨ys,h'⟩,q⟩
theorem Wk.zip{a b:Addr}{ys:List V}{n:Nat}(h:SqL K H1 a xs)(h':SqL K H1 b ys)(hx:xs.length=n)(hy:ys.length=n):Wk (Itz K a b) n H1 fun i v H=>∃ p x y,v=.ref p/\H p=some (.tup [x,y])/\xs[i]?=some x/\ys[i]?=some y:=
 ⟨fun i H s hi=>⟨xs,ys,xs[i],ys[i],s.seq h,s.seq h',by simp,by simp⟩,fun H s=>⟨xs,ys,s.seq h,s.seq h',.inl (Nat.le_of_eq hx)⟩,fun i H v H' s _ y=>by
  obtain⟨p,x,y,rfl,y1,y2,y3,y4,y5⟩:=y
  exact⟨y2,p,x,y,rfl,y3,y4 xs (s.seq h),y5 ys (s.seq h')⟩⟩
end
section
variable {X:Cx}{K:zcw2}
end
section
variable {J:It}{n:Nat}{H1:Hp}{X:Nat->V->Hp->Prop}{g:TG}{tt:TT}{te:TE}{σ0:St}{Q:VK}
theorem zbi1(w:Wk J n H1 X)(hn:n<sizeLine)(Pv:Addr->Nat->List V->St->Hp->Prop)(h0:∀ acc H,H1 acc=none->Same H1 H->H acc=some (.lst [])->Pv acc 0 [] σ0 H)(hP:∀ acc i ys σ H H',Same H H'->Pv acc i ys σ H->Pv acc i ys σ H')(turn:∀ acc i x ys σ H (R:St->V->Hp->Prop) (S:St->Hp->Prop),i<n->H1 acc=none->Same H1 H->H acc=some (.lst ys)->X i x H->Pv acc i ys σ H ->
   (∀ σ2 v H5,Same H H5->(∀ H6,Chg acc H5 H6->Pv acc (i+1) (ys++[v]) σ2 H6)->R σ2 v H5)->(∀ σ2 H5,Same H H5->Pv acc (i+1) ys σ2 H5->S σ2 H5) ->
   g x σ H fun σ2 H3=>tt σ2 H3 fun b H4=>br b (te σ2 H4 fun v H5=>R σ2 v H5) (S σ2 H4))(fin:∀ acc ys σ H,H1 acc=none->Same H1 H->H acc=some (.lst ys)->Pv acc n ys σ H->Q (.ref acc) H):zad6 J g tt te σ0 H1 Q:=by
 unfold zad6
 intro acc H2 hf hs ha
 refine⟨fun i m ys σ H=>m=n - i/\i<=n/\ys.length<=i/\Same H1 H/\H acc=some (.lst ys)/\Pv acc i ys σ H,⟨n,by simp,zcy3 _,zcx3 _,hs,ha,h0 acc H2 hf hs ha⟩,?_⟩
 rintro i m ys σ H ⟨rfl,hi,hl,s,hy,P⟩
 refine⟨hy,by omega,?_⟩
 by_cases hlt:i<n
 ·refine .inr ⟨w.go i H s hlt,fun x H' y=>?_⟩
  obtain⟨s1,x1⟩:=w.yld i H x H' s hlt y
  refine turn acc i x ys σ H' (fun σ2 v H5=>cPut _ acc ys i (n - i) σ2 v H5) (fun σ2 H4=>zas3 _ ys i (n - i) σ2 H4) hlt hf (s.trans s1) (s1 _ _ hy) x1 (hP _ _ _ _ _ _ s1 P) ?_ ?_
  ·intro σ2 v H5 s5 q
   have s15:=s1.trans s5
   unfold cPut
   refine⟨s15 _ _ hy,fun H6 c6 h6=>⟨n - (i+1),by omega,rfl,hlt,by rw[zcw7];simp;omega,(s.trans s15).chg hf c6,h6,q H6 c6⟩⟩
  ·intro σ2 H5 s5 q
   have s15:=s1.trans s5
   unfold zas3
   exact⟨n - (i+1),by omega,rfl,hlt,by omega,s.trans s15,s15 _ _ hy,q⟩
 ·have e:i=n:=by omega
  subst e
  exact .inl ⟨w.stop H s,fin acc ys σ H hf s hy P⟩
end
end L2
set_option maxHeartbeats 2000000
namespace L2
open PySem PySem.Spec PyProof.Rows
section
variable {X:Cx}{K:zcw2}
@[irreducible] noncomputable def rTupA(K:zcw2)(p:Addr)(H:Hp)(Q:VK):Prop:=∃ ys,SqL K H p ys/\∀ l H',H l=none->Same H H'->H' l=some (.tup ys)->Q (.ref l) H'
noncomputable def rTupM(K:zcw2):List V->Hp->VK->Prop:=fun xs H Q=>match xs with
 | [.ref p]=>rTupA K p H Q
 | _=>False
theorem cTupK(hK:X.K=K):zm6 X (.type "tuple") (rTupM K):=fun pins s σ H xs us Q I r h=>by
 subst hK
 unfold rTupM at h
 split at h
 ·unfold rTupA at h
  obtain⟨ys,h1,h2⟩:=h
  exact zap1 pins s σ H _ us Q I r ⟨_,ys,rfl,.inl ⟨h1,fun l hl=>h2 l _ hl (Same.upd hl) zd0⟩⟩
 ·exact h.elim
theorem zcp6{p:Addr}{H:Hp}{Q:VK}{ys:List V}(h:SqL K H p ys)(q:∀ l H',H l=none->Same H H'->H' l=some (.tup ys)->Q (.ref l) H'):rTupA K p H Q:=by unfold rTupA;exact⟨ys,h,q⟩
end
variable {H H':Hp}{xs:List V}{x0:Str}{s:Shared}{scope:Scope}{pos:Pos}{u:Value}{Q:Value->Shared->Prop}{h h':Heap}{ep i j m:Nat}{vs:List Value}{o:Obj}{es:Array (Int×Value)}{keys:List (List Int)}
theorem Same.seqT{K:zcw2}{a:Addr}(e:Same H H')(h:H a=some (.tup xs)):SqT K H' a xs:=SqT.of (e _ _ h)
theorem Wk.tup{K:zcw2}{a:Addr}{H1:Hp}(h:H1 a=some (.tup xs)):Wk (Itt K a) xs.length H1 fun i x _=>xs[i]?=some x:=
 ⟨fun i H s hi=>⟨xs,xs[i],Same.seqT s h,by simp[hi]⟩,fun H s=>⟨xs,Same.seqT s h,zcx3 _⟩,fun i H x H' s _ y=>by
  obtain⟨e,y⟩:=y
  subst e
  exact⟨Same.refl _,y xs (Same.seqT s h)⟩⟩
set_option maxHeartbeats 4000000
section
variable {X:Cx}{K:zcw2}
end
section
variable {X:Cx}{K:zcw2}{H:Hp}{Q:VK}
end
set_option maxHeartbeats 2000000
noncomputable def zad3(x0:Str)(names:List (Str×NameKind)):Prop:=names.filter (fun y=>y.2==.cell)=[(x0,.cell)]/\names.lookup x0=some .cell
theorem zan9{x0:Str}:∀ {names:List (Str×NameKind)},names.filter (fun y=>y.2==.cell)=[(x0,.cell)]->∀ (n:Nat) (acc:List (Str×Addr)) (h:Heap),cellsFrom n names acc=(x0,n) :: acc/\pushCells h names=h.push { cls:=.type "cell",data:=.cell none }
 | [],e,_,_,_=>by cases e
 | (y,k) :: r,e,n,acc,h=>by
  by_cases hk:(k==NameKind.cell)=true
  ·have hk':k=.cell:=by simpa using hk
   subst hk'
   rw[List.filter_cons_of_pos (by simp)] at e
   have e1:y=x0:=by have:=congrArg (fun l=>l.head?.map (·.1)) e;simpa using this
   have e2:r.filter (fun y=>y.2==.cell)=[]:=by have:=congrArg List.tail e;simpa using this
   subst e1
   have none:∀ (r:List (Str×NameKind)),r.filter (fun y=>y.2==.cell)=[]->∀ n acc h,cellsFrom n r acc=acc/\pushCells h r=h:=by
    intro r
    induction r with
    | nil=>intro _ n acc h;exact⟨rfl,rfl⟩
    | cons z r ih=>
     obtain⟨z1,z2⟩:=z
     intro e n acc h
     by_cases hz:(z2==NameKind.cell)=true
     ·rw[List.filter_cons_of_pos (by simpa using hz)] at e;cases e
     ·rw[List.filter_cons_of_neg (by simpa using hz)] at e
      unfold cellsFrom pushCells
      rw[if_neg hz,if_neg hz]
      exact ih e n acc h
   unfold cellsFrom pushCells
   rw[if_pos hk,if_pos hk]
   exact⟨(none r e2 _ _ h).1,(none r e2 0 [] _).2⟩
  ·rw[List.filter_cons_of_neg (by simpa using hk)] at e
   unfold cellsFrom pushCells
   rw[if_neg hk,if_neg hk]
   exact zan9 e n acc h
theorem zad3.only{names:List (Str×NameKind)}(h:zad3 x0 names):∀ y∈names,y.2=.cell->y.1=x0:=fun y hy hc=>by
 have:y∈names.filter (fun y=>y.2==.cell):=zdd8.mpr ⟨hy,by rw[hc];rfl⟩
 rw[h.1] at this
 rw[zcz6.mp this]
theorem zcp3{M:Model}{A:Around}{E:Value->Shared->Prop}{globals:Addr}{cl:List (Str×Addr)}{qual:Str}{env:Env}{Q:Env->Shared->Prop}(hone:zad3 x0 scope.names)(hQ:∀ h₁,h₁=(s.heap.push { cls:=.type "dict",data:=.dict #[] }).push { cls:=.type "cell",data:=.cell none }->Q { scope,locals:=s.heap.objs.size,globals,cells:=(x0,s.heap.objs.size+1) :: cl,qual,func:=none,code:=env.code,frame:=env.frame,builtins:=env.builtins } { s with heap:=h₁ }) :
  wpAny M A (newFunctionEnv scope globals cl [] qual none .none (some env)) Q E s:=by
 simp only[newFunctionEnv,Option.isSome_some,if_true]
 refine zdf3 (wpAny_alloc ?_)
 refine zdf3 (wpAny_layCells _ (fun name kind cells=>by cases hkc:kind==NameKind.cell<;>simp[hkc]) _ _ _ _ ?_)
 have o:=zan9 hone.1 (s.heap.push { cls:=.type "dict",data:=.dict #[] }).objs.size cl (s.heap.push { cls:=.type "dict",data:=.dict #[] })
 rw[show ({ s with heap:=s.heap.push { cls:=.type "dict",data:=.dict #[] } }:Shared).heap=s.heap.push { cls:=.type "dict",data:=.dict #[] } from rfl,o.1,o.2]
 rw[Heap.size_push]
 refine zdf3 ?_
 rw[List.forIn_nil]
 exact zdf4 (zdf4 (hQ _ rfl))
noncomputable def blk1(x0:Str)(X:Cx)(N:List Str)(scope:Scope)(cl:List (Str×Addr))(C:Addr)(s3:Shared)(H3:Hp)(fp:List Addr):Cx:=
 { X with N:=N,s₀:=s3,H₀:=H3,env:=compEnvC scope ((x0,C+1) :: cl) C X.env,outer:=X.stack,ex:=fp,fn:=fun x=>x==x0,pn:=[],xe:=fun _ _=>False }
theorem zaf3{x:Str}{n c:Addr}{cl:List (Str×Addr)}(h:List.lookup x ((x0,n) :: cl)=some c):(x=x0/\c=n)∨cl.lookup x=some c:=by
 rw[zcz8] at h
 cases hx:x==x0 with
 | true=>rw[hx] at h;cases h;exact .inl ⟨by simpa using hx,rfl⟩
 | false=>rw[hx] at h;exact .inr h
theorem zu0{env:Env}{x0:Str}:∀ {names:List (Str×NameKind)}{x:Str}{k':NameKind},(∀ y∈names,y.2=.cell->y.1=x0)->(k'=.cell∨k'=.free) ->
  (names.map fun (n,k)=>if (k==NameKind.free&&env.scope.kind==.function&&env.kindOf n==some .cell) then (n,NameKind.cell) else (n,k)).lookup x=some k'->x=x0∨∃ y∈names,y.1=x/\y.2=.free
 | [],_,_,_,_,h=>by simp at h
 | (n,k) :: r,x,k',hn,hk,h=>by
  have ih:=@zu0 env x0 r x k' (fun y hy=>hn y (zda6 _ hy)) hk
  replace h:List.lookup x ((if (k==NameKind.free&&env.scope.kind==.function&&env.kindOf n==some .cell)=true then (n,NameKind.cell) else (n,k)) :: List.map (fun (n,k)=>if (k==NameKind.free&&env.scope.kind==.function&&env.kindOf n==some .cell) then (n,NameKind.cell) else (n,k)) r)=some k':=h
  cases hx:x==n with
  | true=>
   have hx':x=n:=by simpa using hx
   by_cases hf:k=.free
   ·exact .inr ⟨(n,k),zdc1,hx'.symm,hf⟩
   ·have hc:¬ (k==NameKind.free&&env.scope.kind==.function&&env.kindOf n==some .cell)=true:=by
     have:(k==NameKind.free)=false:=by simpa using hf
     rw[this];simp
    rw[if_neg hc] at h
    simp only[zcz8,hx] at h
    have:k=k':=Option.some.inj h
    subst this
    rcases hk with hk|hk
    ·exact .inl (hx'.trans (hn (n,k) zdc1 hk))
    ·exact absurd hk hf
  | false=>
   have h':List.lookup x (List.map (fun (n,k)=>if (k==NameKind.free&&env.scope.kind==.function&&env.kindOf n==some .cell) then (n,NameKind.cell) else (n,k)) r)=some k':=by
    by_cases hc:(k==NameKind.free&&env.scope.kind==.function&&env.kindOf n==some .cell)=true
    ·rw[if_pos hc] at h;simp only[zcz8,hx] at h;exact h
    ·rw[if_neg hc] at h;simp only[zcz8,hx] at h;exact h
   rcases ih h' with q|⟨y,hy,h1,h2⟩
   ·exact .inl q
   ·exact .inr ⟨y,zda6 _ hy,h1,h2⟩
section
variable {X:Cx}{pins:List (Addr×Obj)}{σ:St}{H:Hp}{s2:Shared}
theorem zcd4{N:List Str}{cl:List (Str×Addr)}{C:Addr}{s3 s4:Shared}{H3:Hp}{fp:List Addr}{σc:St}(I:Inv X pins σ H3 s3)(hcl1:∀ x c,cl.lookup x=some c->X.env.cells.lookup x=some c)(hcl2:∀ x∈scope.names,x.2=.free->∃ c,cl.lookup x.1=some c)(hkind:scope.kind=.function)(hone:zad3 x0 scope.names)(hcap:∀ (i:Nat) (x:Str) (v:V),N[i]?=some x->σc[i]?=some (some v)->∃ j:Nat,X.N[j]?=some x/\σ[j]?=some (some v)/\scope.names.lookup x=some .free/\(X.env.kindOf x=some .cell∨X.env.kindOf x=some .free))(hlen:σc.length=N.length)(hC:s3.heap.objs.size=C)(hfp:∀ b∈fp,FpOk X pins H3 b)(hfpl:∀ b∈fp,b<C)(hex:∀ b o,X.base.get? b=some o->b ∉ fp)(hns:∃ m,s4.heap.Ns C m)(hce:s4.heap.IsCell (C+1) none)(hk:∀ b o,s3.heap.get? b=some o->s4.heap.get? b=some o)(h4:s4.os=s3.os)(h5:s4.gens=s3.gens) :
  Inv (blk1 x0 X N scope cl C s3 H3 fp) [] σc H3 s4:=by
 subst hC
 have cne:∀ x c,cl.lookup x=some c->c<s3.heap.objs.size:=fun x c h=>by
  obtain⟨v,o,ho,_⟩:=I.cell x c (hcl1 x c h)
  exact zcx7 ho
 refine⟨⟨I.ok.mod,?_,I.ok.glob,I.ok.blt,zcx3 _,fun x y c h1 h2=>?_,fun x hx=>?_,fun x c hf h=>?_,I.ok.hd,I.ok.frames,.inl rfl,fun b hb=>⟨zcz2 (hfpl b hb),fun x c h=>?_⟩,fun b o e=>I.bs b o e,zda0 I.ok.bsz I.sz,fun b o e=>hex b o e,fun b hb=>?_,I.stack,I.stkFree⟩,
  h4,by rw[h5];exact I.bare,Un.kept hk,?_,fun x c h=>?_,I.hok.fresh (zcx3 _),fun x c h=>?_,fun p hp=>(by cases hp),I.hok.kept hk,hlen⟩
 ·exact hkind
 ·rcases zaf3 h1 with ⟨e1,e2⟩|h1'
  ·rcases zaf3 h2 with ⟨e3,_⟩|h2'
   ·rw[e1,e3]
   ·exact absurd (Nat.lt_trans (Nat.lt_succ_self _) (e2▸cne _ _ h2')) (zde3 _)
  ·rcases zaf3 h2 with ⟨e3,e4⟩|h2'
   ·exact absurd (Nat.lt_trans (Nat.lt_succ_self _) (e4▸cne _ _ h1')) (zde3 _)
   ·exact I.ok.inj x y c (hcl1 _ _ h1') (hcl1 _ _ h2')
 ·have hx':(relabel scope X.env).names.lookup x=some .cell∨(relabel scope X.env).names.lookup x=some .free:=hx
  show ∃ c,List.lookup x ((x0,s3.heap.objs.size+1) :: cl)=some c
  by_cases e0:x=x0
  ·subst e0;exact⟨_,List.lookup_cons_self⟩
  ·have hz:x=x0∨∃ y∈scope.names,y.1=x/\y.2=.free:=by
    rcases hx' with q|q
    ·exact zu0 hone.only (.inl rfl) q
    ·exact zu0 hone.only (.inr rfl) q
   rcases hz with hz|⟨y,hy,rfl,hf⟩
   ·exact absurd hz e0
   ·obtain⟨c,hc⟩:=hcl2 y hy hf
    exact⟨c,by rw[zcz8,beq_eq_false_iff_ne.mpr e0];exact hc⟩
 ·have hf:(x==x0)=true:=hf
  have e0:x=x0:=by simpa using hf
  subst e0
  rcases zaf3 h with ⟨_,rfl⟩|h'
  ·exact zdd9 _
  ·have h:List.lookup x ((x,s3.heap.objs.size+1) :: cl)=some c:=h
   rw[zcz8,hf] at h
   cases h
   exact zdd9 _
 ·rcases zaf3 h with ⟨_,rfl⟩|h
  ·exact Nat.ne_of_gt (Nat.lt_succ_of_lt (hfpl b hb))
  ·exact (hfp b hb).2.2.2.2.1 x c (hcl1 x c h)
 ·intro hz
  obtain⟨f0,f1,f2,_⟩:=hfp b hb
  have hz:b∈frs X.stack:=hz
  rcases zcw8.mp (I.stkSub b hz) with q|q
  ·exact f1 q
  ·exact f2 q
 ·obtain⟨m,hm⟩:=hns
  refine⟨m,hm,fun i x v h1 h2 h3=>?_⟩
  obtain⟨j,e1,e2,e3,e4⟩:=hcap i x v h1 h2
  obtain⟨mX,_,hl⟩:=I.loc
  obtain⟨u,r,q⟩:=hl j x v e1 e2 (by rcases e4 with e4|e4;exact .inr (.inl e4);exact .inr (.inr e4))
  have n0:x≠x0:=fun z=>by rw[z,hone.2] at e3;cases e3
  refine⟨u,r,.inr ⟨zv5 e3,?_⟩⟩
  obtain⟨c,hc⟩:=hcl2 (x,.free) (PySem.mem_of_lookup e3) rfl
  refine⟨c,by show List.lookup x ((x0,s3.heap.objs.size+1) :: cl)=some c;rw[zcz8,beq_eq_false_iff_ne.mpr n0];exact hc,?_⟩
  have hc':=hcl1 x c hc
  rcases q with ⟨k,_⟩|⟨_,c2,e5,o,ho,hd⟩
  ·rcases e4 with e4|e4<;>rw[e4] at k<;>cases k
  ·rw[hc'] at e5
   cases e5
   exact⟨o,hk _ _ ho,hd⟩
 ·rcases zaf3 h with ⟨_,rfl⟩|h
  ·exact⟨none,hce⟩
  ·obtain⟨v,o,ho,hd⟩:=I.cell x c (hcl1 x c h)
   exact⟨v,o,hk _ _ ho,hd⟩
 ·rcases zaf3 h with ⟨_,rfl⟩|h
  ·exact I.hok.fresh (zdd9 _)
  ·exact I.freeC x c (hcl1 _ _ h)
theorem zbm3{E:Value->Shared->Prop}{elt tg iter:Expr}{ifs:List Expr}{cl:List (Str×Addr)}{N:List Str}{σc:St}{J:It}{fp:List Addr}{it:Addr}{tn:Nat->Heap->Prop}{g:TG}{tt:TT}{te:TE}{Q:VK}{RR:Value->Addr->Result->Shared->Prop}(hcl1:∀ x c,cl.lookup x=some c->X.env.cells.lookup x=some c)(hcl2:∀ x∈scope.names,x.2=.free->∃ c,cl.lookup x.1=some c)(hkind:scope.kind=.function)(hone:zad3 x0 scope.names)(hcap:∀ (i:Nat) (x:Str) (v:V),N[i]?=some x->σc[i]?=some (some v)->∃ j:Nat,X.N[j]?=some x/\σ[j]?=some (some v)/\scope.names.lookup x=some .free/\(X.env.kindOf x=some .cell∨X.env.kindOf x=some .free))(hlen:σc.length=N.length)(hc:X.calm=true)(I:Inv X pins σ H s2)(T:Turn X.prog X.w X.K tg J fp it tn)(st:tn 0 s2.heap)(fpok:∀ b∈fp,FpOk X pins H b)(hg:∀ C s3 H3 fp,PG (blk1 x0 X N scope cl C s3 H3 fp) tg g)(ht:∀ C s3 H3 fp,PTs (blk1 x0 X N scope cl C s3 H3 fp) ifs tt)(he:∀ C s3 H3 fp,PE (blk1 x0 X N scope cl C s3 H3 fp) elt te)(h:zad6 J g tt te σc H Q)(hRR:∀ (acc C:Addr) (H':Hp) (s':Shared),Inv X pins σ H' s'->FpOk X pins H' C->(∃ m,s'.heap.Ns C m)->Q (.ref acc) H'->RR (.ref acc) C (.ok .next) s') :
  wpAny (model X.prog X.w) X.A (newList []) (fun acc s₃=>wpAny (model X.prog X.w) X.A (newFunctionEnv scope X.env.globals cl [] X.env.qual none .none (some X.env)) (fun cenv s₄=>
   codeAny (model X.prog X.w) X.A (.compStart (.ListComp elt [⟨tg,iter,ifs,0⟩] scope pos) 0 (.ref it) acc { cenv with scope:=relabel scope X.env }) (RR acc cenv.locals) s₄) E s₃) E s2:=by
 refine wpAny_newObj_type (zcp3 hone fun h₁ hh₁=>?_)
 dsimp only at hh₁ ⊢
 have hf:H s2.heap.objs.size=none:=I.fresh
 have I3:Inv X pins σ (upd H s2.heap.objs.size (.lst [])) { s2 with heap:=s2.heap.push { cls:=.type "list",data:=.seq ([]:List Value).toArray } }:=I.lnew (t':=s2.toks) (its:=[]) .nil (zcy3 _)
 generalize hs3:({ s2 with heap:=s2.heap.push { cls:=.type "list",data:=.seq ([]:List Value).toArray } }:Shared)=s3 at I3
 have hH:s2.heap.push { cls:=.type "list",dict:=none,data:=.seq ([]:List Value).toArray }=s3.heap:=by rw[← hs3]
 rw[hH] at hh₁ ⊢
 have hsz:s3.heap.objs.size=s2.heap.objs.size+1:=by rw[← hH,Heap.size_push]
 have old23:∀ b o,s2.heap.get? b=some o->s3.heap.get? b=some o:=fun b o e=>by rw[← hH];exact zcw6 _ e
 have fplt:∀ b∈fp,b<s2.heap.objs.size:=fun b hb=>by
  obtain⟨o,e,_⟩:=T.obj 0 _ st b hb
  exact zcx7 e
 have fp3:∀ b∈fp,FpOk X pins (upd H s2.heap.objs.size (.lst [])) b:=fun b hb=>by
  obtain⟨f0,f1⟩:=fpok b hb
  refine⟨?_,f1⟩
  rw[zd9 (zcz2 (fplt b hb))]
  exact f0
 have old34:∀ b o,s3.heap.get? b=some o->h₁.get? b=some o:=fun b o e=>by rw[hh₁];exact zcw6 _ (zcw6 _ e)
 have hns₁:h₁.Ns s3.heap.objs.size (fun _=>none):=by rw[hh₁];exact (Heap.Ns.new s3.heap (.type "dict")).keeps fun b o e=>zcw6 _ e
 have hce:h₁.IsCell (s3.heap.objs.size+1) none:=⟨{ cls:=.type "cell",data:=.cell none },by rw[hh₁];exact Heap.get?_push_at (by rw[Heap.size_push]) rfl,rfl⟩
 have nob:∀ b o,X.base.get? b=some o->b ∉ fp:=fun b o e hb=>by
  obtain⟨_,_,_,f3,_,_⟩:=fpok b hb
  rcases f3 with f3|f3
  ·exact I.ok.noex b o e f3
  ·exact absurd (zcy5 (zcx7 e) I.ok.bsz) (Nat.not_lt.mpr f3)
 have hs4e:({ s2 with heap:=h₁,toks:=s2.toks }:Shared).os=s3.os:=by rw[← hs3]
 have hs4g:({ s2 with heap:=h₁,toks:=s2.toks }:Shared).gens=s3.gens:=by rw[← hs3]
 have I4:Inv (blk1 x0 X N scope cl s3.heap.objs.size s3 (upd H s2.heap.objs.size (.lst [])) fp) [] σc (upd H s2.heap.objs.size (.lst [])) { s2 with heap:=h₁,toks:=s2.toks }:=
  zcd4 (s4:={ s2 with heap:=h₁,toks:=s2.toks }) I3 hcl1 hcl2 hkind hone hcap hlen rfl fp3 (fun b hb=>zcy5 (fplt b hb) (by rw[hsz];exact zdd9 _)) nob ⟨_,hns₁⟩ hce old34 hs4e hs4g
 have st4:tn 0 h₁:=T.keep _ _ _ st fun b hb o e=>old34 b o (old23 b o e)
 unfold zad6 at h
 obtain⟨W,⟨m0,w0⟩,turn⟩:=h s2.heap.objs.size _ hf (Same.upd hf) zd0
 have loop:codeAny (model X.prog X.w) X.A (.compLoop (.ListComp elt [⟨tg,iter,ifs,0⟩] scope pos) 0 (.ref it) (.ref s2.heap.objs.size) (blk1 x0 X N scope cl s3.heap.objs.size s3 (upd H s2.heap.objs.size (.lst [])) fp).env)
   (RR (.ref s2.heap.objs.size) s3.heap.objs.size) { s2 with heap:=h₁,toks:=s2.toks }:=by
  refine zay5 (fun n s'=>∃ i ys σ' H',Inv (blk1 x0 X N scope cl s3.heap.objs.size s3 (upd H s2.heap.objs.size (.lst [])) fp) [] σ' H' s'/\tn i s'.heap/\(∀ b∈fp,H' b=none)/\W i n ys σ' H') ?_ m0 ⟨0,[],σc,_,I4,st4,fun b hb=>(fp3 b hb).1,w0⟩
  rintro n s5 ⟨i,ys,σ5,H5,I5,st5,fr5,w5⟩
  obtain⟨hacc,hl5,hcase⟩:=turn i n ys σ5 H5 w5
  have stat:∀ {H':Hp},(∀ b∈fp,H' b=none)->∀ b∈fp,FpOk (blk1 x0 X N scope cl s3.heap.objs.size s3 (upd H s2.heap.objs.size (.lst [])) fp) [] H' b:=fun hn b hb=>by
   obtain⟨_,f1,f2,f3,f4,_⟩:=fpok b hb
   refine⟨hn b hb,zcz2 (zcy5 (fplt b hb) (by rw[hsz];exact zdd9 _)),fun hz=>?_,.inl hb,fun x c hx=>?_,fun p hp=>by cases hp⟩
   rotate_left
   ·rcases zaf3 hx with ⟨_,rfl⟩|hx
    ·exact Nat.ne_of_gt (Nat.lt_succ_of_lt (zcy5 (fplt b hb) (by rw[hsz];exact zdd9 _)))
    ·exact f4 x c (hcl1 x c hx)
   rcases zcw8.mp (I.stkSub b hz) with q|q
   ·exact f1 q
   ·exact f2 q
  rcases hcase with ⟨stop,hq⟩|⟨go,step⟩
  ·refine thn (T.done (blk1 x0 X N scope cl s3.heap.objs.size s3 (upd H s2.heap.objs.size (.lst [])) fp) rfl rfl rfl hc i [] s5 σ5 H5 (fun _ _=>False) I5 (stat fr5) st5 stop) fun r s6 ⟨hr,I6⟩=>?_
   subst hr
   have u1:Un (frs X.stack) fp H (upd H s2.heap.objs.size (.lst [])) s2.heap s3.heap:=Un.laid old23 (zcx3 _) hf
   have u2:Un (frs X.stack) fp (upd H s2.heap.objs.size (.lst [])) H5 s3.heap s6.heap:=I6.base
   have hC:H5 s3.heap.objs.size=none:=I6.free
   obtain⟨m6,hm6,_⟩:=I6.loc
   have hos:s6.os=s2.os:=by rw[I6.os];show s3.os=s2.os;rw[← hs3]
   have hok6:=I6.hok
   have bare6:=I6.bare
   obtain⟨hh,gg,dd,tt',os'⟩:=s6
   obtain rfl:os'=s2.os:=hos
   exact hRR _ _ H5 _ (I.call (h':=hh) (g':=gg) (d':=dd) (t':=tt') (ch:=fp) (u1.trans u2) hok6 bare6 fun b hb=>⟨(fpok b hb).2.2.2.1,(fpok b hb).2.1,(fpok b hb).2.2.2.2.1,(fpok b hb).2.2.2.2.2⟩)
    (I.fpOk (by rw[hsz];exact zdd9 _) hC) ⟨m6,hm6⟩ hq
  ·refine thn (T.item (blk1 x0 X N scope cl s3.heap.objs.size s3 (upd H s2.heap.objs.size (.lst [])) fp) rfl rfl rfl hc i [] s5 σ5 H5 (fun _ _=>False) I5 (stat fr5) st5 go) fun r s6 ⟨u,hr,h6⟩=>?_
   subst hr
   refine thn h6 fun _ s7 ⟨x,H7,I7,r7,y7,st7,fr7⟩=>?_
   have I7':=I7.pinned (stat fr7) (T.obj _ _ st7)
   refine thn (hg _ _ _ _ _ s7 σ5 H7 x u _ I7' r7 (step x H7 y7)) fun _ s8 ⟨σ8,H8,I8,q8⟩=>?_
   refine thn (ht _ _ _ _ _ s8 σ8 H8 _ I8 q8) fun ok s9 ⟨H9,I9,q9⟩=>?_
   have again:∀ {s10:Shared}{σ10:St}{H10:Hp}{zs:List V},Inv (blk1 x0 X N scope cl s3.heap.objs.size s3 (upd H s2.heap.objs.size (.lst [])) fp) ([]++zan8 fp s7.heap) σ10 H10 s10->(∃ m',m'<n/\W (i+1) m' zs σ10 H10) ->
     ∃ m,m<n/\∃ i ys σ' H',Inv (blk1 x0 X N scope cl s3.heap.objs.size s3 (upd H s2.heap.objs.size (.lst [])) fp) [] σ' H' s10/\tn i s10.heap/\(∀ b∈fp,H' b=none)/\W i m ys σ' H':=fun {s10 σ10 H10 zs} I10 ⟨m',hm,w10⟩=>by
    refine⟨m',hm,i+1,zs,σ10,H10,I10.unpinned,T.keep _ _ _ st7 fun b hb o e=>(I10.pin (b,o) (zcz9 _ (zcz9 _ (zo9 hb e)))).1,fun b hb=>?_,w10⟩
    obtain⟨o,e,d⟩:=T.obj _ _ st7 b hb
    exact (I10.pin (b,o) (zcz9 _ (zcz9 _ (zo9 hb e)))).2.1
   dsimp only at q9
   rw[zae9] at q9
   cases ok with
   | false=>
    have q9:∃ m',m'<n/\W (i+1) m' ys σ8 H9:=by rw[if_neg zcw5] at q9;unfold zas3 at q9;exact q9
    exact again I9 q9
   | true=>
    have q9:=(if_pos rfl▸q9:te σ8 H9 _)
    refine thn (he _ _ _ _ _ s9 σ8 H9 _ I9 q9) fun v s10 ⟨y,H10,I10,r10,q10⟩=>?_
    unfold cPut at q10
    obtain⟨e10,q10⟩:=q10
    refine thn (zaj2 _ s10 σ8 H10 (.ref s2.heap.objs.size) [y] (.ref s2.heap.objs.size) [v] (fun _ H11=>∃ m',m'<n/\W (i+1) m' (ys++[y]) σ8 H11) I10 rfl (.cons r10 .nil) ⟨_,ys,y,rfl,rfl,e10,hl5,q10 _ Chg.upd zd0⟩) fun _ s11 ⟨z,H11,I11,_,q11⟩=>?_
    exact again I11 q11
 exact codeAny_compStart_list loop (T.self _ 0 _ _ _ st4 loop)
noncomputable def zbb3(x0:Str)(scope:Scope):Bool:=scope.names.filter (fun y=>y.2==.cell)==[(x0,.cell)]&&scope.names.lookup x0==some .cell&&scope.names.all fun x=>x.2 != .local || scope.names.lookup x.1==some .local
theorem zbk8(h:zbb3 x0 scope=true):zad3 x0 scope.names/\∀ x∈scope.names,x.2=.local->scope.names.lookup x.1=some .local:=by
 unfold zbb3 at h
 rw[zcx4,zcx4] at h
 refine⟨⟨by simpa using h.1.1,by simpa using h.1.2⟩,fun x hx hl=>?_⟩
 have:=zcx2.mp h.2 x hx
 simpa [hl] using this
theorem zco2{elt tg iter:Expr}{ifs:List Expr}{N:List Str}{ks:List (Option Nat)}{wi:TI}{g:TG}{tt:TT}{te:TE}(hi:PI X tg iter wi)(hg:∀ cl C s3 H3 fp,PG (blk1 x0 X N scope cl C s3 H3 fp) tg g)(ht:∀ cl C s3 H3 fp,PTs (blk1 x0 X N scope cl C s3 H3 fp) ifs tt)(he:∀ cl C s3 H3 fp,PE (blk1 x0 X N scope cl C s3 H3 fp) elt te)(hcap:zaf5 X scope N ks)(hc:X.calm=true:=by rfl)(hkind:scope.kind=.function:=by rfl)(hb:freeB scope X.env.kindOf=true:=by rfl)(hn:zbb3 x0 scope=true:=by rfl)(hs:∀ x,foldedSetIterable iter X.env x=pure x:=by intro _;rfl) :
  PE X (.ListComp elt [⟨tg,iter,ifs,0⟩] scope pos) (qComp ks wi g tt te):=by
 intro pins s σ H Q I h
 obtain⟨hone,hnames⟩:=zbk8 hn
 obtain⟨cl,hcl,hcl1,hcl2⟩:=zac7 (scope:=scope) (env:=X.env) fun x hx hf=>I.ok.has x.1 (zap0 hb x hx hf)
 rw[eval_ListComp]
 refine wpAny_comprehension_free (use:=none) rfl hs hcl hkind hnames ?_
 show wpAny _ _ (eval iter X.env) _ _ s
 refine thn (hi pins s σ H _ I h) fun v s1 h1=>thn h1 fun itv s2 h2=>?_
 obtain⟨it,fp,tn,J,H2,e,I2,T,st2,f2,q2⟩:=h2
 subst e
 refine zbm3 (RR:=fun acc C=>compPost (model X.prog X.w) X.A X.xe none (EP X pins σ Q) acc C) hcl1 hcl2 hkind hone (hcap.cap σ) (hcap.len σ) hc I2 T st2 f2 (hg cl) (ht cl) (he cl) q2 ?_
 rintro acc C H' s' I' hC ⟨m,hm⟩ hq
 refine⟨m,hm,fun h' hsb=>⟨.ref acc,H',?_,rfl,hq⟩⟩
 exact I'.turned (t':=s'.toks) (fun b o hb e=>hsb.extBut b o hb e) hC.1 hC.2.1 hC.2.2.2.1 hC.2.2.2.2.1 hC.2.2.2.2.2
end
set_option maxHeartbeats 1000000
section
variable {κ:Type}[DecidableEq κ]
noncomputable def valV(kvs:List (κ×V))(k:κ):Option V:=(kvs.find? fun kv=>decide (kv.1=k)).map (·.2)
noncomputable def putK(kvs:List (κ×V))(k:κ)(v:V):List (κ×V):=
 if (kvs.any fun kv=>decide (kv.1=k))=true then kvs.map (fun kv=>if kv.1=k then (kv.1,v) else kv) else kvs++[(k,v)]
theorem zab1{p:κ×V}{r:List (κ×V)}{k:κ}(e:p.1=k):valV (p :: r) k=some p.2:=by simp[valV,zdc4,e]
theorem zab7{p:κ×V}{r:List (κ×V)}{k:κ}(e:¬ p.1=k):valV (p :: r) k=valV r k:=by simp[valV,zdc4,e]
theorem zbh1(k:κ):∀ kvs:List (κ×V),(kvs.any fun kv=>decide (kv.1=k))=(valV kvs k).isSome
 | []=>rfl
 | p :: r=>by
  rw[List.any_cons]
  by_cases e:p.1=k
  ·simp only[zab1 e,decide_eq_true e,Bool.true_or,Option.isSome_some]
  ·rw[zab7 e,decide_eq_false e,Bool.false_or];exact zbh1 k r
theorem zah3(kvs:List (κ×V))(k:κ)(v:V):(putK kvs k v).length<=kvs.length+1:=by
 unfold putK
 split
 ·rw[zcv8];omega
 ·rw[zcw7,zcx5,zcz1];omega
theorem RelO.isSome_eq{o:Option V}{u:Option Value}(r:RelO o u):o.isSome=u.isSome:=by
 cases o with
 | none=>cases u with
  | none=>rfl
  | some _=>exact (show False from r).elim
 | some _=>cases u with
  | none=>exact (show False from r).elim
  | some _=>rfl
theorem RelO.getD{o:Option V}{u:Option Value}{d:V}{d':Value}(r:RelO o u)(rd:RelV d d'):RelV (o.getD d) (u.getD d'):=by
 cases o with
 | none=>cases u with
  | none=>exact rd
  | some _=>exact (show False from r).elim
 | some _=>cases u with
  | none=>exact (show False from r).elim
  | some _=>exact r
theorem KV.val{kvs:List (κ×V)}{vs:List (κ×Value)}(r:KV kvs vs)(k:κ):RelO (valV kvs k) (valueAt vs k):=by
 unfold KV at r
 induction r with
 | nil=>exact True.intro
 | @cons p q ps qs h t ih=>
  obtain⟨h1,h2⟩:=h
  by_cases e:p.1=k
  ·have e':q.1=k:=h1.symm.trans e
   have b:valueAt (q :: qs) k=some q.2:=by simp[valueAt,zdc4,e']
   rw[zab1 e,b];exact h2
  ·have e':¬ q.1=k:=fun z=>e (h1.trans z)
   have b:valueAt (q :: qs) k=valueAt qs k:=by simp[valueAt,zdc4,e']
   rw[zab7 e,b];exact ih
theorem KV.any{kvs:List (κ×V)}{vs:List (κ×Value)}(r:KV kvs vs)(k:κ):(kvs.any fun kv=>decide (kv.1=k))=vs.any fun kv=>decide (kv.1=k):=by
 unfold KV at r
 induction r with
 | nil=>rfl
 | cons h t ih=>rw[List.any_cons,List.any_cons,ih,h.1]
theorem KV.repl{kvs:List (κ×V)}{vs:List (κ×Value)}(r:KV kvs vs)(k:κ){y:V}(ry:RelV y u) :
  KV (kvs.map fun kv=>if kv.1=k then (kv.1,y) else kv) (vs.map fun kv=>if kv.1=k then (kv.1,u) else kv):=by
 unfold KV at r ⊢
 induction r with
 | nil=>exact .nil
 | @cons p q ps qs h t ih=>
  rw[zcz4,zcz4]
  refine .cons ?_ ih
  obtain⟨h1,h2⟩:=h
  by_cases e:p.1=k
  ·rw[if_pos e,if_pos (h1.symm.trans e)];exact⟨h1,ry⟩
  ·rw[if_neg e,if_neg (fun z=>e (h1.trans z))];exact⟨h1,h2⟩
theorem KV.put{kvs:List (κ×V)}{vs:List (κ×Value)}(r:KV kvs vs)(k:κ){y:V}(ry:RelV y u):KV (putK kvs k y) (stored vs k u):=by
 unfold putK stored
 rw[r.any k]
 by_cases e:(vs.any fun kv=>decide (kv.1=k))=true
 ·rw[if_pos e,if_pos e];exact r.repl k ry
 ·rw[if_neg e,if_neg e];exact Paired.snoc r ⟨rfl,ry⟩
theorem KV.length{kvs:List (κ×V)}{vs:List (κ×Value)}(r:KV kvs vs):kvs.length=vs.length:=Paired.length r
end
theorem kV_is{P:Program}{w:World}{k:Key}(r:RelV (kV k) u):(zi7 P w).is k u=true:=by
 cases k with
 | inl i=>obtain⟨t,e⟩:=(show ∃ t,u=Value.int i t from r);subst e;exact zbc0 P w i t
 | inr x=>obtain⟨t,e⟩:=(show ∃ t,u=Value.str x t from r);subst e;exact zbd3 P w x t
theorem zav5{P:Program}{w:World}:∀ {ks:List Key}{us:List Value},Vals (ks.map kV) us->ItemsAre (zi7 P w) ks us
 | [],_,r=>by rw[List.map_nil] at r;cases r;exact .nil
 | k :: ks,_,r=>by
  rw[zcz4] at r
  cases r with
  | cons h t=>exact .cons (kV_is h) (zav5 t)
noncomputable abbrev KT(H:Hp):List (List Key×V)->List (List Key×Addr×Value)->Prop:=Paired fun p q=>p.1=q.1/\H q.2.1=some (.tup (p.1.map kV))/\RelV p.2 q.2.2
theorem KT.val{kvs:List (List Key×V)}{xs:List (List Key×Addr×Value)}(r:KT H kvs xs)(k:List Key):RelO (valV kvs k) ((atKey xs k).map (·.2)):=by
 induction r with
 | nil=>exact True.intro
 | @cons p q ps qs h t ih=>
  obtain⟨h1,_,h2⟩:=h
  by_cases e:p.1=k
  ·have e':q.1=k:=h1.symm.trans e
   have b:atKey (q :: qs) k=some q.2:=by simp[atKey,zdc4,e']
   rw[zab1 e,b];exact h2
  ·have e':¬ q.1=k:=fun z=>e (h1.trans z)
   have b:atKey (q :: qs) k=atKey qs k:=by simp[atKey,zdc4,e']
   rw[zab7 e,b];exact ih
theorem KT.repl{kvs:List (List Key×V)}{xs:List (List Key×Addr×Value)}(r:KT H kvs xs)(k:List Key){y:V}(ry:RelV y u) :
  KT H (kvs.map fun kv=>if kv.1=k then (kv.1,y) else kv) (xs.map (putAt k u)):=by
 induction r with
 | nil=>exact .nil
 | @cons p q ps qs h t ih=>
  rw[zcz4,zcz4]
  refine .cons ?_ ih
  obtain⟨h1,h2,h3⟩:=h
  unfold putAt
  by_cases e:p.1=k
  ·rw[if_pos e,if_pos (h1.symm.trans e)];exact⟨h1,h2,ry⟩
  ·rw[if_neg e,if_neg (fun z=>e (h1.trans z))];exact⟨h1,h2,h3⟩
theorem KT.put{kvs:List (List Key×V)}{xs:List (List Key×Addr×Value)}(r:KT H kvs xs)(k:List Key){b:Addr}{y:V}(hb:H b=some (.tup (k.map kV)))(ry:RelV y u) :
  KT H (putK kvs k y) (storedH xs k b u):=by
 have e:(kvs.any fun kv=>decide (kv.1=k))=(atKey xs k).isSome:=by
  rw[zbh1,(r.val k).isSome_eq,Option.isSome_map]
 unfold putK storedH
 rw[e]
 by_cases q:(atKey xs k).isSome=true
 ·rw[if_pos q,if_pos q];exact r.repl k ry
 ·rw[if_neg q,if_neg q];exact Paired.snoc r ⟨rfl,hb,ry⟩
theorem KT.keeps{kvs:List (List Key×V)}{xs:List (List Key×Addr×Value)}(r:KT H kvs xs)(ht:∀ b ys,H b=some (.tup ys)->H' b=some (.tup ys)):KT H' kvs xs:=
 Paired.mapP r fun _ _ z=>⟨z.1,ht _ _ z.2.1,z.2.2⟩
section
variable {P:Program}{w:World}{H:Hp}{h:Heap}{a:Addr}
theorem rd_of{u:HO}(ok:HOk P w H h)(e:Rd H a u):zi5 P w H h a u:=e.ok ok
theorem zbq4{kvs:List (Key×V)}(ok:HOk P w H h)(e:Rd H a (.dK kvs)):kvs.length<=sizeLine/\(a==sysModules)=false/\∃ vs,KV kvs vs/\h.DictOf (zi7 P w) a vs:=
 show zi5 P w H h a (.dK kvs) from rd_of ok e
theorem zbm2{kvs:List (Key×V)}(ok:HOk P w H h)(e:H a=some (.dK kvs)):kvs.length<=sizeLine/\(a==sysModules)=false/\∃ vs,KV kvs vs/\h.DictOf (zi7 P w) a vs:=zbq4 ok (.inl e)
theorem zbh9{ks:List Key}(ok:HOk P w H h)(e:H a=some (.tup (ks.map kV))):(tupleKind (zi7 P w)).is h ks a:=by
 obtain⟨_,its,r,o,h1,h2,n,h3⟩:=(show zi5 P w H h a (.tup (ks.map kV)) from ok a _ e)
 exact⟨o,its.toArray,n,h1,h2,h3,by simpa using zav5 r⟩
theorem zby3{kvs:List (List Key×V)}(ok:HOk P w H h)(e:Rd H a (.dT kvs)):kvs.length<=sizeLine/\(a==sysModules)=false /\
  ∃ xs,KT H kvs xs/\h.DictOfH (tupleKind (zi7 P w)) a xs:=by
 obtain⟨z,y,xs,r,o,es,ep,h1,h2,h3,h4,h5⟩:=(show zi5 P w H h a (.dT kvs) from rd_of ok e)
 refine⟨z,y,xs,r,o,es,ep,h1,h2,h3,h4,fun x hx=>?_,h5⟩
 have all:∀ {l:List (List Key×V)}{m:List (List Key×Addr×Value)},KT H l m->∀ x∈m,(tupleKind (zi7 P w)).is h x.1 x.2.1:=by
  intro l m q
  induction q with
  | nil=>intro x hx;exact nomatch hx
  | @cons p q ps qs hq t ih=>
   intro x hx
   rcases zcw8.mp hx with e|hx
   ·subst e
    exact zbh9 ok (by rw[← hq.1];exact hq.2.1)
   ·exact ih x hx
 exact all r x hx
theorem dt_of{kvs:List (List Key×V)}(ok:HOk P w H h)(e:H a=some (.dT kvs)):kvs.length<=sizeLine/\(a==sysModules)=false /\
  ∃ xs,KT H kvs xs/\h.DictOfH (tupleKind (zi7 P w)) a xs:=zby3 ok (.inl e)
end
noncomputable def DGet(H:Hp)(a:Addr)(y:V)(r:Option V):Prop:=
 (∃ kvs k,Rd H a (.dK kvs)/\y=kV k/\r=valV kvs k)∨∃ kvs k b,Rd H a (.dT kvs)/\y=.ref b/\H b=some (.tup (k.map kV))/\r=valV kvs k
noncomputable def DPut(H:Hp)(a:Addr)(y v:V)(H':Hp):Prop:=
 (∃ kvs k,H a=some (.dK kvs)/\y=kV k/\kvs.length<sizeLine/\H'=upd H a (.dK (putK kvs k v))) ∨
 ∃ kvs k b,H a=some (.dT kvs)/\y=.ref b/\H b=some (.tup (k.map kV))/\kvs.length<sizeLine/\H'=upd H a (.dT (putK kvs k v))
theorem DGet.k{H:Hp}{a:Addr}{kvs:List (Key×V)}{k:Key}(e:H a=some (.dK kvs)):DGet H a (kV k) (valV kvs k):=.inl ⟨kvs,k,.inl e,rfl,rfl⟩
theorem DGet.t{a b:Addr}{kvs:List (List Key×V)}{k:List Key}(e:H a=some (.dT kvs))(eb:H b=some (.tup (k.map kV))):DGet H a (.ref b) (valV kvs k):=.inr ⟨kvs,k,b,.inl e,rfl,eb,rfl⟩
theorem DPut.k{H:Hp}{a:Addr}{kvs:List (Key×V)}{k:Key}{v:V}(e:H a=some (.dK kvs))(hl:kvs.length<sizeLine):DPut H a (kV k) v (upd H a (.dK (putK kvs k v))):=.inl ⟨kvs,k,e,rfl,hl,rfl⟩
theorem DPut.t{a b:Addr}{kvs:List (List Key×V)}{k:List Key}{v:V}(e:H a=some (.dT kvs))(eb:H b=some (.tup (k.map kV)))(hl:kvs.length<sizeLine) :
  DPut H a (.ref b) v (upd H a (.dT (putK kvs k v))):=.inr ⟨kvs,k,b,e,rfl,eb,hl,rfl⟩
section
variable {X:Cx}{pins:List (Addr×Obj)}{σ:St}{H:Hp}{s:Shared}{a:Addr}{y v:V}{u r:Value}{o:Option V}{A:Around}{E:Value->Shared->Prop}
theorem Inv.big(I:Inv X pins σ H s):sysModules<s.heap.objs.size:=by
 have h:zdf9<s.heap.objs.size:=(I.mod.glob.keeps I.bk).lt
 exact Nat.lt_trans (by decide) h
theorem zbs1(hu:A.units+1<cLine)(I:Inv X pins σ H s)(g:DGet H a y (some v))(ry:RelV y u)(h:∀ w' s',Inv X pins σ H s'->RelV v w'->Q w' s') :
  wpAny (model X.prog X.w) A (getItem (.ref a) u) Q E s:=by
 rcases g with ⟨kvs,k,e,ey,l⟩|⟨kvs,k,b,e,ey,eb,l⟩
 ·subst ey
  obtain⟨z,hd,vs,rel,dd⟩:=zbq4 I.hok e
  obtain⟨w',hw,rw'⟩:=RelO.some_of (v:=v) (o:=valueAt vs k) (by rw[l];exact rel.val k)
  exact wpAny_getItem_of (kV_is ry) dd.mapOf hw (h w' _ (I.tok _) rw')
 ·subst ey
  cases (show u=Value.ref b from ry)
  obtain⟨z,hd,xs,rel,dd⟩:=zby3 I.hok e
  obtain⟨w',hw,rw'⟩:=RelO.some_of (v:=v) (o:=(atKey xs k).map (·.2)) (by rw[l];exact rel.val k)
  obtain⟨p,hp,hp2⟩:=zcw4.mp hw
  refine wpAny_getItem_heap (tupleKind_room_in1 hu) (zbh9 I.hok eb) dd hp ?_
  rw[hp2]
  exact h w' _ (I.tok _) rw'
theorem zbs3{t':Nat}{ob:HO}(I:Inv X pins σ H s)(mu:Mut (H a))(hs:Heap.SameBut a s.heap h')(he:∃ q,h'.get? a=some q)(new:zi5 X.prog X.w (upd H a ob) h' a ob) :
  Inv X pins σ (upd H a ob) { s with heap:=h',toks:=t' }:=
 I.write (x:=a) (e:=a) mu (.inl rfl) (fun b q hb z=>(hs.2 b hb).trans z) he new
theorem dk_new{P:Program}{w:World}{kvs:List (Key×V)}{vs:List (Key×Value)}(z:kvs.length<=sizeLine)(hd:(a==sysModules)=false)(rel:KV kvs vs)(dd:h'.DictOf (zi7 P w) a vs) :
  zi5 P w H' h' a (.dK kvs):=⟨z,hd,vs,rel,dd⟩
theorem zbr9{Q:Unit->Shared->Prop}(hu:A.units+1<cLine)(I:Inv X pins σ H s)(g:DPut H a y v H')(ry:RelV y u)(rv:RelV v r)(h:∀ s',Inv X pins σ H' s'->Q () s') :
  wpAny (model X.prog X.w) A (setItem (.ref a) u r) Q E s:=by
 rcases g with ⟨kvs,k,e,ey,l,eH⟩|⟨kvs,k,b,e,ey,eb,l,eH⟩
 ·subst ey eH
  obtain⟨z,hd,vs,rel,dd⟩:=zbm2 I.hok e
  have hz:vs.length<=sizeLine:=by rw[← rel.length];exact z
  have hl:(putK kvs k v).length<=sizeLine:=by have:=zah3 kvs k v;omega
  refine wpAny_setItem_pairs (hsz:=hz) (kV_is ry) dd fun h' dd' hs=>h _ ?_
  have he:∃ q,h'.get? a=some q:=let ⟨q,_,_,hq,_⟩:=dd';⟨q,hq⟩
  exact zbs3 I (by rw[e];exact True.intro) hs he (dk_new hl hd (rel.put k rv) dd')
 ·subst ey eH
  cases (show u=Value.ref b from ry)
  obtain⟨z,hd,xs,rel,dd⟩:=dt_of I.hok e
  have hz:xs.length<=sizeLine:=by rw[← Paired.length rel];exact z
  have hl:(putK kvs k v).length<=sizeLine:=by have:=zah3 kvs k v;omega
  refine wpAny_setItem_heap (hsz:=hz) (tupleKind_room_in1 hu) (zbh9 I.hok eb) dd fun h' dd' hs=>h _ ?_
  obtain⟨q,es,ep,hq,h2,h3,h4,_,h5⟩:=dd'
  refine zbs3 I (by rw[e];exact True.intro) hs ⟨q,hq⟩ ⟨hl,hd,_,(rel.put k eb rv).keeps fun c ys ec=>?_,q,es,ep,hq,h2,h3,h4,h5⟩
  rw[zd9 (ne_of ec e (fun z=>nomatch z))]
  exact ec
end
noncomputable def NoSl(i:Expr):Prop:=∀ ov iv,subscripted i false ov iv=operate [ov,iv] (getItem ov iv)
theorem zcn4{prog:Program}{w:World}{A:Around}{E:Value->Shared->Prop}{env:Env}{value slice:Expr}{T id:String}(hl:typeLookup (.type T) "__getitem__"=pure (some (.builtin id)))(hs:NoSl slice)(h:wpAny (model prog w) A (eval value env) (fun o s₁=>wpAny (model prog w) A (eval slice env) (fun i s₂=>s₂.TypeIs o T/\wpAny (model prog w) A (getItem o i) Q E s₂) E s₁) E s) :
  wpAny (model prog w) A (eval (.Subscript value slice pos) env) Q E s:=by
 refine Subscript_ (wpAny_mono h (fun o s₁ h₁=>wpAny_mono h₁ (fun i s₂ h₂=>?_) fun _ _ x=>x) fun _ _ x=>x)
 obtain⟨hT,h₂⟩:=h₂
 unfold subscriptTail
 refine zdf3 ?_
 rw[getitemInPython_of_ne hT.not_modules]
 refine zdf3 (wpAny_specialOf hT hl ?_)
 have fin:wpAny (model prog w) A (subscripted slice false o i) (fun r s₃=>wpAny (model prog w) A (letTemporaryGo value o r >>= fun _=>pure r) Q E s₃) E s₂:=by
  rw[hs o i]
  exact wpAny_operating (wpAny_mono h₂ (fun r s₃ h₃=>zdf3 (wpAny_letTemporaryGo (zdf4 h₃))) fun _ _ x=>x)
 first
  | exact zdf4 (zdf3 fin)
  | exact zdf3 (zdf4 (zdf3 fin))
  | exact zdf3 fin
theorem zbc6{X:Cx}{pins:List (Addr×Obj)}{σ:St}{a:Addr}{y:V}{o:Option V}(I:Inv X pins σ H s)(g:DGet H a y o):s.TypeIs (.ref a) "dict":=by
 rcases g with ⟨kvs,k,e,_,_⟩|⟨kvs,k,b,e,_,_,_⟩
 ·obtain⟨_,_,vs,_,dd⟩:=zbq4 I.hok e
  exact dd.typeIs
 ·obtain⟨_,_,xs,_,dd⟩:=zby3 I.hok e
  exact dd.typeIs
noncomputable def tDGet(td ty:TE):TE:=fun σ H Q=>td σ H fun x H1=>ty σ H1 fun y H2=>∃ a v,x=.ref a/\DGet H2 a y (some v)/\Q v H2
noncomputable def sDPut(td ty tv:TE):TS:=fun D σ H=>tv σ H fun v H1=>td σ H1 fun x H2=>ty σ H2 fun y H3=>∃ a H4,x=.ref a/\DPut H3 a y v H4/\D.nx σ H4
section
variable {X:Cx}{o i e value:Expr}{pos pos' tpos:Pos}{td ty tv:TE}
theorem zcn5(hu:X.A.units+1<cLine)(ho:PE X o td)(hi:PE X i ty)(hs:NoSl i):PE X (.Subscript o i pos) (tDGet td ty):=by
 intro pins s σ H Q I h
 refine zcn4 PySem.F.slot_dict_getitem.lookup hs (thn (ho pins s σ H _ I h) fun u s1 ⟨x,H1,I1,rx,q1⟩=>thn (hi pins s1 σ H1 _ I1 q1) fun iv s2 ⟨y,H2,I2,ry,a,v,ex,g,q2⟩=>?_)
 subst ex
 obtain rfl:u=Value.ref a:=rx
 exact⟨zbc6 I2 g,zbs1 hu I2 g ry fun w' s3 I3 rw'=>⟨v,H2,I3,rw',q2⟩⟩
theorem zck7(hu:X.A.units+1<cLine)(ho:PE X o td)(hi:PE X i ty)(hv:PE X value tv)(hs:swapsWith value (some (.Subscript o i pos')) pos.line X.env=pure false) :
  PS X (.Assign [.Subscript o i pos'] value pos) (sDPut td ty tv):=by
 intro pins s σ H D I h
 refine wpAny_Assign_Subscript (thn (hv pins s σ H _ I h) fun r s1 ⟨v,H1,I1,rv,q1⟩=>thn (ho pins s1 σ H1 _ I1 q1) fun u s2 ⟨x,H2,I2,rx,q2⟩=>thn (hi pins s2 σ H2 _ I2 q2) fun iv s3 ⟨y,H3,I3,ry,a,H4,ex,g,q3⟩=>?_) hs
 subst ex
 obtain rfl:u=Value.ref a:=rx
 exact zbr9 hu I3 g ry rv fun s4 I4=>⟨σ,H4,I4,q3⟩
end
theorem zcc9{P:Program}{w:World}(h:Heap)(hb:sysModules<h.objs.size):zi5 P w H (h.push { cls:=.type "dict",data:=.dict #[] }) h.objs.size (.dK []):=
 ⟨zcy3 _,beq_eq_false_iff_ne.mpr (Ne.symm (zcz2 hb)),[],.nil,Heap.DictOf.new h⟩
theorem zce3{P:Program}{w:World}(h:Heap)(hb:sysModules<h.objs.size):zi5 P w H (h.push { cls:=.type "dict",data:=.dict #[] }) h.objs.size (.dT []):=
 ⟨zcy3 _,beq_eq_false_iff_ne.mpr (Ne.symm (zcz2 hb)),[],.nil,_,#[],0,zcy8 _ rfl,⟨rfl,rfl,rfl⟩,rfl,rfl,List.nodup_nil⟩
noncomputable def tDNewK:TE:=fun _ H Q=>∀ p,H p=none->Q (.ref p) (upd H p (.dK []))
noncomputable def tDNewT:TE:=fun _ H Q=>∀ p,H p=none->Q (.ref p) (upd H p (.dT []))
section
variable {X:Cx}{pos:Pos}
theorem zcb5:PE X (.Dict [] [] pos) tDNewK:=fun pins s σ H Q I h=>
 wpAny_Dict_empty ⟨.ref s.heap.objs.size,_,I.laid (a:=s.heap.objs.size) (o:=.dK []) (t':=s.toks) (fun _ _ q=>zcw6 _ q) (zcx3 _) (zcc9 s.heap I.big),rfl,h _ (I.hok.fresh (zcx3 _))⟩
theorem zcc1:PE X (.Dict [] [] pos) tDNewT:=fun pins s σ H Q I h=>
 wpAny_Dict_empty ⟨.ref s.heap.objs.size,_,I.laid (a:=s.heap.objs.size) (o:=.dT []) (t':=s.toks) (fun _ _ q=>zcw6 _ q) (zcx3 _) (zce3 s.heap I.big),rfl,h _ (I.hok.fresh (zcx3 _))⟩
end
structure M1(X:Cx)(o:Expr)(m:Str)(apos:Pos)(e:Expr)(cpos:Pos):Prop where
 base:attributeBase o m X.env (eval o X.env)=eval o X.env
 few:((backTo cpos (starEach [e] X.env)).all (fun x=>!x.1)&&(backToKw cpos (keywordEach [] X.env)).all (fun x=>x.1.isSome)
  && decide (([e]:List Expr).length+([]:List Keyword).length+(if ([]:List Keyword).isEmpty then 0 else 1)<30))=true
 line:(apos.endLine==cpos.line)=true
 trees:backTo cpos (starEach [e] X.env)=[(false,eval e X.env)]
structure M2(X:Cx)(o:Expr)(m:Str)(apos:Pos)(e f:Expr)(cpos:Pos):Prop where
 base:attributeBase o m X.env (eval o X.env)=eval o X.env
 few:((backTo cpos (starEach [e,f] X.env)).all (fun x=>!x.1)&&(backToKw cpos (keywordEach [] X.env)).all (fun x=>x.1.isSome)
  && decide (([e,f]:List Expr).length+([]:List Keyword).length+(if ([]:List Keyword).isEmpty then 0 else 1)<30))=true
 line:(apos.endLine==cpos.line)=true
 trees:backTo cpos (starEach [e,f] X.env)=[(false,eval e X.env),(false,eval f X.env)]
noncomputable def IsD(H:Hp)(a:Addr):Prop:=(∃ kvs,Rd H a (.dK kvs))∨∃ kvs,Rd H a (.dT kvs)
theorem isD_at{X:Cx}{pins:List (Addr×Obj)}{σ:St}{a:Addr}(I:Inv X pins σ H s)(d:IsD H a) :
  s.TypeIs (.ref a) "dict"/\(∀ b,Value.ref a=.ref b->∃ ob,s.heap.get? b=some ob/\ob.dict=none)/\(a==sysModules)=false:=by
 rcases d with ⟨kvs,e⟩|⟨kvs,e⟩
 ·obtain⟨_,hd,vs,_,dd⟩:=zbq4 I.hok e
  refine⟨dd.typeIs,fun b q=>?_,hd⟩
  cases q
  obtain⟨ob,_,_,h1,h2,_⟩:=dd
  exact⟨ob,h1,h2.2.1⟩
 ·obtain⟨_,hd,xs,_,dd⟩:=zby3 I.hok e
  refine⟨dd.typeIs,fun b q=>?_,hd⟩
  cases q
  obtain⟨ob,_,_,h1,h2,_⟩:=dd
  exact⟨ob,h1,h2.2.1⟩
section
variable {X:Cx}{pins:List (Addr×Obj)}{σ:St}{H:Hp}{s:Shared}{a:Addr}{y d:V}{u r:Value}{o:Option V}{A:Around}{E:Value->Shared->Prop}
theorem d_get2(hu:A.units+1<cLine)(I:Inv X pins σ H s)(g:DGet H a y o)(ry:RelV y u)(rd:RelV d r)(h:∀ w' s',Inv X pins σ H s'->RelV (o.getD d) w'->Q w' s') :
  wpAny (model X.prog X.w) A (call (.builtin "dict.get") [.ref a,u,r]) Q E s:=by
 rcases g with ⟨kvs,k,e,ey,l⟩|⟨kvs,k,b,e,ey,eb,l⟩
 ·subst ey
  obtain⟨z,hd,vs,rel,dd⟩:=zbq4 I.hok e
  refine call_meetsIn PySem.F.slot_dict_get dd.typeIs PySem.F.entry_dict_get (PySem.F.args_dict_get_3 _ _ _) (meets_dict_get_default (zi7 X.prog X.w) a (kV_is ry) hd r) ⟨_,dd.mapOf,h _ _ (I.tok _) ?_⟩
  rw[l]
  exact (rel.val k).getD rd
 ·subst ey
  cases (show u=Value.ref b from ry)
  obtain⟨z,hd,xs,rel,dd⟩:=zby3 I.hok e
  refine call_meetsIn PySem.F.slot_dict_get dd.typeIs PySem.F.entry_dict_get (PySem.F.args_dict_get_3 _ _ _) (meetsH_dict_get_default (tupleKind (zi7 X.prog X.w)) a b hd r) ⟨tupleKind_room_in1 hu,k,xs,zbh9 I.hok eb,dd,h _ _ (I.tok _) ?_⟩
  rw[l]
  exact (rel.val k).getD rd
end
noncomputable def zbw5(td ty tx:TE):TE:=fun σ H Q=>td σ H fun x H1=>∃ a,x=.ref a/\IsD H1 a/\ty σ H1 fun y H2=>tx σ H2 fun z H3=>∃ o,DGet H3 a y o/\Q (o.getD z) H3
section
variable {X:Cx}{o e f:Expr}{apos cpos:Pos}{td ty tx:TE}
theorem zcb6(hu:X.A.units+1<cLine)(ho:PE X o td)(he:PE X e ty)(hf:PE X f tx)(m:M2 X o "get" apos e f cpos):PE X (.Call (.Attribute o "get" apos) [e,f] [] cpos) (zbw5 td ty tx):=by
 intro pins s σ H Q I h
 refine wpAny_Call_method m.base m.few m.line PySem.F.plainAttrs_dict PySem.F.slot_dict_get PySem.F.type_dict_get (thn (ho pins s σ H _ I h) fun u s1 ⟨x,H1,I1,rx,a,ex,d,q1⟩=>?_)
 subst ex
 obtain rfl:u=Value.ref a:=rx
 obtain⟨t1,t2,_⟩:=isD_at I1 d
 refine⟨t1,t2,?_⟩
 rw[m.trees]
 refine Calls.callWith_builtin rfl (Calls.evalArgs_plain (Calls.spliced_cons (thn (he pins s1 σ H1 _ I1 q1) fun iv s2 ⟨y,H2,I2,ry,q2⟩=>
  Calls.spliced_cons (thn (hf pins s2 σ H2 _ I2 q2) fun fv s3 ⟨z,H3,I3,rz,ov,g,q3⟩=>Calls.spliced_nil ?_))))
 exact d_get2 hu I3 g ry rz fun w' s4 I4 rw'=>⟨_,H3,I4,rw',q3⟩
end
set_option maxHeartbeats 2000000
noncomputable def RawD(h:Heap)(d:Addr)(es:Array DictEntry)(ep:Nat):Prop:=∃ o,h.get? d=some o/\o.ExactDict/\o.data=.dict es ep
theorem RawD.is{d:Addr}{es:Array DictEntry}(x:RawD s.heap d es ep):s.TypeIs (.ref d) "dict":=let ⟨o,a,b,_⟩:=x;⟨o,a,b.1⟩
theorem RawD.lt{d:Addr}{es:Array DictEntry}(x:RawD h d es ep):d<h.objs.size:=let ⟨_,a,_⟩:=x;zcx7 a
theorem RawD.to{d:Addr}{es:Array DictEntry}(x:RawD h d es ep)(k:∀ o,h.get? d=some o->h'.get? d=some o):RawD h' d es ep:=let ⟨o,a,r⟩:=x;⟨o,k _ a,r⟩
section
variable {prog:Program}{w:World}{A:Around}{E:Value->Shared->Prop}{s:Shared}{d it:Addr}{es:Array DictEntry}{ep:Nat}
theorem zcf2(lo:(d==sysModules)=false)(x:RawD s.heap d es ep)(q:Q (.ref s.heap.objs.size) { s with heap:=s.heap.push { cls:=.type "dict_keyiterator",data:=.fields #[.ref d,.int 0 0,.int es.size 0,.int ep 0] } }) :
  wpAny (model prog w) A (pyIter (.ref d)) Q E s:=by
 obtain⟨o,x1,x2,x3⟩:=id x
 have tt:=x.is
 refine wpAny_pyIter_slot tt F.slot_dict_iter (wpAny_call_entry F.slot_dict_iter tt F.entry_dict_iter ?_ (F.args_dict_iter_1 _))
 unfold Builtin.«dict.__iter__» Builtin.Dict.dictSlotNone
 refine zdf3 (zdf3 (wpAny_notOrdered_dict tt ?_))
 show wpAny (model prog w) _ (pure (Value.ref d)) _ _ s
 refine zdf4 (?_:_)
 show wpAny (model prog w) _ (Builtin.Dict.showsAll d >>= _) _ _ s
 unfold Builtin.Dict.showsAll
 rw[if_neg (fun z=>zcw5 (lo.symm.trans z))]
 refine zdf3 (zdf4 (zdf3 (wpAny_dictEntries x1 x3 (zdf3 (wpAny_dictEpoch x1 x3 ?_)))))
 exact zdf3 (wpAny_newObj_type (zdf4 ⟨_,rfl,"dict_keyiterator",_,⟨_,zcy8 _ rfl,rfl⟩,F.slot_dict_keyiterator_next.lookup,by simpa [rawInt] using q⟩))
theorem zce7{Q:Option Value->Shared->Prop}(y:s.heap.IsKeyIter it d i es.size ep)(x:RawD s.heap d es ep)(hi:i<es.size)(q:∀ h',h'.IsKeyIter it d (i+1) es.size ep->Heap.SameBut it s.heap h'->Q (some es[i].key) { s with heap:=h' }) :
  wpAny (model prog w) A (pyNext (.ref it)) Q E s:=by
 obtain⟨o,y1,y2,y3⟩:=id y
 obtain⟨od,x1,x2,x3⟩:=id x
 have own:Builtin.Dict_items.ownsTuple "dict_keyiterator"=false:=by decide
 unfold pyNext
 refine zdf3 (wpAny_attempt (wpAny_callSpecial?_slot (name:=Str.ofString "__next__") y.typeIs F.slot_dict_keyiterator_next (wpAny_call_entry F.slot_dict_keyiterator_next y.typeIs F.entry_dict_keyiterator_next ?_ (F.args_dict_keyiterator_next_1 _))))
 refine zdf3 (zdf4 (zdf3 (zdf3 ?_)))
 first|refine zdf3 (wpAny_typeNameOfWhole_keyiter y.typeIs (zdf4 ?_))|refine zdf3 (wpAny_typeNameOf_keyiter y.typeIs (zdf4 ?_))
 refine zdf3 (wpAny_fieldsOf y1 y3 ?_)
 simp only[own,zdd1,if_false]
 show wpAny (model prog w) _ (if (Value.ref d==Value.none)=true then _ else _) _ _ s
 rw[if_neg (show ¬ (Value.ref d==Value.none)=true from zcw5)]
 refine zdf3 (zdf4 (zdf3 (wpAny_dictEntries x1 x3 ?_)))
 rw[if_neg (by simp)]
 refine zdf3 (zdf4 (zdf3 (wpAny_dictEpoch x1 x3 ?_)))
 rw[if_neg (by simp)]
 refine zdf4 (?_:_)
 simp only[show ¬ ((i:Int)<0) from by omega,if_false,zdd7,zdb6 hi]
 refine zdf3 (?_:_)
 first|refine zdf3 (wpAny_typeNameOfWhole_keyiter y.typeIs (zdf4 ?_))|refine zdf3 (wpAny_typeNameOf_keyiter y.typeIs (zdf4 ?_))
 refine zdf3 (wpAny_isOneOf_keyiter y.typeIs ?_)
 show wpAny (model prog w) _ (setField (.ref it) 1 (rawInt ((i:Int)+1)) >>= _) _ _ s
 refine zdf3 (wpAny_setField y1 y3 (by simp) ?_)
 have y':(s.heap.update it (Obj.mapFields (·.setIfInBounds 1 (rawInt ((i:Int)+1))))).IsKeyIter it d (i+1) es.size ep:=
  ⟨_,Heap.get?_update_self _ y1 (Obj.isFreed_of_fields (Obj.data_mapFields y3 _)),(Obj.cls_mapFields ..).trans y2,by rw[Obj.data_mapFields y3];simp[rawInt]⟩
 refine zdf3 (zdf8 (zdf3 (wpAny_isOneOf_keyiter (s:={ s with heap:=s.heap.update it (Obj.mapFields (·.setIfInBounds 1 (rawInt ((i:Int)+1)))) }) y'.typeIs ?_)))
 show wpAny (model prog w) _ (pure es[i].key) _ _ _
 exact zdf4 (zdf4 ⟨_,rfl,zdf4 (q _ y' (Heap.SameBut.update ..))⟩)
theorem zco8{Q:Option Value->Shared->Prop}(hh:A.handled=none)(y:s.heap.IsKeyIter it d i es.size ep)(x:RawD s.heap d es ep)(hi:es.size<=i)(q:∀ h',Heap.ExtBut it s.heap h'->Q none { s with heap:=h' }) :
  wpAny (model prog w) A (pyNext (.ref it)) Q E s:=by
 obtain⟨o,y1,y2,y3⟩:=id y
 obtain⟨od,x1,x2,x3⟩:=id x
 have own:Builtin.Dict_items.ownsTuple "dict_keyiterator"=false:=by decide
 unfold pyNext
 refine zdf3 (wpAny_attempt (wpAny_callSpecial?_slot (name:=Str.ofString "__next__") y.typeIs F.slot_dict_keyiterator_next (wpAny_call_entry F.slot_dict_keyiterator_next y.typeIs F.entry_dict_keyiterator_next ?_ (F.args_dict_keyiterator_next_1 _))))
 refine zdf3 (zdf4 (zdf3 (zdf3 ?_)))
 first|refine zdf3 (wpAny_typeNameOfWhole_keyiter y.typeIs (zdf4 ?_))|refine zdf3 (wpAny_typeNameOf_keyiter y.typeIs (zdf4 ?_))
 refine zdf3 (wpAny_fieldsOf y1 y3 ?_)
 simp only[own,zdd1,if_false]
 show wpAny (model prog w) _ (if (Value.ref d==Value.none)=true then _ else _) _ _ s
 rw[if_neg (show ¬ (Value.ref d==Value.none)=true from zcw5)]
 refine zdf3 (zdf4 (zdf3 (wpAny_dictEntries x1 x3 ?_)))
 rw[if_neg (by simp)]
 refine zdf3 (zdf4 (zdf3 (wpAny_dictEpoch x1 x3 ?_)))
 rw[if_neg (by simp)]
 refine zdf4 (?_:_)
 simp only[show ¬ ((i:Int)<0) from by omega,if_false,zdd7,Array.getElem?_eq_none hi]
 refine zdf3 (?_:_)
 first|refine zdf3 (wpAny_typeNameOfWhole_keyiter y.typeIs (zdf4 ?_))|refine zdf3 (wpAny_typeNameOf_keyiter y.typeIs (zdf4 ?_))
 show wpAny (model prog w) _ (setField (.ref it) 0 .none >>= _) _ _ s
 refine zdf3 (wpAny_setField y1 y3 (by simp) ?_)
 show wpAny (model prog w) _ (newExc (.type "StopIteration") [] >>= _) _ _ _
 refine zdf3 (?_:_)
 unfold newExc newTuple
 refine zdf3 (wpAny_newObj_type ?_ (zcy3 _))
 refine zdf3 (m:=firstArgMember _ _) (wpAny_of_eq (a:=Value.none) (by first|rfl|(unfold firstArgMember;rfl)) ?_)
 refine wpAny_newObj_type ?_ (by size_fits)
 unfold raiseNew
 refine zdf3 (wpAny_handled ?_)
 have hn:A.in1.handled=none:=hh
 rw[hn]
 refine zdf3 (zdf4 (wpAny_throw (?_:_)))
 refine zdf3 (wpAny_isInstance (b:=true) (T:="StopIteration") ⟨_,zcy8 _ rfl,rfl⟩ isSubtype_stop ?_)
 exact zdf4 (q _ (((Heap.SameBut.update ..).extBut.push _).push _))
theorem zcc6(hh:A.handled=none)(I:Addr)(ne:d≠I) :
  Walks prog w A I [I,d] [I] es.size (fun i v=>∃ e,es[i]?=some e/\v=e.key) (fun i h=>h.IsKeyIter I d i es.size ep/\RawD h d es ep) where
 sub:=by intro b z;simp at z;simp[z]
 frame:=fun i h h' st k=>⟨st.1.at (k I (by simp)),st.2.to (k d (by simp))⟩
 item:=fun i s Q E hi st q=>zce7 st.1 st.2 hi fun h' y' hs=>q _ h' s.toks ⟨es[i],by simp[hi],rfl⟩ ⟨y',st.2.to fun o e=>hs.extBut d o ne e⟩ fun b o hb e=>hs.extBut b o (fun z=>hb (by simp[z])) e
 done:=fun s Q E st q=>zco8 hh st.1 st.2 (zcx3 _) fun h' he=>q h' s.toks fun b o hb e=>he b o (fun z=>hb (by simp[z])) e
 self:=fun i s Q E st q=>wpAny_pyIter_keyiter st.1 q
theorem zbv4(lo:(d==sysModules)=false):PySem.W.KdlSrc prog w "dict" d d es.size (fun i v=>∃ e,es[i]?=some e/\v=e.key) (fun h=>RawD h d es ep) where
 type:=fun s x=>x.is
 there:=fun h x=>⟨x.lt,x.lt⟩
 keep:=fun h h' x k=>x.to fun o e=>k d (Or.inl rfl) o e
 notList:=rfl
 notTuple:=rfl
 hint:=fun A E s Q x q=>PySem.W.kdl_hint_dict x.is q
 iter:=fun A s hh x=>⟨_,_,(fun E Q q=>zcf2 lo x q),zcc6 hh _ (zcz2 x.lt),⟨⟨_,zcy8 _ rfl,rfl,rfl⟩,x.to fun o e=>zcw6 _ e⟩⟩
end
open PySem.W
section
variable {lt:Nat->Nat->Bool}{n:Nat}
noncomputable def KW{α:Type}(lt:Nat->Nat->Bool)(n:Nat)(Q:α->Prop):KasT α->Prop
 | .ret a=>Q a
 | .ask i j k=>i<n/\j<n/\KW lt n Q (k (lt i j))
theorem KW.bd{α β:Type}{f:α->KasT β}{Q:β->Prop}:∀ {t:KasT α},KW lt n (fun a=>KW lt n Q (f a)) t->KW lt n Q (t.bind f)
 | .ret _,h=>h
 | .ask _ _ k,⟨h1,h2,h3⟩=>⟨h1,h2,KW.bd (t:=k _) h3⟩
theorem KW.mono{α:Type}{Q Q':α->Prop}(hq:∀ a,Q a->Q' a):∀ {t:KasT α},KW lt n Q t->KW lt n Q' t
 | .ret a,h=>hq a h
 | .ask _ _ k,⟨h1,h2,h3⟩=>⟨h1,h2,KW.mono hq (t:=k _) h3⟩
theorem KW.wp{α:Type}{cmp:Nat->Nat->(Bool->Shared->Prop)->Shared->Prop}{s:Shared}{Q:α->Prop}(hc:∀ i j C,i<n->j<n->C (lt i j) s->cmp i j C s):∀ {t:KasT α},KW lt n Q t->t.kasWp cmp (fun a s'=>s'=s/\Q a) s
 | .ret a,h=>⟨rfl,h⟩
 | .ask i j k,⟨h1,h2,h3⟩=>hc i j _ h1 h2 (KW.wp hc (t:=k _) h3)
noncomputable def Pm(n:Nat)(p:Array Nat):Prop:=p.toList.Perm (List.range n)
theorem Pm.low{p:Array Nat}(h:Pm n p)(hn:0<n)(i:Nat):p.getD i 0<n:=by
 unfold Array.getD
 split
 ·rename_i hi
  exact zcy0.mp (h.mem_iff.mp (Array.getElem_mem_toList hi))
 ·exact hn
theorem Pm.rev{p:Array Nat}(h:Pm n p)(i j:Nat):Pm n (kas_rev p i j):=(Array.perm_iff_toList_perm.mp (mirror_perm p i j _)).trans h
theorem Pm.bub{p:Array Nat}(h:Pm n p)(i j:Nat):Pm n (bubble p i j):=(Array.perm_iff_toList_perm.mp (bubble_perm p i j)).trans h
end
section
variable {prog:Program}{w:World}{A:Around}{E:Value->Shared->Prop}{s:Shared}
noncomputable def midH(h:Heap)(a:Addr)(vs:List Value):Heap:=((h.update a (Obj.mapSeq fun _=>#[])).push (seqObj "tuple" vs.toArray 0)).push (seqObj "list" #[] 0)
theorem zbr3{a b:Addr}(ne:b≠a)(e:h.get? b=some o):(midH h a vs).get? b=some o:=
 zcw6 _ (zcw6 _ ((Heap.get?_update_ne _ _ _ _ ne).trans e))
theorem zx0{a b:Addr}{out:Array Value}(ne:b≠a)(e:h.get? b=some o):(sortedHeap h a vs out).get? b=some o:=
 (Heap.get?_update_ne _ _ _ _ ne).trans (zbr3 ne e)
theorem zbw4{a:Addr}{xs:List Value}{n:Nat}(e:h.get? a=some (seqObj "list" xs.toArray n)):∃ c,(midH h a vs).get? a=some (seqObj "list" #[] c)/\(h.update a (Obj.mapSeq fun _=>#[])).get? a=some (seqObj "list" #[] c):=
 ⟨_,zcw6 _ (zcw6 _ (get?_update_seq e fun _=>#[])),get?_update_seq e fun _=>#[]⟩
theorem zab2{a:Addr}{xs:List Value}{n:Nat}{out:Array Value}(e:h.get? a=some (seqObj "list" xs.toArray n)):∃ c,(sortedHeap h a vs out).get? a=some (seqObj "list" out c):=by
 obtain⟨c,h1,_⟩:=zbw4 (vs:=vs) e
 exact⟨_,get?_update_seq h1 fun _=>out⟩
theorem zby0{a:Addr}{n:Nat}{κ:SortKind}{lt:Nat->Nat->Bool}{R:Array Nat->Prop}{P:PySem.Fin->Shared->Prop}(ho:s.heap.get? a=some (seqObj "list" vs.toArray n))(h2:2<=vs.length)(h64:vs.length<64)(hk:∀ Q:SortKind->Shared->Prop,Q κ { s with heap:=midH s.heap a vs }->wpAny (model prog w) A (keyKind' vs.toArray) Q E { s with heap:=midH s.heap a vs })(hc:∀ i j (C:Bool->Shared->Prop),i<vs.length->j<vs.length->C (lt i j) { s with heap:=midH s.heap a vs }->wpAny (model prog w) A (keyLt' κ (vs.getD i Value.none) (vs.getD j Value.none)) C (fun _ _=>False) { s with heap:=midH s.heap a vs })(kw:KW lt vs.length R (kas_sort vs.length))(h:∀ p:Array Nat,p.size=vs.length->R p->P (.done (.ret .none)) { s with heap:=sortedHeap s.heap a vs (zde5 (p.toList.map fun i=>vs.getD i Value.none)) }) :
  wpAny (model prog w) A (Builtin.«list.sort» ⟨[.ref a],[]⟩) P E s:=by
 obtain⟨c,m1,m2⟩:=zbw4 (vs:=vs) ho
 have zs:¬ vs.toArray.size<2:=by rw[zcw9];omega
 have zl:vs.length<=sizeLine:=by rw[zdf5];omega
 rw[list_sort_plain]
 refine zdf3 (listItems_at ho rfl (zdf3 (listUpdate_at ho rfl ?_ (by rw[zcw9];exact zl) (zcy3 _))))
 refine zdf3 (seqEpoch_at m2 rfl (zdf3 (wpAny_newTuple ?_ zl)))
 refine zdf3 (wpAny_newList ?_ (zcy3 _))
 refine zdf8 (?_:_)
 show wpAny (model prog w) A _ P E { s with heap:=midH s.heap a vs }
 dsimp only
 rw[if_neg zs,if_neg zs]
 refine zdf3 (hk _ ?_)
 have run:=kat_run (prog:=prog) (w:=w) (A:=A) (E:=E) (κ:=κ) (ks:=vs) (vs:=vs) (s:={ s with heap:=midH s.heap a vs }) (Q:=fun st' s'=>s'={ s with heap:=midH s.heap a vs }/\∃ p:Array Nat,p.size=vs.length/\R p/\arrOf st'=p.map (kas_item (vs.toArray.zip vs.toArray))/\failedOf st'=none)
  rfl h2 h64 (fun p st' s' b1 b2 b3 b4=>⟨b4.1,p,b1,b4.2,b2,b3⟩) (KW.wp (cmp:=kas_ask prog w A κ vs) (fun i j C li lj hC=>hc i j C li lj hC) kw)
 refine zdf3 (wpAny_mono run ?_ fun _ _ e=>e)
 rintro⟨⟨⟩,st'⟩ s' ⟨rfl,p,pz,pR,har,hf⟩
 have out:=kat_snds rfl har
 dsimp only
 rw[out]
 refine zdf3 (seqEpoch_at m1 rfl (zdf3 (listUpdate_at m1 rfl ?_ (zcy3 _) ?_)))
 ·rw[hf]
  simp only[bne_self_eq_false,zdd1,if_false]
  exact zdf4 (h p pz pR)
 ·rw[zcw9,zcv8,zcx1,pz]
  omega
theorem zbf4{a:Addr}{n:Nat}{P:PySem.Fin->Shared->Prop}(ho:s.heap.get? a=some (seqObj "list" vs.toArray n))(h2:vs.length<2)(h:P (.done (.ret .none)) { s with heap:=sortedHeap s.heap a vs vs.toArray }):wpAny (model prog w) A (Builtin.«list.sort» ⟨[.ref a],[]⟩) P E s:=by
 obtain⟨c,m1,m2⟩:=zbw4 (vs:=vs) ho
 have zs:vs.toArray.size<2:=by rw[zcw9];omega
 have zl:vs.length<=sizeLine:=by rw[zdf5];omega
 rw[list_sort_plain]
 refine zdf3 (listItems_at ho rfl (zdf3 (listUpdate_at ho rfl ?_ (by rw[zcw9];exact zl) (zcy3 _))))
 refine zdf3 (seqEpoch_at m2 rfl (zdf3 (wpAny_newTuple ?_ zl)))
 refine zdf3 (wpAny_newList ?_ (zcy3 _))
 refine zdf8 (?_:_)
 show wpAny (model prog w) A _ P E { s with heap:=midH s.heap a vs }
 dsimp only
 rw[if_pos zs,if_pos zs]
 refine zdf3 (zdf4 (?_:_))
 rw[StateT.run_pure]
 refine zdf3 (zdf4 (?_:_))
 dsimp only
 have e:(vs.toArray.zip vs.toArray).map (·.2)=vs.toArray:=by
  apply Array.toList_inj.mp
  simp[List.map_snd_zip]
 show wpAny (model prog w) A (seqEpoch a >>= _) P E _
 refine zdf3 (seqEpoch_at m1 rfl (zdf3 (listUpdate_at m1 rfl ?_ (zcy3 _) ?_)))
 ·simp only[bne_self_eq_false,zdd1,if_false]
  show wpAny (model prog w) A (ret Value.none) P E { s with heap:=sortedHeap s.heap a vs ((vs.toArray.zip vs.toArray).map (·.2)) }
  rw[e]
  exact zdf4 h
 ·show ((vs.toArray.zip vs.toArray).map (·.2)).size<=_
  rw[e,zcw9];omega
end
noncomputable def ltP(x y:Int×Int):Bool:=if (x.1==y.1)=true then (if (x.2==y.2)=true then false else decide (x.2<y.2)) else decide (x.1<y.1)
noncomputable def TupI(h:Heap)(v:Value)(x:Int×Int):Prop:=∃ a o t u n,v=.ref a/\h.get? a=some o/\o.cls=.type "tuple"/\o.data=.seq #[.int x.1 t,.int x.2 u] n
theorem TupI.to{v:Value}{x:Int×Int}(z:TupI h v x)(k:∀ b o,h.get? b=some o->h'.get? b=some o):TupI h' v x:=
 let ⟨a,o,t,u,n,e,e1,r⟩:=z;⟨a,o,t,u,n,e,k _ _ e1,r⟩
section
variable {prog:Program}{w:World}{A:Around}{E:Value->Shared->Prop}{s:Shared}
theorem zcl0{v v':Value}{x y:Int×Int}{C:Bool->Shared->Prop}(hv:TupI s.heap v x)(hv':TupI s.heap v' y)(h:C (ltP x y) s):wpAny (model prog w) A (keyLt' (tuples' true) v v') C E s:=by
 obtain⟨a,o,t,u,n,rfl,a1,a2,a3⟩:=hv
 obtain⟨b,o',t',u',n',rfl,b1,b2,b3⟩:=hv'
 refine kat_lt a1 a3 b1 b3 ?_
 show KatLex prog w A true false C [(.int x.1 t,.int y.1 t'),(.int x.2 u,.int y.2 u')] 0 s
 unfold ltP at h
 refine kat_cons (wpAny_eqBool_int (kat_go (fun e=>?_) fun e=>?_))
 ·rw[if_pos e] at h
  refine kat_yes (kat_cons (wpAny_eqBool_int (kat_go (fun e2=>?_) fun e2=>?_)))
  ·rw[if_pos e2] at h
   exact kat_yes (kat_nil h)
  ·rw[if_neg (by rw[e2];exact zcw5)] at h
   exact kat_no (kat_one _ _ (wpAny_lt_int h))
 ·rw[if_neg (by rw[e];exact zcw5)] at h
  exact kat_no (oneLt_int h)
theorem zbp8{h:Heap}:∀ {vs:List Value},(∀ v∈vs,∃ x,TupI h v x)->∃ fs,KatTups h vs fs/\fs.length=vs.length/\∀ f∈fs,∃ n t,f=Value.int n t
 | [],_=>⟨[],.nil,rfl,fun _ z=>nomatch z⟩
 | v :: vs,H=>by
  obtain⟨fs,a1,a2,a3⟩:=zbp8 (vs:=vs) fun u hu=>H u (.tail _ hu)
  obtain⟨x,a,o,t,u,n,rfl,b1,b2,b3⟩:=H v (.head _)
  refine⟨.int x.1 t :: fs,KatTups.cons b1 b2 b3 rfl a1,congrArg (·+1) a2,fun f hf=>?_⟩
  rcases zcw8.mp hf with rfl|hf
  ·exact⟨_,_,rfl⟩
  ·exact a3 f hf
theorem zbu1{Q:SortKind->Shared->Prop}(H:∀ v∈vs,∃ x,TupI s.heap v x)(h2:2<=vs.length)(h:Q (tuples' true) s):wpAny (model prog w) A (keyKind' vs.toArray) Q E s:=by
 obtain⟨fs,a1,a2,a3⟩:=zbp8 H
 refine kat_kind (T:=.type "int") a1 (by omega) (fun v hv=>?_) rfl h
 obtain⟨n,t,rfl⟩:=a3 v hv
 exact Looks.of_pure rfl
end
section
variable {X:Cx}{K:zcw2}
@[irreducible] noncomputable def rDG(a:Addr)(y:V)(H:Hp)(Q:VK):Prop:=∃ v,DGet H a y (some v)/\Q v H
noncomputable def rDGV(x y:V)(H:Hp)(Q:VK):Prop:=match x with
 | .ref a=>rDG a y H Q
 | _=>False
noncomputable def tDG(td ty:TE):TE:=fun σ H Q=>td σ H fun x H1=>ty σ H1 fun y H2=>rDGV x y H2 Q
theorem tDG_eq(td ty:TE):tDG td ty=tDGet td ty:=by
 funext σ H Q
 unfold tDG tDGet
 congr 1;funext x H1;congr 1;funext y H2
 unfold rDGV
 apply propext
 cases x<;>first
  | (simp only[V.ref.injEq];unfold rDG;exact⟨fun ⟨v,g,q⟩=>⟨_,v,rfl,g,q⟩,fun ⟨a,v,e,g,q⟩=>⟨v,e▸g,q⟩⟩)
  | exact⟨fun z=>z.elim,fun ⟨a,v,e,_⟩=>nomatch e⟩
theorem peDGet{o i:Expr}{td ty:TE}(hu:X.A.units+40<cLine)(ho:PE X o td)(hi:PE X i ty)(hs:NoSl i:=by exact fun _ _=>rfl):PE X (.Subscript o i pos) (tDG td ty):=tDG_eq td ty▸zcn5 (by omega) ho hi hs
theorem dgT_rd{a b:Addr}{Q:VK}{kvs:List (List Key×V)}{k:List Key}{v:V}(e:H a=some (.dT kvs))(eb:H b=some (.tup (k.map kV)))(ev:valV kvs k=some v)(q:Q v H):rDG a (.ref b) H Q:=by
 unfold rDG
 exact⟨v,ev▸DGet.t e eb,q⟩
@[irreducible] noncomputable def rIsD(a:Addr)(H:Hp)(P:Prop):Prop:=IsD H a/\P
@[irreducible] noncomputable def rDG2(a:Addr)(y z:V)(H:Hp)(Q:VK):Prop:=∃ o,DGet H a y o/\Q (o.getD z) H
noncomputable def rDG2V(x:V)(H:Hp)(P:Addr->Prop):Prop:=match x with
 | .ref a=>rIsD a H (P a)
 | _=>False
noncomputable def tDG2(td ty tx:TE):TE:=fun σ H Q=>td σ H fun x H1=>rDG2V x H1 fun a=>ty σ H1 fun y H2=>tx σ H2 fun z H3=>rDG2 a y z H3 Q
theorem zcl2(td ty tx:TE):tDG2 td ty tx=zbw5 td ty tx:=by
 funext σ H Q
 unfold tDG2 zbw5
 congr 1;funext x H1
 unfold rDG2V rIsD rDG2
 apply propext
 cases x<;>first
  | (simp only[V.ref.injEq];exact⟨fun z=>⟨_,rfl,z⟩,fun ⟨a,e,z⟩=>e▸z⟩)
  | exact⟨fun z=>z.elim,fun ⟨a,e,_⟩=>nomatch e⟩
theorem zaf9{o e f:Expr}{td ty tx:TE}{apos cpos:Pos}(hu:X.A.units+40<cLine)(ho:PE X o td)(he:PE X e ty)(hf:PE X f tx)(m1:attributeBase o "get" X.env (eval o X.env)=eval o X.env:=by rfl)(m2:((backTo cpos (starEach [e,f] X.env)).all (fun x=>!x.1)&&(backToKw cpos (keywordEach [] X.env)).all (fun x=>x.1.isSome)&&decide (([e,f]:List Expr).length+([]:List Keyword).length+(if ([]:List Keyword).isEmpty then 0 else 1)<30))=true:=by rfl)(m3:(apos.endLine==cpos.line)=true:=by rfl)(m4:backTo cpos (starEach [e,f] X.env)=[(false,eval e X.env),(false,eval f X.env)]:=by rfl):PE X (.Call (.Attribute o "get" apos) [e,f] [] cpos) (tDG2 td ty tx):=
 zcl2 td ty tx▸zcb6 (by omega) ho he hf ⟨m1,m2,m3,m4⟩
theorem zbu8{a:Addr}{P:Prop}{kvs:List (List Key×V)}(e:H a=some (.dT kvs))(p:P):rIsD a H P:=by unfold rIsD;exact⟨.inr ⟨kvs,.inl e⟩,p⟩
theorem zbs7{a b:Addr}{z:V}{Q:VK}{kvs:List (List Key×V)}{k:List Key}(e:H a=some (.dT kvs))(eb:H b=some (.tup (k.map kV)))(q:Q ((valV kvs k).getD z) H):rDG2 a (.ref b) z H Q:=by
 unfold rDG2
 exact⟨_,DGet.t e eb,q⟩
@[irreducible] noncomputable def rDP(a:Addr)(y v:V)(H:Hp)(N:Hp->Prop):Prop:=∃ H',DPut H a y v H'/\N H'
noncomputable def rDPV(x y v:V)(H:Hp)(N:Hp->Prop):Prop:=match x with
 | .ref a=>rDP a y v H N
 | _=>False
noncomputable def sDP(td ty tv:TE):TS:=fun D σ H=>tv σ H fun v H1=>td σ H1 fun x H2=>ty σ H2 fun y H3=>rDPV x y v H3 (D.nx σ)
theorem sDP_eq(td ty tv:TE):sDP td ty tv=sDPut td ty tv:=by
 funext D σ H
 unfold sDP sDPut
 congr 1;funext v H1;congr 1;funext x H2;congr 1;funext y H3
 unfold rDPV
 apply propext
 cases x<;>first
  | (simp only[V.ref.injEq];unfold rDP;exact⟨fun ⟨H',g,q⟩=>⟨_,H',rfl,g,q⟩,fun ⟨a,H',e,g,q⟩=>⟨H',e▸g,q⟩⟩)
  | exact⟨fun z=>z.elim,fun ⟨a,v,e,_⟩=>nomatch e⟩
theorem zbi8{o i value:Expr}{td ty tv:TE}{pos':Pos}(hu:X.A.units+40<cLine)(ho:PE X o td)(hi:PE X i ty)(hv:PE X value tv)(hs:swapsWith value (some (.Subscript o i pos')) pos.line X.env=pure false:=by rfl) :
  PS X (.Assign [.Subscript o i pos'] value pos) (sDP td ty tv):=sDP_eq td ty tv▸zck7 (by omega) ho hi hv hs
theorem zci1{a b:Addr}{v:V}{N:Hp->Prop}{kvs:List (List Key×V)}{k:List Key}(e:H a=some (.dT kvs))(eb:H b=some (.tup (k.map kV)))(hl:kvs.length<sizeLine)(q:∀ H',Chg a H H'->H' a=some (.dT (putK kvs k v))->N H'):rDP a (.ref b) v H N:=by
 unfold rDP
 exact⟨_,DPut.t e eb hl,q _ Chg.upd zd0⟩
def pK(x:Int×Int):List Key:=[.inl x.1,.inl x.2]
theorem zr6{α β:Type}{R:α->β->Prop}:∀ {as:List α}{bs:List β},Paired R as bs->∀ (i:Nat) (a:α) (b:β),as[i]?=some a->bs[i]?=some b->R a b:=by
 intro as bs h
 induction h with
 | nil=>intro i a b e;simp at e
 | cons h1 _ ih=>
  intro i a b e1 e2
  cases i with
  | zero=>simp at e1 e2;subst e1;subst e2;exact h1
  | succ j=>simp at e1 e2;exact ih j a b e1 e2
theorem zab3{α β:Type}{R:α->β->Prop}:∀ {as:List α}{bs:List β},as.length=bs.length->(∀ (i:Nat) (a:α) (b:β),as[i]?=some a->bs[i]?=some b->R a b)->Paired R as bs
 | [],[],_,_=>.nil
 | a :: as,b :: bs,hl,h=>.cons (h 0 a b rfl rfl) (zab3 (Nat.succ.inj hl) fun i x y e1 e2=>h (i+1) x y (by simpa using e1) (by simpa using e2))
end
structure Ord(lt:Nat->Nat->Bool):Prop where
 as:∀ i j,lt i j=true->lt j i=false
 tr:∀ i j k,lt j i=false->lt k j=false->lt k i=false
section
variable {lt:Nat->Nat->Bool}{n:Nat}
def gp(p:Array Nat)(i:Nat):Nat:=p.getD i 0
theorem zbv9{p q:Array Nat}(h:p[i]?=q[j]?):gp p i=gp q j:=by
 unfold gp
 rw[zda1,zda1,h]
theorem zx8{p:Array Nat}(hj:j<=p.size)(k:Nat):gp (kas_rev p i j) k=if i<=k/\k<j then gp p (i+j - 1 - k) else gp p k:=by
 have h:=getElem?_mirror_all (xs:=p) (i:=i) hj k
 split
 ·rename_i c;rw[if_pos c] at h;exact zbv9 h
 ·rename_i c;rw[if_neg c] at h;exact zbv9 h
theorem zcj4{p:Array Nat}{k l:Nat}(hk:k<p.size)(hl:l<=k)(i:Nat):gp (bubble p k (k - l)) i=if i=l then gp p k else if l<i/\i<=k then gp p (i - 1) else gp p i:=by
 have h:=getElem?_bubble hk (k - l) (by omega) i
 rw[show k - (k - l)=l by omega] at h
 split
 ·rename_i c;rw[if_pos c] at h;exact zbv9 h
 ·rename_i c
  rw[if_neg c] at h
  split
  ·rename_i c2;rw[if_pos c2] at h;exact zbv9 h
  ·rename_i c2;rw[if_neg c2] at h;exact zbv9 h
noncomputable def Up(lt:Nat->Nat->Bool)(p:Array Nat)(k:Nat):Prop:=∀ i j,i<=j->j<k->lt (gp p j) (gp p i)=false
noncomputable def Dn(lt:Nat->Nat->Bool)(p:Array Nat)(k:Nat):Prop:=∀ i j,i<=j->j<k->lt (gp p i) (gp p j)=false
theorem Ord.rf(O:Ord lt)(i:Nat):lt i i=false:=by
 cases h:lt i i with
 | false=>rfl
 | true=>exact absurd (O.as _ _ h) (by rw[h];exact fun w=>nomatch w)
theorem Up.snoc(O:Ord lt){p:Array Nat}{k:Nat}(u:Up lt p k)(hk:1<=k)(h:lt (gp p k) (gp p (k - 1))=false):Up lt p (k+1):=fun i j hij hj=>by
 by_cases e:j=k
 ·subst e
  by_cases e2:i=j
  ·subst e2;exact O.rf _
  ·exact O.tr _ _ _ (u i (j - 1) (by omega) (by omega)) h
 ·exact u i j hij (by omega)
theorem Dn.snoc(O:Ord lt){p:Array Nat}{k:Nat}(u:Dn lt p k)(hk:1<=k)(h:lt (gp p (k - 1)) (gp p k)=false):Dn lt p (k+1):=fun i j hij hj=>by
 by_cases e:j=k
 ·subst e
  by_cases e2:i=j
  ·subst e2;exact O.rf _
  ·exact O.tr _ _ _ h (u i (j - 1) (by omega) (by omega))
 ·exact u i j hij (by omega)
theorem Pm.size{p:Array Nat}(h:Pm n p):p.size=n:=by have:=h.length_eq;rw[zcx1,zcx6] at this;exact this
theorem zbs6(O:Ord lt)(hn:0<n){p:Array Nat}(h:Pm n p):∀ f m,1<=m->Up lt p m->KW lt n (fun r=>m<=r/\r<=m+f/\Up lt p r/\(r<m+f->lt (gp p r) (gp p (r - 1))=true)) (kas_asc p f m)
 | 0,m,_,u=>⟨zcx3 _,zcx3 _,u,fun z=>absurd z (zde3 _)⟩
 | f+1,m,hm,u=>by
  refine⟨h.low hn _,h.low hn _,?_⟩
  dsimp only
  cases e:lt (p.getD m 0) (p.getD (m - 1) 0) with
  | true=>rw[if_pos rfl];exact⟨zcx3 _,zde4 _ _,u,fun _=>e⟩
  | false=>
   rw[if_neg (by decide)]
   exact KW.mono (fun r hr=>⟨by omega,by omega,hr.2.2.1,fun z=>hr.2.2.2 (by omega)⟩) (zbs6 O hn h f (m+1) (by omega) (u.snoc O hm e))
noncomputable def Al(lt:Nat->Nat->Bool)(p:Array Nat)(m q:Nat):Prop:=∀ i j,m - (q+1)<=i->i<=j->j<m->lt (gp p j) (gp p i)=false
theorem Dn.al_rev(O:Ord lt){p:Array Nat}{q:Nat}(hm:m<=p.size)(hq:q+1<=m)(d:Dn lt p m)(al:Al lt p m q):Dn lt (kas_rev p (m - (q+1)) m) m:=fun i j hij hj=>by
 rw[zx8 hm,zx8 hm]
 by_cases ci:m - (q+1)<=i/\i<m
 ·rw[if_pos ci,if_pos ⟨by omega,hj⟩]
  exact al _ _ (by omega) (by omega) (by omega)
 ·rw[if_neg ci]
  split
  ·exact d i _ (by omega) (by omega)
  ·exact d i j hij hj
theorem zaq6(O:Ord lt)(hn:0<n):∀ f (p:Array Nat) m q,Pm n p->m+f<=n->q+1<=m->Dn lt p m->Al lt p m q->KW lt n (fun r=>Pm n r.1/\m<=r.2.1/\r.2.1<=m+f/\r.2.2+1<=r.2.1/\Dn lt r.1 r.2.1/\Al lt r.1 r.2.1 r.2.2) (kas_desc f p m q)
 | 0,p,m,q,h,hf,hq,d,al=>⟨h,zcx3 _,zcx3 _,hq,d,al⟩
 | f+1,p,m,q,h,hf,hq,d,al=>by
  have hz:=h.size
  refine⟨h.low hn _,h.low hn _,?_⟩
  dsimp only
  cases e:lt (p.getD m 0) (p.getD (m - 1) 0) with
  | true=>
   rw[if_pos rfl]
   have al0:∀ p':Array Nat,Al lt p' (m+1) 0:=fun p' i j h1 h2 h3=>by
    have:i=j:=by omega
    subst this;exact O.rf _
   split
   ·rename_i q0
    refine KW.mono (fun r hr=>⟨hr.1,by omega,by omega,hr.2.2.2⟩) (zaq6 O hn f _ (m+1) 0 (h.rev _ _) (by omega) (by omega) ?_ (al0 _))
    refine (d.al_rev O (by omega) hq al).snoc O (by omega) ?_
    rw[zx8 (by omega),zx8 (by omega),if_pos (by omega),if_neg (by omega),show m - (q+1)+m - 1 - (m - 1)=m - (q+1) by omega]
    exact O.tr _ _ _ (O.as _ _ e) (d _ _ (by omega) (by omega))
   ·exact KW.mono (fun r hr=>⟨hr.1,by omega,by omega,hr.2.2.2⟩) (zaq6 O hn f p (m+1) 0 h (by omega) (by omega) (d.snoc O (by omega) (O.as _ _ e)) (al0 _))
  | false=>
   rw[if_neg (by decide)]
   refine⟨h.low hn _,h.low hn _,?_⟩
   dsimp only
   cases e2:lt (p.getD (m - 1) 0) (p.getD m 0) with
   | true=>rw[if_pos rfl];exact⟨h,zcx3 _,zde4 _ _,hq,d,al⟩
   | false=>
    rw[if_neg (by decide)]
    refine KW.mono (fun r hr=>⟨hr.1,by omega,by omega,hr.2.2.2⟩) (zaq6 O hn f p (m+1) (q+1) h (by omega) (by omega) (d.snoc O (by omega) e2) ?_)
    intro i j h1 h2 h3
    by_cases ej:j=m
    ·subst ej
     by_cases ei:i=j
     ·subst ei;exact O.rf _
     ·exact O.tr _ _ _ (al i (j - 1) (by omega) (by omega) (by omega)) e
    ·exact al i j (by omega) h2 (by omega)
theorem Dn.rev{p:Array Nat}(hm:m<=p.size)(d:Dn lt p m):Up lt (kas_rev p 0 m) m:=fun i j hij hj=>by
 rw[zx8 hm,zx8 hm,if_pos (by omega),if_pos (by omega)]
 exact d _ _ (by omega) (by omega)
theorem zbq1(O:Ord lt)(hn:0<n){p:Array Nat}(h:Pm n p)(hm:m<=n)(m1:1<=m)(d:Dn lt p m):KW lt n (fun x=>Pm n x.2/\1<=x.1/\x.1<=n/\Up lt x.2 x.1) (kas_tail3 m n p):=
 KW.bd (KW.mono (fun r hr=>⟨h.rev 0 m,by omega,by omega,hr.2.2.1⟩) (zbs6 O hn (h.rev 0 m) (n - m) m m1 (d.rev (by rw[h.size];exact hm))))
theorem zca1(O:Ord lt)(hn:0<n){p:Array Nat}(h:Pm n p)(hm:m+1<=n)(d:Dn lt p (m+1)):KW lt n (fun x=>Pm n x.2/\1<=x.1/\x.1<=n/\Up lt x.2 x.1) (kas_descPart m n p):=by
 refine KW.bd (KW.mono (fun r hr=>?_) (zaq6 O hn (n - (m+1)) p (m+1) 0 h (by omega) (by omega) d fun i j h1 h2 h3=>?_))
 ·obtain⟨r1,r2,r3,r4,r5,r6⟩:=hr
  split
  ·exact zbq1 O hn (r1.rev _ _) (by omega) (by omega) (r5.al_rev O (by rw[Pm.size r1];omega) r4 r6)
  ·exact zbq1 O hn r1 (by omega) (by omega) r5
 ·have:i=j:=by omega
  subst this;exact O.rf _
theorem zce4(O:Ord lt)(hn:0<n){p:Array Nat}(h:Pm n p):KW lt n (fun x=>Pm n x.2/\1<=x.1/\x.1<=n/\Up lt x.2 x.1) (kas_count n p):=by
 have u1:Up lt p 1:=fun i j h1 h2=>by
  have:i=j:=by omega
  subst this;exact O.rf _
 refine KW.bd (KW.mono (fun r hr=>?_) (zbs6 O hn h (n - 1) 1 (zcx3 _) u1))
 obtain⟨r1,r2,r3,r4⟩:=hr
 by_cases c:(r==n)=true
 ·rw[if_pos c]
  exact⟨h,r1,by omega,r3⟩
 ·rw[if_neg c]
  have rn:r<n:=by
   have:r≠n:=fun z=>c (by rw[z];exact beq_self_eq_true n)
   omega
  by_cases c2:r>1
  ·rw[if_pos c2]
   refine⟨h.low hn _,h.low hn _,?_⟩
   dsimp only
   cases e:lt (p.getD 0 0) (p.getD (r - 1) 0) with
   | true=>rw[if_pos rfl];exact⟨h,r1,by omega,r3⟩
   | false=>
    rw[if_neg (by decide)]
    have hz:r<=p.size:=by rw[Pm.size h];omega
    have st:=r4 (by omega)
    refine zca1 O hn (h.rev 0 r) (by omega) (Dn.snoc O (fun i j hij hj=>?_) (by omega) ?_)
    ·rw[zx8 hz,zx8 hz,if_pos (by omega),if_pos (by omega)]
     exact r3 _ _ (by omega) (by omega)
    ·rw[zx8 hz,zx8 hz,if_pos (by omega),if_neg (by omega),show 0+r - 1 - (r - 1)=0 by omega]
     exact O.tr _ _ _ (O.as _ _ st) e
  ·rw[if_neg c2]
   have r0:r=1:=by omega
   subst r0
   have st:=r4 (by omega)
   exact zca1 O hn h (by omega) (Dn.snoc O (fun i j hij hj=>by
    have:i=j:=by omega
    subst this;exact O.rf _) (zcx3 _) (O.as _ _ st))
theorem zar2(O:Ord lt)(hn:0<n){p:Array Nat}(h:Pm n p)(k:Nat)(u:Up lt p k):∀ f l r,l<=r->r<=k->r<=l+f->(∀ i,i<l->lt (gp p k) (gp p i)=false)->(∀ i,r<=i->i<k->lt (gp p k) (gp p i)=true) ->
  KW lt n (fun x=>x<=k/\(∀ i,i<x->lt (gp p k) (gp p i)=false)/\∀ i,x<=i->i<k->lt (gp p k) (gp p i)=true) (kas_place p k f l r)
 | 0,l,r,h1,h2,h3,a,b=>by
  have:r=l:=by omega
  subst this
  exact⟨h2,a,b⟩
 | f+1,l,r,h1,h2,h3,a,b=>by
  unfold kas_place
  by_cases c:l≥r
  ·rw[if_pos c]
   have:r=l:=by omega
   subst this
   exact⟨h2,a,b⟩
  ·rw[if_neg c]
   refine⟨h.low hn _,h.low hn _,?_⟩
   dsimp only
   cases e:lt (p.getD k 0) (p.getD ((l+r) / 2) 0) with
   | true=>
    rw[if_pos rfl]
    refine zar2 O hn h k u f l ((l+r) / 2) (by omega) (by omega) (by omega) a fun i hi hk=>?_
    cases e2:lt (gp p k) (gp p i) with
    | true=>rfl
    | false=>
     have:=O.tr _ _ _ (u ((l+r) / 2) i hi hk) (show lt (gp p k) (gp p i)=false from e2)
     rw[show lt (gp p k) (gp p ((l+r) / 2))=true from e] at this
     cases this
   | false=>
    rw[if_neg (by decide)]
    refine zar2 O hn h k u f ((l+r) / 2+1) r (by omega) h2 (by omega) (fun i hi=>?_) b
    exact O.tr _ _ _ (u i ((l+r) / 2) (by omega) (by omega)) e
theorem up_bub(O:Ord lt){p:Array Nat}{k l:Nat}(hk:k<p.size)(u:Up lt p k)(hl:l<=k)(a:∀ i,i<l->lt (gp p k) (gp p i)=false)(b:∀ i,l<=i->i<k->lt (gp p k) (gp p i)=true):Up lt (bubble p k (k - l)) (k+1):=fun i j hij hj=>by
 rw[zcj4 hk hl,zcj4 hk hl]
 by_cases ci:i=l
 ·rw[if_pos ci]
  by_cases cj:j=l
  ·rw[if_pos cj];exact O.rf _
  ·rw[if_neg cj,if_pos (by omega)]
   exact O.as _ _ (b (j - 1) (by omega) (by omega))
 ·rw[if_neg ci]
  by_cases cj:j=l
  ·rw[if_pos cj,if_neg (by omega)]
   exact a i (by omega)
  ·rw[if_neg cj]
   by_cases di:l<i/\i<=k
   ·rw[if_pos di,if_pos (by omega)]
    exact u _ _ (by omega) (by omega)
   ·rw[if_neg di]
    by_cases dj:l<j/\j<=k
    ·rw[if_pos dj]
     exact u _ _ (by omega) (by omega)
    ·rw[if_neg dj]
     exact u _ _ hij (by omega)
theorem zcj1(O:Ord lt)(hn:0<n):∀ f (p:Array Nat) k,Pm n p->k+f=n->Up lt p k->KW lt n (fun p'=>Pm n p'/\Up lt p' n) (kas_bin f p k)
 | 0,p,k,h,e,u=>by
  have:k=n:=by omega
  subst this
  exact⟨h,u⟩
 | f+1,p,k,h,e,u=>by
  refine KW.bd (KW.mono (fun l hl=>?_) (zar2 O hn h k u k 0 k (zcy3 _) (zcx3 _) (by omega) (fun i hi=>absurd hi (zde0 _)) fun i h1 h2=>absurd h2 (by omega)))
  exact zcj1 O hn f _ (k+1) (h.bub _ _) (by omega) (up_bub O (by rw[Pm.size h];omega) u hl.1 hl.2.1 hl.2.2)
theorem zbu3(O:Ord lt)(hn:0<n):KW lt n (fun p=>Pm n p/\Up lt p n) (kas_sort n):=by
 have h0:Pm n (zde5 (List.range n)):=List.Perm.refl _
 refine KW.bd (KW.mono (fun r hr=>?_) (zce4 O hn h0))
 obtain⟨r1,r2,r3,r4⟩:=hr
 by_cases c:r.1<n
 ·rw[if_pos c,show max r.1 1=r.1 by omega]
  exact zcj1 O hn _ _ _ r1 (by omega) r4
 ·rw[if_neg c]
  have e:r.1=n:=by omega
  exact⟨r1,e▸r4⟩
end
theorem zr1{x y:Int×Int}:ltP x y=true↔x.1<y.1∨(x.1=y.1/\x.2<y.2):=by
 unfold ltP
 by_cases e:x.1=y.1
 ·rw[if_pos (beq_iff_eq.mpr e)]
  by_cases e2:x.2=y.2
  ·rw[if_pos (beq_iff_eq.mpr e2)]
   exact⟨(fun h=>by cases h),fun h=>by omega⟩
  ·rw[if_neg (fun h=>e2 (beq_iff_eq.mp h)),decide_eq_true_iff]
   exact⟨fun h=>.inr ⟨e,h⟩,fun h=>by omega⟩
 ·rw[if_neg (fun h=>e (beq_iff_eq.mp h)),decide_eq_true_iff]
  exact⟨fun h=>.inl h,fun h=>by omega⟩
theorem zaj0{x y:Int×Int}:ltP x y=false↔¬ (x.1<y.1∨(x.1=y.1/\x.2<y.2)):=by
 rw[← zr1]
 cases ltP x y<;>simp
theorem ord_P(xs:Nat->Int×Int):Ord (fun i j=>ltP (xs i) (xs j)) where
 as:=fun i j h=>by
  have h:=zr1.mp h
  exact zaj0.mpr (by omega)
 tr:=fun i j k h1 h2=>by
  have h1:=zaj0.mp h1
  have h2:=zaj0.mp h2
  exact zaj0.mpr (by omega)
section
variable {prog:Program}{w:World}{A:Around}{E:Value->Shared->Prop}{s:Shared}
theorem zay2{D:Addr}{xs:Nat->Int×Int}{P:PySem.Fin->Shared->Prop}(ho:s.heap.get? D=some (seqObj "list" vs.toArray 0))(h64:vs.length<64)(H:∀ i,i<vs.length->TupI s.heap (vs.getD i Value.none) (xs i))(h:∀ (p:List Nat) (c:Nat) (hF:Heap),p.Perm (List.range vs.length)->p.Pairwise (fun i j=>ltP (xs j) (xs i)=false)->(∀ b o,b≠D->s.heap.get? b=some o->hF.get? b=some o)->hF.get? D=some (seqObj "list" (zde5 (p.map fun i=>vs.getD i Value.none)) c)->P (.done (.ret .none)) { s with heap:=hF }) :
  wpAny (model prog w) A (Builtin.«list.sort» ⟨[.ref D],[]⟩) P E s:=by
 by_cases h2:vs.length<2
 ·refine zbf4 ho h2 ?_
  obtain⟨c,hc⟩:=zab2 (vs:=vs) (out:=vs.toArray) ho
  refine h (List.range vs.length) c _ (List.Perm.refl _) ?_ (fun b o ne e=>zx0 ne e) ?_
  ·have:vs.length=0∨vs.length=1:=by omega
   rcases this with e|e<;>rw[e]
   ·exact List.Pairwise.nil
   ·exact List.pairwise_singleton _ _
  ·rw[hc]
   have e:(List.range vs.length).map (fun i=>vs.getD i Value.none)=vs:=by
    apply zdb8 (by simp)
    intro i h1 h2
    simp at h1 h2
    simp[h2]
   rw[e]
 ·have old:∀ v,v∈vs->∃ i,i<vs.length/\vs.getD i Value.none=v:=fun v hv=>by
   obtain⟨i,hi,e⟩:=List.mem_iff_getElem.mp hv
   exact⟨i,hi,by simp[hi,e]⟩
  have nD:∀ {v:Value}{x:Int×Int},TupI s.heap v x->TupI (midH s.heap D vs) v x:=fun {v x} z=>by
   obtain⟨a,o,t,u,n,e,e1,e2,e3⟩:=z
   refine⟨a,o,t,u,n,e,zbr3 (fun q=>?_) e1,e2,e3⟩
   rw[q,ho] at e1
   cases e1
   have e2':Value.type "list"=Value.type "tuple":=e2
   exact absurd e2' (by decide)
  refine zby0 (κ:=tuples' true) (lt:=fun i j=>ltP (xs i) (xs j)) ho (by omega) h64 (fun Q q=>zbu1 (s:={ s with heap:=midH s.heap D vs }) (fun v hv=>?_) (by omega) q) (fun i j C li lj q=>zcl0 (s:={ s with heap:=midH s.heap D vs }) (nD (H i li)) (nD (H j lj)) q) (zbu3 (ord_P xs) (by omega)) fun p pz pR=>?_
  ·obtain⟨i,hi,rfl⟩:=old v hv
   exact⟨_,nD (H i hi)⟩
  ·obtain⟨c,hc⟩:=zab2 (vs:=vs) (out:=zde5 (p.toList.map fun i=>vs.getD i Value.none)) ho
   refine h p.toList c _ pR.1 ?_ (fun b o ne e=>zx0 ne e) hc
   rw[zda9]
   intro i j hi hj hij
   rw[zcx1] at hi hj
   have:=pR.2 i j (Nat.le_of_lt hij) (by omega)
   unfold gp at this
   simpa [Array.getD,hi,hj] using this
theorem zbd1{d:Addr}{es:Array DictEntry}{xs:Nat->Int×Int}(lo:(d==sysModules)=false)(hh:A.handled=none)(x:RawD s.heap d es ep)(h64:es.size<64)(H:∀ i e,es[i]?=some e->TupI s.heap e.key (xs i))(h:∀ (h1 hF:Heap) (tk c:Nat) (p:List Nat) (vs:List Value),(∀ b o,s.heap.get? b=some o->h1.get? b=some o)->(∀ b o,h1.get? b=some o->hF.get? b=some o)->p.Perm (List.range es.size)->p.Pairwise (fun i j=>ltP (xs j) (xs i)=false)->vs=es.toList.map (·.key) ->
   hF.get? h1.objs.size=some (seqObj "list" (zde5 (p.map fun i=>vs.getD i Value.none)) c)->Q (.ref h1.objs.size) { s with heap:=hF,toks:=tk }) :
  wpAny (model prog w) A (call (.builtin "sorted") [.ref d]) Q E s:=by
 have zl:es.size<=sizeLine:=by rw[zdf5];omega
 refine Calls.call_function_entry kind_sorted plain_sorted entry_sorted (args_sorted1 _) ?_
 unfold Builtin.«sorted»
 refine zdf3 (m:=checkCount "sorted" 1 1 _) (zdf4 (zdf3 (kdu_collect (A:=A.in1) (zbv4 lo) hh x zl fun h1 tk acc k1 it=>?_)))
 have len:acc.toList.length=es.size:=by rw[zcx1];exact it.1
 have ev:acc.toList=es.toList.map (·.key):=by
  apply zdb8 (by rw[len,zcv8,zcx1])
  intro i a1 a2
  rw[zcx1] at a1
  obtain⟨e,e1,e2⟩:=it.2 i acc[i] (by simp[a1])
  simp only[Array.getElem_toList,zdf1]
  rw[e2]
  obtain⟨q1,q2⟩:=zdc5.mp e1
  rw[← q2]
 refine zdf3 (wpAny_newList ?_ (by rw[len];exact zl))
 have hD:(h1.push (seqObj "list" acc.toList.toArray 0)).get? h1.objs.size=some (seqObj "list" acc.toList.toArray 0):=zcy8 _ rfl
 show wpAny (model prog w) _ _ _ _ { s with heap:=h1.push (seqObj "list" acc.toList.toArray 0),toks:=tk }
 refine zdf3 (zdf8 (wpAny_call_entry slot_list_sort ⟨_,hD,rfl⟩ entry_list_sort (zay2 (xs:=xs) (s:={ s with heap:=h1.push (seqObj "list" acc.toList.toArray 0),toks:=tk }) hD (by rw[len];exact h64) (fun i hi=>?_) fun p c hF pp po kF eF=>⟨_,rfl,?_⟩) (args_list_sort _)))
 ·rw[len] at hi
  have z:=(H i es[i] (by simp[hi])).to k1
  have e:acc.toList.getD i Value.none=es[i].key:=by rw[ev];simp[hi]
  rw[e]
  exact z.to fun b o q=>zcw6 _ q
 ·refine zdf4 ⟨_,rfl,h h1 hF tk c p acc.toList k1 (fun b o e=>kF b o (zcz2 (zcx7 e)) (zcw6 _ e)) (by rw[← len];exact pp) po ev eF⟩
end
section
variable {X:Cx}{K:zcw2}
noncomputable def OrdK(ks:List (Int×Int)):Prop:=ks.Nodup/\ks.Pairwise (fun x y=>ltP x y=true)
@[irreducible] noncomputable def rSoO(a:Addr)(H:Hp)(Q:VK):Prop:=∃ kvs:List ((Int×Int)×V),H a=some (.dT (kvs.map fun z=>(pK z.1,z.2)))/\kvs.length<64 /\
 ∀ p H' (bs:List Addr) (ks:List (Int×Int)),H p=none->Same H H'->ks.Perm (kvs.map (·.1))->OrdK ks->Paired (fun b x=>H' b=some (.tup [.int x.1,.int x.2])) bs ks->H' p=some (.lst (bs.map V.ref))->Q (.ref p) H'
noncomputable def rSoOM:List V->Hp->VK->Prop:=fun xs H Q=>match xs with
 | [.ref p]=>rSoO p H Q
 | _=>False
theorem soO_rd{a:Addr}{Q:VK}{kvs:List ((Int×Int)×V)}(h:H a=some (.dT (kvs.map fun z=>(pK z.1,z.2))))(hl:kvs.length<64)(q:∀ p H' (bs:List Addr) (ks:List (Int×Int)),H p=none->Same H H'->ks.Perm (kvs.map (·.1))->OrdK ks->Paired (fun b x=>H' b=some (.tup [.int x.1,.int x.2])) bs ks->H' p=some (.lst (bs.map V.ref))->Q (.ref p) H'):rSoO a H Q:=by unfold rSoO;exact⟨kvs,h,hl,q⟩
theorem zaz2{ks:List (Int×Int)}(nd:ks.Nodup)(h:ks.Pairwise (fun x y=>ltP y x=false)):OrdK ks:=by
 refine⟨nd,?_⟩
 refine List.Pairwise.imp (fun {x y} z=>?_) (List.Pairwise.and nd h)
 have z2:=zaj0.mp z.2
 refine zr1.mpr ?_
 have ne:¬ (x.1=y.1/\x.2=y.2):=fun w=>z.1 (Prod.ext w.1 w.2)
 omega
theorem cSortO(hc:X.calm=true):zm6 X (.builtin "sorted") rSoOM:=fun pins s σ H xs us Q I r h=>by
 unfold rSoOM at h
 split at h
 ·rename_i p
  unfold rSoO at h
  obtain⟨kvs,h1,h2,h3⟩:=h
  obtain⟨u1,rfl,rx⟩:=zy7 r
  cases rx
  obtain⟨zl,lo,ys,kt,o,es,ep,e1,e2,e3,e4,e5⟩:=dt_of I.hok h1
  have lk:ys.length=kvs.length:=by have:=Paired.length kt;rw[zcv8] at this;exact this.symm
  have le:es.size=kvs.length:=by rw[← zcx1,e4,zcv8,lk]
  have at_:∀ i,(hi:i<kvs.length)->∃ b v,ys[i]?=some (pK kvs[i].1,b,v)/\H b=some (.tup [.int kvs[i].1.1,.int kvs[i].1.2]):=fun i hi=>by
   have hy:i<ys.length:=lk▸hi
   have z:=zr6 kt i (pK kvs[i].1,kvs[i].2) ys[i] (by simp[hi]) (by simp[hy])
   refine⟨ys[i].2.1,ys[i].2.2,?_,z.2.1⟩
   rw[zcv7 hy]
   have z1:pK kvs[i].1=ys[i].1:=z.1
   rw[z1]
  have ke:∀ i e,es[i]?=some e->∃ hi:i<kvs.length,∃ b v,ys[i]?=some (pK kvs[i].1,b,v)/\e.key=.ref b/\H b=some (.tup [.int kvs[i].1.1,.int kvs[i].1.2]):=fun i e q=>by
   obtain⟨q1,q2⟩:=zdc5.mp q
   have hi:i<kvs.length:=le▸q1
   obtain⟨b,v,y1,y2⟩:=at_ i hi
   refine⟨hi,b,v,y1,?_,y2⟩
   rw[← zcy2,e4,zcw0,y1] at q
   simp only[Option.map_some,Option.some.injEq] at q
   rw[← q];rfl
  refine zbd1 (xs:=fun i=>((kvs.map (·.1))[i]?).getD (0,0)) lo (I.ok.hd hc) (d:=p) (es:=es) (ep:=ep) ⟨o,e1,e2,e3⟩ (by omega) (fun i e q=>?_) fun h' hF tk c pm vs k1 kF pp po ev eF=>?_
  ·obtain⟨hi,b,v,_,q2,q3⟩:=ke i e q
   obtain⟨_,its,rv,ob,b1,b2,n,b3⟩:=(show zi5 X.prog X.w H s.heap b (.tup [.int kvs[i].1.1,.int kvs[i].1.2]) from I.hok b _ q3)
   obtain⟨v1,v2,rfl,w1,w2⟩:=zbn3 rv
   obtain⟨t1,rfl⟩:=w1
   obtain⟨t2,rfl⟩:=w2
   have ex:((kvs.map (·.1))[i]?).getD (0,0)=kvs[i].1:=by simp[hi]
   rw[ex,q2]
   exact⟨b,ob,t1,t2,n,rfl,b1,b2,b3⟩
  ·have hp:p<s.heap.objs.size:=zcx7 e1
   have I1:Inv X pins σ H { s with heap:=h',toks:=tk }:=I.kept k1
   have fr:H h'.objs.size=none:=I1.fresh
   let as:List Addr:=pm.map fun i=>((ys[i]?).map (·.2.1)).getD 0
   have mem:∀ i,i∈pm->i<kvs.length:=fun i hi=>by have:=zcy0.mp (pp.mem_iff.mp hi);omega
   have vals:(pm.map fun i=>vs.getD i Value.none)=as.map Value.ref:=by
    rw[zcz3]
    refine zcy9 fun i hi=>?_
    have hi':=mem i hi
    have hes:i<es.size:=by omega
    obtain⟨_,b,v,y1,y2,_⟩:=ke i es[i] (by simp[hes])
    rw[ev]
    simp[hes,y1,y2]
   have rl:Vals (as.map V.ref) (as.map Value.ref):=by
    generalize as=l
    induction l with
    | nil=>exact .nil
    | cons a l ih=>exact .cons rfl ih
   have lz:as.length<=sizeLine:=by
    show (pm.map _).length<=_
    rw[zcv8,pp.length_eq,zcx6,zdf5];omega
   refine⟨.ref _,_,I1.laid (h':=hF) (t':=tk) (o:=.lst (as.map V.ref)) kF (zcx3 _) ?_,rfl,h3 _ _ as (pm.map fun i=>((kvs.map (·.1))[i]?).getD (0,0)) fr (Same.upd fr) ?_ (zaz2 ?_ ?_) ?_ zd0⟩
   ·exact⟨by rw[zcv8];exact lz,as.map Value.ref,c,rl,by rw[eF,vals]⟩
   ·have e:(List.range kvs.length).map (fun i=>((kvs.map (·.1))[i]?).getD (0,0))=kvs.map (·.1):=by
     apply zdb8 (by simp)
     intro i a1 a2
     simp at a1
     simp[a1]
    have q:=(show pm.Perm (List.range kvs.length) from le▸pp).map fun i=>((kvs.map (·.1))[i]?).getD (0,0)
    rw[e] at q
    exact q
   ·have e:(List.range kvs.length).map (fun i=>((kvs.map (·.1))[i]?).getD (0,0))=kvs.map (·.1):=by
     apply zdb8 (by simp)
     intro i a1 a2
     simp at a1
     simp[a1]
    have q:=(show pm.Perm (List.range kvs.length) from le▸pp).map fun i=>((kvs.map (·.1))[i]?).getD (0,0)
    rw[e] at q
    refine q.nodup_iff.mpr ?_
    have nk:((kvs.map fun z=>(pK z.1,z.2)).map (·.1)).Nodup:=by
     have:(kvs.map fun z=>(pK z.1,z.2)).map (·.1)=ys.map (·.1):=by
      apply zdb8 (by rw[zcv8,zcv8,zcv8,lk])
      intro i a1 a2
      rw[zcv8,zcv8] at a1
      obtain⟨b,v,y1,_⟩:=at_ i a1
      have hy:i<ys.length:=lk▸a1
      rw[zcv7 hy] at y1
      simp only[zdf1]
      rw[Option.some.inj y1]
     rw[this];exact e5.2
    rw[zcz3] at nk
    have:(kvs.map (Prod.fst∘fun z=>(pK z.1,z.2)))=(kvs.map (·.1)).map pK:=by rw[zcz3];rfl
    rw[this] at nk
    exact List.Pairwise.of_map pK (fun a b h e=>h (by rw[e])) nk
   ·rw[List.pairwise_map]
    exact po
   ·refine zab3 (by rw[zcv8,zcv8]) fun i a x q1 q2=>?_
    rw[zcw0] at q1 q2
    obtain⟨j,j1,j2⟩:=zcw4.mp q1
    rw[j1] at q2
    have hj:=mem j (zcw3 j1)
    obtain⟨b,v,y1,y2⟩:=at_ j hj
    rw[y1] at j2
    have j3:b=a:=j2
    have ex:kvs[j].1=x:=by simpa [hj] using q2
    rw[← j3,← ex]
    exact (Same.upd fr) b _ y2
 ·exact h.elim
end
set_option maxHeartbeats 4000000
section
variable {X:Cx}{K:zcw2}{H:Hp}{Q:VK}
noncomputable def ExA(H:Hp)(e D:Addr):Prop:=H e=some (excO e (.ref D) none)∨∃ d fs,H e=some (excO e (.ref D) (some d))/\H d=some (.xd fs)
theorem ExA.same{e D:Addr}(x:ExA H e D)(s:Same H H'):ExA H' e D:=by
 rcases x with x|⟨d,fs,x,y⟩
 ·exact .inl (s _ _ x)
 ·exact .inr ⟨d,fs,s _ _ x,s _ _ y⟩
end
mutual
inductive ShV(H:Hp):V->PyData->Prop
 | non:ShV H .non .none
 | bl (b:Bool):ShV H (.bl b) (.bool b)
 | int (i:Int):ShV H (.int i) (.int i)
 | str (x:Str):ShV H (.str x) (.str x)
 | lst {a:Addr}{xs:List V}{ds:List PyData}:H a=some (.lst xs)->ShL H xs ds->ShV H (.ref a) (.list ds)
 | tup {a:Addr}{xs:List V}{ds:List PyData}:H a=some (.tup xs)->ShL H xs ds->ShV H (.ref a) (.tuple ds)
inductive ShL(H:Hp):List V->List PyData->Prop
 | nil:ShL H [] []
 | cons {x:V}{d:PyData}{xs:List V}{ds:List PyData}:ShV H x d->ShL H xs ds->ShL H (x :: xs) (d :: ds)
end
section
variable {X:Cx}{pins:List (Addr×Obj)}{σ:St}{H H':Hp}{s:Shared}{Q:VK}
mutual
theorem ShV.same{v:V}{d:PyData}(h:ShV H v d)(k:Same H H'):ShV H' v d:=match h with
 | .non=>.non
 | .bl b=>.bl b
 | .int i=>.int i
 | .str x=>.str x
 | .lst e l=>.lst (k _ _ e) (l.same k)
 | .tup e l=>.tup (k _ _ e) (l.same k)
theorem ShL.same{xs:List V}{ds:List PyData}(h:ShL H xs ds)(k:Same H H'):ShL H' xs ds:=match h with
 | .nil=>.nil
 | .cons a b=>.cons (a.same k) (b.same k)
end
theorem ShL.len{xs:List V}{ds:List PyData}(h:ShL H xs ds):xs.length=ds.length:=match h with
 | .nil=>rfl
 | .cons _ b=>by rw[zcx5,zcx5,b.len]
mutual
theorem ShV.reads(I:Inv X pins σ H s){v:V}{d:PyData}{u:Value}(h:ShV H v d)(r:RelV v u):∃ as,Reads s.heap u d as:=match h with
 | .non=>by cases (show u=Value.none from r);exact⟨_,.none⟩
 | .bl b=>by cases (show u=Value.bool b from r);exact⟨_,.bool b⟩
 | .int i=>by obtain⟨t,q⟩:=(show ∃ t,u=Value.int i t from r);cases q;exact⟨_,.int i t⟩
 | .str x=>by obtain⟨t,q⟩:=(show ∃ t,u=Value.str x t from r);cases q;exact⟨_,.str x t⟩
 | .lst (a:=a) (xs:=xs) e l=>by
  cases (show u=Value.ref a from r)
  obtain⟨_,us,n,rv,h1⟩:=(show zi5 X.prog X.w H s.heap a (.lst xs) from I.hok a _ e)
  obtain⟨as,ra⟩:=l.reads I rv
  exact⟨_,.list h1 rfl rfl (by simpa using ra)⟩
 | .tup (a:=a) (xs:=xs) e l=>by
  cases (show u=Value.ref a from r)
  obtain⟨_,us,rv,o,h1,h2,n,h3⟩:=(show zi5 X.prog X.w H s.heap a (.tup xs) from I.hok a _ e)
  obtain⟨as,ra⟩:=l.reads I rv
  exact⟨_,.tuple h1 h2 h3 (by simpa using ra)⟩
theorem ShL.reads(I:Inv X pins σ H s){xs:List V}{ds:List PyData}{us:List Value}(h:ShL H xs ds)(r:Vals xs us):∃ as,ReadsAll s.heap us ds as:=match h,r with
 | .nil,.nil=>⟨_,.nil⟩
 | .cons a b,.cons r1 r2=>by
  obtain⟨as,ra⟩:=a.reads I r1
  obtain⟨bs,rb⟩:=b.reads I r2
  exact⟨_,.cons ra rb⟩
end
structure zq9(d:PyData)(k m:Nat):Prop where
 ok:d.showable=true
 nd:d.hasDict=false
 dp:d.depth<=k
 ln:d.shown.length<=m
theorem zq9.up{d:PyData}{k k' m':Nat}(h:zq9 d k m)(h1:k<=k')(h2:m<=m'):zq9 d k' m':=⟨h.ok,h.nd,zda0 h.dp h1,zda0 h.ln h2⟩
theorem zao3{k m:Nat}:∀ {ds:List PyData},(∀ d∈ds,zq9 d k m)->PyData.showableAll ds=true/\PyData.hasDictAll ds=false/\PyData.depthAll ds<=k/\piled (PyData.shownAll ds)<=ds.length*(m+2)
 | [],_=>⟨rfl,rfl,zcy3 _,by simp[PyData.shownAll,piled]⟩
 | d :: ds,h=>by
  have h0:=h d (.head _)
  obtain⟨a1,a2,a3,a4⟩:=zao3 (ds:=ds) fun x hx=>h x (.tail _ hx)
  refine⟨by simp[PyData.showableAll,h0.ok,a1],by simp[PyData.hasDictAll,h0.nd,a2],?_,?_⟩
  ·have:=h0.dp
   simp only[PyData.depthAll]
   omega
  ·have:=h0.ln
   simp only[PyData.shownAll,piled_cons,zcx5,Nat.succ_mul]
   omega
theorem zaj5:∀ (ts:List Str) (k:Nat) (acc:Str),(textFrom k acc ts).length<=acc.length+piled ts
 | [],_,acc=>by simp[textFrom,piled]
 | t :: ts,k,acc=>by
  have ih:=zaj5 ts (k+1) (acc++(if k>0 then ", " else "":String)++t)
  have e:(acc++(if k>0 then ", " else "":String)++t).length=acc.length+(if k>0 then 2 else 0)+t.length:=by
   rw[strLen_append,strLen_append]
   congr 2
   split<;>rfl
  rw[piled_cons]
  show (textFrom (k+1) _ ts).length<=_
  rw[e] at ih
  have e2:(if k>0 then 2 else 0)<=2:=by split<;>omega
  omega
theorem zq9.list{ds:List PyData}{k m:Nat}(h:∀ d∈ds,zq9 d k m):zq9 (.list ds) (k+1) (ds.length*(m+2)+2):=by
 obtain⟨a1,a2,a3,a4⟩:=zao3 h
 refine⟨by simpa [PyData.showable] using a1,by simpa [PyData.hasDict] using a2,by simp only[PyData.depth];omega,?_⟩
 have:=zaj5 (PyData.shownAll ds) 0 "["
 have e1:((("[":String):Str)).length=1:=rfl
 have e2:((("]":String):Str)).length=1:=rfl
 simp only[PyData.shown,listText,strLen_append]
 omega
theorem zq9.tuple{ds:List PyData}{k m:Nat}(h:∀ d∈ds,zq9 d k m):zq9 (.tuple ds) (k+1) (ds.length*(m+2)+4):=by
 obtain⟨a1,a2,a3,a4⟩:=zao3 h
 refine⟨by simpa [PyData.showable] using a1,by simpa [PyData.hasDict] using a2,by simp only[PyData.depth];omega,?_⟩
 have e1:((("(":String):Str)).length=1:=rfl
 have e3:((if (PyData.shownAll ds).length==1 then ",)" else ")":String):Str).length<=2:=by split<;>decide
 have e4:(Str.join ", " (PyData.shownAll ds)).length<=piled (PyData.shownAll ds):=by
  by_cases z:PyData.shownAll ds=[]
  ·rw[z];decide
  ·have:=join_length_add _ z;omega
 simp only[PyData.shown,tupleText,strLen_append]
 omega
theorem zq9.int{i:Int}(h:-(10 ^ 100)<=i)(h':i<=10 ^ 100):zq9 (.int i) 0 1921:=by
 have hl:i.natAbs.log2<1920:=by
  by_cases z:i.natAbs=0
  ·rw[z];decide
  ·rw[Nat.log2_lt z]
   have h1:i.natAbs<=10 ^ 100:=by omega
   exact Nat.lt_of_le_of_lt h1 (by decide +kernel)
 exact⟨by simpa [PyData.showable] using hl,rfl,by simp[PyData.depth],by simpa only [PyData.shown] using PyProof.Rows.int_text_len_1921 hl⟩
theorem zq9.non:zq9 .none 0 4:=⟨rfl,rfl,by simp[PyData.depth],by decide⟩
theorem ShL.of{xs:List V}(f:V->PyData)(h:∀ x∈xs,ShV H x (f x)):ShL H xs (xs.map f):=by
 induction xs with
 | nil=>exact .nil
 | cons x xs ih=>exact .cons (h x (.head _)) (ih fun y hy=>h y (.tail _ hy))
end
mutual
noncomputable def sml:PyData->Bool
 | .none | .bool _ | .int _ | .str _=>true
 | .list xs | .tuple xs=>decide (xs.length<=1000)&&zaf1 xs
 | .dict _=>false
noncomputable def zaf1:List PyData->Bool
 | []=>true
 | x :: xs=>sml x&&zaf1 xs
end
theorem zp1:∀ {ds:List PyData},(∀ d∈ds,sml d=true)->zaf1 ds=true
 | [],_=>rfl
 | d :: ds,h=>by simp[zaf1,h d (.head _),zp1 fun x hx=>h x (.tail _ hx)]
theorem zac3:∀ {ds:List PyData},zaf1 ds=true->∀ d∈ds,sml d=true
 | [],_,d,h=>by cases h
 | x :: ds,h,d,hd=>by
  simp only[zaf1,zcx4] at h
  rcases zcw8.mp hd with rfl|hd
  ·exact h.1
  ·exact zac3 h.2 d hd
section
variable {H H':Hp}{K:zcw2}{Q:VK}
theorem ShL.idx:∀ {xs:List V}{ds:List PyData},xs.length=ds.length->(∀ (i:Nat) x d,xs[i]?=some x->ds[i]?=some d->ShV H x d)->ShL H xs ds
 | [],[],_,_=>.nil
 | [],_ :: _,h,_=>by simp at h
 | _ :: _,[],h,_=>by simp at h
 | x :: xs,d :: ds,h,k=>.cons (k 0 x d rfl rfl) (ShL.idx (by simpa using h) fun i y e h1 h2=>k (i+1) y e (by simpa using h1) (by simpa using h2))
theorem ShL.get:∀ {xs:List V}{ds:List PyData}(_:ShL H xs ds) (i:Nat) (x:V),xs[i]?=some x->∃ d,ds[i]?=some d/\ShV H x d
 | _,_,.nil,i,x,e=>by simp at e
 | _,_,.cons a b,0,x,e=>by cases (show some _=some x from e);exact⟨_,rfl,a⟩
 | _,_,.cons a b,i+1,x,e=>by
  obtain⟨d,e1,e2⟩:=ShL.get b i x (by simpa using e)
  exact⟨d,by simpa using e1,e2⟩
theorem ShL.ex{P:PyData->Prop}:∀ {xs:List V},(∀ x∈xs,∃ d,ShV H x d/\P d)->∃ ds,ShL H xs ds/\∀ d∈ds,P d
 | [],_=>⟨[],.nil,fun _ h=>by cases h⟩
 | x :: xs,h=>by
  obtain⟨d,h1,h2⟩:=h x (.head _)
  obtain⟨ds,h3,h4⟩:=ShL.ex (xs:=xs) fun y hy=>h y (.tail _ hy)
  refine⟨d :: ds,.cons h1 h3,fun e he=>?_⟩
  rcases zcw8.mp he with rfl|he
  ·exact h2
  ·exact h4 e he
noncomputable def Rda(H:Hp)(v:V)(k m:Nat):Prop:=∃ d,ShV H v d/\sml d=true/\zq9 d k m
theorem Rda.same{v:V}{k m:Nat}(h:Rda H v k m)(s:Same H H'):Rda H' v k m:=by obtain⟨d,h1,h2,h3⟩:=h;exact⟨d,h1.same s,h2,h3⟩
theorem Rda.up{v:V}{k m k' m':Nat}(h:Rda H v k m)(h1:k<=k':=by omega)(h2:m<=m':=by omega):Rda H v k' m':=by obtain⟨d,a,b,c⟩:=h;exact⟨d,a,b,c.up h1 h2⟩
theorem Rda.int{i:Int}(h:-(10 ^ 100)<=i)(h':i<=10 ^ 100):Rda H (.int i) 0 1921:=⟨_,.int i,rfl,zq9.int h h'⟩
theorem Rda.non:Rda H .non 0 1921:=⟨_,.non,rfl,zq9.non.up (by omega) (by omega)⟩
theorem Rda.lst{a:Addr}{xs:List V}{k m:Nat}(e:H a=some (.lst xs))(l:xs.length<=1000)(h:∀ x∈xs,Rda H x k m):Rda H (.ref a) (k+1) (xs.length*(m+2)+4):=by
 obtain⟨ds,h1,h2⟩:=ShL.ex (P:=fun d=>sml d=true/\zq9 d k m) h
 have hl:=h1.len
 refine⟨.list ds,.lst e h1,?_,?_⟩
 ·simp only[sml,zcx4,decide_eq_true_eq]
  exact⟨by omega,zp1 fun d hd=>(h2 d hd).1⟩
 ·have:=zq9.list (ds:=ds) (k:=k) (m:=m) fun d hd=>(h2 d hd).2
  rw[hl]
  exact this.up (zcx3 _) (by omega)
theorem Rda.tup{a:Addr}{xs:List V}{k m:Nat}(e:H a=some (.tup xs))(l:xs.length<=1000)(h:∀ x∈xs,Rda H x k m):Rda H (.ref a) (k+1) (xs.length*(m+2)+4):=by
 obtain⟨ds,h1,h2⟩:=ShL.ex (P:=fun d=>sml d=true/\zq9 d k m) h
 have hl:=h1.len
 refine⟨.tuple ds,.tup e h1,?_,?_⟩
 ·simp only[sml,zcx4,decide_eq_true_eq]
  exact⟨by omega,zp1 fun d hd=>(h2 d hd).1⟩
 ·have:=zq9.tuple (ds:=ds) (k:=k) (m:=m) fun d hd=>(h2 d hd).2
  rw[hl]
  exact this
noncomputable def isD(n:String):PyData->Bool
 | .none=>false
 | .bool _=>n=="bool" || n=="int"
 | .int _=>n=="int"
 | .str _=>n=="str"
 | .list _=>n=="list"
 | .tuple _=>n=="tuple"
 | .dict _=>n=="dict"
theorem zf9{v:V}{d:PyData}{n:String}(h:ShV H v d)(hn:n="int"∨n="bool"∨n="list"∨n="tuple")(q:Q (.bl (isD n d)) H):zz8 K v (.ty n) H Q:=by
 rcases hn with rfl|rfl|rfl|rfl<;>cases h
 all_goals first
  | exact zbz0 q (by rfl)
  | exact zag8 q (by rfl)
  | exact zah1 q (by rfl)
  | exact zbx0 q (by rfl)
  | (rename_i e l;exact zbx3 e q (by rfl))
  | (rename_i e l;exact zae5 e q (by rfl))
end
section
variable {X:Cx}{K:zcw2}{H:Hp}{Q:VK}
@[irreducible] noncomputable def rInA(K:zcw2)(neg:Bool)(x:V)(p:Addr)(H:Hp)(Q:VK):Prop:=∃ xs,(SqL K H p xs∨SqT K H p xs)/\zs0 x=true/\xs.all zs0=true/\Q (.bl (if neg then !inV x xs else inV x xs)) H
noncomputable def rInM(K:zcw2)(neg:Bool):R2:=fun x y H Q=>match y with
 | .ref p=>rInA K neg x p H Q
 | _=>False
theorem oInK(hK:X.K=K):OpR X (compareOp .In) (rInM K false):=by
 subst hK
 intro pins s σ H x y v u Q I rx ry h
 unfold rInM at h
 split at h
 ·unfold rInA at h
  obtain⟨xs,h1,h2,h3,h4⟩:=h
  exact zbr6 pins s σ H _ _ v u Q I rx ry ⟨_,xs,rfl,h1,h2,h3,h4⟩
 ·exact h.elim
theorem zcm3(hK:X.K=K):OpR X (compareOp .NotIn) (rInM K true):=by
 subst hK
 intro pins s σ H x y v u Q I rx ry h
 unfold rInM at h
 split at h
 ·unfold rInA at h
  obtain⟨xs,h1,h2,h3,h4⟩:=h
  exact zau6 pins s σ H _ _ v u Q I rx ry ⟨_,xs,rfl,h1,h2,h3,h4⟩
 ·exact h.elim
theorem inL_rd{x:V}{p:Addr}(h:SqL K H p xs)(h1:zs0 x=true)(h2:xs.all zs0=true)(q:Q (.bl (inV x xs)) H):rInA K false x p H Q:=by unfold rInA;exact⟨xs,.inl h,h1,h2,q⟩
theorem zbr0{x:V}{p:Addr}(h:SqT K H p xs)(h1:zs0 x=true)(h2:xs.all zs0=true)(q:Q (.bl (!inV x xs)) H):rInA K true x p H Q:=by unfold rInA;exact⟨xs,.inr h,h1,h2,q⟩
end
section
variable {X:Cx}{K:zcw2}{H:Hp}{Q:VK}
@[irreducible] noncomputable def rDNE(H:Hp)(Q:VK):Prop:=(∀ p H',H p=none->Same H H'->H' p=some (.dT [])->Q (.ref p) H')∨∀ p H',H p=none->Same H H'->H' p=some (.dK [])->Q (.ref p) H'
def tDNE:TE:=fun _ H Q=>rDNE H Q
theorem zak3:PE X (.Dict [] [] pos) tDNE:=fun pins s σ H Q I h=>by
 unfold tDNE rDNE at h
 rcases h with h|h
 ·exact zcc1 (pos:=pos) pins s σ H Q I fun p hp=>h p _ hp (Same.upd hp) zd0
 ·exact zcb5 (pos:=pos) pins s σ H Q I fun p hp=>h p _ hp (Same.upd hp) zd0
theorem zch9(q:∀ p H',H p=none->Same H H'->H' p=some (.dT [])->Q (.ref p) H'):rDNE H Q:=by unfold rDNE;exact .inl q
theorem zbg9(q:∀ p H',H p=none->Same H H'->H' p=some (.dK [])->Q (.ref p) H'):rDNE H Q:=by unfold rDNE;exact .inr q
theorem zbd8{a:Addr}{P:Prop}{kvs:List (Key×V)}(e:H a=some (.dK kvs))(p:P):rIsD a H P:=by unfold rIsD;exact⟨.inl ⟨kvs,.inl e⟩,p⟩
theorem zbd4{a:Addr}{i:Int}{z:V}{kvs:List (Key×V)}(e:H a=some (.dK kvs))(q:Q ((valV kvs (.inl i)).getD z) H):rDG2 a (.int i) z H Q:=by
 unfold rDG2
 exact⟨_,DGet.k (k:=.inl i) e,q⟩
theorem zbw0{a:Addr}{i:Int}{v:V}{N:Hp->Prop}{kvs:List (Key×V)}(e:H a=some (.dK kvs))(hl:kvs.length<sizeLine)(q:∀ H',Chg a H H'->H' a=some (.dK (putK kvs (.inl i) v))->N H'):rDP a (.int i) v H N:=by
 unfold rDP
 exact⟨_,DPut.k (k:=.inl i) e hl,q _ Chg.upd zd0⟩
noncomputable def dI(kv:List (Int×Int)):List (Key×V):=kv.map fun z=>(.inl z.1,.int z.2)
noncomputable def valI(kv:List (Int×Int))(i:Int):Option Int:=(kv.find? fun z=>decide (z.1=i)).map (·.2)
theorem zbv0(i:Int):∀ kv:List (Int×Int),valV (dI kv) (.inl i)=(valI kv i).map V.int
 | []=>rfl
 | z :: kv=>by
  by_cases e:z.1=i
  ·show valV (((.inl z.1:Key),V.int z.2) :: dI kv) (.inl i)=_
   rw[zab1 (by exact congrArg Sum.inl e)]
   unfold valI
   rw[zdc4,decide_eq_true e];rfl
  ·show valV (((.inl z.1:Key),V.int z.2) :: dI kv) (.inl i)=_
   rw[zab7 (by exact fun q=>e (Sum.inl.inj q)),zbv0 i kv]
   unfold valI
   rw[zdc4,decide_eq_false e]
noncomputable def eqDI(ka kb:List (Int×Int)):Bool:=ka.length==kb.length&&ka.all fun z=>valI kb z.1==some z.2
theorem zba2{A:Around}{s:Shared}{kb:List (Int×Int)}{ws:List (Key×Value)}(rb:KV (dI kb) ws):∀ {ka:List (Int×Int)}{vs:List (Key×Value)},KV (dI ka) vs->KeqHits A s ws vs (ka.all fun z=>valI kb z.1==some z.2)
 | [],vs,r=>by
  unfold KV dI at r
  cases r
  exact .nil
 | z :: ka,vs,r=>by
  unfold KV dI at r
  rw[zcz4] at r
  cases r with
  | @cons p q ps qs h t=>
   obtain⟨h1,h2⟩:=h
   obtain⟨k,v⟩:=q
   cases (show (Sum.inl z.1:Key)=k from h1)
   have val:=rb.val (.inl z.1)
   rw[zbv0] at val
   rw[List.all_cons]
   cases e:valI kb z.1 with
   | none=>
    rw[e] at val
    have:valueAt ws (.inl z.1)=none:=by
     cases w:valueAt ws (.inl z.1) with
     | none=>rfl
     | some y=>rw[w] at val;exact val.elim
    have f:((none:Option Int)==some z.2)=false:=rfl
    rw[f,zde9]
    exact .miss this
   | some n=>
    rw[e] at val
    obtain⟨y,ey,ry⟩:∃ y,valueAt ws (.inl z.1)=some y/\RelV (.int n) y:=by
     cases w:valueAt ws (.inl z.1) with
     | none=>rw[w] at val;exact val.elim
     | some y=>rw[w] at val;exact⟨y,rfl,val⟩
    have q:=zbt3 (A:=A) (s:=s) (show RelV (.int z.2) v from h2) ry rfl rfl
    have e2:eqV (.int z.2) (.int n)=(some n==some z.2):=by
     by_cases d:z.2=n
     ·subst d;simp[eqV]
     ·have d':¬ n=z.2:=fun x=>d x.symm
      show (z.2==n)=(some n==some z.2)
      rw[beq_eq_false_iff_ne.mpr d]
      exact (beq_eq_false_iff_ne.mpr fun x=>d' (Option.some.inj x)).symm
    rw[e2] at q
    exact .hit ey q (zba2 rb t)
@[irreducible] noncomputable def rEqX(K:zcw2)(x y:V)(H:Hp)(Q:VK):Prop:=
 (∃ a b n c,x=.ref a/\y=.ref b/\n<=40/\EqR K H n (.ref a) (.ref b) c/\Q (.bl c) H) ∨
 (∃ a b ka kb,x=.ref a/\y=.ref b/\H a=some (.dK (dI ka))/\H b=some (.dK (dI kb))/\Q (.bl (eqDI ka kb)) H) ∨
 ∃ d e,ShV H x d/\ShV H y e/\d.canLay0=true/\e.canLay0=true/\d.depth<=40/\Q (.bl (PyData.eqv d e)) H
noncomputable def zay7(K:zcw2):R2:=fun x y H Q=>match x,y with
 | .int i,.int j=>Q (.bl (decide (i=j))) H
 | .bl i,.bl j=>Q (.bl (decide (i=j))) H
 | .str i,.str j=>Q (.bl (decide (i=j))) H
 | x,y=>rEqX K x y H Q
noncomputable def zbw8(K:zcw2):R2:=fun x y H Q=>zay7 K x y H fun v H'=>match v with
 | .bl b=>Q (.bl (!b)) H'
 | _=>False
theorem oEqX(hu:X.A.units+40<cLine):OpR X (compareOp .Eq) (zay7 X.K):=by
 intro pins s σ H x y v u Q I rx ry h
 unfold zay7 at h
 split at h
 ·exact zbe6 pins s σ H _ _ v u Q I rx ry ⟨rfl,by rw[zt2 (f:=V.int) fun a b e=>V.int.inj e];exact h⟩
 ·exact zbe6 pins s σ H _ _ v u Q I rx ry ⟨rfl,by rw[zt2 (f:=V.bl) fun a b e=>V.bl.inj e];exact h⟩
 ·exact zbe6 pins s σ H _ _ v u Q I rx ry ⟨rfl,by rw[zt2 (f:=V.str) fun a b e=>V.str.inj e];exact h⟩
 ·unfold rEqX at h
  rcases h with ⟨a,b,n,c,rfl,rfl,hn,h1,h2⟩|⟨a,b,ka,kb,rfl,rfl,ea,eb,h⟩|⟨d,e,hd,he,cd,ce,dd,h⟩
  ·cases rx
   cases ry
   exact EqR.rc I h1 (A:=X.A) (by omega) _ _ _ _ ⟨.bl c,H,I,rfl,h2⟩
  ·cases rx
   cases ry
   obtain⟨_,sa,vs,ra,da⟩:=zbm2 I.hok ea
   obtain⟨_,sb,ws,rb,db⟩:=zbm2 I.hok eb
   refine keq_eq sa sb da db (by omega) (fun _=>zba2 rb ra) ⟨.bl (eqDI ka kb),H,I,?_,h⟩
   have la:vs.length=ka.length:=by rw[← ra.length];unfold dI;rw[zcv8]
   have lb:ws.length=kb.length:=by rw[← rb.length];unfold dI;rw[zcv8]
   rw[la,lb]
   rfl
  ·obtain⟨as,r1⟩:=hd.reads I rx
   obtain⟨bs,r2⟩:=he.reads I ry
   exact SeqAt.compareEq_reads r1 r2 cd ce (by have:=Nat.min_le_left d.depth e.depth;omega) ⟨.bl (PyData.eqv d e),H,I,rfl,h⟩
theorem oNeX(hu:X.A.units+40<cLine):OpR X (compareOp .NotEq) (zbw8 X.K):=by
 intro pins s σ H x y v u Q I rx ry h
 unfold zbw8 zay7 at h
 split at h
 ·exact op_ne pins s σ H _ _ v u Q I rx ry ⟨rfl,by rw[zt2 (f:=V.int) fun a b e=>V.int.inj e];exact h⟩
 ·exact op_ne pins s σ H _ _ v u Q I rx ry ⟨rfl,by rw[zt2 (f:=V.bl) fun a b e=>V.bl.inj e];exact h⟩
 ·exact op_ne pins s σ H _ _ v u Q I rx ry ⟨rfl,by rw[zt2 (f:=V.str) fun a b e=>V.str.inj e];exact h⟩
 ·unfold rEqX at h
  rcases h with ⟨a,b,n,c,rfl,rfl,hn,h1,h2⟩|⟨a,b,ka,kb,rfl,rfl,ea,eb,h⟩|⟨d,e,hd,he,cd,ce,dd,h⟩
  ·cases rx
   cases ry
   exact EqR.rcNe I h1 (A:=X.A) (by omega) _ _ _ _ ⟨.bl (!c),H,I,rfl,h2⟩
  ·cases rx
   cases ry
   obtain⟨_,sa,vs,ra,da⟩:=zbm2 I.hok ea
   obtain⟨_,sb,ws,rb,db⟩:=zbm2 I.hok eb
   refine keq_ne sa sb da db (by omega) (fun _=>zba2 rb ra) ⟨.bl (!eqDI ka kb),H,I,?_,h⟩
   have la:vs.length=ka.length:=by rw[← ra.length];unfold dI;rw[zcv8]
   have lb:ws.length=kb.length:=by rw[← rb.length];unfold dI;rw[zcv8]
   rw[la,lb]
   rfl
  ·obtain⟨as,r1⟩:=hd.reads I rx
   obtain⟨bs,r2⟩:=he.reads I ry
   exact SeqAt.compareNe_reads r1 r2 cd ce (by have:=Nat.min_le_left d.depth e.depth;omega) ⟨.bl (!PyData.eqv d e),H,I,rfl,h⟩
theorem zbv2{a b:Addr}{n:Nat}{c:Bool}(h:EqR K H n (.ref a) (.ref b) c)(q:Q (.bl c) H)(hn:n<=40:=by decide):rEqX K (.ref a) (.ref b) H Q:=by unfold rEqX;exact .inl ⟨a,b,n,c,rfl,rfl,hn,h,q⟩
theorem zch0{a b:Addr}{ka kb:List (Int×Int)}(ea:H a=some (.dK (dI ka)))(eb:H b=some (.dK (dI kb)))(q:Q (.bl (eqDI ka kb)) H):rEqX K (.ref a) (.ref b) H Q:=by unfold rEqX;exact .inr (.inl ⟨a,b,ka,kb,rfl,rfl,ea,eb,q⟩)
theorem zci7{x y:V}{d e:PyData}(hd:ShV H x d)(he:ShV H y e)(cd:d.canLay0=true)(ce:e.canLay0=true)(dd:d.depth<=40)(q:Q (.bl (PyData.eqv d e)) H):rEqX K x y H Q:=by unfold rEqX;exact .inr (.inr ⟨d,e,hd,he,cd,ce,dd,q⟩)
end
theorem zbr7(l b:Addr)(x y:Int×Int)(t u t' u':Tok)(n n2:Nat)(dd dd2:Option Addr)(sl sl2:Array (Option Value)) :
  Meets (Builtin.«tuple.__lt__» ⟨[.ref l,.ref b],[]⟩)
   (fun A R s=>s.heap.get? l=some { cls:=.type "tuple",dict:=dd,data:=.seq #[.int x.1 t,.int x.2 u] n,slots:=sl }/\s.heap.get? b=some { cls:=.type "tuple",dict:=dd2,data:=.seq #[.int y.1 t',.int y.2 u'] n2,slots:=sl2 } /\
    R (.ok (.ret (.bool (ltP x y)))) s):=
 .of_wp fun prog w A R s h=>by
  obtain⟨hp,g,d,tk,os⟩:=s;obtain⟨hl,hb,h⟩:=h
  have f2:=AutoSeq1.sub_tuple_tuple
  wp_walk using wpAny_loadPart' hl,wpAny_loadPart' hb,wpAny_forIn_list _ (fun rest b s'=>b.1=none/\s'=⟨hp,g,d,tk,os⟩/\(rest=[(.int x.1 t,.int y.1 t'),(.int x.2 u,.int y.2 u')]∨(x.1=y.1/\rest=[(.int x.2 u,.int y.2 u')])∨(x.1=y.1/\x.2=y.2/\rest=[]))) _
  case turn=>
   rintro⟨p,q⟩ rest b s' ⟨hb',rfl,hz⟩
   rcases hz with hz|⟨e0,hz⟩|⟨_,_,hz⟩
   ·cases hz
    refine zdf3 (wpAny_eqBool_int ?_)
    cases e:(x.1==y.1)
    ·have h':R (Except.ok (Flow.ret (Value.bool (decide (x.1<y.1))))) ⟨hp,g,d,tk,os⟩:=by
      unfold ltP at h
      rw[if_neg (by rw[e];exact zcw5)] at h
      exact h
     simp only[Bool.not_false,if_true]
     refine zdf3 (wpAny_rule ?_)
     refine zdf3 ((lt_int (Q:=_) ?_:wpAny _ _ (compareOp .Lt _ _) _ _ _))
     wp_walk
     exact⟨_,rfl,h'⟩
    ·wp_walk
     exact⟨rfl,rfl,.inr (.inl ⟨by simpa using e,rfl⟩)⟩
   ·cases hz
    refine zdf3 (wpAny_eqBool_int ?_)
    cases e:(x.2==y.2)
    ·have h':R (Except.ok (Flow.ret (Value.bool (decide (x.2<y.2))))) ⟨hp,g,d,tk,os⟩:=by
      unfold ltP at h
      rw[if_pos (by rw[e0];exact beq_self_eq_true _),if_neg (by rw[e];exact zcw5)] at h
      exact h
     simp only[Bool.not_false,if_true]
     refine zdf3 (wpAny_rule ?_)
     refine zdf3 ((lt_int (Q:=_) ?_:wpAny _ _ (compareOp .Lt _ _) _ _ _))
     wp_walk
     exact⟨_,rfl,h'⟩
    ·wp_walk
     exact⟨rfl,rfl,.inr (.inr ⟨e0,by simpa using e,rfl⟩)⟩
   ·cases hz
  case fin=>
   rintro⟨b1,b2⟩ s' ⟨hb',rfl,hz⟩
   simp only at hb'
   subst hb'
   rcases hz with hz|⟨e0,hz⟩|⟨e0,e1,hz⟩
   ·cases hz
   ·cases hz
   ·have h':R (Except.ok (Flow.ret (Value.bool false))) ⟨hp,g,d,tk,os⟩:=by
     unfold ltP at h
     rw[if_pos (by rw[e0];exact beq_self_eq_true _),if_pos (by rw[e1];exact beq_self_eq_true _)] at h
     exact h
    wp_walk
    exact⟨_,rfl,h'⟩
  exact⟨rfl,rfl,.inl rfl⟩
section
variable {prog:Program}{w:World}{A:Around}{E:Value->Shared->Prop}{s:Shared}
theorem zce2{v v':Value}{x y:Int×Int}(ha:TupI s.heap v x)(hb:TupI s.heap v' y)(hu:A.units<cLine)(h:Q (.bool (ltP x y)) s):wpAny (model prog w) A (compareOp .Lt v v') Q E s:=by
 obtain⟨a,⟨cls,dd,data,sl⟩,t,u,n,rfl,ho,hc,hd⟩:=ha
 obtain⟨b,⟨cls2,dd2,data2,sl2⟩,t',u',n2,rfl,ho2,hc2,hd2⟩:=hb
 simp only at hc hd hc2 hd2
 subst hc hd hc2 hd2
 exact richCompare_meets_room (op:=.Lt) ⟨_,ho,rfl⟩ ⟨_,ho2,rfl⟩ F.slot_tuple_lt F.entry_tuple_lt (F.args_tuple_lt_2 _ _) (zbr7 a b x y t u t' u' n n2 dd dd2 sl sl2)
  ⟨ho,ho2,show Value.bool (ltP x y)≠Value.notImplemented/\Q (.bool (ltP x y)) s from ⟨(fun x=>nomatch x),h⟩⟩ hu
end
section
variable {X:Cx}{K:zcw2}{H:Hp}{Q:VK}
def pV(x:Int×Int):List V:=[.int x.1,.int x.2]
@[irreducible] noncomputable def rLtA(a b:Addr)(H:Hp)(Q:VK):Prop:=∃ x y:Int×Int,H a=some (.tup (pV x))/\H b=some (.tup (pV y))/\Q (.bl (ltP x y)) H
noncomputable def rLtXM:R2:=fun x y H Q=>match x,y with
 | .int i,.int j=>Q (.bl (decide (i<j))) H
 | .ref a,.ref b=>rLtA a b H Q
 | _,_=>False
theorem zbo5{pins:List (Addr×Obj)}{σ:St}{a:Addr}{x:Int×Int}(I:Inv X pins σ H s)(h:H a=some (.tup (pV x))):TupI s.heap (.ref a) x:=by
 obtain⟨_,its,rv,o,h1,h2,n,h3⟩:=(show zi5 X.prog X.w H s.heap a (.tup (pV x)) from I.hok a _ h)
 unfold pV at rv
 cases rv with
 | cons r1 rv=>
  cases rv with
  | cons r2 rv=>
   cases rv
   obtain⟨t,rfl⟩:=r1
   obtain⟨u,rfl⟩:=r2
   exact⟨a,o,t,u,n,rfl,h1,h2,h3⟩
theorem oLtX(hu:X.A.units+40<cLine):OpR X (compareOp .Lt) rLtXM:=by
 intro pins s σ H x y v u Q I rx ry h
 unfold rLtXM at h
 split at h
 ·exact op_lt pins s σ H _ _ v u Q I rx ry ⟨_,_,rfl,rfl,h⟩
 ·unfold rLtA at h
  obtain⟨x,y,ea,eb,h⟩:=h
  cases rx
  cases ry
  exact zce2 (zbo5 I ea) (zbo5 I eb) (by omega) ⟨.bl (ltP x y),H,I,rfl,h⟩
 ·exact h.elim
theorem ltP_rd{a b:Addr}{x y:Int×Int}(ha:H a=some (.tup (pV x)))(hb:H b=some (.tup (pV y)))(q:Q (.bl (ltP x y)) H):rLtA a b H Q:=by unfold rLtA;exact⟨x,y,ha,hb,q⟩
@[irreducible] noncomputable def rSlX(K:zcw2)(a:Addr)(lo hi:Option Int)(H:Hp)(Q:VK):Prop:=(∃ xs,SqL K H a xs/\∀ p H',H p=none->Same H H'->H' p=some (.lst (cutV xs lo hi))->Q (.ref p) H') ∨
 ∃ xs,SqT K H a xs/\¬ (HT.sIx xs.length 0 lo=0/\HT.sIx xs.length xs.length hi=xs.length)/\∀ p H',H p=none->Same H H'->H' p=some (.tup (cutV xs lo hi))->Q (.ref p) H'
noncomputable def rSlXM(K:zcw2):V->Option Int->Option Int->Hp->VK->Prop:=fun x lo hi H Q=>match x with
 | .ref a=>rSlX K a lo hi H Q
 | _=>False
theorem slX:SlR X (rSlXM X.K):=by
 intro pins s σ H x v vl vu lo hi sl Q I rx hs pl pu h
 unfold rSlXM at h
 split at h
 ·unfold rSlX at h
  rcases h with ⟨xs,h1,q⟩|⟨xs,h1,h2,q⟩
  ·exact zck9 pins s σ H _ v vl vu lo hi sl Q I rx hs pl pu ⟨_,xs,rfl,h1,fun p hp=>q p _ hp (Same.upd hp) zd0⟩
  ·exact sl_tup pins s σ H _ v vl vu lo hi sl Q I rx hs pl pu ⟨_,xs,rfl,h1,h2,fun p hp=>q p _ hp (Same.upd hp) zd0⟩
 ·exact h.elim
theorem zq1{a:Addr}{lo hi:Option Int}(h:SqL K H a xs)(q:∀ p H',H p=none->Same H H'->H' p=some (.lst (cutV xs lo hi))->Q (.ref p) H'):rSlX K a lo hi H Q:=by unfold rSlX;exact .inl ⟨xs,h,q⟩
theorem zbp2{a:Addr}{x y z:V}(h:H a=some (.tup [x,y,z]))(q:∀ p H',H p=none->Same H H'->H' p=some (.tup [x,y])->Q (.ref p) H'):rSlX K a none (some 2) H Q:=by
 unfold rSlX
 exact .inr ⟨[x,y,z],SqT.of h,(by decide:¬ (HT.sIx 3 0 none=0/\HT.sIx 3 3 (some 2)=3)),q⟩
theorem zn6(hK:X.K=K)(hu:X.A.units+40<cLine):OpR X (compareOp .Eq) (zay7 K):=by subst hK;exact oEqX hu
theorem zac6(hK:X.K=K)(hu:X.A.units+40<cLine):OpR X (compareOp .NotEq) (zbw8 K):=by subst hK;exact oNeX hu
theorem slXK(hK:X.K=K):SlR X (rSlXM K):=by subst hK;exact slX
noncomputable def rIsXM:R2:=fun x y H Q=>match x,y with
 | .bl i,.bl j=>Q (.bl (decide (i=j))) H
 | x,.non=>Q (.bl (decide (x=.non))) H
 | _,_=>False
noncomputable def zbj4:R2:=fun x y H Q=>match x,y with
 | .bl i,.bl j=>Q (.bl (!decide (i=j))) H
 | x,.non=>Q (.bl (!decide (x=.non))) H
 | _,_=>False
theorem zam6(i j:Bool):isSame (.bool i) (.bool j)=pure (decide (i=j)):=by cases i<;>cases j<;>rfl
theorem oIsX:OpR X (compareOp .Is) rIsXM:=by
 intro pins s σ H x y v u Q I rx ry h
 unfold rIsXM at h
 split at h
 ·rename_i i j
  cases (show v=Value.bool i from rx)
  cases (show u=Value.bool j from ry)
  show wpAny _ _ (isSame (.bool i) (.bool j) >>= fun b=>pure (Value.bool b)) _ _ s
  rw[zam6]
  exact zdf3 (zdf4 (zdf4 ⟨.bl (decide (i=j)),H,I,rfl,h⟩))
 ·exact op_isN pins s σ H _ _ v u Q I rx ry ⟨rfl,h⟩
 ·exact h.elim
theorem zaz4:OpR X (compareOp .IsNot) zbj4:=by
 intro pins s σ H x y v u Q I rx ry h
 unfold zbj4 at h
 split at h
 ·rename_i i j
  cases (show v=Value.bool i from rx)
  cases (show u=Value.bool j from ry)
  show wpAny _ _ (isSame (.bool i) (.bool j) >>= fun b=>pure (Value.bool (!b))) _ _ s
  rw[zam6]
  exact zdf3 (zdf4 (zdf4 ⟨.bl (!decide (i=j)),H,I,rfl,h⟩))
 ·exact zck0 pins s σ H _ _ v u Q I rx ry ⟨rfl,h⟩
 ·exact h.elim
theorem Wk.zipN{a b:Addr}{ys:List V}{n:Nat}{H1:Hp}(h:SqL K H1 a xs)(h':SqL K H1 b ys)(hx:n<=xs.length)(hy:n<=ys.length)(hn:xs.length=n∨ys.length=n):Wk (Itz K a b) n H1 fun i v H=>∃ p x y,v=.ref p/\H p=some (.tup [x,y])/\xs[i]?=some x/\ys[i]?=some y:=
 ⟨fun i H s hi=>⟨xs,ys,xs[i],ys[i],s.seq h,s.seq h',by simp,by simp⟩,fun H s=>⟨xs,ys,s.seq h,s.seq h',by omega⟩,fun i H v H' s _ y=>by
  obtain⟨p,x,y,rfl,y1,y2,y3,y4,y5⟩:=y
  exact⟨y2,p,x,y,rfl,y3,y4 xs (s.seq h),y5 ys (s.seq h')⟩⟩
end
set_option maxHeartbeats 2000000
set_option maxHeartbeats 4000000
set_option maxHeartbeats 2000000
section
variable {X:Cx}{K:zcw2}
@[irreducible] noncomputable def rMaxL(K:zcw2)(p:Addr)(H:Hp)(Q:VK):Prop:=∃ ns:List Int,SqL K H p (ns.map V.int)/\0<ns.length/\∀ M:Int,M∈ns->(∀ a∈ns,a<=M)->Q (.int M) H
noncomputable def zcg4(K:zcw2):List V->Hp->VK->Prop:=fun xs H Q=>match xs with
 | [.ref p]=>rMaxL K p H Q
 | [.int i,.int j]=>Q (.int (if j>i then j else i)) H
 | _=>False
theorem cMaxK(hK:X.K=K)(hc:X.calm=true):zm6 X (.builtin "max") (zcg4 K):=by
 subst hK
 intro pins s σ H xs us Q I r h
 unfold zcg4 at h
 split at h
 ·unfold rMaxL at h
  obtain⟨ns,h1,h2,h3⟩:=h
  obtain⟨u,rfl,rx⟩:=zy7 r
  cases rx
  obtain⟨its,r',pl,hz⟩:=I.list h1
  have hi:=zad1 r'
  obtain⟨ys,hx⟩:=hi.allInts.items
  have e1:ns=ys.toList.map (·.1):=by
   rw[← nums_intItems,← hx]
   exact (show numsOf its.toArray.toList=ns from hi.numsOf).symm
  have hs:0<ys.size:=by
   have z:ns.length=ys.size:=by
    conv=>lhs;rw[e1]
    rw[zcv8,zcx1]
   omega
  have hl':s.heap.IsList _ (intItems ys):=hx▸pl.isList
  refine max_intList (I.ok.hd hc) hl' hs fun v h' tk hv hk=>?_
  obtain⟨t,rfl⟩:=intItems_at hv
  have best:=argBest_gt (numAt ys) (ys.size - 1)
  refine⟨.int _,H,I.kept hk,⟨t,rfl⟩,h3 _ ?_ fun a ha=>?_⟩
  ·rw[e1,numAt_eq]
   exact getD_mem (by rw[zcv8,zcx1];omega)
  ·rw[e1] at ha
   obtain⟨j,hj,rfl⟩:=mem_getD ha
   rw[zcv8,zcx1] at hj
   rw[← numAt_eq]
   exact best.2 j (by omega)
 ·exact zbv8 hc pins s σ H _ us Q I r ⟨_,_,rfl,h⟩
 ·exact h.elim
theorem zbo1{p:Addr}{Q:VK}{ns:List Int}(h:SqL K H p (ns.map V.int))(h0:0<ns.length)(q:∀ M:Int,M∈ns->(∀ a∈ns,a<=M)->Q (.int M) H):rMaxL K p H Q:=by unfold rMaxL;exact⟨ns,h,h0,q⟩
end
section
variable {prog:Program}{w:World}{A:Around}{E:Value->Shared->Prop}{s:Shared}
theorem zah8:isSubtype (.type "range_iterator") (.type "reversed")=pure false:=by rw[isSubtype_type];kernel_rfl
noncomputable abbrev revR(n:Int):Obj:={ cls:=.type "range_iterator",data:=.fields #[rawInt (n - 1),rawInt n,rawInt (-1)] }
theorem zcd0(r:Addr)(n:Int)(t u v:Tok)(h0:0<=n)(h1:n<=10000) :
  Meets (Builtin.«range.__reversed__» ⟨[.ref r],[]⟩) (fun _ R s=>s.heap.get? r=some { cls:=.type "range",dict:=none,data:=.fields #[.int 0 t,.int n u,.int 1 v],slots:=#[] }/\R (.ok (.ret (Value.ref s.heap.objs.size))) { s with heap:=s.heap.push (revR n),toks:=s.toks }):=
 .of_wp fun prog w A R s h=>by
  obtain⟨hp,g,d,tk,os⟩:=s
  obtain⟨hl,h⟩:=h
  have e1:Builtin.Range.rangeSize 0 n 1=n:=by
   unfold Builtin.Range.rangeSize
   rw[if_pos (by decide)]
   split<;>omega
  have e2:(Builtin.Range.rangeFitsLong 0&&Builtin.Range.rangeFitsLong n&&Builtin.Range.rangeFitsLong 1&&Builtin.Range.rangeFitsLong (-1)&&Builtin.Range.rangeFitsLong (0 - 1)&&Builtin.Range.rangeFitsLong n)=true:=by
   simp only[Builtin.Range.rangeFitsLong,zcx4,decide_eq_true_eq]
   omega
  have hc0:¬ (!(Builtin.Range.rangeFitsLong 0&&Builtin.Range.rangeFitsLong n&&Builtin.Range.rangeFitsLong 1&&Builtin.Range.rangeFitsLong (-1)&&Builtin.Range.rangeFitsLong (0 - 1)&&Builtin.Range.rangeFitsLong (Builtin.Range.rangeSize 0 n 1)))=true:=by rw[e1,e2];decide
  have e3:revR n={ cls:=.type (if (Builtin.Range.rangeFitsLong 0&&Builtin.Range.rangeFitsLong n&&Builtin.Range.rangeFitsLong 1&&Builtin.Range.rangeFitsLong (-1)&&Builtin.Range.rangeFitsLong (0 - 1)&&Builtin.Range.rangeFitsLong (Builtin.Range.rangeSize 0 n 1))=true then "range_iterator" else "longrange_iterator"),data:=.fields #[rawInt (0+(Builtin.Range.rangeSize 0 n 1 - 1)*1),rawInt (Builtin.Range.rangeSize 0 n 1),rawInt (-1)] }:=by
   rw[e1,e2,if_pos rfl,show (0:Int)+(n - 1)*1=n - 1 by omega]
  rw[e3] at h
  wp_walk
  simp only[if_neg hc0]
  show wpAny (model prog w) A.in1 _ (fun fin s'=>∃ v,fin=Fin.done (Flow.ret v)/\R (Except.ok (Flow.ret v)) s') (fun e s'=>R (Except.error e) s') ⟨hp,g,d,tk,os⟩
  wp_walk
  exact⟨_,rfl,h⟩
theorem zal7{r:Addr}{n:Int}{t u v:Tok}{Q₁:Value->Shared->Prop}(hr:IsRange s.heap r 0 n 1 t u v)(h0:0<=n)(h1:n<=10000)(h:Q₁ (.ref s.heap.objs.size) { s with heap:=s.heap.push (revR n) }) :
  codeAny (model prog w) A (.call (.builtin "reversed.__new__") ⟨[.type "reversed",.ref r],[]⟩) (wants Q₁ E) s:=by
 have hT:s.TypeIs (.ref r) "range":=⟨_,hr,rfl⟩
 refine codeAny_of_tree ?_
 show wpAny _ A.in1 (do checkBuiltinCall "reversed.__new__" ⟨[.type "reversed",.ref r],[]⟩;again (.builtin "reversed.__new__" ⟨[.type "reversed",.ref r],[]⟩)) _ _ s
 refine zdf3 (wpAny_of_eq (F.newCall_reversed_1 _) (zdf4 ⟨plainId_quiet F.plain_reversed_new _,codeAny_builtin F.entry_reversed_new ?_⟩))
 rw[Around.under_plainId F.plain_reversed_new _]
 unfold Builtin.«reversed.__new__»
 refine zdf3 (wpAny_of_eq (newClass_reversed _) ?_)
 try dsimp only
 refine zdf3 (wpAny_of_eq (a:=()) (by first|rfl|kernel_rfl) ?_)
 refine zdf3 (wpAny_of_eq (a:=()) (by first|rfl|kernel_rfl) ?_)
 try dsimp only
 refine zdf3 (wpAny_specialOf hT F.slot_range_reversed.lookup ?_)
 try dsimp only
 refine zdf3 (wpAny_of_eq (F.slot_range_reversed.bind _) ?_)
 try dsimp only
 first
  | rw[if_neg (show ¬ ((Value.builtin "range.__reversed__"==Value.none)=true) from zcw5)]
  | (show wpAny _ _ (if (Value.builtin "range.__reversed__"==Value.none)=true then _ else _) _ _ _;rw[if_neg (show ¬ ((Value.builtin "range.__reversed__"==Value.none)=true) from zcw5)])
 refine zdf3 (wpAny_rule ?_)
 refine zdf3 (m:=runValue (.call (.builtin "range.__reversed__") ⟨[.ref r],[]⟩)) (show wpAny _ _ (call (.builtin "range.__reversed__") [.ref r]) _ _ _ from call_meets F.slot_range_reversed hT F.entry_range_reversed (F.args_range_reversed_1 _) (zcd0 r n t u v h0 h1) ⟨hr,?_⟩)
 first
  | exact zdf4 h
  | exact zdf3 (zdf4 (zdf4 h))
theorem zak7{r:Addr}{n:Int}{t u v:Tok}(hr:IsRange s.heap r 0 n 1 t u v)(h0:0<=n)(h1:n<=10000)(h:Q (.ref s.heap.objs.size) { s with heap:=s.heap.push (revR n) }):wpAny (model prog w) A (call (.type "reversed") [.ref r]) Q E s:=by
 refine callType_other (U:="range_iterator") (Q₁:=fun obj s₁=>obj=.ref s.heap.objs.size/\s₁={ s with heap:=s.heap.push (revR n) }) (by decide +kernel) F.create_reversed ⟨_,_,F.mro_reversed⟩ F.made_reversed zah8 (F.typeCall_reversed_1 _) (zal7 hr h0 h1 ⟨rfl,rfl⟩) ?_
 rintro obj s₁ ⟨rfl,rfl⟩
 exact⟨⟨_,zcy8 _ rfl,rfl⟩,h⟩
end
section
variable {X:Cx}{K:zcw2}{tg:Expr}
@[irreducible] noncomputable def rRevR(n:Int)(H:Hp)(R:It->Hp->Prop):Prop:=0<=n/\n<=10000/\R (Itd (n - 1) n.toNat) H
noncomputable def qiRevR(ta:TA):TI:=fun σ H R=>ta σ H fun vs H1=>match vs with
 | [.int n]=>rRevR n H1 R
 | _=>False
theorem piRevR{a:Expr}{ta:TA}{p p2 pos2:Pos}(hl:X.mg "reversed"=none)(hm:X.mg "range"=none)(ha:PA X [a] ta)(hg:Gl X "range":=by rfl)(hg2:Gl X "reversed":=by rfl)(hs:starEach [a] X.env=[(false,eval a X.env)]:=by rfl)(he:starEach [.Call (.Name "range" p2) [a] [] pos2] X.env=[(false,eval (.Call (.Name "range" p2) [a] [] pos2) X.env)]:=by rfl) :
  PI X tg (.Call (.Name "reversed" p) [.Call (.Name "range" p2) [a] [] pos2] [] pos) (qiRevR ta):=by
 intro pins s σ H R I h
 refine Call_ (zx7 I hg2 hl boot_reversed ?_)
 refine PyProof.Rows.callWith_type1 ?_ (by rw[he];rfl) rfl
 rw[he]
 show wpAny _ _ (spliced ((false,eval (.Call (.Name "range" p2) [a] [] pos2) X.env) :: [])) _ _ s
 refine Calls.spliced_cons ?_
 refine Call_ (zx7 I hg hm boot_range (PyProof.Rows.callWith_type1 (thn (ha pos2 pins s σ H _ I h) fun us s1 ⟨vs,H1,I1,r1,q1⟩=>?_) hs rfl))
 dsimp only at q1
 split at q1
 ·rename_i n
  unfold rRevR at q1
  obtain⟨j0,j1,q⟩:=q1
  obtain⟨u,rfl,rx⟩:=zy7 r1
  obtain⟨t,rfl⟩:=rx
  refine call_range_1 (Calls.spliced_nil ?_)
  refine zak7 (IsRange.new ..) j0 j1 ?_
  have I2:Inv X pins σ H1 { s1 with heap:=s1.heap.push { cls:=.type "range",data:=.fields #[.int 0 s1.toks,.int n t,.int 1 (s1.toks+1)] },toks:=s1.toks+1+1 }:=I1.kept fun b o e=>zcw6 _ e
  have st:IsRangeIter ((s1.heap.push { cls:=.type "range",data:=.fields #[.int 0 s1.toks,.int n t,.int 1 (s1.toks+1)] }).push (revR n)) (s1.heap.push { cls:=.type "range",data:=.fields #[.int 0 s1.toks,.int n t,.int 1 (s1.toks+1)] }).objs.size (n - 1) n (-1):=zcy8 _ rfl
  refine wpAny_pyIter_rangeiter st ?_
  refine⟨_,[(s1.heap.push { cls:=.type "range",data:=.fields #[.int 0 s1.toks,.int n t,.int 1 (s1.toks+1)] }).objs.size],_,_,H1,rfl,
   I2.kept (t':=s1.toks+1+1) fun b o e=>zcw6 _ e,zbc3 _ (n - 1) n.toNat,?_,fun b hb=>?_,q⟩
  ·show IsRangeIter _ _ (n - 1+((0:Nat):Int)*(-1)) (((n.toNat:Nat):Int) - ((0:Nat):Int)) (-1)
   rw[show n - 1+((0:Nat):Int)*(-1)=n - 1 by omega,show ((n.toNat:Nat):Int) - ((0:Nat):Int)=n by omega]
   exact st
  ·have e:b=(s1.heap.push { cls:=.type "range",data:=.fields #[.int 0 s1.toks,.int n t,.int 1 (s1.toks+1)] }).objs.size:=by simpa using hb
   subst e
   exact I2.fpOk (zcx3 _) (I2.hok.fresh (zcx3 _))
 ·exact q1.elim
theorem zck3{n:Int}{R:It->Hp->Prop}(h0:0<=n)(h1:n<=10000)(q:R (Itd (n - 1) n.toNat) H):rRevR n H R:=by unfold rRevR;exact⟨h0,h1,q⟩
end
section
variable {X:Cx}{K:zcw2}
end
set_option maxHeartbeats 4000000
section
variable {X:Cx}{K:zcw2}{H:Hp}{Q:VK}
theorem zai3:∀ {rs:List Addr}{us:List Value},Vals (rs.map V.ref) us->us=rs.map Value.ref
 | [],us,h=>by cases h;rfl
 | r :: rs,us,h=>by
  cases h with
  | cons h1 h2=>
   have h1:_=Value.ref r:=h1
   rw[zcz4,← zai3 h2,h1]
end
abbrev Pb:=SetTable.Probe
noncomputable def advM(mask:Nat)(p:Pb):Pb:=
 if p.more>0 then { j:=p.j+1,more:=p.more - 1,i:=p.i,perturb:=p.perturb,dummy:=p.dummy }
 else { j:=(SetTable.leap mask p.i p.perturb).1,more:=SetTable.runEnd mask (SetTable.leap mask p.i p.perturb).1 - (SetTable.leap mask p.i p.perturb).1,i:=(SetTable.leap mask p.i p.perturb).1,perturb:=(SetTable.leap mask p.i p.perturb).2,dummy:=p.dummy }
noncomputable def runS(mask:Nat)(a:Nat×Nat):Pb:={ j:=a.1,more:=SetTable.runEnd mask a.1 - a.1,i:=a.1,perturb:=a.2,dummy:=none }
noncomputable def stp(mask:Nat)(h:Int):Nat->Pb
 | 0=>runS mask (SetTable.bits h % (mask+1),SetTable.bits h)
 | k+1=>advM mask (stp mask h k)
noncomputable def wk(mask:Nat)(h:Int)(k:Nat):Nat:=(stp mask h k).j
noncomputable def lps(mask:Nat)(h:Int):Nat->Nat×Nat
 | 0=>(SetTable.bits h % (mask+1),SetTable.bits h)
 | n+1=>SetTable.leap mask (lps mask h n).1 (lps mask h n).2
noncomputable def runL(mask:Nat)(h:Int)(n:Nat):Nat:=SetTable.runEnd mask (lps mask h n).1 - (lps mask h n).1
noncomputable def runA(mask:Nat)(h:Int):Nat->Nat
 | 0=>0
 | n+1=>runA mask h n+runL mask h n+1
theorem zau4(mask:Nat)(h:Int):∀ k,(stp mask h k).dummy=none
 | 0=>rfl
 | k+1=>by
  show (advM mask (stp mask h k)).dummy=none
  unfold advM
  split<;>exact zau4 mask h k
theorem zbs2{mask:Nat}{h:Int}{n:Nat}(hn:stp mask h (runA mask h n)=runS mask (lps mask h n)):∀ r,r<=runL mask h n->stp mask h (runA mask h n+r)={ j:=(lps mask h n).1+r,more:=runL mask h n - r,i:=(lps mask h n).1,perturb:=(lps mask h n).2,dummy:=none }
 | 0,_=>hn
 | r+1,hr=>by
  have ih:=zbs2 hn r (by omega)
  show advM mask (stp mask h (runA mask h n+r))=_
  rw[ih]
  unfold advM
  rw[if_pos (show runL mask h n - r>0 by omega)]
  rw[show runL mask h n - r - 1=runL mask h n - (r+1) by omega]
  rfl
theorem zcg6(mask:Nat)(h:Int):∀ n,stp mask h (runA mask h n)=runS mask (lps mask h n)
 | 0=>rfl
 | n+1=>by
  have ih:=zbs2 (zcg6 mask h n) (runL mask h n) (zcx3 _)
  show advM mask (stp mask h (runA mask h n+runL mask h n))=_
  rw[ih]
  unfold advM
  rw[if_neg (by show ¬ runL mask h n - runL mask h n>0;omega)]
  rfl
theorem zao0{mask:Nat}{h:Int}{n r:Nat}(hr:r<=runL mask h n):wk mask h (runA mask h n+r)=(lps mask h n).1+r:=by
 unfold wk
 rw[zbs2 (zcg6 mask h n) r hr]
theorem zcq0(mask:Nat)(h:Int)(n:Nat):runL mask h n<=9:=by
 unfold runL SetTable.runEnd
 split<;>omega
theorem zbz7(mask:Nat)(h:Int):∀ n,runA mask h n<=10*n
 | 0=>zcx3 _
 | n+1=>by
  have:=zbz7 mask h n
  have:=zcq0 mask h n
  show runA mask h n+runL mask h n+1<=_
  omega
theorem zbf3(mask:Nat)(h:Int):∀ n,(lps mask h n).2=SetTable.bits h / 32 ^ n
 | 0=>by show SetTable.bits h=_;rw[Nat.pow_zero,Nat.div_one]
 | n+1=>by
  show (lps mask h n).2 / 32=_
  rw[zbf3 mask h n,Nat.div_div_eq_div_mul,Nat.pow_succ]
theorem zch3{mask:Nat}(h:Int)(n:Nat):(lps mask h n).1<mask+1:=by
 cases n with
 | zero=>exact Nat.mod_lt _ (Nat.succ_pos _)
 | succ n=>exact Nat.mod_lt _ (Nat.succ_pos _)
theorem zck8(h:Int):SetTable.bits h<2 ^ 64:=by
 unfold SetTable.bits
 have h1:=Int.emod_lt_of_pos h (show (0:Int)<2 ^ 64 by decide)
 have h0:=Int.emod_nonneg h (show ((2:Int) ^ 64)≠0 by decide)
 omega
noncomputable def itN(mask:Nat)(c:Nat):Nat->Nat
 | 0=>c
 | n+1=>(itN mask c n*5+1) % (mask+1)
theorem zbi9(mask:Nat)(h:Int):∀ n,(lps mask h (13+n)).1=itN mask (lps mask h 13).1 n
 | 0=>rfl
 | n+1=>by
  have ih:=zbi9 mask h n
  have p:(lps mask h (13+n)).2=0:=by
   rw[zbf3]
   exact Nat.div_eq_of_lt (zcy5 (zck8 h) (by
    rw[Nat.pow_add]
    exact zda0 (show 2 ^ 64<=32 ^ 13 by decide) (Nat.le_mul_of_pos_right _ (Nat.pow_pos (by decide)))))
  show ((lps mask h (13+n)).1*5+1+(lps mask h (13+n)).2 / 32) % (mask+1)=(itN mask (lps mask h 13).1 n*5+1) % (mask+1)
  rw[p,ih]
noncomputable def covB(mask:Nat):Bool:=(List.range (mask+1)).all fun c=>(List.range (mask+1)).all fun j=>(List.range (mask+1)).any fun n=>decide (itN mask c n=j)
theorem cov7:covB 7=true:=by decide +kernel
theorem cov31:covB 31=true:=by decide +kernel
abbrev Msk(mask:Nat):Prop:=mask=7∨mask=31
theorem cov{mask:Nat}(hm:Msk mask)(h:Int)(hj:j<=mask):∃ n,n<mask+14/\(lps mask h n).1=j:=by
 have c:covB mask=true:=by rcases hm with rfl|rfl;exact cov7;exact cov31
 unfold covB at c
 rw[zcx2] at c
 have c1:=c (lps mask h 13).1 (zcy0.mpr (zch3 h 13))
 rw[zcx2] at c1
 have c2:=c1 j (zcy0.mpr (by omega))
 rw[List.any_eq_true] at c2
 obtain⟨n,hn,e⟩:=c2
 have hn:=zcy0.mp hn
 exact⟨13+n,by omega,by rw[zbi9];exact of_decide_eq_true e⟩
theorem least{P:Nat->Prop}[DecidablePred P]:∀ {N:Nat},(∃ k,k<N/\P k)->∃ k,k<N/\P k/\∀ k',k'<k->¬ P k'
 | 0,h=>by obtain⟨k,hk,_⟩:=h;omega
 | N+1,h=>by
  by_cases e:∃ k,k<N/\P k
  ·obtain⟨k,hk,p,q⟩:=least e
   exact⟨k,by omega,p,q⟩
  ·obtain⟨k,hk,p⟩:=h
   have:k=N:=by
    by_cases z:k<N
    ·exact absurd ⟨k,z,p⟩ e
    ·omega
   subst this
   exact⟨k,hk,p,fun k' hk' p'=>e ⟨k',hk',p'⟩⟩
theorem zbi3:∀ {xs ys:List Nat},xs.Nodup->(∀ x∈xs,x∈ys)->xs.length<=ys.length
 | [],ys,_,_=>zcy3 _
 | x :: xs,ys,nd,h=>by
  have nd:=zdb3.mp nd
  have hx:=h x (.head _)
  have:=zbi3 (xs:=xs) (ys:=ys.erase x) nd.2 (fun y hy=>(List.mem_erase_of_ne (fun (e:y=x)=>nd.1 (e▸hy))).mpr (h y (.tail _ hy)))
  rw[List.length_erase_of_mem hx] at this
  have:=zde6 hx
  show xs.length+1<=_
  omega
theorem zbr2{mask:Nat}(hm:Msk mask)(h:Int){ps:List Nat}(hl:ps.length<mask+1):∃ k,k<10*(mask+14)/\wk mask h k ∉ ps/\∀ k',k'<k->wk mask h k'∈ps:=by
 have:∃ j,j<=mask/\j ∉ ps:=by
  by_cases e:∃ j,j<=mask/\j ∉ ps
  ·exact e
  ·exfalso
   have:=zbi3 (xs:=List.range (mask+1)) (ys:=ps) List.nodup_range (fun x hx=>by
    by_cases z:x∈ps
    ·exact z
    ·exact absurd ⟨x,by have:=zcy0.mp hx;omega,z⟩ e)
   rw[zcx6] at this
   omega
 obtain⟨j,hj,nj⟩:=this
 obtain⟨n,hn,en⟩:=cov hm h hj
 have ew:wk mask h (runA mask h n)=j:=by
  have:=zao0 (mask:=mask) (h:=h) (n:=n) (r:=0) (zcy3 _)
  rw[Nat.add_zero,Nat.add_zero] at this
  rw[this,en]
 obtain⟨k,hk,p,q⟩:=least (P:=fun k=>wk mask h k ∉ ps) (N:=10*(mask+14)) ⟨runA mask h n,by have:=zbz7 mask h n;omega,by rw[ew];exact nj⟩
 exact⟨k,hk,p,fun k' hk'=>Classical.not_not.mp (q k' hk')⟩
theorem zap7{xs:Array Nat}{j:Nat}(srt:xs.toList.Pairwise (· < ·)):∀ (fuel lo hi:Nat),lo<=hi->hi<=xs.size->hi - lo<=fuel->(∀ (i:Nat) x,i<lo->xs[i]?=some x->x<j)->(∀ (i:Nat) x,hi<=i->xs[i]?=some x->j<=x) ->
  (SetTable.below.go xs j fuel lo hi<=xs.size/\(∀ (i:Nat) x,i<SetTable.below.go xs j fuel lo hi->xs[i]?=some x->x<j)/\∀ (i:Nat) x,SetTable.below.go xs j fuel lo hi<=i->xs[i]?=some x->j<=x)
 | 0,lo,hi,h1,h2,h3,a,b=>by
  rw[SetTable.below.go.eq_1]
  have:lo=hi:=by omega
  subst this
  exact⟨h2,a,b⟩
 | fuel+1,lo,hi,h1,h2,h3,a,b=>by
  have mono:∀ {i k:Nat}{x y:Nat},i<k->xs[i]?=some x->xs[k]?=some y->x<y:=fun {i k x y} hik e1 e2=>by
   rw[← zcy2] at e1 e2
   obtain⟨l1,g1⟩:=zcv9.mp e1
   obtain⟨l2,g2⟩:=zcv9.mp e2
   have:=zda9.mp srt i k l1 l2 hik
   rw[g1,g2] at this
   exact this
  rw[SetTable.below.go.eq_2]
  by_cases c:lo<hi
  ·rw[if_pos c]
   have hm:(lo+hi) / 2<xs.size:=by omega
   have em:xs[(lo+hi) / 2]?=some xs[(lo+hi) / 2]:=zdb6 hm
   have eg:xs.getD ((lo+hi) / 2) j=xs[(lo+hi) / 2]:=by rw[zda1,em];rfl
   show _/\_
   by_cases d:xs.getD ((lo+hi) / 2) j<j
   ·rw[if_pos d]
    rw[eg] at d
    refine zap7 srt fuel _ hi (by omega) h2 (by omega) (fun i x hi' e=>?_) b
    by_cases z:i=(lo+hi) / 2
    ·subst z;rw[em] at e;cases e;exact d
    ·exact Nat.lt_trans (mono (by omega) e em) d
   ·rw[if_neg d]
    rw[eg] at d
    refine zap7 srt fuel lo _ (by omega) (by omega) (by omega) a (fun i x hi' e=>?_)
    by_cases z:i=(lo+hi) / 2
    ·subst z;rw[em] at e;cases e;omega
    ·have:=mono (show (lo+hi) / 2<i by omega) em e
     omega
  ·rw[if_neg c]
   have:lo=hi:=by omega
   subst this
   exact⟨h2,a,b⟩
theorem zbh4{xs:Array Nat}(srt:xs.toList.Pairwise (· < ·))(j:Nat):SetTable.below xs j<=xs.size/\(∀ (i:Nat) x,i<SetTable.below xs j->xs[i]?=some x->x<j)/\∀ (i:Nat) x,SetTable.below xs j<=i->xs[i]?=some x->j<=x:=
 zap7 srt _ 0 xs.size (zcy3 _) (zcx3 _) (by omega) (fun i x h=>by omega) (fun i x h e=>by
  have:=(zdc5.mp e).1
  omega)
theorem zaa3{xs:Array Nat}(srt:xs.toList.Pairwise (· < ·))(e:xs[i]?=some j):SetTable.below xs j=i:=by
 obtain⟨a,b,c⟩:=zbh4 srt j
 by_cases h1:i<SetTable.below xs j
 ·have:=b i j h1 e;omega
 ·by_cases h2:SetTable.below xs j<i
  ·have hs:SetTable.below xs j<xs.size:=by have:=(zdc5.mp e).1;omega
   have er:xs[SetTable.below xs j]?=some xs[SetTable.below xs j]:=zdb6 hs
   have:=c _ _ (zcx3 _) er
   rw[← zcy2] at e er
   obtain⟨l1,g1⟩:=zcv9.mp e
   obtain⟨l2,g2⟩:=zcv9.mp er
   have:=zda9.mp srt _ _ l2 l1 h2
   rw[g1,g2] at this
   omega
  ·omega
theorem zbp3(j:Nat):SetTable.has #[] j=false:=rfl
theorem zak5{t:SetTable}(srt:t.place.toList.Pairwise (· < ·))(e:t.place[i]?=some j):t.slot j=.live i:=by
 unfold SetTable.slot
 show (if (t.place[SetTable.below t.place j]?==some j)=true then _ else _)=_
 rw[zaa3 srt e,e,if_pos (beq_self_eq_true _)]
theorem zbl7{t:SetTable}(dum:t.dummies=#[])(e:j ∉ t.place.toList):t.slot j=.empty:=by
 unfold SetTable.slot
 show (if (t.place[SetTable.below t.place j]?==some j)=true then _ else if SetTable.has t.dummies j=true then _ else _)=_
 have:¬ (t.place[SetTable.below t.place j]?==some j)=true:=fun h=>by
  have h:=eq_of_beq h
  rw[← zcy2] at h
  exact e (zcw3 h)
 rw[if_neg this,dum,zbp3,if_neg zcw5]
structure TOk(t:SetTable)(hs:List Int):Prop where
 msk:Msk t.mask
 dum:t.dummies=#[]
 len:t.place.toList.length=hs.length
 srt:t.place.toList.Pairwise (· < ·)
 bnd:∀ j∈t.place.toList,j<=t.mask
 rch:∀ (i:Nat) h,hs[i]?=some h->∃ k,t.place.toList[i]?=some (wk t.mask h k)/\∀ k',k'<k->wk t.mask h k'∈t.place.toList
theorem zbg0{t:SetTable}{hs:List Int}(T:TOk t hs){hashAt:Nat->Int}{h:Int}{k0:Nat}(free:wk t.mask h k0 ∉ t.place.toList)(full:∀ k',k'<k0->wk t.mask h k'∈t.place.toList):∀ (fuel k:Nat),k<=k0->k0 - k<fuel ->
  (∃ k1 i,k<=k1/\k1<k0/\t.place.toList[i]?=some (wk t.mask h k1)/\hashAt i=h/\SetTable.probe.go t hashAt h fuel (stp t.mask h k)=some (.candidate (wk t.mask h k1) i (stp t.mask h (k1+1)))/\∀ k',k<=k'->k'<k1->∀ i',t.place.toList[i']?=some (wk t.mask h k')->hashAt i'≠h) ∨
  (SetTable.probe.go t hashAt h fuel (stp t.mask h k)=some (.empty (wk t.mask h k0) none)/\∀ k',k<=k'->k'<k0->∀ i',t.place.toList[i']?=some (wk t.mask h k')->hashAt i'≠h)
 | 0,k,h1,h2=>by omega
 | fuel+1,k,h1,h2=>by
  rw[SetTable.probe.go.eq_2]
  by_cases e:k=k0
  ·subst e
   right
   rw[show t.slot (stp t.mask h k).j=.empty from zbl7 T.dum free]
   refine⟨?_,fun k' a b=>by omega⟩
   show some (SetTable.Met.empty (wk t.mask h k) (stp t.mask h k).dummy)=_
   rw[zau4]
  ·obtain⟨i,ei⟩:=zcx8 (full k (by omega))
   have ei':t.place[i]?=some (wk t.mask h k):=by rw[← zcy2];exact ei
   rw[show t.slot (stp t.mask h k).j=.live i from zak5 T.srt ei']
   show (∃ k1 i1,_/\_/\_/\_/\(if (hashAt i==h)=true then some (SetTable.Met.candidate (wk t.mask h k) i (stp t.mask h (k+1))) else SetTable.probe.go t hashAt h fuel (stp t.mask h (k+1)))=_/\_)∨((if (hashAt i==h)=true then some (SetTable.Met.candidate (wk t.mask h k) i (stp t.mask h (k+1))) else SetTable.probe.go t hashAt h fuel (stp t.mask h (k+1)))=_/\_)
   by_cases c:hashAt i=h
   ·left
    exact⟨k,i,zcx3 _,by omega,ei,c,by rw[if_pos (by rw[c];exact beq_self_eq_true _)],fun k' a b=>by omega⟩
   ·have nc:¬ (hashAt i==h)=true:=fun z=>c (eq_of_beq z)
    rw[if_neg nc]
    have here:∀ i',t.place.toList[i']?=some (wk t.mask h k)->hashAt i'≠h:=fun i' e'=>by
     have:i'=i:=by
      have b1:=zaa3 T.srt (i:=i') (j:=wk t.mask h k) (by rw[← zcy2];exact e')
      have b2:=zaa3 T.srt ei'
      omega
     rw[this];exact c
    rcases zbg0 T free full fuel (k+1) (by omega) (by omega) with ⟨k1,i1,a1,a2,a3,a4,a5,a6⟩|⟨a1,a2⟩
    ·left
     refine⟨k1,i1,by omega,a2,a3,a4,a5,fun k' b1 b2 i' e'=>?_⟩
     by_cases z:k'=k
     ·subst z;exact here i' e'
     ·exact a6 k' (by omega) b2 i' e'
    ·right
     refine⟨a1,fun k' b1 b2 i' e'=>?_⟩
     by_cases z:k'=k
     ·subst z;exact here i' e'
     ·exact a2 k' (by omega) b2 i' e'
theorem TOk.of{t t2:SetTable}{hs:List Int}(T:TOk t hs)(e1:t2.mask=t.mask)(e2:t2.place=t.place)(e3:t2.dummies=t.dummies):TOk t2 hs:=
 ⟨by rw[e1];exact T.msk,by rw[e3];exact T.dum,by rw[e2];exact T.len,by rw[e2];exact T.srt,by rw[e1,e2];exact T.bnd,by rw[e1,e2];exact T.rch⟩
theorem stp_j{mask:Nat}(h:Int)(k:Nat):∃ n r,k=runA mask h n+r/\r<=runL mask h n:=by
 induction k with
 | zero=>exact⟨0,0,rfl,zcy3 _⟩
 | succ k ih=>
  obtain⟨n,r,e,hr⟩:=ih
  by_cases z:r<runL mask h n
  ·exact⟨n,r+1,by omega,by omega⟩
  ·exact⟨n+1,0,by show k+1=runA mask h n+runL mask h n+1+0;omega,zcy3 _⟩
theorem zbk4{mask:Nat}(h:Int)(k:Nat):wk mask h k<=mask:=by
 obtain⟨n,r,rfl,hr⟩:=stp_j (mask:=mask) h k
 rw[zao0 hr]
 have:=zch3 (mask:=mask) h n
 unfold runL SetTable.runEnd at hr
 split at hr<;>omega
theorem zai5{α:Type}{xs:List α}{p:Nat}{x:α}(hp:p<=xs.length):(xs.take p++x :: xs.drop p).length=xs.length+1:=by
 rw[zcw7,zcx5,zda3,zda4]
 omega
theorem zau0{α:Type}{xs:List α}{p:Nat}{x:α}(hp:p<=xs.length)(i:Nat):(xs.take p++x :: xs.drop p)[i]?=if i<p then xs[i]? else if i=p then some x else xs[i - 1]?:=by
 by_cases h1:i<p
 ·rw[if_pos h1,zcz0 (by rw[zda3];omega),List.getElem?_take,if_pos h1]
 ·rw[if_neg h1,zcz5 (by rw[zda3];omega),zda3,Nat.min_eq_left hp]
  by_cases h2:i=p
  ·rw[if_pos h2,h2,Nat.sub_self];rfl
  ·rw[if_neg h2]
   obtain⟨d,rfl⟩:∃ d,i=p+d+1:=⟨i - p - 1,by omega⟩
   rw[show p+d+1 - p=d+1 by omega,List.getElem?_cons_succ,List.getElem?_drop]
   rfl
theorem TOk.put{t:SetTable}{hs:List Int}(T:TOk t hs){h:Int}{k0:Nat}(free:wk t.mask h k0 ∉ t.place.toList)(full:∀ k',k'<k0->wk t.mask h k'∈t.place.toList):SetTable.below t.place (wk t.mask h k0)<=hs.length/\TOk (t.put (wk t.mask h k0)).1 (hs.take (SetTable.below t.place (wk t.mask h k0))++h :: hs.drop (SetTable.below t.place (wk t.mask h k0)))/\(t.put (wk t.mask h k0)).2=SetTable.below t.place (wk t.mask h k0)/\(t.put (wk t.mask h k0)).1.mask=t.mask:=by
 obtain⟨b1,b2,b3⟩:=zbh4 T.srt (wk t.mask h k0)
 have tl:=T.len
 generalize hj:wk t.mask h k0=j at *
 generalize hp:SetTable.below t.place j=p at *
 have hpl:p<=t.place.toList.length:=by rw[zcx1];exact b1
 have pl:((t.put j).1.place).toList=t.place.toList.take p++j :: t.place.toList.drop p:=by
  show (SetTable.insertAt t.place (SetTable.below t.place j) j).toList=_
  rw[hp,SetTable.toList_insertAt]
 have sup:∀ x∈t.place.toList,x∈t.place.toList.take p++j :: t.place.toList.drop p:=fun x hx=>by
  rw[← List.take_append_drop p t.place.toList] at hx
  rcases zcy1.mp hx with hx|hx
  ·exact zcy1.mpr (.inl hx)
  ·exact zcy1.mpr (.inr (.tail _ hx))
 refine⟨by omega,⟨T.msk,?_,?_,?_,?_,?_⟩,hp▸rfl,rfl⟩
 ·show (if SetTable.has t.dummies j=true then _ else t.dummies)=#[]
  rw[T.dum,zbp3,if_neg zcw5]
 ·rw[pl,zai5 hpl,zai5 (by omega),tl]
 ·rw[pl,List.pairwise_append]
  have lo:∀ a∈t.place.toList.take p,a<j:=fun a ha=>by
   obtain⟨i,ei⟩:=zcx8 ha
   rw[List.getElem?_take] at ei
   split at ei
   ·rename_i hi
    exact b2 i a hi (by rw[← zcy2];exact ei)
   ·cases ei
  have hi:∀ b∈t.place.toList.drop p,j<b:=fun b hb=>by
   obtain⟨i,ei⟩:=zcx8 hb
   rw[List.getElem?_drop] at ei
   have:=b3 (p+i) b (by omega) (by rw[← zcy2];exact ei)
   have ne:j≠b:=fun z=>free (z▸zcw3 ei)
   omega
  refine⟨T.srt.sublist (List.take_sublist _ _),List.pairwise_cons.mpr ⟨hi,T.srt.sublist (List.drop_sublist _ _)⟩,fun a ha b hb=>?_⟩
  rcases zcw8.mp hb with rfl|hb
  ·exact lo a ha
  ·exact Nat.lt_trans (lo a ha) (hi b hb)
 ·rw[pl]
  intro x hx
  show x<=t.mask
  rcases zcy1.mp hx with hx|hx
  ·exact T.bnd x (zdd5 hx)
  ·rcases zcw8.mp hx with rfl|hx
   ·rw[← hj];exact zbk4 h k0
   ·exact T.bnd x (zdc2 hx)
 ·intro i h' e
  show ∃ k,((t.put j).1.place).toList[i]?=some (wk t.mask h' k)/\∀ k',k'<k->wk t.mask h' k'∈((t.put j).1.place).toList
  rw[pl,zau0 hpl]
  rw[zau0 (by omega)] at e
  by_cases h1:i<p
  ·rw[if_pos h1] at e ⊢
   obtain⟨k,q1,q2⟩:=T.rch i h' e
   exact⟨k,q1,fun k' hk'=>sup _ (q2 k' hk')⟩
  ·rw[if_neg h1] at e ⊢
   by_cases h2:i=p
   ·rw[if_pos h2] at e ⊢
    cases e
    exact⟨k0,by rw[hj],fun k' hk'=>sup _ (full k' hk')⟩
   ·rw[if_neg h2] at e ⊢
    obtain⟨k,q1,q2⟩:=T.rch (i - 1) h' e
    exact⟨k,q1,fun k' hk'=>sup _ (q2 k' hk')⟩
theorem zbx2{mask:Nat}{h:Int}{n:Nat}(hm:n<=m):runA mask h n<=runA mask h m:=by
 induction m with
 | zero=>
  have:n=0:=by omega
  subst this;exact zcx3 _
 | succ m ih=>
  by_cases e:n=m+1
  ·subst e;exact zcx3 _
  ·have:=ih (by omega)
   show runA mask h n<=runA mask h m+runL mask h m+1
   omega
theorem zbj1{mask:Nat}{owner:Array (Option Nat)}{h:Int}{k0:Nat}(free:(owner.getD (wk mask h k0) (some 0)).isNone=true)(full:∀ k',k'<k0->(owner.getD (wk mask h k') (some 0)).isNone=false):∀ fuel n,runA mask h n<=k0->k0<runA mask h (n+fuel)->SetTable.layClean.free mask owner fuel (lps mask h n).1 (lps mask h n).2=some (wk mask h k0)
 | 0,n,h1,h2=>by rw[Nat.add_zero] at h2;omega
 | fuel+1,n,h1,h2=>by
  rw[SetTable.layClean.free.eq_2]
  have el:SetTable.runEnd mask (lps mask h n).1+1 - (lps mask h n).1=runL mask h n+1:=by
   unfold runL SetTable.runEnd
   split<;>omega
  rw[el]
  by_cases c:k0<runA mask h (n+1)
  ·have hr:k0 - runA mask h n<=runL mask h n:=by
    have:k0<runA mask h n+runL mask h n+1:=c
    omega
   have ew:(lps mask h n).1+(k0 - runA mask h n)=wk mask h k0:=by
    rw[← zao0 hr]
    congr 1
    omega
   have:List.find? (fun k=>(owner.getD ((lps mask h n).1+k) (some 0)).isNone) (List.range (runL mask h n+1))=some (k0 - runA mask h n):=by
    rw[List.find?_range_eq_some]
    refine⟨by rw[ew];exact free,zcy0.mpr (by omega),fun r hr'=>?_⟩
    rw[← zao0 (show r<=runL mask h n by omega),full _ (by omega)]
    rfl
   rw[this]
   show some _=_
   rw[ew]
  ·have:List.find? (fun k=>(owner.getD ((lps mask h n).1+k) (some 0)).isNone) (List.range (runL mask h n+1))=none:=by
    rw[List.find?_range_eq_none]
    intro r hr'
    rw[← zao0 (show r<=runL mask h n by omega),full _ (by
     have c:¬ k0<runA mask h n+runL mask h n+1:=c
     omega)]
    rfl
   rw[this]
   exact zbj1 free full fuel (n+1) (by omega) (by rw[show n+1+fuel=n+(fuel+1) by omega];exact h2)
noncomputable def zo0(mask:Nat)(owner:Array (Option Nat)):List (Nat×Nat):=(List.range (mask+1)).filterMap fun j=>(owner.getD j none).map fun x=>(j,x)
theorem zbf5{mask:Nat}{owner:Array (Option Nat)}{x:Nat}:(j,x)∈zo0 mask owner↔j<=mask/\owner.getD j none=some x:=by
 unfold zo0
 rw[List.mem_filterMap]
 constructor
 ·rintro⟨a,ha,e⟩
  obtain⟨y,ey,e⟩:=zcw4.mp e
  cases e
  exact⟨by have:=zcy0.mp ha;omega,ey⟩
 ·rintro⟨h1,h2⟩
  exact⟨j,zcy0.mpr (by omega),by rw[h2];rfl⟩
theorem zaa9{mask:Nat}{owner:Array (Option Nat)}:j∈(zo0 mask owner).map (·.1)↔j<=mask/\(owner.getD j none).isSome=true:=by
 rw[zcx0]
 constructor
 ·rintro⟨⟨a,x⟩,hx,rfl⟩
  obtain⟨h1,h2⟩:=zbf5.mp hx
  exact⟨h1,by rw[h2];rfl⟩
 ·rintro⟨h1,h2⟩
  obtain⟨x,ex⟩:=Option.isSome_iff_exists.mp h2
  exact⟨(j,x),zbf5.mpr ⟨h1,ex⟩,rfl⟩
theorem zbw9{α:Type}{f:Nat->Option α}:∀ L:List Nat,(L.filterMap fun j=>(f j).map fun x=>(j,x)).map (·.1)=L.filter fun j=>(f j).isSome
 | []=>rfl
 | x :: xs=>by
  cases e:f x with
  | none=>
   rw[zdb9 (by rw[e];rfl),List.filter_cons_of_neg (by rw[e];exact zcw5)]
   exact zbw9 xs
  | some y=>
   rw[zdb2 (b:=(x,y)) (by rw[e];rfl),List.filter_cons_of_pos (by rw[e];rfl),zcz4,zbw9 xs]
theorem zcf5(mask:Nat)(owner:Array (Option Nat)):((zo0 mask owner).map (·.1)).Pairwise (· < ·):=by
 unfold zo0
 rw[zbw9]
 exact List.Pairwise.filter _ List.pairwise_lt_range
theorem zag6{β:Type}{f g:Nat->Option β}:∀ {L:List Nat},(∀ y∈L,g y=f y)->L.filterMap g=L.filterMap f
 | [],_=>rfl
 | x :: xs,h=>by
  have ih:=zag6 (L:=xs) fun y hy=>h y (.tail _ hy)
  have e:=h x (.head _)
  cases ef:f x with
  | none=>rw[zdb9 (by rw[e,ef]),zdb9 ef,ih]
  | some y=>rw[zdb2 (b:=y) (by rw[e,ef]),zdb2 ef,ih]
theorem zbv3{β:Type}{f g:Nat->Option β}{j0:Nat}{v:β}(h0:f j0=none)(h1:g j0=some v)(h2:∀ j,j≠j0->g j=f j):∀ {L:List Nat},L.Nodup->j0∈L->(L.filterMap g).Perm (v :: L.filterMap f)
 | x :: xs,nd,hj=>by
  have nd:=zdb3.mp nd
  by_cases e:x=j0
  ·subst e
   have:xs.filterMap g=xs.filterMap f:=zag6 fun y hy=>h2 y fun (z:y=x)=>nd.1 (z▸hy)
   rw[zdb2 h1,zdb9 h0,this]
  ·have hj':j0∈xs:=by
    rcases zcw8.mp hj with rfl|hj
    ·exact absurd rfl e
    ·exact hj
   have ih:=zbv3 h0 h1 h2 nd.2 hj'
   cases ef:f x with
   | none=>rw[zdb9 (by rw[h2 x e,ef]),zdb9 ef];exact ih
   | some y=>
    rw[zdb2 (b:=y) (by rw[h2 x e,ef]),zdb2 ef]
    exact (ih.cons y).trans (List.Perm.swap _ _ _)
structure zbm8(mask:Nat)(hs:List Int)(owner:Array (Option Nat))(js:List Nat):Prop where
 sz:owner.size=mask+1
 len:js.length=hs.length
 prm:(zo0 mask owner).Perm (js.zip (List.range js.length))
 rch:∀ (i:Nat) j h,js[i]?=some j->hs[i]?=some h->∃ k,j=wk mask h k/\∀ k',k'<k->(owner.getD (wk mask h k') none).isSome=true
noncomputable def layF(mask:Nat):Option (Array (Option Nat)×Nat)->Int->Option (Array (Option Nat)×Nat):=fun acc h=>do
 let x ← acc
 match x with
 | (owner,k)=>do
  let j ← SetTable.layClean.free mask owner (SetTable.turns mask) (SetTable.bits h % (mask+1)) (SetTable.bits h)
  pure (owner.setIfInBounds j (some k),k+1)
theorem zcd5{mask:Nat}(hm:Msk mask){hs:List Int}{owner:Array (Option Nat)}{js:List Nat}(L:zbm8 mask hs owner js)(hl:hs.length<mask+1)(h:Int):∃ owner' j,layF mask (some (owner,hs.length)) h=some (owner',hs.length+1)/\zbm8 mask (hs++[h]) owner' (js++[j]):=by
 have pl:(zo0 mask owner).length=hs.length:=by rw[L.prm.length_eq,List.length_zip,zcx6,Nat.min_self,L.len]
 obtain⟨k0,hk,fr,fu⟩:=zbr2 hm h (ps:=(zo0 mask owner).map (·.1)) (by rw[zcv8,pl];exact hl)
 have lt:∀ k,wk mask h k<owner.size:=fun k=>by have:=zbk4 (mask:=mask) h k;rw[L.sz];omega
 have gd:∀ (k:Nat) (d:Option Nat),owner.getD (wk mask h k) d=owner[wk mask h k]'(lt k):=fun k d=>by rw[zda1,zdb6 (lt k)];rfl
 have free:(owner.getD (wk mask h k0) (some 0)).isNone=true:=by
  rw[zaa9] at fr
  rw[gd k0 (some 0),← gd k0 none]
  cases e:owner.getD (wk mask h k0) none with
  | none=>rfl
  | some x=>exact absurd ⟨zbk4 h k0,by rw[e];rfl⟩ fr
 have full:∀ k',k'<k0->(owner.getD (wk mask h k') (some 0)).isNone=false:=fun k' hk'=>by
  obtain⟨_,e⟩:=zaa9.mp (fu k' hk')
  rw[gd k' (some 0),← gd k' none]
  obtain⟨x,ex⟩:=Option.isSome_iff_exists.mp e
  rw[ex];rfl
 have fnd:=zbj1 free full (mask+15) 0 (zcy3 _) (by
  have e:∃ n,n<mask+14/\(lps mask h n).1=wk mask h k0:=cov hm h (zbk4 h k0)
  obtain⟨n,hn,en⟩:=e
  have ew:wk mask h (runA mask h n)=wk mask h k0:=by
   have:=zao0 (mask:=mask) (h:=h) (n:=n) (r:=0) (zcy3 _)
   rw[Nat.add_zero,Nat.add_zero] at this
   rw[this,en]
  have le:k0<=runA mask h n:=by
   by_cases z:runA mask h n<k0
   ·have:=fu _ z
    rw[ew] at this
    exact absurd this fr
   ·omega
  have:=zbx2 (mask:=mask) (h:=h) (show n+1<=0+(mask+15) by omega)
  have:runA mask h n+runL mask h n+1<=runA mask h (0+(mask+15)):=this
  omega)
 have fnd:SetTable.layClean.free mask owner (SetTable.turns mask) (SetTable.bits h % (mask+1)) (SetTable.bits h)=some (wk mask h k0):=fnd
 refine⟨owner.setIfInBounds (wk mask h k0) (some hs.length),wk mask h k0,?_,?_⟩
 ·show (SetTable.layClean.free mask owner (SetTable.turns mask) (SetTable.bits h % (mask+1)) (SetTable.bits h)).bind _=_
  rw[fnd];rfl
 ·have at0:owner.getD (wk mask h k0) none=none:=by
   rw[gd k0 none,← gd k0 (some 0)]
   exact Option.isNone_iff_eq_none.mp free
  have g1:(owner.setIfInBounds (wk mask h k0) (some hs.length)).getD (wk mask h k0) none=some hs.length:=by
   rw[zda1,Array.getElem?_setIfInBounds,if_pos rfl,if_pos (lt k0)];rfl
  have g2:∀ j,j≠wk mask h k0->(owner.setIfInBounds (wk mask h k0) (some hs.length)).getD j none=owner.getD j none:=fun j hj=>by
   rw[zda1,zda1,Array.getElem?_setIfInBounds,if_neg (Ne.symm hj)]
  refine⟨by rw[Array.size_setIfInBounds];exact L.sz,by rw[zcw7,zcw7,L.len];rfl,?_,fun i j h' e1 e2=>?_⟩
  ·have p1:(zo0 mask (owner.setIfInBounds (wk mask h k0) (some hs.length))).Perm ((wk mask h k0,hs.length) :: zo0 mask owner):=zbv3 (f:=fun j=>(owner.getD j none).map fun x=>(j,x)) (g:=fun j=>((owner.setIfInBounds (wk mask h k0) (some hs.length)).getD j none).map fun x=>(j,x)) (by rw[at0];rfl) (by rw[g1];rfl) (fun j hj=>by rw[g2 j hj]) List.nodup_range (zcy0.mpr (by have:=zbk4 (mask:=mask) h k0;omega))
   have e:(js++[wk mask h k0]).zip (List.range (js++[wk mask h k0]).length)=js.zip (List.range js.length)++[(wk mask h k0,hs.length)]:=by
    rw[zcw7,zcy4,List.range_succ,List.zip_append (by rw[zcx6]),L.len]
    rfl
   rw[e]
   exact (p1.trans (L.prm.cons _)).trans (List.perm_append_comm (l₁:=[_]))
  ·have up:∀ j,(owner.getD j none).isSome=true->((owner.setIfInBounds (wk mask h k0) (some hs.length)).getD j none).isSome=true:=fun j hj=>by
    by_cases z:j=wk mask h k0
    ·rw[z,g1];rfl
    ·rw[g2 j z];exact hj
   by_cases hi:i<js.length
   ·rw[zcz0 hi] at e1
    rw[zcz0 (by rw[← L.len];exact hi)] at e2
    obtain⟨k,q1,q2⟩:=L.rch i j h' e1 e2
    exact⟨k,q1,fun k' hk'=>up _ (q2 k' hk')⟩
   ·rw[zcz5 (by omega)] at e1
    rw[zcz5 (by rw[← L.len];omega)] at e2
    have hi0:i - js.length=0:=by
     have:=(zcv9.mp e1).1
     simp at this;omega
    rw[hi0] at e1
    rw[← L.len,hi0] at e2
    cases e1
    cases e2
    exact⟨k0,rfl,fun k' hk'=>up _ (zaa9.mp (fu k' hk')).2⟩
theorem zby6{mask:Nat}(hm:Msk mask):∀ {xs hs:List Int}{owner:Array (Option Nat)}{js:List Nat},zbm8 mask hs owner js->hs.length+xs.length<mask+2->∃ owner' js',xs.foldl (layF mask) (some (owner,hs.length))=some (owner',(hs++xs).length)/\zbm8 mask (hs++xs) owner' js'
 | [],hs,owner,js,L,_=>⟨owner,js,by rw[List.append_nil];rfl,by rw[List.append_nil];exact L⟩
 | x :: xs,hs,owner,js,L,hl=>by
  rw[zcx5] at hl
  obtain⟨o1,j1,e1,L1⟩:=zcd5 hm L (by omega) x
  obtain⟨o2,j2,e2,L2⟩:=zby6 hm L1 (xs:=xs) (by rw[zcw7,zcy4];omega)
  rw[List.append_assoc] at L2 e2
  refine⟨o2,j2,?_,L2⟩
  rw[List.foldl_cons,e1]
  rw[zcw7,zcy4] at e2
  exact e2
theorem zbu2{mask:Nat}(hm:Msk mask){hs:Array Int}(hl:hs.size<mask+2):∃ owner js,SetTable.layClean mask hs=some owner/\zbm8 mask hs.toList owner js:=by
 have L0:zbm8 mask [] (Array.replicate (mask+1) none) []:=by
  refine⟨Array.size_replicate,rfl,?_,fun i j h e=>by simp at e⟩
  have:zo0 mask (Array.replicate (mask+1) none)=[]:=by
   unfold zo0
   rw[List.filterMap_eq_nil_iff]
   intro j _
   rw[zda1,Array.getElem?_replicate]
   split<;>rfl
  rw[this]
  exact .nil
 obtain⟨o,js,e,L⟩:=zby6 hm L0 (xs:=hs.toList) (by rw[zcx1];simp;omega)
 refine⟨o,js,?_,by simpa using L⟩
 show Option.map (fun x=>x.fst) (Array.foldl (layF mask) (some (Array.replicate (mask+1) none,0)) hs)=some o
 rw[← Array.foldl_toList]
 have e:List.foldl (layF mask) (some (Array.replicate (mask+1) none,0)) hs.toList=_:=e
 rw[e]
 rfl
theorem zcn9{mask finger moves:Nat}{led plain:Bool}(hm:Msk mask)(hl:es.size<mask+2):∃ t2 order,SetTable.laid mask finger moves led plain (es.map fun x=>x.fst)=some (t2,order)/\t2.mask=mask/\(zdc7 (fun x=>es[x]?) order).size=es.size/\(zdc7 (fun x=>es[x]?) order).toList.Perm es.toList/\TOk t2 ((zdc7 (fun x=>es[x]?) order).toList.map (·.1)):=by
 obtain⟨owner,js,e,L⟩:=zbu2 hm (hs:=es.map fun x=>x.fst) (by rw[Array.size_map];exact hl)
 have jl:js.length=es.size:=by rw[L.len,zcx1,Array.size_map]
 refine⟨_,_,by
  show (SetTable.layClean mask (es.map fun x=>x.fst)).bind _=_
  rw[e]
  rfl,rfl,?_⟩
 have ord:(zdc7 (fun x=>es[x]?) (List.map (fun x=>x.snd) (zo0 mask owner)).toArray).toList=(zo0 mask owner).filterMap fun x=>es[x.2]?:=by
  rw[Array.toList_filterMap,List.filterMap_map]
  rfl
 have small:∀ z∈zo0 mask owner,∃ h,js[z.2]?=some z.1/\es[z.2]?=some h:=fun z hz=>by
  have:=L.prm.mem_iff.mp hz
  obtain⟨i,ei⟩:=zcx8 this
  rw[List.getElem?_zip_eq_some] at ei
  obtain⟨e1,e2⟩:=ei
  have hi:=(zcv9.mp e1).1
  rw[zda5 hi] at e2
  have e2:=Option.some.inj e2
  rw[← e2]
  exact⟨_,e1,zdb6 (by omega)⟩
 have fmap:∀ (l:List (Nat×Nat)),(∀ z∈l,∃ h,es[z.2]?=some h)->(l.filterMap fun x=>es[x.2]?)=l.map fun x=>es.getD x.2 (0,.none):=fun l=>by
  induction l with
  | nil=>intro _;rfl
  | cons z l ih=>
   intro hz
   obtain⟨h,eh⟩:=hz z (.head _)
   rw[zdb2 (f:=fun x:Nat×Nat=>es[x.2]?) (a:=z) (b:=h) eh,zcz4,ih fun y hy=>hz y (.tail _ hy),zda1,eh]
   rfl
 have em:=fmap (zo0 mask owner) (fun z hz=>by obtain⟨h,_,e⟩:=small z hz;exact⟨h,e⟩)
 have all:((js.zip (List.range js.length)).filterMap fun x=>es[x.2]?)=es.toList:=by
  have h1:((js.zip (List.range js.length)).filterMap fun x=>es[x.2]?)=((js.zip (List.range js.length)).map (·.2)).filterMap fun i=>es[i]?:=by rw[List.filterMap_map];rfl
  rw[h1,List.map_snd_zip (by rw[zcx6];exact zcx3 _),jl,← zcx1]
  refine Eq.trans ?_ (PySem.List.filterMap_getElem?_range_length es.toList)
  refine zag6 fun y _=>?_
  rw[zcy2]
 have prm:((zo0 mask owner).filterMap fun x=>es[x.2]?).Perm es.toList:=by
  rw[← all]
  exact L.prm.filterMap _
 show (zdc7 (fun x=>es[x]?) (List.map (fun x=>x.snd) (zo0 mask owner)).toArray).size=es.size/\(zdc7 (fun x=>es[x]?) (List.map (fun x=>x.snd) (zo0 mask owner)).toArray).toList.Perm es.toList/\TOk _ ((zdc7 (fun x=>es[x]?) (List.map (fun x=>x.snd) (zo0 mask owner)).toArray).toList.map (·.1))
 refine⟨?_,by rw[ord];exact prm,?_⟩
 ·rw[← zcx1,ord,prm.length_eq,zcx1]
 ·rw[ord,em,zcz3]
  have pl:((List.map (fun x=>x.fst) (zo0 mask owner)).toArray).toList=(zo0 mask owner).map (·.1):=rfl
  refine⟨hm,rfl,?_,?_,?_,fun i h eh=>?_⟩
  ·show ((List.map (fun x=>x.fst) (zo0 mask owner)).toArray).toList.length=_
   rw[pl,zcv8,zcv8]
  ·exact zcf5 mask owner
  ·intro j hj
   exact (zaa9.mp hj).1
  ·rw[zcw0] at eh
   obtain⟨z,ez,rfl⟩:=zcw4.mp eh
   obtain⟨y,e1,e2⟩:=small z (zcw3 ez)
   have eh:es.getD z.2 (0,.none)=y:=by rw[zda1,e2];rfl
   obtain⟨k,q1,q2⟩:=L.rch z.2 z.1 y.1 e1 (by rw[zcy2,Array.getElem?_map,e2];rfl)
   refine⟨k,?_,fun k' hk'=>?_⟩
   ·show ((zo0 mask owner).map (·.1))[i]?=some (wk mask (es.getD z.2 (0,.none)).1 k)
    rw[eh,zcw0,ez,← q1]
    rfl
   ·show wk mask (es.getD z.2 (0,.none)).1 k'∈(zo0 mask owner).map (·.1)
    rw[eh]
    exact zaa9.mpr ⟨zbk4 _ _,q2 k' hk'⟩
section
variable {prog:Program}{w:World}{A:Around}{E:Value->Shared->Prop}{s:Shared}
theorem zaa5{M:Model}{α β:Type}(f:α->β->Sem (ForInStep β))(I:List α->β->Shared->Prop)(Q:β->Shared->Prop)(hs:∀ (x:α) (rest:List α) (b:β) (s:Shared),I (x :: rest) b s->wpAny M A (f x b) (fun r s'=>match r with|ForInStep.yield b'=>I rest b' s' | ForInStep.done b'=>Q b' s') E s)(hd:∀ (b:β) (s:Shared),I [] b s->Q b s):∀ (xs:List α) (b:β) (s:Shared),I xs b s->wpAny M A (forIn xs b f) Q E s
 | [],b,s,h=>by rw[List.forIn_nil];exact zdf4 (hd b s h)
 | x :: xs,b,s,h=>by
  rw[List.forIn_cons]
  refine zdf3 ?_
  have:=hs x xs b s h
  revert this
  generalize f x b=m
  intro this
  refine wpAny_mono this (fun r s' hr=>?_) (fun _ _ h=>h)
  cases r with
  | done b'=>exact zdf4 hr
  | yield b'=>exact zaa5 f I Q hs hd xs b' s' hr
theorem zaw1{ks:List Int}(h:PySem.ItemsAre (intKind prog w) ks vs):∀ v∈vs,carriedByValue v=true:=by
 induction h with
 | nil=>intro v hv;cases hv
 | cons h1 h2 ih=>
  intro v hv
  rcases zcw8.mp hv with rfl|hv
  ·exact (intKind prog w).byValue _ _ h1
  ·exact ih v hv
theorem noref{v:Value}(h:carriedByValue v=true):∀ a,v=Value.ref a->False:=fun a e=>by subst e;cases h
theorem zca0{k:List Int}{p:Addr}{Q:Bool->Shared->Prop}(h:IsTupleKey (intKind prog w) s.heap k p)(q:Q false s):wpAny (model prog w) A (ofAClassStatement 8 (.ref p)) Q E s:=by
 show wpAny (model prog w) A (ofAClassStatement (7+1) (.ref p)) Q E s
 rw[ofAClassStatement.eq_2]
 refine zdf3 (wpAny_typeOf h.typeIs ?_)
 obtain⟨o,items,n,ho,hc,hd,hi⟩:=h
 show wpAny (model prog w) A (if ("tuple"=="tuple")=true then _ else _) Q E s
 refine wpAny_ite_true rfl ?_
 refine zdf3 (zdf4 ?_)
 refine zdf6 rfl ?_
 refine zdf3 (wpAny_seqItems ho hd ?_)
 refine zdf3 ?_
 refine wpAny_forIn_array' _ (fun rest b s'=>s'=s/\b=(none,())/\∀ v∈rest,carriedByValue v=true) _ ?_ ?_ items _ ⟨rfl,rfl,zaw1 hi⟩
 ·rintro x rest b s' ⟨rfl,rfl,hv⟩
  rw[ofAClassStatement.eq_3 _ _ (noref (hv x (.head _)))]
  refine zdf3 (zdf4 ?_)
  refine zdf6 rfl (zdf4 ?_)
  exact⟨rfl,rfl,fun v h=>hv v (.tail _ h)⟩
 ·rintro b s' ⟨rfl,rfl,_⟩
  exact zdf4 q
theorem zbv5:typeLookup (Value.type "tuple") (Str.ofString "__hash__")=pure (some (.builtin "tuple.__hash__")):=by kernel_rfl
theorem zcj7{v:Value}{n:Nat}(h:carriedByValue v=true):∃ b,hashByValue n v=pure b:=by
 cases v with
 | none=>exact⟨_,hashByValue.eq_1 _⟩
 | bool b=>exact⟨_,hashByValue.eq_2 _ _⟩
 | int i t=>exact⟨_,hashByValue.eq_3 _ _ _⟩
 | float b t=>exact⟨_,hashByValue.eq_4 _ _ _⟩
 | str x t=>exact⟨_,hashByValue.eq_5 _ _ _⟩
 | bytes b t=>exact⟨_,hashByValue.eq_6 _ _ _⟩
 | ellipsis=>exact⟨_,hashByValue.eq_7 _⟩
 | notImplemented=>exact⟨_,hashByValue.eq_8 _⟩
 | type n=>exact⟨_,hashByValue.eq_9 _ _⟩
 | builtin id=>exact⟨_,hashByValue.eq_10 _ _⟩
 | ref a=>cases h
theorem zcm6{k:List Int}{p:Addr}{Q:Bool->Shared->Prop}(h:IsTupleKey (intKind prog w) s.heap k p)(q:∀ b,Q b s):wpAny (model prog w) A (hashByValue 8 (.ref p)) Q E s:=by
 show wpAny (model prog w) A (hashByValue (7+1) (.ref p)) Q E s
 rw[hashByValue.eq_12]
 refine zdf3 (wpAny_specialOf h.typeIs zbv5 ?_)
 obtain⟨o,items,n,ho,hc,hd,hi⟩:=h
 refine zdf3 (wpAny_seqItems ho hd ?_)
 refine zdf3 ?_
 refine wpAny_forIn_array' _ (fun rest b s'=>s'=s/\∀ v∈rest,carriedByValue v=true) _ ?_ ?_ items _ ⟨rfl,zaw1 hi⟩
 ·rintro x rest b s' ⟨rfl,hv⟩
  obtain⟨b,eb⟩:=zcj7 (n:=7) (hv x (.head _))
  rw[eb]
  refine zdf3 (zdf4 ?_)
  cases b
  ·refine wpAny_ite_true rfl (zdf4 ?_)
   exact zdf4 (q _)
  ·refine zdf6 rfl (zdf4 ?_)
   exact⟨rfl,fun v h=>hv v (.tail _ h)⟩
 ·rintro⟨b,u⟩ s' ⟨rfl,_⟩
  cases b with
  | none=>exact zdf4 (q _)
  | some r=>exact zdf4 (q _)
theorem zcl7{k:List Int}{q:Addr}{Q:Bool->Shared->Prop}(hk:IsTupleKey (intKind prog w) s.heap k q)(hv:∀ v∈vs,∃ p k',v=.ref p/\IsTupleKey (intKind prog w) s.heap k' p)(hQ:Q false s):wpAny (model prog w) A (searchCouldBeSeen (.ref q) vs) Q E s:=by
 unfold searchCouldBeSeen
 refine zdf3 ?_
 refine zaa5 _ (fun rest b s'=>s'=s/\b=(none,())/\∀ v∈rest,∃ p k',v=.ref p/\IsTupleKey (intKind prog w) s.heap k' p) _ ?_ ?_ vs _ _ ⟨rfl,rfl,hv⟩
 ·rintro x rest b s' ⟨rfl,rfl,hv⟩
  obtain⟨p,k',rfl,hp⟩:=hv x (.head _)
  have hr:∀ v∈rest,∃ p k',v=.ref p/\IsTupleKey (intKind prog w) s'.heap k' p:=fun v h=>hv v (.tail _ h)
  show wpAny (model prog w) A (if ((q==p) || carriedByValue (Value.ref q)&&carriedByValue (Value.ref p))=true then _ else _) _ E s'
  by_cases c:((q==p) || carriedByValue (Value.ref q)&&carriedByValue (Value.ref p))=true
  ·rw[if_pos c]
   exact zdf4 ⟨rfl,rfl,hr⟩
  ·rw[if_neg c]
   refine zdf3 (wpAny_eqIsQuiet_tuple hk ?_)
   refine zdf6 rfl ?_
   refine zdf3 (wpAny_eqIsQuiet_tuple hp ?_)
   refine zdf6 rfl ?_
   refine zdf3 (zca0 hk ?_)
   refine zdf6 rfl ?_
   refine zdf3 (zca0 hp ?_)
   refine zdf6 rfl ?_
   exact zdf4 ⟨rfl,rfl,hr⟩
 ·rintro b s' ⟨rfl,rfl,_⟩
  exact zdf4 hQ
structure SetE(prog:Program)(w:World)(h:Heap)(a:Addr)(o:Obj)(es:Array (Int×Value))(ep:Nat)(t:SetTable)(keys:List (List Int)):Prop where
 at_:h.get? a=some o
 ex:o.ExactSet
 dat:o.data=Data.set es ep t
 tab:TOk t (es.toList.map (·.1))
 few:es.size*5<t.mask*3
 sz:es.size=keys.length
 el:∀ e∈es.toList,∃ p k,k∈keys/\e=(zdf7 (intKind prog w) k,.ref p)/\IsTupleKey (intKind prog w) h k p
 all:∀ k∈keys,∃ e∈es.toList,∃ p,e=(zdf7 (intKind prog w) k,.ref p)/\IsTupleKey (intKind prog w) h k p
theorem SetE.mask{h:Heap}{a:Addr}{o:Obj}{es:Array (Int×Value)}{ep:Nat}{t:SetTable}{keys:List (List Int)}(S:SetE prog w h a o es ep t keys):Msk t.mask:=S.tab.msk
theorem TOk.fits{t:SetTable}{es:Array (Int×Value)}(T:TOk t (es.toList.map (·.1)))(few:es.size<=t.mask):t.fits es.size=true:=by
 have l:=T.len
 rw[zcv8,zcx1,zcx1] at l
 unfold SetTable.fits SetTable.fill
 rw[T.dum,l]
 simp
 exact few
theorem SetE.fits{h:Heap}{a:Addr}{o:Obj}{es:Array (Int×Value)}{ep:Nat}{t:SetTable}{keys:List (List Int)}(S:SetE prog w h a o es ep t keys):t.fits es.size=true:=S.tab.fits (by have:=S.few;omega)
theorem SetE.gave{a:Addr}{t:SetTable}(S:SetE prog w h a o es ep t keys):t.gaveWay=false:=by
 unfold SetTable.gaveWay
 rcases S.mask with e|e<;>rw[e]<;>rfl
theorem zbh7(p:Addr):isSame (.ref p) (.ref p)=pure true:=by
 show (if (p==p)=true then pure true else _)=_
 rw[if_pos (beq_self_eq_true p)]
theorem zbg4(t:SetTable):t.sameMemory t.moves t.mask=some true:=by
 unfold SetTable.sameMemory
 rw[if_pos (beq_self_eq_true _)]
theorem zbz6{a:Addr}{o:Obj}{es:Array (Int×Value)}{ep:Nat}{t:SetTable}{keys:List (List Int)}(S:SetE prog w s.heap a o es ep t keys)(hA:A.units<cLine){k:List Int}{q:Addr}(hk:IsTupleKey (intKind prog w) s.heap k q){k0:Nat}(free:wk t.mask (zdf7 (intKind prog w) k) k0 ∉ t.place.toList)(full:∀ k',k'<k0->wk t.mask (zdf7 (intKind prog w) k) k'∈t.place.toList)(hk0:k0<10*(t.mask+14)){Q:SetFound->Shared->Prop}(q1:k∈keys->Q (.there none) s)(q2:k ∉ keys->Q (.free (wk t.mask (zdf7 (intKind prog w) k) k0) false) s) :
  ∀ (fuel n:Nat) (stand:Option SetTable.Probe),n<=k0->k0 - n<fuel->stand.getD (t.probeStart (zdf7 (intKind prog w) k))=stp t.mask (zdf7 (intKind prog w) k) n->(∀ k',k'<n->∀ (i:Nat) p,t.place.toList[i]?=some (wk t.mask (zdf7 (intKind prog w) k) k')->es.toList[i]?=some (zdf7 (intKind prog w) k,.ref p)->¬ IsTupleKey (intKind prog w) s.heap k p)->wpAny (model prog w) A (setSearchFrom a (.ref q) (zdf7 (intKind prog w) k) true fuel stand) Q E s
 | 0,n,stand,h1,h2,h3,h4=>by omega
 | fuel+1,n,stand,h1,h2,h3,h4=>by
  rw[setSearchFrom.eq_2]
  refine zdf3 (wpAny_setState_of S.at_ S.dat S.fits ?_)
  show wpAny (model prog w) A (if t.gaveWay=true then _ else _) Q E s
  rw[S.gave]
  refine zdf6 rfl ?_
  rw[h3]
  have hl:=S.tab.len
  rw[zcv8] at hl
  rcases zbg0 S.tab (hashAt:=fun i=>(Option.map (fun x=>x.fst) es[i]?).getD 0) free full (10*(t.mask+15)) n h1 (by omega) with ⟨k1,i,b1,b2,b3,b4,b5,b6⟩|⟨b1,b2⟩
  ·have b5:t.probe (fun i=>(Option.map (fun x=>x.fst) es[i]?).getD 0) (zdf7 (intKind prog w) k) (stp t.mask (zdf7 (intKind prog w) k) n)=_:=b5
   show wpAny (model prog w) A (match t.probe (fun i=>(Option.map (fun x=>x.fst) es[i]?).getD 0) (zdf7 (intKind prog w) k) (stp t.mask (zdf7 (intKind prog w) k) n) with|some met=>_|_=>_) Q E s
   rw[b5]
   have hi:i<es.size:=by
    have:=(zcv9.mp b3).1
    rw[hl,zcx1] at this
    exact this
   have ei:es[i]?=some es[i]:=zdb6 hi
   have em:es[i]∈es.toList:=by rw[zde8];exact Array.getElem_mem hi
   obtain⟨p,k',hk',eq,hp⟩:=S.el _ em
   rw[eq] at ei em
   have hh:zdf7 (intKind prog w) k'=zdf7 (intKind prog w) k:=by
    rw[ei] at b4
    exact b4
   have inv:¬ k'=k->∀ k'',k''<k1+1->∀ (i':Nat) p',t.place.toList[i']?=some (wk t.mask (zdf7 (intKind prog w) k) k'')->es.toList[i']?=some (zdf7 (intKind prog w) k,.ref p')->¬ IsTupleKey (intKind prog w) s.heap k p':=fun ne k'' hk'' i' p' e1 e2 hp'=>by
    by_cases c1:k''<n
    ·exact h4 k'' c1 i' p' e1 e2 hp'
    ·by_cases c2:k''<k1
     ·have:=b6 k'' (by omega) c2 i' e1
      rw[← zcy2,e2] at this
      exact this rfl
     ·have:k''=k1:=by omega
      subst this
      have x1:=zaa3 S.tab.srt (i:=i') (by rw[← zcy2];exact e1)
      have x2:=zaa3 S.tab.srt (i:=i) (by rw[← zcy2];exact b3)
      have:i'=i:=by omega
      subst this
      rw[zcy2,ei] at e2
      have:=(Prod.mk.inj (Option.some.inj e2)).2
      cases this
      exact ne (IsTupleKey.inj hp hp')
   refine wpAny_ite ?_
   split
   ·refine zdf3 (zcl7 hk (fun v hv=>?_) ?_)
    ·obtain⟨z,hz,rfl⟩:=zcx0.mp hv
     obtain⟨hz,_⟩:=Array.mem_filter.mp (zde8.mp hz)
     obtain⟨p2,k2,_,e2,h2⟩:=S.el z (zde8.mpr hz)
     exact⟨p2,k2,by rw[e2],h2⟩
    refine zdf6 rfl ?_
    rw[ei]
    refine zdf3 (zdf8 (wpAny_eqBool_tuple hA hp hk ?_))
    refine zdf3 (wpAny_setState_of S.at_ S.dat S.fits ?_)
    by_cases e:k'=k
    ·rw[decide_eq_true e]
     exact wpAny_ite_true rfl (zdf4 (q1 (e▸hk')))
    ·rw[decide_eq_false e]
     refine zdf6 rfl ?_
     rw[zbg4]
     show wpAny (model prog w) A (match t.slot (wk t.mask (zdf7 (intKind prog w) k) k1) with|SetTable.Slot.live i'=>_|x=>_) Q E s
     rw[zak5 S.tab.srt (i:=i) (by rw[← zcy2];exact b3)]
     show wpAny (model prog w) A (match es[i]? with|some (fst,y')=>_|none=>_) Q E s
     rw[ei]
     refine zdf3 (wpAny_of_eq (zbh7 p) ?_)
     refine zdf3 (zdf4 ?_)
     refine zdf6 rfl ?_
     exact zbz6 S hA hk free full hk0 q1 q2 fuel (k1+1) (some _) (by omega) (by omega) rfl (inv e)
   ·rw[ei]
    refine zdf3 (zdf8 (wpAny_eqBool_tuple hA hp hk ?_))
    refine zdf3 (wpAny_setState_of S.at_ S.dat S.fits ?_)
    by_cases e:k'=k
    ·rw[decide_eq_true e]
     exact wpAny_ite_true rfl (zdf4 (q1 (e▸hk')))
    ·rw[decide_eq_false e]
     refine zdf6 rfl ?_
     rw[zbg4]
     show wpAny (model prog w) A (match t.slot (wk t.mask (zdf7 (intKind prog w) k) k1) with|SetTable.Slot.live i'=>_|x=>_) Q E s
     rw[zak5 S.tab.srt (i:=i) (by rw[← zcy2];exact b3)]
     show wpAny (model prog w) A (match es[i]? with|some (fst,y')=>_|none=>_) Q E s
     rw[ei]
     refine zdf3 (wpAny_of_eq (zbh7 p) ?_)
     refine zdf3 (zdf4 ?_)
     refine zdf6 rfl ?_
     exact zbz6 S hA hk free full hk0 q1 q2 fuel (k1+1) (some _) (by omega) (by omega) rfl (inv e)
  ·have b1:t.probe (fun i=>(Option.map (fun x=>x.fst) es[i]?).getD 0) (zdf7 (intKind prog w) k) (stp t.mask (zdf7 (intKind prog w) k) n)=_:=b1
   show wpAny (model prog w) A (match t.probe (fun i=>(Option.map (fun x=>x.fst) es[i]?).getD 0) (zdf7 (intKind prog w) k) (stp t.mask (zdf7 (intKind prog w) k) n) with|some met=>_|_=>_) Q E s
   rw[b1]
   refine zdf4 (q2 fun hin=>?_)
   obtain⟨e,he,p,rfl,hp⟩:=S.all k hin
   obtain⟨i,ei⟩:=zcx8 he
   obtain⟨kx,r1,r2⟩:=S.tab.rch i (zdf7 (intKind prog w) k) (by rw[zcw0,ei];rfl)
   have lt:kx<k0:=by
    by_cases z:kx<k0
    ·exact z
    ·exfalso
     by_cases z2:kx=k0
     ·subst z2
      exact free (zcw3 r1)
     ·exact free (r2 k0 (by omega))
   by_cases c:kx<n
   ·exact h4 kx c i p r1 ei hp
   ·have:=b2 kx (by omega) lt i r1
    rw[← zcy2,ei] at this
    exact this rfl
theorem zbq5{a:Addr}{t:SetTable}(ho:h.get? a=some o)(ex:o.ExactSet)(dat:o.data=Data.set es ep t)(es':Array (Int×Value))(t':SetTable):∃ o',(h.update a (Obj.putSet es' t')).get? a=some o'/\o'.ExactSet/\o'.data=Data.set es' (ep+1) t'/\Heap.SameBut a h (h.update a (Obj.putSet es' t')):=by
 have e:=putSet_of es' t' dat
 have g:=Heap.get?_update_self (Obj.putSet es' t') ho (by rw[e];rfl)
 rw[e] at g
 exact⟨_,g,ex,rfl,Heap.size_update _ _ _,fun b hb=>Heap.get?_update_other h _ (Ne.symm hb)⟩
theorem zbk1{a p:Addr}{k:List Int}(hk:IsTupleKey (intKind prog w) h k p)(ho:h.get? a=some o)(ex:o.ExactSet)(sb:Heap.SameBut a h h'):IsTupleKey (intKind prog w) h' k p:=by
 obtain⟨o2,items,n,g,c,d,i⟩:=hk
 have ne:p≠a:=fun e=>by
  subst e
  rw[ho] at g
  cases g
  rw[ex.1] at c
  exact absurd (Value.type.inj c) (by decide)
 exact⟨o2,items,n,by rw[sb.2 p ne];exact g,c,d,i⟩
theorem zcm7{α:Type}{xs:List α}{p:Nat}{x y:α}:y∈xs.take p++x :: xs.drop p↔y=x∨y∈xs:=by
 rw[zcy1,zcw8]
 constructor
 ·rintro (h|h|h)
  ·exact .inr (zdd5 h)
  ·exact .inl h
  ·exact .inr (zdc2 h)
 ·rintro (h|h)
  ·exact .inr (.inl h)
  ·rw[← List.take_append_drop p xs] at h
   rcases zcy1.mp h with h|h
   ·exact .inl h
   ·exact .inr (.inr h)
theorem zcl1(q:Addr)(es:Array (Int×Value)):byScan (.ref q) es=false:=by
 unfold byScan
 show ((false&&_)&&_)=false
 rw[zde9,zde9]
theorem SetE.put{a:Addr}{o':Obj}{es':Array (Int×Value)}{ep':Nat}{t t':SetTable}(S:SetE prog w h a o es ep t keys){k:List Int}{q:Addr}(hk:IsTupleKey (intKind prog w) h k q)(g:h'.get? a=some o')(ex:o'.ExactSet)(dat:o'.data=Data.set es' ep' t')(sb:Heap.SameBut a h h')(T:TOk t' (es'.toList.map (·.1)))(few:es'.size*5<t'.mask*3)(sz:es'.size=es.size+1)(mem:∀ e,e∈es'.toList↔e=(zdf7 (intKind prog w) k,.ref q)∨e∈es.toList):SetE prog w h' a o' es' ep' t' (k :: keys):=by
 refine⟨g,ex,dat,T,few,by rw[sz,S.sz];rfl,fun e he=>?_,fun k' hk'=>?_⟩
 ·rcases (mem e).mp he with rfl|he
  ·exact⟨q,k,.head _,rfl,zbk1 hk S.at_ S.ex sb⟩
  ·obtain⟨p,k',h1,h2,h3⟩:=S.el e he
   exact⟨p,k',.tail _ h1,h2,zbk1 h3 S.at_ S.ex sb⟩
 ·rcases zcw8.mp hk' with rfl|hk'
  ·exact⟨_,(mem _).mpr (.inl rfl),q,rfl,zbk1 hk S.at_ S.ex sb⟩
  ·obtain⟨e,he,p,h2,h3⟩:=S.all k' hk'
   exact⟨e,(mem e).mpr (.inr he),p,h2,zbk1 h3 S.at_ S.ex sb⟩
theorem zbo4:SetTable.sizeAbove 20=32:=by decide +kernel
set_option maxHeartbeats 0 in
theorem zcj9{a:Addr}{t:SetTable}(S:SetE prog w s.heap a o es ep t keys)(hA:A.units<cLine){k:List Int}{q:Addr}(hk:IsTupleKey (intKind prog w) s.heap k q)(hn:keys.length<18){Q:Bool->Shared->Prop}(q1:k∈keys->Q false s)(q2:k ∉ keys->∀ h' o' es' ep' t',SetE prog w h' a o' es' ep' t' (k :: keys)->Heap.SameBut a s.heap h'->Q true { s with heap:=h' }):wpAny (model prog w) A (setAddHashed a (.ref q) (zdf7 (intKind prog w) k)) Q E s:=by
 unfold setAddHashed
 refine zdf8 ?_
 show wpAny (model prog w) A (setAddHashedIn a (.ref q) (zdf7 (intKind prog w) k) (99999+1)) Q E s
 rw[setAddHashedIn.eq_2]
 refine zdf3 (wpAny_setState_of S.at_ S.dat S.fits ?_)
 show wpAny (model prog w) A (if byScan (.ref q) es=true then _ else _) Q E s
 rw[zcl1]
 refine zdf6 rfl ?_
 have sz:=S.sz
 have few:=S.few
 have pl:t.place.toList.length=es.size:=by rw[S.tab.len,zcv8,zcx1]
 obtain⟨k0,hk0,free,full⟩:=zbr2 S.mask (zdf7 (intKind prog w) k) (ps:=t.place.toList) (by rw[pl];omega)
 refine zdf3 ?_
 unfold setSearch
 refine zbz6 S hA hk free full hk0 (fun hin=>?_) (fun hout=>?_) 100000 0 none (zcy3 _) (by rcases S.mask with e|e<;>rw[e] at hk0<;>omega) rfl (fun k' h=>by omega)
 ·exact zdf4 (q1 hin)
 ·refine zdf3 (wpAny_setState_of S.at_ S.dat S.fits ?_)
  obtain⟨p1,p2,p3,p4⟩:=S.tab.put free full
  have p3:(t.put (wk t.mask (zdf7 (intKind prog w) k) k0)).2=SetTable.below t.place (wk t.mask (zdf7 (intKind prog w) k) k0):=p3
  obtain⟨t2,et2⟩:∃ t2,(t.put (wk t.mask (zdf7 (intKind prog w) k) k0)).1=t2:=⟨_,rfl⟩
  obtain⟨p,ep2⟩:∃ p,SetTable.below t.place (wk t.mask (zdf7 (intKind prog w) k) k0)=p:=⟨_,rfl⟩
  have eput:t.put (wk t.mask (zdf7 (intKind prog w) k) k0)=(t2,p):=by rw[← et2,← ep2,← p3]
  rw[et2,ep2] at p2
  rw[et2] at p4
  rw[ep2,zcv8,zcx1] at p1
  have next:∀ (b:Bool) (J:Bool->Sem Bool),(∀ b,J b=(do
    storeSet a (SetTable.insertAt es p (zdf7 (intKind prog w) k,.ref q)) (if b=true then t2 else { mask:=t2.mask,place:=t2.place,dummies:=t2.dummies,finger:=t2.finger,led:=t2.led,moves:=t2.moves,plain:=false })
    if (!false&&(if b=true then t2 else { mask:=t2.mask,place:=t2.place,dummies:=t2.dummies,finger:=t2.finger,led:=t2.led,moves:=t2.moves,plain:=false }).tooFull)=true then do
      setRelay a (SetTable.grown (es.size+1))
      pure true
     else pure true))->wpAny (model prog w) A (J b) Q E s:=fun b J hJ=>by
   rw[hJ]
   obtain⟨t3,et3⟩:∃ t3,(if b=true then t2 else { mask:=t2.mask,place:=t2.place,dummies:=t2.dummies,finger:=t2.finger,led:=t2.led,moves:=t2.moves,plain:=false })=t3:=⟨_,rfl⟩
   have e1:t3.mask=t2.mask/\t3.place=t2.place/\t3.dummies=t2.dummies:=by rw[← et3];cases b<;>exact⟨rfl,rfl,rfl⟩
   rw[et3]
   obtain⟨es2,ees2⟩:∃ es2,SetTable.insertAt es p (zdf7 (intKind prog w) k,Value.ref q)=es2:=⟨_,rfl⟩
   have el2:es2.toList=es.toList.take p++(zdf7 (intKind prog w) k,Value.ref q) :: es.toList.drop p:=by rw[← ees2,SetTable.toList_insertAt]
   have sz2:es2.size=es.size+1:=by rw[← zcx1,el2,zai5 (by rw[zcx1];exact p1),zcx1]
   have T3:TOk t3 (es2.toList.map (·.1)):=by
    rw[el2,zcy6,zcz4,List.map_take,List.map_drop]
    exact p2.of e1.1 e1.2.1 e1.2.2
   have mem2:∀ e,e∈es2.toList↔e=(zdf7 (intKind prog w) k,Value.ref q)∨e∈es.toList:=fun e=>by rw[el2];exact zcm7
   rw[ees2]
   obtain⟨o2,g2,ex2,dat2,sb2⟩:=zbq5 S.at_ S.ex S.dat es2 t3
   refine zdf3 (wpAny_storeSet_of S.at_ S.dat ?_ (by rw[sz2];exact zda0 (show es.size+1<=18 by omega) (by decide)))
   have full3:t3.fill=es.size+1:=by
    unfold SetTable.fill
    rw[T3.dum]
    have:=T3.len
    rw[zcv8,zcx1,zcx1] at this
    rw[this,sz2]
    rfl
   by_cases c:(es.size+1)*5≥t.mask*3
   ·have m7:t.mask=7:=by
     rcases S.mask with e|e
     ·exact e
     ·rw[e] at c;omega
    have e4:es.size=4:=by rw[m7] at c few;omega
    have m3:t3.mask=7:=by rw[e1.1,p4,m7]
    have tf:(!false&&t3.tooFull)=true:=by
     unfold SetTable.tooFull
     rw[full3,m3,e4]
     rfl
    rw[tf]
    refine wpAny_ite_true rfl ?_
    rw[e4]
    refine zdf3 ?_
    unfold setRelay
    refine zdf3 (wpAny_setState_of g2 dat2 (T3.fits (by rw[m3,sz2,e4];decide)) ?_)
    show wpAny (model prog w) A (if SetTable.sizeAbove 20>sizeLine then _ else _) _ E _
    rw[zbo4]
    refine zdf6 (by decide) ?_
    obtain⟨t4,order,l1,l2,l3,l4,l5⟩:=zcn9 (mask:=31) (finger:=t3.finger) (moves:=t3.movedTo 31) (led:=t3.led) (plain:=t3.plain) (.inr rfl) (es:=es2) (by omega)
    have rel:t3.relaid (Array.map (fun x=>x.fst) es2) 20=some (t4,order):=by
     show SetTable.laid (SetTable.sizeAbove 20 - 1) t3.finger (t3.movedTo (SetTable.sizeAbove 20 - 1)) t3.led t3.plain (Array.map (fun x=>x.fst) es2)=_
     rw[zbo4]
     exact l1
    refine zdf3 ?_
    show wpAny (model prog w) A (match t3.relaid (Array.map (fun x=>x.fst) es2) 20 with|some (t,order)=>_|x=>_) _ E _
    rw[rel]
    show wpAny (model prog w) A (if ((zdc7 (fun x=>es2[x]?) order).size != es2.size)=true then _ else _) _ E _
    rw[l3]
    refine zdf6 (by simp) (zdf4 ?_)
    obtain⟨o5,g5,ex5,dat5,sb5⟩:=zbq5 g2 ex2 dat2 (zdc7 (fun x=>es2[x]?) order) t4
    refine wpAny_storeSet_of g2 dat2 ?_ (by rw[l3,sz2];exact zda0 (show es.size+1<=18 by omega) (by decide))
    refine zdf4 (q2 hout _ o5 _ _ t4 (S.put hk g5 ex5 dat5 ⟨sb5.1.trans sb2.1,fun b hb=>(sb5.2 b hb).trans (sb2.2 b hb)⟩ l5 (by rw[l3,l2,sz2,e4];decide) (by rw[l3,sz2]) (fun e=>?_)) ⟨sb5.1.trans sb2.1,fun b hb=>(sb5.2 b hb).trans (sb2.2 b hb)⟩)
    rw[l4.mem_iff]
    exact mem2 e
   ·have tf:(!false&&t3.tooFull)=false:=by
     unfold SetTable.tooFull
     rw[full3,e1.1,p4]
     exact decide_eq_false c
    rw[tf]
    refine zdf6 rfl ?_
    exact zdf4 (q2 hout _ o2 _ _ t3 (S.put hk g2 ex2 dat2 sb2 T3 (by rw[sz2,e1.1,p4];omega) sz2 mem2) sb2)
  subst et2
  subst ep2
  show wpAny (model prog w) A (if (t.put (wk t.mask (zdf7 (intKind prog w) k) k0)).1.plain=true then _ else _) Q E s
  refine wpAny_ite ?_
  split
  ·refine zdf3 (zcm6 hk fun b=>?_)
   exact next b _ fun b=>rfl
  ·refine zdf3 (zdf4 ?_)
   exact next true _ fun b=>rfl
end
noncomputable def ddK:List (List Int)->List (List Int)->List (List Int)
 | acc,[]=>acc
 | acc,k :: ks=>ddK (if k∈acc then acc else k :: acc) ks
section
variable {prog:Program}{w:World}{A:Around}{E:Value->Shared->Prop}{s:Shared}
theorem zaq7{k:List Int}{p:Addr}(hk:IsTupleKey (intKind prog w) h k p)(m:∀ o,h.get? p=some o->h'.get? p=some o):IsTupleKey (intKind prog w) h' k p:=by
 obtain⟨o,i,n,g,c,d,x⟩:=hk
 exact⟨o,i,n,m o g,c,d,x⟩
theorem SetE.moved{a I:Addr}{t:SetTable}(S:SetE prog w h a o es ep t keys)(hI:∃ oI,h.get? I=some oI/\oI.cls=.type "list_iterator")(m:∀ b o,¬ b∈[I]->h.get? b=some o->h'.get? b=some o):SetE prog w h' a o es ep t keys:=by
 obtain⟨oI,gI,cI⟩:=hI
 have tk:∀ {k:List Int}{p:Addr},IsTupleKey (intKind prog w) h k p->IsTupleKey (intKind prog w) h' k p:=fun {k p} hk=>by
  refine zaq7 hk fun o g=>m _ o (fun hm=>?_) g
  have e:=zcz6.mp hm
  subst e
  obtain⟨o2,i,n,g2,c2,_⟩:=hk
  rw[gI] at g2
  cases g2
  rw[cI] at c2
  exact absurd (Value.type.inj c2) (by decide)
 refine⟨m _ _ (fun hm=>?_) S.at_,S.ex,S.dat,S.tab,S.few,S.sz,fun e he=>?_,fun k hk=>?_⟩
 ·have e:=zcz6.mp hm
  have g:=S.at_
  rw[e,gI] at g
  cases g
  have c:=S.ex.1
  rw[cI] at c
  exact absurd (Value.type.inj c) (by decide)
 ·obtain⟨p,k,h1,h2,h3⟩:=S.el e he
  exact⟨p,k,h1,h2,tk h3⟩
 ·obtain⟨e,he,p,h2,h3⟩:=S.all k hk
  exact⟨e,he,p,h2,tk h3⟩
theorem zbe0:∀ (acc ks:List (List Int)),(ddK acc ks).length<=acc.length+ks.length
 | acc,[]=>zcx3 _
 | acc,k :: ks=>by
  have:=zbe0 (if k∈acc then acc else k :: acc) ks
  have h2:(if k∈acc then acc else k :: acc).length<=acc.length+1:=by split<;>simp
  show (ddK (if k∈acc then acc else k :: acc) ks).length<=acc.length+(ks.length+1)
  omega
theorem zv9{I l:Addr}(hi:h.IsListIter I l i):∃ oI,h.get? I=some oI/\oI.cls=.type "list_iterator":=by
 obtain⟨o,g,c,_⟩:=hi
 exact⟨o,g,c⟩
set_option maxHeartbeats 0 in
theorem zbi2{R:Result->Shared->Prop}{I l:Addr}{items:Array Value}(hA:A.units+5<cLine)(W:WalksS prog w A.in1 I [I,l] [I] (fun a b=>b=a) items.size (fun i v=>items[i]?=some v) (fun i s=>s.heap.IsListIter I l i/\s.heap.IsList l items)){S:Addr}(hS:S ∉ [I,l]){ps:List Addr}{kss:List (List Int)}(hi:items.toList=ps.map Value.ref)(hl:ps.length=kss.length)(h18:kss.length<=18) :
  ∀ (n i:Nat) (s:Shared) (acc:List (List Int)),items.size - i=n->i<=items.size->(s.heap.IsListIter I l i/\s.heap.IsList l items)->(∃ o es ep t,SetE prog w s.heap S o es ep t acc)->acc.length<=i->(∀ (j:Nat) p k,ps[j]?=some p->kss[j]?=some k->IsTupleKey (intKind prog w) s.heap k p) ->
   (∀ s' o es ep t,Moved [S,I] (fun a b=>b=a) s s'->SetE prog w s'.heap S o es ep t (ddK acc (kss.drop i))->R (.ok (.ret .none)) s')->codeAny (model prog w) A (.builtin "set.update.loop" ⟨[.ref S,.ref I],[]⟩) R s
 | 0,i,s,acc,h1,h2,h3,⟨o,es,ep,t,hE⟩,h5,h6,h7=>by
  have e:i=items.size:=by omega
  have sz:items.size=kss.length:=by rw[← zcx1,hi,zcv8,hl]
  subst e
  refine codeAny_builtin F.entry_set_update_loop ?_
  rw[Around.under_plainId F.plain_set_update_loop]
  refine zdf3 (W.done s _ _ h3 fun s' hm=>?_)
  refine zdf4 (h7 s' o es ep t ⟨fun b o hb g=>hm.heap b o (fun z=>hb (.tail _ z)) g,hm.gens,hm.drawn,hm.os,hm.toks⟩ ?_)
  rw[zdc8 (by omega)]
  exact hE.moved (zv9 h3.1) hm.heap
 | n+1,i,s,acc,h1,h2,h3,⟨o,es,ep,t,hE⟩,h5,h6,h7=>by
  have sz:items.size=kss.length:=by rw[← zcx1,hi,zcv8,hl]
  refine codeAny_builtin F.entry_set_update_loop ?_
  rw[Around.under_plainId F.plain_set_update_loop]
  refine zdf3 (W.item i s _ _ (by omega) h3 fun v s' hP hst hm=>?_)
  have hP':items.toList[i]?=some v:=by rw[zcy2];exact hP
  rw[hi,zcw0] at hP'
  obtain⟨p,ep1,rfl⟩:=zcw4.mp hP'
  obtain⟨k,ek⟩:∃ k,kss[i]?=some k:=⟨_,zcv7 (by omega)⟩
  have hE':=hE.moved (zv9 h3.1) hm.heap
  have tk':∀ (j:Nat) p k,ps[j]?=some p->kss[j]?=some k->IsTupleKey (intKind prog w) s'.heap k p:=fun j p k e1 e2=>by
   have hk:=h6 j p k e1 e2
   obtain⟨oI,gI,cI⟩:=zv9 h3.1
   refine zaq7 hk fun o g=>hm.heap _ o (fun hm'=>?_) g
   have e:=zcz6.mp hm'
   subst e
   obtain⟨o2,i2,n2,g2,c2,_⟩:=hk
   rw[gI] at g2
   cases g2
   rw[cI] at c2
   exact absurd (Value.type.inj c2) (by decide)
  have hk:=tk' i p k ep1 ek
  refine zdf3 (zdf8 ?_)
  unfold setAdd
  refine zdf8 (zdf3 (wpAny_pyHash_tuple (by show A.in1.units<cLine;rw[zn3];omega) hk ?_))
  have fin:∀ (tk:Nat) (h':Heap) (acc':List (List Int)) (o':Obj) (es':Array (Int×Value)) (ep':Nat) (t':SetTable),s'.toks<=tk->acc'=(if k∈acc then acc else k :: acc)->SetE prog w h' S o' es' ep' t' acc'->(∀ b o,b≠S->s'.heap.get? b=some o->h'.get? b=some o)->wpAny (model prog w) A.in1 (again (Code.builtin "set.update.loop" ⟨[.ref S,.ref I],[]⟩)) (fun fin s'=>match fin with|.done f=>R (.ok f) s' | .again c'=>c'.quiet=true/\codeAny (model prog w) A c' R s') (fun e s'=>R (.error e) s') { s' with heap:=h',toks:=tk }:=fun tk h' acc' o' es' ep' t' htk eacc hE2 hk2=>by
   have nI:I≠S:=fun z=>hS (z▸.head _)
   have nl:l≠S:=fun z=>hS (z▸.tail _ (.head _))
   refine zdf4 ⟨plainId_quiet F.plain_set_update_loop _,zbi2 hA W hS hi hl h18 n (i+1) _ acc' (by omega) (by omega) ⟨hst.1.at fun o g=>hk2 _ o nI g,hst.2.at fun o g=>hk2 _ o nl g⟩ ⟨o',es',ep',t',hE2⟩ ?_ (fun j p k e1 e2=>?_) (fun s'' o3 es3 ep3 t3 hm3 hE3=>?_)⟩
   ·rw[eacc]
    split
    ·omega
    ·rw[zcx5];omega
   ·have hk:=tk' j p k e1 e2
    refine zaq7 hk fun o g=>hk2 _ o (fun z=>?_) g
    subst z
    obtain⟨o2,i2,n2,g2,c2,_⟩:=hk
    rw[hE'.at_] at g2
    cases g2
    have:=hE'.ex.1
    rw[c2] at this
    exact absurd (Value.type.inj this) (by decide)
   ·refine h7 s'' o3 es3 ep3 t3 ⟨fun b o hb g=>?_,hm3.gens.trans hm.gens,hm3.drawn.trans hm.drawn,hm3.os.trans hm.os,zda0 hm.toks (zda0 htk hm3.toks)⟩ ?_
    ·have b1:b≠S:=fun z=>hb (z▸.head _)
     exact hm3.heap b o hb (hk2 b o b1 (hm.heap b o (fun z=>hb (.tail _ z)) g))
    ·rw[zdd0 (show i<kss.length by omega),(zcv9.mp ek).2]
     show SetE prog w s''.heap S o3 es3 ep3 t3 (ddK (if k∈acc then acc else k :: acc) (kss.drop (i+1)))
     rw[← eacc]
     exact hE3
  refine zcj9 (s:={ s' with toks:=s'.toks+(k.length+1) }) hE' (by show A.in1.units<cLine;rw[zn3];omega) hk (by omega) (fun hin=>?_) (fun hout h' o' es' ep' t' hE2 sb=>?_)
  ·exact fin _ s'.heap acc o es ep t (by omega) (by rw[if_pos hin]) hE' (fun b o _ g=>g)
  ·exact fin _ h' (k :: acc) o' es' ep' t' (by show s'.toks<=s'.toks+(k.length+1);omega) (by rw[if_neg hout]) hE2 (fun b o hb g=>by rw[sb.2 b hb];exact g)
set_option maxHeartbeats 0 in
theorem zag7{l:Addr}{items:Array Value}{ps:List Addr}{kss:List (List Int)}(hh:A.handled=none)(hA:A.units+40<cLine)(hl:s.heap.IsList l items)(hi:items.toList=ps.map Value.ref)(hn:ps.length=kss.length)(h18:kss.length<=18)(hk:∀ (j:Nat) p k,ps[j]?=some p->kss[j]?=some k->IsTupleKey (intKind prog w) s.heap k p)(h:∀ h' tk o es ep t,SetE prog w h' s.heap.objs.size o es ep t (ddK [] kss)->(∀ b o,s.heap.get? b=some o->h'.get? b=some o)->Q (.ref s.heap.objs.size) { s with heap:=h',toks:=tk }):wpAny (model prog w) A (call (.type "set") [.ref l]) Q E s:=by
 obtain⟨c,tl,hmro⟩:=F.called_set.mro
 have hmade:=F.called_set.made
 have hsub:=F.called_set.sub
 refine wpAny_call (codeAny_of_tree ?_)
 refine zdf4 ⟨Code.quiet_builtin _ (by decide +kernel),codeAny_builtin F.entry_type_call ?_⟩
 rw[Around.under_plain (weight_type_call_type "set" [Value.ref l] []) rfl]
 have h1:=F.called_set.notType
 have h2:=F.called_set.canCreate
 have hct:=F.typeCall_set_1 (Value.ref l)
 unfold Builtin.«type.__call__»
 refine zdf6 (by decide) ?_
 refine zdf6 (by kernel_rfl) ?_
 refine zdf3 (wpAny_of_eq hct ?_)
 refine zdf3 (wpAny_of_eq hmro ?_)
 refine zdf6 rfl ?_
 refine zdf3 (wpAny_of_eq hmade ?_)
 refine zdf3 (zdf4 ?_)
 refine zdf3 (zdf8 (wpAny_call (codeAny_mono (code_set_new_1 (E:=E) (Q₁:=fun obj s₁=>∃ led,obj=Value.ref s.heap.objs.size/\s₁={ s with heap:=s.heap.push { cls:=.type "set",data:=.set #[] 0 (SetTable.fresh 0 0 led) } }) (.ref l) fun led=>⟨led,rfl,rfl⟩) fun r s₁ hr=>?_)))
 match r,hr with
 | .error e,hr=>exact hr
 | .ok (.ret v),⟨led,e1,e2⟩=>
  subst e1
  subst e2
  have hS:(s.heap.push { cls:=.type "set",data:=.set #[] 0 (SetTable.fresh 0 0 led) }).get? s.heap.objs.size=some { cls:=.type "set",data:=.set #[] 0 (SetTable.fresh 0 0 led) }:=zcy8 _ rfl
  have hT:({ s with heap:=s.heap.push { cls:=.type "set",data:=.set #[] 0 (SetTable.fresh 0 0 led) } }:Shared).TypeIs (.ref s.heap.objs.size) "set":=⟨_,hS,rfl⟩
  have hli:=F.called_set.init.lookup
  have hbi:=F.called_set.init.bind (Value.ref s.heap.objs.size)
  refine zdf3 (wpAny_isInstance hT hsub ?_)
  refine zdf6 rfl ?_
  refine zdf3 (zdf8 ?_)
  refine zdf3 (wpAny_specialOf hT hli ?_)
  refine zdf8 ?_
  refine zdf3 (wpAny_of_eq hbi ?_)
  refine zdf3 (wpAny_call (codeAny_mono (R:=wants (fun r s₂=>r=Value.none/\Q (.ref s.heap.objs.size) s₂) E) (codeAny_call_builtin F.called_set.init.plain F.entry_set_init (check_set_init_1 hT ?_)) fun r s₂ hr=>?_))
  ·obtain⟨ol,hol,hcl,nl,hdl⟩:=id hl
   have hol':=zcw6 { cls:=.type "set",data:=.set #[] 0 (SetTable.fresh 0 0 led) } hol
   unfold Builtin.«set.__init__»
   refine zdf3 (wpAny_ite_true rfl (zdf4 ?_))
   unfold typeNameOfCut shownTypeOf
   refine zdf3 ?_
   refine zdf3 (zdf3 (wpAny_typeOf hT (zdf6 (by decide) (zdf4 ?_))))
   refine zdf4 ?_
   refine zdf3 ?_
   unfold checkCount
   refine zdf6 rfl ?_
   refine zdf6 rfl ?_
   refine zdf6 rfl (zdf4 ?_)
   refine zdf3 (zdf4 ?_)
   have fits0:(SetTable.fresh 0 0 led).fits (#[]:Array (Int×Value)).size=true:=rfl
   unfold setUsed
   refine zdf3 (zdf3 (wpAny_setState_of hS rfl fits0 (zdf4 ?_)))
   refine zdf6 rfl ?_
   refine zdf3 ?_
   unfold Builtin.Frozenset.updateFrom Builtin.Frozenset.isAnySet
   have hTl:({ s with heap:=s.heap.push { cls:=.type "set",data:=.set #[] 0 (SetTable.fresh 0 0 led) } }:Shared).TypeIs (.ref l) "list":=⟨_,hol',hcl⟩
   refine zdf3 (zdf3 (wpAny_isInstance hTl F.sub_list_set ?_))
   refine wpAny_isInstance hTl F.sub_list_frozenset ?_
   refine zdf6 rfl ?_
   refine zdf3 (wpAny_typeOf hTl ?_)
   refine zdf6 (by decide) ?_
   have hl1:(s.heap.push { cls:=.type "set",data:=.set #[] 0 (SetTable.fresh 0 0 led) }).IsList l items:=⟨ol,hol',hcl,nl,hdl⟩
   refine zdf3 (wpAny_pyIter_list hl1 ?_)
   refine zdf3 (wpAny_runValue ?_)
   have lt:@LT.lt Nat _ l s.heap.objs.size:=zcx7 hol
   have psz:(s.heap.push { cls:=.type "set",data:=.set #[] 0 (SetTable.fresh 0 0 led) }).objs.size=s.heap.objs.size+1:=Array.size_push _
   have neI:l≠(s.heap.push { cls:=.type "set",data:=.set #[] 0 (SetTable.fresh 0 0 led) }).objs.size:=zcz2 (by rw[psz];exact Nat.lt_succ_of_lt lt)
   have neS:s.heap.objs.size ∉ [(s.heap.push { cls:=.type "set",data:=.set #[] 0 (SetTable.fresh 0 0 led) }).objs.size,l]:=fun z=>by
    rcases zcw8.mp z with z|z
    ·rw[psz] at z;exact absurd z (zcz2 (Nat.lt_succ_self _))
    ·exact absurd (zcz6.mp z).symm (zcz2 lt)
   have up:∀ b o,s.heap.get? b=some o->((s.heap.push { cls:=.type "set",data:=.set #[] 0 (SetTable.fresh 0 0 led) }).push { cls:=.type "list_iterator",data:=.fields #[.ref l,.int 0 0] }).get? b=some o:=fun b o g=>zcw6 _ (zcw6 _ g)
   refine zbi2 (A:=A.in1.in1) (by rw[zn3,zn3];omega) (Walks.list (by exact hh) _ l neI items).toS neS hi hn h18 (items.size - 0) 0 _ [] rfl (zcy3 _) ⟨⟨_,zcy8 _ rfl,rfl,rfl⟩,hl1.at fun o g=>zcw6 _ g⟩ ⟨{ cls:=.type "set",data:=.set #[] 0 (SetTable.fresh 0 0 led) },#[],0,SetTable.fresh 0 0 led,?_⟩ (zcy3 _) (fun j p k e1 e2=>zaq7 (hk j p k e1 e2) fun o g=>up p o g) (fun s' o es ep t hm hE=>?_)
   ·refine⟨zcw6 _ hS,⟨rfl,rfl,rfl⟩,rfl,⟨.inl rfl,rfl,rfl,List.Pairwise.nil,(fun j hj=>by cases hj),(fun i h e=>by simp at e)⟩,(show 0*5<7*3 by decide),rfl,(fun e he=>by cases he),(fun k hk=>by cases hk)⟩
   ·refine zdf4 (zdf4 ⟨rfl,?_⟩)
    rw[Moved.eq_with hm]
    refine h s'.heap s'.toks o es ep t hE fun b o g=>hm.heap b o (fun z=>?_) (up b o g)
    have lb:@LT.lt Nat _ b s.heap.objs.size:=zcx7 g
    rcases zcw8.mp z with z|z
    ·exact absurd z (zcz2 lb)
    ·have z:=zcz6.mp z
     rw[psz] at z
     exact absurd z (zcz2 (Nat.lt_succ_of_lt lb))
  ·match r,hr with
   | .error e,hr=>exact hr
   | .ok .next,hr=>exact hr
   | .ok .brk,hr=>exact hr
   | .ok .cont,hr=>exact hr
   | .ok (.ret v),⟨e1,hq⟩=>
    subst e1
    refine zdf4 ?_
    refine zdf6 rfl ?_
    exact zdf4 hq
 | .ok .next,hr=>exact hr
 | .ok .brk,hr=>exact hr
 | .ok .cont,hr=>exact hr
end
theorem bt_set:bootBuiltins "set"=some (.type "set"):=by decide +kernel
def zaj8(k:Int×Int):List Int:=[k.1,k.2]
section
variable {X:Cx}{K:zcw2}
@[irreducible] noncomputable def rLenS(K:zcw2)(a:Addr)(H:Hp)(Q:VK):Prop:=∃ (ps:List Addr) (ks:List (Int×Int)),SqL K H a (ps.map V.ref)/\ps.length=ks.length/\ks.length<=18/\(∀ (i:Nat) p k,ps[i]?=some p->ks[i]?=some k->H p=some (.tup [.int k.1,.int k.2]))/\Q (.int (ddK [] (ks.map zaj8)).length) H
noncomputable def qLenS(K:zcw2)(ta:TA):TE:=fun σ H Q=>ta σ H fun vs H1=>match vs with
 | [.ref a]=>rLenS K a H1 Q
 | _=>False
theorem key2{P:Program}{w:World}{pins:List (Addr×Obj)}{σ:St}(I:Inv X pins σ H s){p:Addr}{a b:Int}(h:H p=some (.tup [.int a,.int b])):IsTupleKey (intKind P w) s.heap [a,b] p:=by
 obtain⟨its,r,pl,hz⟩:=I.tuple (SqT.of (K:=X.K) h)
 cases r with
 | cons h1 r=>
  cases r with
  | cons h2 r=>
   cases r
   obtain⟨t1,rfl⟩:=h1
   obtain⟨t2,rfl⟩:=h2
   obtain⟨o,g,c,n,d⟩:=pl
   exact⟨o,_,n,g,c,d,.cons (intKind_is P w a t1) (.cons (intKind_is P w b t2) .nil)⟩
theorem peLenS{e:Expr}{ta:TA}{p p2 pos2:Pos}(hK:X.K=K)(hu:X.A.units+40<cLine)(hl:X.mg "len"=none)(hm:X.mg "set"=none)(ha:PA X [e] ta)(hc:X.calm=true:=by rfl)(hg:Gl X "set":=by rfl)(hg2:Gl X "len":=by rfl)(hs:starEach [e] X.env=[(false,eval e X.env)]:=by rfl)(he:starEach [.Call (.Name "set" p2) [e] [] pos2] X.env=[(false,eval (.Call (.Name "set" p2) [e] [] pos2) X.env)]:=by rfl) :
  PE X (.Call (.Name "len" p) [.Call (.Name "set" p2) [e] [] pos2] [] pos) (qLenS K ta):=by
 subst hK
 intro pins s σ H Q I h
 refine wpAny_Call_Name_kw (zx7 I hg2 hl zd2 ?_)
 refine PyProof.Rows.callWith_builtin1 ?_ (by rw[he];rfl) rfl
 rw[he]
 show wpAny _ _ (spliced ((false,eval (.Call (.Name "set" p2) [e] [] pos2) X.env) :: [])) _ _ s
 refine Calls.spliced_cons ?_
 refine Call_ (zx7 I hg hm bt_set (PyProof.Rows.callWith_type1 (thn (ha pos2 pins s σ H _ I h) fun us s1 ⟨vs,H1,I1,r1,q1⟩=>?_) hs rfl))
 dsimp only at q1
 split at q1
 ·rename_i a
  unfold rLenS at q1
  obtain⟨ps,ks,hq,hn,h18,hp,q⟩:=q1
  obtain⟨u,rfl,rx⟩:=zy7 r1
  cases rx
  obtain⟨its,rv,pl,hz⟩:=I1.list hq
  have e:=zai3 rv
  subst e
  refine zag7 (ps:=ps) (kss:=ks.map zaj8) (I1.ok.hd hc) hu pl.isList rfl (by rw[zcv8];exact hn) (by rw[zcv8];exact h18) (fun j p k e1 e2=>?_) (fun h' tk o es ep t hE hkeep=>Calls.spliced_nil ?_)
  ·rw[zcw0] at e2
   obtain⟨k',ek,rfl⟩:=zcw4.mp e2
   exact key2 I1 (hp j p k' e1 ek)
  ·have sz:=hE.sz
   have dl:=zbe0 [] (ks.map zaj8)
   rw[zcv8] at dl
   have small:(es.size:Int)<2 ^ 63:=by
    have:es.size<=18:=by rw[sz];simp at dl;omega
    omega
   refine call_len_set hE.at_ hE.ex hE.dat hE.fits small ?_
   rw[sz]
   exact⟨.int _,H1,I1.kept hkeep,⟨_,rfl⟩,q⟩
 ·exact q1.elim
theorem zco7{a:Addr}{ps:List Addr}{ks:List (Int×Int)}{Q:VK}(h:H a=some (.lst (ps.map V.ref)))(hn:ps.length=ks.length)(h18:ks.length<=18)(hp:∀ (i:Nat) p k,ps[i]?=some p->ks[i]?=some k->H p=some (.tup [.int k.1,.int k.2]))(q:Q (.int (ddK [] (ks.map zaj8)).length) H):rLenS K a H Q:=by unfold rLenS;exact⟨ps,ks,SqL.of h,hn,h18,hp,q⟩
theorem zci2:∀ (acc ks:List (List Int)),(ddK acc ks).length=acc.length+ks.length↔ks.Nodup/\∀ k∈ks,k ∉ acc
 | acc,[]=>⟨fun _=>⟨List.nodup_nil,fun k hk=>by cases hk⟩,fun _=>rfl⟩
 | acc,k :: ks=>by
  show (ddK (if k∈acc then acc else k :: acc) ks).length=acc.length+(ks.length+1)↔_
  by_cases c:k∈acc
  ·rw[if_pos c]
   have:=zbe0 acc ks
   exact⟨fun e=>by omega,fun h=>absurd c (h.2 k (.head _))⟩
  ·rw[if_neg c]
   have ih:=zci2 (k :: acc) ks
   rw[zcx5] at ih
   rw[show acc.length+(ks.length+1)=acc.length+1+ks.length by omega,ih,zdb3]
   constructor
   ·rintro⟨h1,h2⟩
    refine⟨⟨fun hk=>h2 k hk (.head _),h1⟩,fun y hy=>?_⟩
    rcases zcw8.mp hy with rfl|hy
    ·exact c
    ·exact fun z=>h2 y hy (.tail _ z)
   ·rintro⟨⟨h1,h2⟩,h3⟩
    refine⟨h2,fun y hy z=>?_⟩
    rcases zcw8.mp z with rfl|z
    ·exact h1 hy
    ·exact h3 y (.tail _ hy) z
theorem dd_len{ks:List (Int×Int)}:((ks.length:Int)=((ddK [] (ks.map zaj8)).length:Int))↔ks.Nodup:=by
 have h:=zci2 [] (ks.map zaj8)
 rw[zcv8] at h
 have inj:(ks.map zaj8).Nodup↔ks.Nodup:=by
  constructor
  ·intro h
   exact List.Pairwise.of_map zaj8 (fun a b hab e=>hab (by rw[e])) h
  ·intro h
   exact List.Pairwise.map zaj8 (fun a b hab e=>hab (by
    unfold zaj8 at e
    injection e with e1 e2
    injection e2 with e2 _
    exact Prod.ext e1 e2)) h
 rw[inj] at h
 constructor
 ·intro e
  exact (h.mp (by rw[zcz1];omega)).1
 ·intro nd
  have:=h.mpr ⟨nd,fun k _ hk=>by cases hk⟩
  rw[zcz1] at this
  omega
end
theorem ord_I(xs:Nat->Int):Ord (fun i j=>decide (xs i<xs j)) where
 as:=fun i j h=>by
  have h:=of_decide_eq_true h
  exact decide_eq_false (by omega)
 tr:=fun i j k h1 h2=>by
  have h1:=of_decide_eq_false h1
  have h2:=of_decide_eq_false h2
  exact decide_eq_false (by omega)
theorem zbj0{xs:Nat->Int}:∀ {vs:List Value}{k:Nat},(∀ i,i<vs.length->∃ t,vs.getD i Value.none=.int (xs (k+i)) t)->IntsAre vs ((List.range vs.length).map fun i=>xs (k+i))
 | [],k,_=>.nil
 | v :: vs,k,h=>by
  obtain⟨t,e⟩:=h 0 (by simp)
  have e:v=.int (xs (k+0)) t:=by simpa using e
  rw[zcx5,List.range_succ_eq_map,zcz4,zcz3,e]
  refine .cons _ t ?_
  have:=zbj0 (xs:=xs) (vs:=vs) (k:=k+1) (fun i hi=>by
   obtain⟨t,e⟩:=h (i+1) (by simpa using hi)
   exact⟨t,by rw[show k+1+i=k+(i+1) by omega];simpa using e⟩)
  have ef:(fun i=>xs (k+1+i))=((fun i=>xs (k+i))∘Nat.succ):=by
   funext i
   show xs (k+1+i)=xs (k+(i+1))
   rw[show k+1+i=k+(i+1) by omega]
  rw[ef] at this
  exact this
section
variable {prog:Program}{w:World}{A:Around}{E:Value->Shared->Prop}{s:Shared}
theorem zbx1{D:Addr}{xs:Nat->Int}{P:PySem.Fin->Shared->Prop}(ho:s.heap.get? D=some (seqObj "list" vs.toArray 0))(h64:vs.length<64)(H:∀ i,i<vs.length->∃ t,vs.getD i Value.none=.int (xs i) t)(h:∀ (p:List Nat) (c:Nat) (hF:Heap),p.Perm (List.range vs.length)->p.Pairwise (fun i j=>decide (xs j<xs i)=false)->(∀ b o,b≠D->s.heap.get? b=some o->hF.get? b=some o)->hF.get? D=some (seqObj "list" (zde5 (p.map fun i=>vs.getD i Value.none)) c)->P (.done (.ret .none)) { s with heap:=hF }) :
  wpAny (model prog w) A (Builtin.«list.sort» ⟨[.ref D],[]⟩) P E s:=by
 by_cases h2:vs.length<2
 ·refine zbf4 ho h2 ?_
  obtain⟨c,hc⟩:=zab2 (vs:=vs) (out:=vs.toArray) ho
  refine h (List.range vs.length) c _ (List.Perm.refl _) ?_ (fun b o ne e=>zx0 ne e) ?_
  ·have:vs.length=0∨vs.length=1:=by omega
   rcases this with e|e<;>rw[e]
   ·exact List.Pairwise.nil
   ·exact List.pairwise_singleton _ _
  ·rw[hc]
   have e:(List.range vs.length).map (fun i=>vs.getD i Value.none)=vs:=by
    apply zdb8 (by simp)
    intro i h1 h2
    simp at h1 h2
    simp[h2]
   rw[e]
 ·have ia:=zbj0 (xs:=xs) (vs:=vs) (k:=0) (fun i hi=>by rw[Nat.zero_add];exact H i hi)
  refine zby0 (κ:=oneType') (lt:=fun i j=>decide (xs i<xs j)) ho (by omega) h64 (fun Q q=>wpAny_of_eq (ksk_kind (keys:=vs.toArray) ia (by rw[zcw9];omega)) q) (fun i j C li lj q=>?_) (zbu3 (ord_I xs) (by omega)) fun p pz pR=>?_
  ·obtain⟨t,e1⟩:=H i li
   obtain⟨u,e2⟩:=H j lj
   rw[e1,e2,keyLt'_oneType]
   exact oneLt_int q
  ·obtain⟨c,hc⟩:=zab2 (vs:=vs) (out:=zde5 (p.toList.map fun i=>vs.getD i Value.none)) ho
   refine h p.toList c _ pR.1 ?_ (fun b o ne e=>zx0 ne e) hc
   rw[zda9]
   intro i j hi hj hij
   rw[zcx1] at hi hj
   have:=pR.2 i j (Nat.le_of_lt hij) (by omega)
   unfold gp at this
   simpa [Array.getD,hi,hj] using this
theorem zbe2{d:Addr}{es:Array DictEntry}{xs:Nat->Int}(lo:(d==sysModules)=false)(hh:A.handled=none)(x:RawD s.heap d es ep)(h64:es.size<64)(H:∀ (i:Nat) (e:DictEntry),es[i]?=some e->∃ t,e.key=Value.int (xs i) t)(h:∀ (h1 hF:Heap) (tk c:Nat) (p:List Nat) (vs:List Value),(∀ b o,s.heap.get? b=some o->h1.get? b=some o)->(∀ b o,h1.get? b=some o->hF.get? b=some o)->p.Perm (List.range es.size)->p.Pairwise (fun i j=>decide (xs j<xs i)=false)->vs=es.toList.map (·.key) ->
   hF.get? h1.objs.size=some (seqObj "list" (zde5 (p.map fun i=>vs.getD i Value.none)) c)->Q (.ref h1.objs.size) { s with heap:=hF,toks:=tk }) :
  wpAny (model prog w) A (call (.builtin "sorted") [.ref d]) Q E s:=by
 have zl:es.size<=sizeLine:=by rw[zdf5];omega
 refine Calls.call_function_entry kind_sorted plain_sorted entry_sorted (args_sorted1 _) ?_
 unfold Builtin.«sorted»
 refine zdf3 (m:=checkCount "sorted" 1 1 _) (zdf4 (zdf3 (kdu_collect (A:=A.in1) (zbv4 lo) hh x zl fun h1 tk acc k1 it=>?_)))
 have len:acc.toList.length=es.size:=by rw[zcx1];exact it.1
 have ev:acc.toList=es.toList.map (·.key):=by
  apply zdb8 (by rw[len,zcv8,zcx1])
  intro i a1 a2
  rw[zcx1] at a1
  obtain⟨e,e1,e2⟩:=it.2 i acc[i] (by simp[a1])
  simp only[Array.getElem_toList,zdf1]
  rw[e2]
  obtain⟨q1,q2⟩:=zdc5.mp e1
  rw[← q2]
 refine zdf3 (wpAny_newList ?_ (by rw[len];exact zl))
 have hD:(h1.push (seqObj "list" acc.toList.toArray 0)).get? h1.objs.size=some (seqObj "list" acc.toList.toArray 0):=zcy8 _ rfl
 show wpAny (model prog w) _ _ _ _ { s with heap:=h1.push (seqObj "list" acc.toList.toArray 0),toks:=tk }
 refine zdf3 (zdf8 (wpAny_call_entry slot_list_sort ⟨_,hD,rfl⟩ entry_list_sort (zbx1 (xs:=xs) (s:={ s with heap:=h1.push (seqObj "list" acc.toList.toArray 0),toks:=tk }) hD (by rw[len];exact h64) (fun i hi=>?_) fun p c hF pp po kF eF=>⟨_,rfl,?_⟩) (args_list_sort _)))
 ·rw[len] at hi
  have e:acc.toList.getD i Value.none=es[i].key:=by rw[ev];simp[hi]
  rw[e]
  exact H i es[i] (by simp[hi])
 ·refine zdf4 ⟨_,rfl,h h1 hF tk c p acc.toList k1 (fun b o e=>kF b o (zcz2 (zcx7 e)) (zcw6 _ e)) (by rw[← len];exact pp) po ev eF⟩
theorem zbm1{l:Addr}{us:List Value}{xs:Nat->Int×Int}(hl:s.heap.IsList l us.toArray)(h64:us.length<64)(H:∀ i,i<us.length->TupI s.heap (us.getD i Value.none) (xs i))(h:∀ (h1 hF:Heap) (c:Nat) (p:List Nat),(∀ b o,s.heap.get? b=some o->h1.get? b=some o)->(∀ b o,h1.get? b=some o->hF.get? b=some o)->s.heap.objs.size<=h1.objs.size->p.Perm (List.range us.length)->p.Pairwise (fun i j=>ltP (xs j) (xs i)=false) ->
   hF.get? h1.objs.size=some (seqObj "list" (zde5 (p.map fun i=>us.getD i Value.none)) c)->Q (.ref h1.objs.size) { s with heap:=hF }) :
  wpAny (model prog w) A (call (.builtin "sorted") [.ref l]) Q E s:=by
 have zl:us.length<=sizeLine:=by rw[zdf5];omega
 refine Calls.call_function_entry kind_sorted plain_sorted entry_sorted (args_sorted1 _) ?_
 unfold Builtin.«sorted»
 refine zdf3 (m:=checkCount "sorted" 1 1 _) (zdf4 (zdf3 (collect_list (A:=A.in1) hl ?_ zl)))
 obtain⟨h1,eh1⟩:∃ h1,(s.heap.push (seqObj "list" #[] 0)).update s.heap.objs.size (Obj.mapSeq fun x=>x++us.toArray)=h1:=⟨_,rfl⟩
 have k1:∀ b o,s.heap.get? b=some o->h1.get? b=some o:=fun b o e=>by
  rw[← eh1]
  exact (Heap.get?_update_ne _ _ _ _ (zcz2 (zcx7 e))).trans (zcw6 _ e)
 have sz:s.heap.objs.size<=h1.objs.size:=by
  rw[← eh1,Heap.size_update]
  show s.heap.objs.size<=(s.heap.objs.push _).size
  rw[Array.size_push];omega
 rw[eh1]
 refine zdf3 (wpAny_newList ?_ zl)
 have hD:(h1.push (seqObj "list" us.toArray 0)).get? h1.objs.size=some (seqObj "list" us.toArray 0):=zcy8 _ rfl
 show wpAny (model prog w) _ _ _ _ { s with heap:=h1.push (seqObj "list" us.toArray 0) }
 refine zdf3 (zdf8 (wpAny_call_entry slot_list_sort ⟨_,hD,rfl⟩ entry_list_sort (zay2 (xs:=xs) (s:={ s with heap:=h1.push (seqObj "list" us.toArray 0) }) hD h64 (fun i hi=>?_) fun p c hF pp po kF eF=>⟨_,rfl,?_⟩) (args_list_sort _)))
 ·exact ((H i hi).to k1).to fun b o q=>zcw6 _ q
 ·refine zdf4 ⟨_,rfl,h h1 hF c p k1 (fun b o e=>kF b o (zcz2 (zcx7 e)) (zcw6 _ e)) sz pp po eF⟩
end
section
variable {X:Cx}{K:zcw2}
@[irreducible] noncomputable def rSoX(K:zcw2)(a:Addr)(H:Hp)(Q:VK):Prop:=
 (∃ (ps:List Addr) (ks:List (Int×Int)),SqL K H a (ps.map V.ref)/\ps.length<64/\Paired (fun b x=>H b=some (.tup [.int x.1,.int x.2])) ps ks /\
  ∀ p H' (bs:List Addr) (ls:List (Int×Int)),H p=none->Same H H'->ls.Perm ks->ls.Pairwise (fun x y=>ltP y x=false)->Paired (fun b x=>H' b=some (.tup [.int x.1,.int x.2])) bs ls->H' p=some (.lst (bs.map V.ref))->Q (.ref p) H') ∨
 ∃ kv:List (Int×Int),H a=some (.dK (dI kv))/\kv.length<64/\∀ p H' (ms:List Int),H p=none->Same H H'->ms.Perm (kv.map (·.1))->ms.Pairwise (·<=·)->H' p=some (.lst (ms.map V.int))->Q (.ref p) H'
noncomputable def rSoXM(K:zcw2):List V->Hp->VK->Prop:=fun xs H Q=>match xs with
 | [.ref p]=>rSoX K p H Q
 | _=>False
theorem zcj5{as:List Addr}:Vals (as.map V.ref) (as.map Value.ref):=by
 induction as with
 | nil=>exact .nil
 | cons a l ih=>exact .cons rfl ih
theorem zbb9{ns:List (Int×Tok)}:Vals (ns.map fun n=>V.int n.1) (ns.map fun n=>Value.int n.1 n.2):=by
 induction ns with
 | nil=>exact .nil
 | cons a l ih=>exact .cons ⟨_,rfl⟩ ih
theorem zaz0{P:Program}{w:World}:∀ {kv:List (Int×Int)}{vs:List (Key×Value)}{es:List DictEntry},KV (dI kv) vs->Pairs (zi7 P w) es vs->es.length=kv.length/\∀ (i:Nat) (e:DictEntry),es[i]?=some e->∃ t,e.key=Value.int ((kv.map (·.1)).getD i 0) t
 | [],vs,es,h1,h2=>by
  cases h1
  cases h2
  exact⟨rfl,fun i e h=>by simp at h⟩
 | z :: kv,vs,es,h1,h2=>by
  cases h1 with
  | cons a b=>
   cases h2 with
   | @cons e0 _ es0 _ c d e=>
    obtain⟨l,r⟩:=zaz0 b e
    refine⟨by rw[zcx5,zcx5,l],fun i x h=>?_⟩
    cases i with
    | zero=>
     cases h
     have a1:(Sum.inl z.1:Key)=_:=a.1
     rw[← a1] at c
     have c:Value.isInt z.1 e0.key=true:=c
     cases hk:e0.key with
     | int n t=>
      rw[hk] at c
      have:n=z.1:=by
       have c:(n==z.1)=true∨(z.1==n)=true:=by first|exact .inl c|exact .inr c
       rcases c with c|c
       ·exact eq_of_beq c
       ·exact (eq_of_beq c).symm
      subst this
      exact⟨t,rfl⟩
     | _=>rw[hk] at c;cases c
    | succ i=>exact r i x h
theorem zca2(hK:X.K=K)(hc:X.calm=true):zm6 X (.builtin "sorted") (rSoXM K):=fun pins s σ H xs us Q I r h=>by
 subst hK
 unfold rSoXM at h
 split at h
 ·rename_i a
  unfold rSoX at h
  obtain⟨u1,rfl,rx⟩:=zy7 r
  cases rx
  rcases h with ⟨ps,ks,h1,h2,h3,h4⟩|⟨kv,h1,h2,h3⟩
  ·obtain⟨its,rv,pl,hz⟩:=I.list h1
   have e:=zai3 rv
   subst e
   have pl':=h3.length
   have at_:∀ i,(hi:i<ps.length)->H ps[i]=some (.tup [.int (ks.getD i (0,0)).1,.int (ks.getD i (0,0)).2]):=fun i hi=>by
    have hk:i<ks.length:=pl'▸hi
    have:=zr6 h3 i ps[i] ks[i] (zcv7 hi) (zcv7 hk)
    rw[zcw1,zcv7 hk]
    exact this
   refine zbm1 (xs:=fun i=>ks.getD i (0,0)) pl.isList (by rw[zcv8];exact h2) (fun i hi=>?_) fun h1' hF c pm k1 kF sz pp po eF=>?_
   ·rw[zcv8] at hi
    obtain⟨_,its',rv',ob,b1,b2,n,b3⟩:=(show zi5 X.prog X.w H s.heap ps[i] (.tup [.int (ks.getD i (0,0)).1,.int (ks.getD i (0,0)).2]) from I.hok _ _ (at_ i hi))
    obtain⟨v1,v2,rfl,w1,w2⟩:=zbn3 rv'
    obtain⟨t1,rfl⟩:=w1
    obtain⟨t2,rfl⟩:=w2
    have eg:(ps.map Value.ref).getD i Value.none=.ref ps[i]:=by rw[zcw1,zcw0,zcv7 hi];rfl
    rw[eg]
    exact⟨ps[i],ob,t1,t2,n,rfl,b1,b2,b3⟩
   ·rw[zcv8] at pp
    have I1:Inv X pins σ H { s with heap:=h1' }:=I.kept (t':=s.toks) k1
    have fr:H h1'.objs.size=none:=I1.fresh
    have mem:∀ i,i∈pm->i<ps.length:=fun i hi=>zcy0.mp (pp.mem_iff.mp hi)
    have vals:(pm.map fun i=>(ps.map Value.ref).getD i Value.none)=(pm.map fun i=>ps.getD i 0).map Value.ref:=by
     rw[zcz3]
     refine zcy9 fun i hi=>?_
     have hi':=mem i hi
     show (ps.map Value.ref).getD i Value.none=Value.ref (ps.getD i 0)
     rw[zcw1,zcw1,zcw0,zcv7 hi']
     rfl
    have ek:(List.range ps.length).map (fun i=>ks.getD i (0,0))=ks:=by
     rw[pl']
     apply zdb8 (by simp)
     intro i a1 a2
     simp at a1
     simp[a1]
    have lz:(pm.map fun i=>ps.getD i 0).length<=sizeLine:=by rw[zcv8,pp.length_eq,zcx6,zdf5];omega
    refine⟨.ref _,_,I1.laid (h':=hF) (t':=s.toks) (o:=.lst ((pm.map fun i=>ps.getD i 0).map V.ref)) kF (zcx3 _) ?_,rfl,h4 _ _ (pm.map fun i=>ps.getD i 0) (pm.map fun i=>ks.getD i (0,0)) fr (Same.upd fr) ?_ ?_ ?_ zd0⟩
    ·exact⟨by rw[zcv8];exact lz,_,c,zcj5,by rw[eF,vals]⟩
    ·have q:=pp.map fun i=>ks.getD i (0,0)
     rw[ek] at q
     exact q
    ·rw[List.pairwise_map]
     exact po
    ·refine zab3 (by rw[zcv8,zcv8]) fun i b x q1 q2=>?_
     rw[zcw0] at q1 q2
     obtain⟨j,j1,j2⟩:=zcw4.mp q1
     rw[j1] at q2
     have hj:=mem j (zcw3 j1)
     have q2:ks.getD j (0,0)=x:=Option.some.inj q2
     have j2:ps.getD j 0=b:=j2
     rw[← j2,← q2,zcw1,zcv7 hj]
     exact (Same.upd fr) _ _ (at_ j hj)
  ·obtain⟨zl,lo,vs,kvr,o,es,ep,e1,e2,e3,e4,e5,e6⟩:=zbm2 I.hok h1
   obtain⟨el,ek⟩:=zaz0 kvr e5
   rw[zcx1] at el
   refine zbe2 (xs:=fun i=>(kv.map (·.1)).getD i 0) lo (I.ok.hd hc) (d:=a) (es:=es) (ep:=ep) ⟨o,e1,e2,e3⟩ (by omega) (fun i e q=>ek i e (by rw[zcy2];exact q)) fun h' hF tk c pm vs' k1 kF pp po ev eF=>?_
   have I1:Inv X pins σ H { s with heap:=h',toks:=tk }:=I.kept k1
   have fr:H h'.objs.size=none:=I1.fresh
   have mem:∀ i,i∈pm->i<kv.length:=fun i hi=>by have:=zcy0.mp (pp.mem_iff.mp hi);omega
   have km:(List.range kv.length).map (fun i=>(kv.map (·.1)).getD i 0)=kv.map (·.1):=by
    apply zdb8 (by simp)
    intro i a1 a2
    simp at a1
    simp[a1]
   have tok:∀ i,∃ t,i<kv.length->vs'.getD i Value.none=Value.int ((kv.map (·.1)).getD i 0) t:=fun i=>by
    by_cases hi:i<kv.length
    ·have hes:i<es.size:=by omega
     obtain⟨t,et⟩:=ek i es[i] (by rw[zcy2];simp[hes])
     exact⟨t,fun _=>by rw[ev];simp[hes,et]⟩
    ·exact⟨default,fun z=>absurd z hi⟩
   obtain⟨tk',htk⟩:=Classical.axiomOfChoice tok
   have vals:(pm.map fun i=>vs'.getD i Value.none)=(pm.map fun i=>((kv.map (·.1)).getD i 0,tk' i)).map fun n=>Value.int n.1 n.2:=by
    rw[zcz3]
    exact zcy9 fun i hi=>htk i (mem i hi)
   refine⟨.ref _,_,I1.laid (h':=hF) (t':=tk) (o:=.lst ((pm.map fun i=>(kv.map (·.1)).getD i 0).map V.int)) kF (zcx3 _) ?_,rfl,h3 _ _ (pm.map fun i=>(kv.map (·.1)).getD i 0) fr (Same.upd fr) ?_ ?_ zd0⟩
   ·refine⟨by rw[zcv8,zcv8,pp.length_eq,zcx6,zdf5];omega,_,c,?_,by rw[eF,vals]⟩
    have:=zbb9 (ns:=pm.map fun i=>((kv.map (·.1)).getD i 0,tk' i))
    rw[zcz3] at this
    rw[zcz3]
    exact this
   ·have q:=(show pm.Perm (List.range kv.length) from el▸pp).map fun i=>(kv.map (·.1)).getD i 0
    rw[km] at q
    exact q
   ·rw[List.pairwise_map]
    exact po.imp fun {i j} h=>by have:=of_decide_eq_false h;omega
 ·exact h.elim
theorem soL_rd{a:Addr}{Q:VK}{ps:List Addr}{ks:List (Int×Int)}(h:H a=some (.lst (ps.map V.ref)))(hl:ps.length<64)(pr:Paired (fun b x=>H b=some (.tup [.int x.1,.int x.2])) ps ks)(q:∀ p H' (bs:List Addr) (ls:List (Int×Int)),H p=none->Same H H'->ls.Perm ks->ls.Pairwise (fun x y=>ltP y x=false)->Paired (fun b x=>H' b=some (.tup [.int x.1,.int x.2])) bs ls->H' p=some (.lst (bs.map V.ref))->Q (.ref p) H'):rSoX K a H Q:=by unfold rSoX;exact .inl ⟨ps,ks,SqL.of h,hl,pr,q⟩
theorem zan0{a:Addr}{Q:VK}{kv:List (Int×Int)}(h:H a=some (.dK (dI kv)))(hl:kv.length<64)(q:∀ p H' (ms:List Int),H p=none->Same H H'->ms.Perm (kv.map (·.1))->ms.Pairwise (·<=·)->H' p=some (.lst (ms.map V.int))->Q (.ref p) H'):rSoX K a H Q:=by unfold rSoX;exact .inr ⟨kv,h,hl,q⟩
end
end L2
set_option maxHeartbeats 1000000
set_option maxHeartbeats 0
namespace G
local macro_rules | `(tactic| eq_refl)=>`(tactic| first|exact Or.inl rfl|exact Or.inr rfl)
local macro_rules | `(tactic| ac_rfl)=>`(tactic| exact⟨rfl,rfl,rfl,by decide +kernel,rfl,by decide +kernel,by decide +kernel⟩)
open PySem L2
variable {H H':Hp}{Q:VK}{E:XK}{f l st:Addr}{fd:FuncData}{ds:List PyData}{F W c i m:Nat}{ts:List (Addr×Addr)}{ms:List (List Int×Int)}{o:HO}{xs:List (Int×Int×Int)}{h w0:Int}{rs:List (Addr×List Addr)}{xss:List (List (Int×Int×Int))}{ps qs:List Addr}{sd:Bool}{T:Nat->Nat->Int}
noncomputable def top(i:Nat):Stmt:=PySem.Challenge.pw_hostfields_k30_whole_each_condition.main.body.getD i (.Pass ⟨0,0,0,0⟩)
abbrev zae4:Stmt:=top 5
theorem zbd6:zb5 ["thing"] ["thing"] (za8 zae4):=by ac_rfl
abbrev zai8:Stmt:=top 6
theorem zbn2:zb5 ["thing","least"] ["thing","least"] (za8 zai8):=by ac_rfl
abbrev zv2:Stmt:=top 7
theorem zar7:zb5 ["thing","least","most"] ["thing","least","most"] (za8 zv2):=by ac_rfl
abbrev zs3:Stmt:=top 11
theorem zq4:zb5 ["battle","number","field"] ["battle"] (za8 zs3):=by ac_rfl
abbrev zad7:Stmt:=top 12
theorem zbc2:zb5 ["battle"] ["battle"] (za8 zad7):=by ac_rfl
abbrev zy4:Stmt:=top 13
theorem zaw3:zb5 ["first","second"] ["first","second"] (za8 zy4):=by ac_rfl
abbrev zad8:Stmt:=top 14
theorem zba5:zb5 ["first","second","field"] ["first","second","field"] (za8 zad8):=by ac_rfl
abbrev zae2:Stmt:=top 15
theorem zbb6:zb5 ["many_rows","many_numbers","rows"] ["many_rows","many_numbers","rows"] (za8 zae2):=by ac_rfl
abbrev zq7:Stmt:=top 16
theorem zaj3:zb5 ["many_numbers","row"] ["many_numbers","row"] (za8 zq7):=by ac_rfl
abbrev s_won:Stmt:=top 17
theorem sc_won:zb5 ["field","x","y"] ["field","x","y"] (za8 s_won):=by ac_rfl
abbrev zz9:Stmt:=top 19
theorem zv1:zb5 ["hosts","fields","stream","comes_full","goes_empty"] ["hosts","fields","stream"] (za8 zz9):=by ac_rfl
abbrev zaq4:Stmt:=top 20
theorem zbs8:zb5 ["stream"] ["stream"] (za8 zaq4):=by ac_rfl
abbrev zas7:Stmt:=top 21
theorem zbx6:zb5 ["row"] ["row"] (za8 zas7):=by ac_rfl
abbrev zaj4:Stmt:=top 22
theorem zbm6:zb5 ["thing"] ["thing"] (za8 zaj4):=by ac_rfl
abbrev zbd7:Stmt:=top 23
theorem zbg6:zb5 ["ahead","row","leaving"] ["ahead","row"] (za8 zbd7):=by ac_rfl
abbrev zar5:Stmt:=top 24
theorem zab9:zb5 ["pairs","sums","key","amount"] ["pairs"] (za8 zar5):=by ac_rfl
abbrev zad5:Stmt:=top 25
theorem zbd9:zb5 ["stream"] ["stream"] (za8 zad5):=by ac_rfl
abbrev zx9:Stmt:=top 27
theorem zax2:zb5 ["side"] ["side"] (za8 zx9):=by ac_rfl
abbrev zy2:Stmt:=top 28
theorem zat8:zb5 ["battle","side"] ["battle","side"] (za8 zy2):=by ac_rfl
abbrev zt1:Stmt:=top 29
theorem zak9:zb5 ["battle","side"] ["battle","side"] (za8 zt1):=by ac_rfl
abbrev zbz8:Stmt:=top 30
theorem zbz2:zb5 ["battle","side","stream","most"] ["battle","side","stream"] (za8 zbz8):=by ac_rfl
abbrev zae3:Stmt:=top 31
theorem zba3:zb5 ["field","side","row","most"] ["field","side","row","most"] (za8 zae3):=by ac_rfl
abbrev s_due:Stmt:=top 32
theorem sc_due:zb5 ["field","side","row","count"] ["field","side","row","count"] (za8 s_due):=by ac_rfl
abbrev zao4:Stmt:=top 33
theorem zbz5:zb5 ["field_dues","behind","count"] ["field_dues","behind","count"] (za8 zao4):=by ac_rfl
abbrev zar8:Stmt:=top 35
theorem zab5:zb5 ["battle","side","worth","paper","wrong"] ["battle","side","worth","paper"] (za8 zar8):=by ac_rfl
abbrev zw3:Stmt:=top 36
theorem zab4:zb5 ["battle","side","paper","fields"] ["battle","side","paper"] (za8 zw3):=by ac_rfl
abbrev zr3:Stmt:=top 37
theorem zf4:zb5 ["battle","side","paper","table","field","field_dues","behind","count","number"] ["battle","side","paper"] (za8 zr3):=by ac_rfl
abbrev zba1:Stmt:=top 38
theorem zca3:zb5 ["side","number","bound"] ["side","number","bound"] (za8 zba1):=by ac_rfl
abbrev zt5:Stmt:=top 39
theorem zx6:zb5 ["battle","side","worth","paper","shown"] ["battle","side","worth","paper"] (za8 zt5):=by ac_rfl
abbrev zac5:Stmt:=top 41
theorem zai9:zb5 ["_law_number","_law_k","_law_mixed"] ["_law_number","_law_k"] (za8 zac5):=by ac_rfl
abbrev zq6:Stmt:=top 42
theorem zaj6:zb5 ["_law_script","_law_k"] ["_law_script","_law_k"] (za8 zq6):=by ac_rfl
abbrev zy8:Stmt:=top 43
theorem zae8:zb5 ["_law_script","_law_k","_law_cell"] ["_law_script","_law_k"] (za8 zy8):=by ac_rfl
abbrev zz7:Stmt:=top 44
theorem zw0:zb5 ["_law_left_here","_law_base","_law_mixed","_law_digit"] ["_law_left_here","_law_base"] (za8 zz7):=by ac_rfl
abbrev zy6:Stmt:=top 45
theorem zaf4:zb5 ["_law_left_here","_law_far"] ["_law_left_here"] (za8 zy6):=by ac_rfl
abbrev zz0:Stmt:=top 46
theorem zw1:zb5 ["_law_left_here","_law_first","_law_second","_law_kind","_law_worth"] ["_law_left_here","_law_first","_law_second"] (za8 zz0):=by ac_rfl
abbrev zt6:Stmt:=top 47
theorem zq8:zb5 ["_law_left_here","_law_most","_law_fields","_law_first","_law_second"] ["_law_left_here","_law_most","_law_fields"] (za8 zt6):=by ac_rfl
abbrev zy3:Stmt:=top 48
theorem zaf0:zb5 ["_law_thing"] ["_law_thing"] (za8 zy3):=by ac_rfl
abbrev zy0:Stmt:=top 49
theorem zay1:zb5 ["_law_field","_law_x","_law_y"] ["_law_field","_law_x","_law_y"] (za8 zy0):=by ac_rfl
abbrev zy5:Stmt:=top 50
theorem zk8:zb5 ["_law_left_here","_law_hosts","_law_many","_law_plan_here","_law_rest","_law_k","_law_at"] ["_law_left_here","_law_hosts","_law_many"] (za8 zy5):=by ac_rfl
abbrev zw6:Stmt:=top 51
theorem zj3:zb5 ["_law_mix_here","_law_flows_here","_law_plan_here","_law_weight","_law_k","_law_spot"] ["_law_mix_here"] (za8 zw6):=by ac_rfl
abbrev zad0:Stmt:=top 52
theorem zy1:zb5 ["_law_left_here","_law_hosts","_law_many","_law_mix_here","_law_k"] ["_law_left_here","_law_hosts","_law_many"] (za8 zad0):=by ac_rfl
abbrev zs6:Stmt:=top 53
theorem zn0:zb5 ["_law_left_here","_law_mix_here","_law_plan_here","_law_step","_law_k"] ["_law_left_here","_law_mix_here"] (za8 zs6):=by ac_rfl
abbrev zs7:Stmt:=top 54
theorem zn2:zb5 ["_law_top","_law_bottom","_law_one","_law_other"] ["_law_top","_law_bottom"] (za8 zs7):=by ac_rfl
abbrev zv7:Stmt:=top 55
theorem zar0:zb5 ["_law_thing"] ["_law_thing"] (za8 zv7):=by ac_rfl
abbrev zs4:Stmt:=top 56
theorem zq3:zb5 ["_law_row","_law_hosts","_law_part","_law_spots"] ["_law_row","_law_hosts"] (za8 zs4):=by ac_rfl
abbrev zo2:Stmt:=top 57
theorem zd1:zb5 ["_law_hosts","_law_many","_law_stream","_law_come","_law_k","_law_taken","_law_gone","_law_rest","_law_sent","_law_flow"] ["_law_hosts","_law_many","_law_stream"] (za8 zo2):=by ac_rfl
abbrev zz1:Stmt:=top 58
theorem zd7:zb5 ["_law_battle_here","_law_side","_law_stream","_law_found","_law_k","_law_some_here","_law_count","_law_total","_law_rest","_law_sent","_law_flow","_law_x","_law_y"] ["_law_battle_here","_law_side","_law_stream"] (za8 zz1):=by ac_rfl
abbrev zw5:Stmt:=top 59
theorem zar6:zb5 ["_law_owed","_law_table_here","_law_k","_law_rest"] ["_law_owed","_law_table_here","_law_k","_law_rest"] (za8 zw5):=by ac_rfl
abbrev zv4:Stmt:=top 60
theorem zj4:zb5 ["_law_battle_here","_law_side","_law_stream","_law_owed","_law_table_here","_law_k","_law_rest","_law_some_here"] ["_law_battle_here","_law_side","_law_stream"] (za8 zv4):=by ac_rfl
abbrev zt0:Stmt:=top 61
theorem zd6:zb5 ["_law_battle_here","_law_side","_law_worth","_law_paper","_law_stream","_law_table_here","_law_owed","_law_k","_law_rest","_law_some_here","_law_claim","_law_due"] ["_law_battle_here","_law_side","_law_worth","_law_paper"] (za8 zt0):=by ac_rfl
abbrev zm8:Stmt:=top 62
theorem zf6:zb5 ["_law_left_here","_law_table_here","_law_turn","_law_k","_law_rest"] ["_law_left_here","_law_table_here"] (za8 zm8):=by ac_rfl
abbrev zz6:Stmt:=top 63
theorem ze0:zb5 ["_law_left_here","_law_worth","_law_mix_here","_law_paper","_law_stream","_law_table_here","_law_choice","_law_far","_law_k","_law_rest","_law_sent","_law_flow","_law_parts","_law_which"] ["_law_left_here","_law_worth","_law_mix_here","_law_paper"] (za8 zz6):=by ac_rfl
abbrev zj9:Stmt:=top 64
theorem zg0:zb5 ["_law_left_here","_law_battle_here","_law_side","_law_worth","_law_paper","_law_k","_law_rest","_law_due"] ["_law_left_here","_law_battle_here","_law_side","_law_worth","_law_paper"] (za8 zj9):=by ac_rfl
abbrev zbe7:Stmt:=top 65
theorem zn4:zb5 ["_law_script","_law_cell","_law_left_here","_law_battle_here","_law_side","_law_mix_here","_law_stream","_law_table_here","_law_worth","_law_turn","_law_claim","_law_paper","_law_asked","_law_handed","_law_told"] ["_law_script"] (za8 zbe7):=by ac_rfl
theorem nb_0:(["number"]:List Str).Nodup:=by decide +kernel
theorem nb_1:(["row","many_numbers"]:List Str).Nodup:=by decide +kernel
theorem nb_2:(["thing"]:List Str).Nodup:=by decide +kernel
theorem nb_3:(["one","other"]:List Str).Nodup:=by decide +kernel
theorem nb_4:(["left","sent","flow"]:List Str).Nodup:=by decide +kernel
theorem nb_5:(["row"]:List Str).Nodup:=by decide +kernel
theorem nb_6:(["left","sent","flow","hosts"]:List Str).Nodup:=by decide +kernel
theorem nb_7:(["left","sent","flow"]:List Str).Nodup:=by decide +kernel
theorem nb_8:(["ahead","row"]:List Str).Nodup:=by decide +kernel
theorem nb_9:(["left","sent","flow"]:List Str).Nodup:=by decide +kernel
theorem zbk2:(["left","sent","flow","field","count"]:List Str).Nodup:=by decide +kernel
theorem nb_11:(["count","field","side","row"]:List Str).Nodup:=by decide +kernel
theorem nb_12:(["field","row","side","most"]:List Str).Nodup:=by decide +kernel
theorem nb_13:(["sent","field_dues","behind","count"]:List Str).Nodup:=by decide +kernel
theorem nb_14:(["bound","side","number"]:List Str).Nodup:=by decide +kernel
theorem nb_15:(["_law_x","_law_second","_law_left_here"]:List Str).Nodup:=by decide +kernel
theorem nb_16:(["_law_y","_law_left_here"]:List Str).Nodup:=by decide +kernel
theorem nb_17:(["_law_k","_law_left_here","_law_first","_law_second"]:List Str).Nodup:=by decide +kernel
theorem nb_18:(["_law_part"]:List Str).Nodup:=by decide +kernel
theorem nb_19:(["_law_place"]:List Str).Nodup:=by decide +kernel
theorem nb_20:(["_law_flow"]:List Str).Nodup:=by decide +kernel
theorem nb_21:(["_law_rest","_law_sent","_law_flow"]:List Str).Nodup:=by decide +kernel
theorem nb_22:(["_law_one"]:List Str).Nodup:=by decide +kernel
theorem nb_23:(["_law_part"]:List Str).Nodup:=by decide +kernel
theorem nb_24:(["_law_sent","_law_owed","_law_k","_law_table_here","_law_rest"]:List Str).Nodup:=by decide +kernel
theorem nb_25:(["_law_row"]:List Str).Nodup:=by decide +kernel
theorem nb_26:(["_law_one"]:List Str).Nodup:=by decide +kernel
theorem nb_27:(["_law_part"]:List Str).Nodup:=by decide +kernel
theorem nb_28:(["_law_row"]:List Str).Nodup:=by decide +kernel
theorem nb_29:(["_law_row","_law_which"]:List Str).Nodup:=by decide +kernel
theorem nb_30:(["_law_part"]:List Str).Nodup:=by decide +kernel
theorem nb_31:(["_law_one"]:List Str).Nodup:=by decide +kernel
structure Nm(mg:Str->Option Value):Prop where
 all_:mg "all"=none
 bool_:mg "bool"=none
 enumerate_:mg "enumerate"=none
 int_:mg "int"=none
 isinstance_:mg "isinstance"=none
 len_:mg "len"=none
 list_:mg "list"=none
 max_:mg "max"=none
 min_:mg "min"=none
 range_:mg "range"=none
 reversed_:mg "reversed"=none
 set_:mg "set"=none
 sorted_:mg "sorted"=none
 sum_:mg "sum"=none
 tuple_:mg "tuple"=none
 zip_:mg "zip"=none
local macro_rules | `(tactic| walk_at "hp")=>`(tactic| first|assumption|(refine Same.at (H:=?H) ?s ?e;(case s=>assumption);(case e=>walk_at "hp"))|(refine Chg.at (a:=?a) (H:=?H) ?c ?e ?n;(case c=>assumption);(case n=>walk_at "ne");(case e=>walk_at "hp"))|fail "hp")
local macro_rules | `(tactic| walk_at "ne")=>`(tactic| first|assumption|(apply Ne.symm;assumption)|fail "ne")
local macro_rules | `(tactic| ac_nf)=>`(tactic| (conv=>whnf))
local macro_rules | `(tactic| walk_at "st")=>`(tactic| (conv=>whnf);first
 | refine zcp1 (by omega) (by omega) ?_
 | refine zai4 (by omega) (by omega) ?_
 | refine zac4 (by omega) (fun r h0 h1=>?_)
 | refine div_rd (by omega) (by omega) ?_
 | (refine zci4 ⟨by decide,by decide,by decide⟩ ?_;simp only[Int.reduceToNat,Int.reducePow])
 | (refine zb1 (xs:=?xs) (v:=?v) ?hp ?ev ?_;(case hp=>walk_at "hp");(case ev=>rfl))
 | (refine zb0 (xs:=?xs) (v:=?v) ?hp ?ev ?_;(case hp=>walk_at "hp");(case ev=>rfl))
 | refine zb6 (fun p H' hf hs ha=>?_)
 | refine zc3 (fun p H' hf hs ha=>?_)
 | refine zah1 ?_
 | (refine zae5 (xs:=?xs) ?hp ?_;(case hp=>walk_at "hp"))
 | (refine zbx3 (xs:=?xs) ?hp ?_;(case hp=>walk_at "hp"))
 | (refine zp6 (xs:=?xs) ?hp ?_;(case hp=>walk_at "hp"))
 | (refine zc5 (xs:=?xs) ?hp ?_;(case hp=>walk_at "hp"))
 | refine zag8 ?_
 | refine br_T ?_
 | refine br_F ?_
 | refine zk2 (by omega) ?_
 | refine zl7 (by omega) ?_
 | fail "st")
noncomputable def stp(g:Nat->Nat->Int)(c:Nat):Nat->Nat->Int
 | 0,t=>g 0 t
 | f+1,t=>g (f+1) t+if c<=t then stp g c f (t - c) else 0
def g0(f t:Nat):Int:=if f=0/\t=0 then 1 else 0
noncomputable def pl(ns:List Nat):List V:=ns.map fun (n:Nat)=>V.int (n:Int)
noncomputable def il(ns:List Nat):List Int:=ns.map fun (n:Nat)=>(n:Int)
local macro_rules | `(tactic| rfl')=>`(tactic| first|decide|omega)
section
variable {P:Program}{w:World}{K:zcw2}{mg:Str->Option Value}{base:Heap}
noncomputable def isW:PyData->Bool
 | .int _=>true
 | _=>false
noncomputable def zr8(l:Int):PyData->Bool
 | .int i=>decide (l<=i)
 | _=>false
noncomputable def zac9(l m:Int):PyData->Bool
 | .int i=>decide (l<=i/\i<=m)
 | _=>false
theorem zbk0{p q:Prop}[Decidable p][Decidable q](h:p):decide (p/\q)=decide q:=by simp[h]
theorem zbh8{p q:Prop}[Decidable p][Decidable q](h:¬ p):decide (p/\q)=false:=by simp[h]
@[irreducible] noncomputable def zh4:Sp:=fun vs H Q _=>∃ (v:V) (d:PyData),vs=[v]/\ShV H v d/\Q (.bl (isW d)) H
theorem zbb8{v:V}{d:PyData}(h:ShV H v d)(q:Q (.bl (isW d)) H):zh4 [v] H Q E:=by unfold zh4;exact⟨v,d,rfl,h,q⟩
theorem isw_rd{i:Int}(q:Q (.bl true) H):zh4 [.int i] H Q E:=zbb8 (.int i) q
theorem zbe4(F:Fun K "is_whole" "is_whole" zae4 f fd)(N:Nm mg):FnOk P w K mg base CX0 1 f fd ["thing"] zh4:=by
 refine F.ok zbd6 (fun vs H Q E h=>by unfold zh4 at h;obtain⟨_,_,rfl,_⟩:=h;rfl) fun _ _ _ s H vs Q E hr h=>?_
 unfold zh4 at h
 obtain⟨v,d,rfl,h,q⟩:=h
 refine⟨_,(za4 (za9 (zu4 (pB (zq2 (K:=K) rfl) N.isinstance_ zb8 (za0 (pq 0) (za0 (pTy N.int_ zaw9) za1))) (zr7 (peNot (pB (zq2 (K:=K) rfl) N.isinstance_ zb8 (za0 (pq 0) (za0 (pTy N.bool_ zba8) za1)))))))),?_⟩
 refine zf9 h (.inl rfl) ?_
 cases h
 case int i=>
  refine br_T ?_
  refine zah1 ?_
  ac_nf
  exact q
 case bl b=>
  refine br_T ?_
  refine zag8 ?_
  ac_nf
  exact q
 all_goals (ac_nf;refine br_F ?_;ac_nf;exact q)
@[irreducible] noncomputable def zj1:Sp:=fun vs H Q _=>∃ (v:V) (d:PyData) (l:Int),vs=[v,.int l]/\ShV H v d/\Q (.bl (zr8 l d)) H
theorem zap2{v:V}{d:PyData}{l:Int}(h:ShV H v d)(q:Q (.bl (zr8 l d)) H):zj1 [v,.int l] H Q E:=by unfold zj1;exact⟨v,d,l,rfl,h,q⟩
theorem zcg3{i l:Int}(q:Q (.bl (decide (l<=i))) H):zj1 [.int i,.int l] H Q E:=zap2 (.int i) q
theorem zbk6(F:Fun K "is_from" "is_from" zai8 f fd)(N:Nm mg)(zcq7:Def P w K mg base CX0 1 "is_whole" ["thing"] zh4):FnOk P w K mg base CX0 2 f fd ["thing","least"] zj1:=by
 refine F.ok zbn2 (fun vs H Q E h=>by unfold zj1 at h;obtain⟨_,_,_,rfl,_⟩:=h;rfl) fun _ _ _ s H vs Q E hr h=>?_
 unfold zj1 at h
 obtain⟨v,d,l,rfl,h,q⟩:=h
 refine⟨_,(za4 (za9 (zu4 (pD zcq7 hr zb3 (za0 (pq 0) za1)) (zr7 (peC oLe (pq 1) (pq 0)))))),?_⟩
 refine zbb8 h ?_
 cases h
 case int i=>
  refine br_T ?_
  ac_nf
  exact q
 all_goals (ac_nf;refine br_F ?_;ac_nf;exact q)
@[irreducible] noncomputable def ze7:Sp:=fun vs H Q _=>∃ (v:V) (d:PyData) (l m:Int),vs=[v,.int l,.int m]/\ShV H v d/\Q (.bl (zac9 l m d)) H
theorem zbp9{v:V}{d:PyData}{l m:Int}(h:ShV H v d)(q:Q (.bl (zac9 l m d)) H):ze7 [v,.int l,.int m] H Q E:=by unfold ze7;exact⟨v,d,l,m,rfl,h,q⟩
theorem zbn7{i l m:Int}(q:Q (.bl (decide (l<=i/\i<=m))) H):ze7 [.int i,.int l,.int m] H Q E:=zbp9 (.int i) q
theorem zas8(F:Fun K "is_between" "is_between" zv2 f fd)(N:Nm mg)(zcq6:Def P w K mg base CX0 2 "is_from" ["thing","least"] zj1):FnOk P w K mg base CX0 3 f fd ["thing","least","most"] ze7:=by
 refine F.ok zar7 (fun vs H Q E h=>by unfold ze7 at h;obtain⟨_,_,_,_,rfl,_⟩:=h;rfl) fun _ _ _ s H vs Q E hr h=>?_
 unfold ze7 at h
 obtain⟨v,d,l,m,rfl,h,q⟩:=h
 refine⟨_,(za4 (za9 (zu4 (pD zcq6 hr zb3 (za0 (pq 0) (za0 (pq 1) za1))) (zr7 (peC oLe (pq 0) (pq 2)))))),?_⟩
 refine zap2 h ?_
 cases h
 case int i=>
  have q:Q (.bl (decide (l<=i/\i<=m))) H:=q
  refine zc8 (fun h=>?_) (fun h=>?_)
  ·ac_nf
   rw[zbk0 h] at q
   exact q
  ·ac_nf
   rw[zbh8 h] at q
   exact q
 all_goals (ac_nf;refine br_F ?_;ac_nf;exact q)
noncomputable def zc2:PyData->List PyData
 | .list ds=>ds
 | _=>[]
def intD:PyData->Int
 | .int i=>i
 | _=>0
theorem zv3{l:Int}{d:PyData}(h:zr8 l d=true):∃ i:Int,d=.int i/\l<=i:=by
 cases d with
 | int i=>exact⟨i,rfl,of_decide_eq_true h⟩
 | _=>simp[zr8] at h
theorem zs2(h:sml (.list ds)=true):ds.length<=1000/\∀ d∈ds,sml d=true:=by
 simp only[sml,zcx4,decide_eq_true_eq] at h
 exact⟨h.1,zac3 h.2⟩
theorem zbj6(h:sml (.tuple ds)=true):ds.length<=1000/\∀ d∈ds,sml d=true:=by
 simp only[sml,zcx4,decide_eq_true_eq] at h
 exact⟨h.1,zac3 h.2⟩
theorem zw9(g:PyData->Bool):(List.range ds.length).map (fun i=>V.bl (g (ds.getD i .none)))=(ds.map g).map V.bl:=by
 apply zdb4
 intro i
 rw[zcw0,zcw0,zcw0]
 by_cases h:i<ds.length
 ·rw[zda5 h,zcv7 h]
  simp[h]
 ·rw[zcy7 (by simp;omega),zcy7 (by rfl')]
  rfl
theorem zag5(g:PyData->Bool):(ds.map g).all id=ds.all g:=by rw[zdd6];rfl
theorem zbc4{xs:List V}(l:ShL H xs ds)(e:xs.length=2):∃ x y a b,xs=[x,y]/\ds=[a,b]/\ShV H x a/\ShV H y b:=by
 cases l with
 | nil=>simp at e
 | cons h1 l=>
  cases l with
  | nil=>simp at e
  | cons h2 l=>
   cases l with
   | nil=>exact⟨_,_,_,_,rfl,rfl,h1,h2⟩
   | cons _ _=>simp at e
theorem getD_some{d:PyData}(h:ds[i]?=some d):ds.getD i .none=d:=by rw[zcw1,h];rfl
structure zl9(H:Hp)(m:Addr)(ts:List (Addr×Addr))(ms:List (List Int×Int)):Prop where
 out:H m=some (.lst (ts.map fun t=>V.ref t.1))
 len:ts.length=ms.length
 part:∀ (i:Nat) t x,ts[i]?=some t->ms[i]?=some x->H t.1=some (.tup [.ref t.2,.int x.2])/\H t.2=some (.lst (x.1.map V.int))
theorem zl9.same{m:Addr}(M:zl9 H m ts ms)(s:Same H H'):zl9 H' m ts ms:=⟨s _ _ M.out,M.len,fun i t x h1 h2=>⟨s _ _ (M.part i t x h1 h2).1,s _ _ (M.part i t x h1 h2).2⟩⟩
theorem zl9.get{m:Addr}(M:zl9 H m ts ms)(hi:i<ms.length):∃ t x,ts[i]?=some t/\ms[i]?=some x/\H t.1=some (.tup [.ref t.2,.int x.2])/\H t.2=some (.lst (x.1.map V.int)):=
 ⟨_,_,zcv7 (by have:=M.len;omega),zcv7 hi,M.part i _ _ (zcv7 (by have:=M.len;omega)) (zcv7 hi)⟩
theorem zl9.elt{m:Addr}(M:zl9 H m ts ms){v:V}(e:(ts.map fun t=>V.ref t.1)[i]?=some v):∃ t x,v=.ref t.1/\ts[i]?=some t/\ms[i]?=some x/\H t.1=some (.tup [.ref t.2,.int x.2])/\H t.2=some (.lst (x.1.map V.int)):=by
 rw[zcw0] at e
 obtain⟨t,et,rfl⟩:=zcw4.mp e
 obtain⟨t',x,h1,h2,h3⟩:=M.get (i:=i) (by have:=(zcv9.mp et).1;have:=M.len;omega)
 rw[et] at h1
 cases h1
 exact⟨t,x,rfl,et,h2,h3⟩
theorem zl9.ix{m:Addr}(M:zl9 H m ts ms){k:Nat}{x:List Int×Int}(e:ms[k]?=some x):∃ t,ts[k]?=some t/\atI (ts.map fun t=>V.ref t.1) (k:Int)=some (.ref t.1)/\H t.1=some (.tup [.ref t.2,.int x.2])/\H t.2=some (.lst (x.1.map V.int)):=by
 obtain⟨t,x',h1,h2,h3⟩:=M.get (i:=k) ((zcv9.mp e).1)
 rw[e] at h2
 cases h2
 exact⟨t,h1,zc1 (by rw[zcw0,h1];rfl),h3⟩
noncomputable def rm(p:Addr)(H:Hp):Hp:=fun b=>if b=p then none else H b
noncomputable def nw(H H':Hp):Hp:=fun b=>match H b with
 | none=>H' b
 | some _=>none
theorem zi2{p b:Addr}(n:b≠p)(h:H b=some o):rm p H b=some o:=by unfold rm;rw[if_neg n];exact h
theorem zae0{p b:Addr}(h:rm p H b=some o):b≠p/\H b=some o:=by
 unfold rm at h
 by_cases e:b=p
 ·rw[if_pos e] at h;cases h
 ·rw[if_neg e] at h;exact⟨e,h⟩
theorem zn9{b:Addr}(n:H b=none)(h:H' b=some o):nw H H' b=some o:=by unfold nw;rw[n];exact h
theorem zu3{b:Addr}(h:nw H H' b=some o):H b=none/\H' b=some o:=by
 unfold nw at h
 cases e:H b with
 | none=>rw[e] at h;exact⟨rfl,h⟩
 | some v=>rw[e] at h;cases h
theorem zt4(p:Addr)(H:Hp):Same (rm p H) H:=fun b o h=>(zae0 h).2
theorem zu6(H H':Hp):Same (nw H H') H':=fun b o h=>(zu3 h).2
theorem Same.rm{p:Addr}{H H':Hp}(s:Same H H'):Same (rm p H) (G.rm p H'):=fun b o h=>zi2 (zae0 h).1 (s _ _ (zae0 h).2)
theorem Chg.rm{p:Addr}{H H':Hp}(s:Chg p H H'):Same (rm p H) (G.rm p H'):=fun b o h=>zi2 (zae0 h).1 (s _ _ (zae0 h).1 (zae0 h).2)
theorem zaz8{H'':Hp}(s:Same H' H''):Same (nw H H') (nw H H''):=fun b o h=>zn9 (zu3 h).1 (s _ _ (zu3 h).2)
theorem zbv6{p:Addr}{H'':Hp}(hp:H p=some o)(s:Chg p H' H''):Same (nw H H') (nw H H''):=fun b o h=>zn9 (zu3 h).1 (s _ _ (fun z=>by have:=(zu3 h).1;rw[z,hp] at this;cases this) (zu3 h).2)
theorem zck4{H0:Hp}(s:Same H0 H):Same (nw H H') (nw H0 H'):=fun b o h=>zn9 (s.free (zu3 h).1) (zu3 h).2
theorem nw_rm{p:Addr}(hp:H p=some o):Same (nw H H') (rm p H'):=fun b o h=>zi2 (fun z=>by have:=(zu3 h).1;rw[z,hp] at this;cases this) (zu3 h).2
noncomputable def zm3:PyData->Bool
 | .tuple [a,b,c]=>zr8 0 a&&zac9 0 (intD a) b&&zr8 1 c
 | _=>false
theorem zaq8(h:ds.length≠3):zm3 (.tuple ds)=false:=by
 match ds,h with
 | [],_=>rfl
 | [_],_=>rfl
 | [_,_],_=>rfl
 | [_,_,_],h=>simp at h
 | _ :: _ :: _ :: _ :: _,_=>rfl
theorem zah5{xs:List V}(l:ShL H xs ds)(e:xs.length=3):∃ x y z a b c,xs=[x,y,z]/\ds=[a,b,c]/\ShV H x a/\ShV H y b/\ShV H z c:=by
 cases l with
 | nil=>simp at e
 | cons h1 l=>
  obtain⟨y,z,b,c,rfl,rfl,h2,h3⟩:=zbc4 l (by simpa using e)
  exact⟨_,_,_,_,_,_,rfl,rfl,h1,h2,h3⟩
@[irreducible] noncomputable def zo8:Sp:=fun vs H Q _=>∃ (v:V) (d:PyData),vs=[v]/\ShV H v d/\Q (.bl (zm3 d)) H
theorem zcd9{v:V}{d:PyData}(h:ShV H v d)(q:Q (.bl (zm3 d)) H):zo8 [v] H Q E:=by unfold zo8;exact⟨v,d,rfl,h,q⟩
theorem zbl9(F:Fun K "is_flow" "is_flow" zaj4 f fd)(N:Nm mg)(zcq4:Def P w K mg base CX0 3 "is_between" ["thing","least","most"] ze7)(zcq6:Def P w K mg base CX0 2 "is_from" ["thing","least"] zj1):FnOk P w K mg base CX0 4 f fd ["thing"] zo8:=by
 refine F.ok zbm6 (fun vs H Q E h=>by unfold zo8 at h;obtain⟨_,_,rfl,_⟩:=h;rfl) fun _ _ _ s H vs Q E hr h=>?_
 unfold zo8 at h
 obtain⟨v,d,rfl,h,q⟩:=h
 have hu:=hu40 hr
 refine⟨_,(za3 (psIf (ptW (pwOr (zh6 (ptV (pB (zq2 (K:=K) rfl) N.isinstance_ zb8 (za0 (pq 0) (za0 (pTy N.tuple_ zp9) za1))))) (zo4 (ptC (zac6 (K:=K) rfl (by exact hu)) (pB (zf7 (K:=K) rfl) N.len_ zd2 (za0 (pq 0) za1)) za2)))) (za4 (za9 zs9)) zb2)
   (za4 (za9 (zu4 (pD zcq6 hr zb3 (za0 (za7 (K:=K) rfl (pq 0) za2) (za0 za2 za1))) (zu4 (pD zcq4 hr zb3 (za0 (za7 (K:=K) rfl (pq 0) za2) (za0 za2 (za0 (za7 (K:=K) rfl (pq 0) za2) za1)))) (zr7 (pD zcq6 hr zb3 (za0 (za7 (K:=K) rfl (pq 0) za2) (za0 za2 za1))))))))),?_⟩
 refine zf9 h (.inr (.inr (.inr rfl))) ?_
 cases h
 case tup t xs ds e l=>
  have ll:=l.len
  refine zb9 (br_T ?_)
  refine zp6 e ?_
  refine zb9 (zc8 (fun h3=>?_) (fun h3=>?_))
  ·obtain⟨x,y,z,a,b,c,rfl,rfl,ha,hb,hc⟩:=zah5 l (by rfl')
   have q:Q (.bl (zr8 0 a&&zac9 0 (intD a) b&&zr8 1 c)) H:=q
   refine zb1 (v:=x) e rfl ?_
   refine zap2 ha ?_
   cases e1:zr8 0 a
   ·rw[e1] at q
    refine br_F ?_
    ac_nf
    exact q
   ·rw[e1,zcz7] at q
    obtain⟨i,rfl,hi⟩:=zv3 e1
    cases ha
    refine br_T ?_
    refine zb1 (v:=y) e rfl ?_
    refine zb1 (v:=.int i) e rfl ?_
    refine zbp9 hb ?_
    have q:Q (.bl (zac9 0 i b&&zr8 1 c)) H:=q
    cases e2:zac9 0 i b
    ·rw[e2] at q
     refine br_F ?_
     ac_nf
     exact q
    ·rw[e2,zcz7] at q
     refine br_T ?_
     refine zb1 (v:=z) e rfl ?_
     refine zap2 hc ?_
     ac_nf
     exact q
  ·rw[zaq8 (by rfl')] at q
   ac_nf
   exact q
 all_goals (ac_nf;refine zb9 (br_F ?_);ac_nf;refine br_T ?_;ac_nf;exact q)
theorem zaj7{l m:Int}{d:PyData}(h:zac9 l m d=true):∃ i,d=.int i/\l<=i/\i<=m:=by
 cases d with
 | int i=>have:=of_decide_eq_true h;exact⟨i,rfl,this⟩
 | _=>simp[zac9] at h
theorem zar3{v:V}{d:PyData}(h:ShV H v d)(e:zm3 d=true):∃ (t:Addr) (i j w:Int),v=.ref t/\H t=some (.tup [.int i,.int j,.int w])/\d=.tuple [.int i,.int j,.int w]/\0<=j/\j<=i/\1<=w:=by
 cases h
 case tup t xs ds e1 l=>
  have l3:ds.length=3:=Classical.byContradiction fun z=>by rw[zaq8 z] at e;cases e
  obtain⟨x,y,z,a,b,c,rfl,rfl,ha,hb,hc⟩:=zah5 l (by rw[l.len];exact l3)
  have e:(zr8 0 a&&zac9 0 (intD a) b&&zr8 1 c)=true:=e
  rw[zcx4,zcx4] at e
  obtain⟨i,rfl,hi⟩:=zv3 e.1.1
  obtain⟨j,rfl,hj1,hj2⟩:=zaj7 e.1.2
  obtain⟨w,rfl,hw⟩:=zv3 e.2
  cases ha
  cases hb
  cases hc
  exact⟨t,i,j,w,rfl,e1,rfl,hj1,hj2,hw⟩
 all_goals simp[zm3] at e
noncomputable def keyD:PyData->Int×Int
 | .tuple (a :: b :: _)=>(intD a,intD b)
 | _=>(0,0)
noncomputable def incD(ds:List PyData):Bool:=(List.range (ds.length - 1)).all fun i=>ltP (keyD (ds.getD i .none)) (keyD (ds.getD (i+1) .none))
noncomputable def rowD:PyData->Bool
 | .list ds=>ds.all zm3&&incD ds
 | _=>false
@[irreducible] noncomputable def zp4:Sp:=fun vs H Q _=>∃ (v:V) (d:PyData),vs=[v]/\ShV H v d/\sml d=true/\∀ H',Same H H'->Q (.bl (rowD d)) H'
theorem zbp7{v:V}{d:PyData}(h:ShV H v d)(hs:sml d=true)(q:∀ H',Same H H'->Q (.bl (rowD d)) H'):zp4 [v] H Q E:=by unfold zp4;exact⟨v,d,rfl,h,hs,q⟩
theorem zbz4(F:Fun K "is_row" "is_row" zas7 f fd)(N:Nm mg)(zcv0:Def P w K mg base CX0 4 "is_flow" ["thing"] zo8):FnOk P w K mg base CX0 5 f fd ["row"] zp4:=by
 refine F.ok zbx6 (fun vs H Q E h=>by unfold zp4 at h;obtain⟨_,_,rfl,_⟩:=h;rfl) fun _ _ _ s H vs Q E hr h=>?_
 unfold zp4 at h
 obtain⟨v,d,rfl,h,hs,q⟩:=h
 have hu:=hu40 hr
 refine⟨_,(za3 (psIf (ptW (pwOr (zh6 (ptV (pB (zq2 (K:=K) rfl) N.isinstance_ zb8 (za0 (pq 0) (za0 (pTy N.list_ zp7) za1))))) (zo4 (zh6 (ptV (pB (zap6 (K:=K) rfl rfl) N.all_ zac1 (za0 (ze8 (N:=["thing"]) (ks:=[none]) (ze4 (K:=K) rfl (pq 0)) (fun _ _ _ _ _=>(za5 (i:=0) nb_2 rfl (by eq_refl))) (fun _ _ _ _ _=>zc7) (fun _ _ _ _ _=>(pD zcv0 hr zb3 (za0 (pq 0) za1))) (.skip .nil)) za1))))))) (za4 (za9 zs9)) zb2)
   (za4 (za9 (pB (zap6 (K:=K) rfl rfl) N.all_ zac1 (za0 (ze8 (N:=["one","other"]) (ks:=[none,none]) (zbu0 (K:=K) rfl N.zip_ (za0 (pq 0) (za0 (zg1 (slXK (K:=K) rfl) (pq 0) (zn5 za2) zi8) za1))) (fun _ _ _ _ _=>(zi6 (K:=K) (n:=2) rfl rfl (zb7 (za5 (i:=0) nb_3 rfl (by eq_refl)) (zb7 (za5 (i:=1) nb_3 rfl (by eq_refl)) zj0)))) (fun _ _ _ _ _=>zc7) (fun _ _ _ _ _=>(peC (oLtX (by exact hu)) (zg1 (slXK (K:=K) rfl) (pq 0) zi8 (zn5 za2)) (zg1 (slXK (K:=K) rfl) (pq 1) zi8 (zn5 za2)))) (.skip (.skip .nil))) za1))))),?_⟩
 refine zf9 h (.inr (.inr (.inl rfl))) ?_
 cases h
 case lst a xs ds e l=>
  have ll:=l.len
  obtain⟨dl,dm⟩:=zs2 hs
  refine zb9 (br_T ?_)
  refine zc4 e ?_
  refine zk0 (Wk.list (SqL.of e)) (by rw[zdf5];omega) (fun i=>.bl (zm3 (ds.getD i .none))) (fun _=>true) (fun j σ=>∃ t:Option V,σ=[t]) ⟨none,rfl⟩ ?_ ?_
  ·rintro j x σ H1 R S hj s1 hx ⟨t,rfl⟩ k _
   obtain⟨d,ed,hd⟩:=l.get j x hx
   refine br_T ?_
   refine zcd9 (hd.same s1) ?_
   ac_nf
   rw[← getD_some ed]
   exact k rfl _ _ (Same.refl _) ⟨_,rfl⟩
  intro acc H1 f1 s1 h1
  rw[ze6,ll,zw9 zm3] at h1
  refine zx4 h1 ?_
  rw[zag5]
  cases ea:ds.all zm3
  ·ac_nf
   refine zb9 (br_F ?_)
   ac_nf
   have q:Q (.bl (ds.all zm3&&incD ds)) H1:=q _ s1
   rw[ea] at q
   exact q
  have ea':∀ d∈ds,zm3 d=true:=zcx2.mp ea
  refine zb9 (br_T ?_)
  have e1:=s1 _ _ e
  refine zq1 (SqL.of e1) (fun p2 H2 f2 s2 h2=>?_)
  rw[zag2 (by rfl')] at h2
  refine zbp6 (SqL.of (s2 _ _ e1)) (SqL.of h2) ?_
  refine zk0 (Wk.zipN (n:=ds.length - 1) (SqL.of (s2 _ _ e1)) (SqL.of h2) (by rfl') (by rw[zda4];show _<=_ - 1;omega) (.inr (by rw[zda4,ll];rfl))) (by rw[zdf5];omega) (fun i=>.bl (ltP (keyD (ds.getD i .none)) (keyD (ds.getD (i+1) .none)))) (fun _=>true) (fun j σ=>∃ t u:Option V,σ=[t,u]) ⟨none,none,rfl⟩ ?_ ?_
  ·rintro j v σ H3 R S hj s3 ⟨p,x,y,rfl,hp,hx,hy⟩ ⟨t,u,rfl⟩ k _
   rw[List.getElem?_drop,show (1:Int).toNat+j=j+1 by show 1+j=j+1;omega] at hy
   obtain⟨d,ed,hd⟩:=l.get j x hx
   obtain⟨d',ed',hd'⟩:=l.get (j+1) y hy
   have s03:=(s1.trans s2).trans s3
   obtain⟨t1,i1,j1,w1,rfl,ht1,rfl,_⟩:=zar3 (hd.same s03) (ea' d (zcw3 ed))
   obtain⟨t2,i2,j2,w2,rfl,ht2,rfl,_⟩:=zar3 (hd'.same s03) (ea' d' (zcw3 ed'))
   rw[getD_some ed,getD_some ed'] at k
   refine zd8 hp ?_
   refine br_T ?_
   refine zbp2 ht1 (fun p4 H4 f4 s4 h4=>?_)
   refine zbp2 (s4 _ _ ht2) (fun p5 H5 f5 s5 h5=>?_)
   refine ltP_rd (x:=(i1,j1)) (y:=(i2,j2)) (s5 _ _ h4) h5 ?_
   ac_nf
   exact k rfl _ _ (s4.trans s5) ⟨_,_,rfl⟩
  intro acc2 H3 f3 s3 h3
  rw[ze6] at h3
  have h3:H3 acc2=some (.lst (((List.range (ds.length - 1)).map fun i=>ltP (keyD (ds.getD i .none)) (keyD (ds.getD (i+1) .none))).map V.bl)):=by rw[h3,zcz3];rfl
  refine zx4 h3 ?_
  have q:Q (.bl (ds.all zm3&&incD ds)) H3:=q _ ((s1.trans s2).trans s3)
  rw[ea,zcz7] at q
  rw[zdd6]
  exact q
 all_goals (ac_nf;refine zb9 (br_F ?_);ac_nf;refine br_T ?_;ac_nf;exact q _ (Same.refl _))
noncomputable def valG{κ:Type}[DecidableEq κ](kv:List (κ×Int))(k:κ):Option Int:=(kv.find? fun z=>decide (z.1=k)).map (·.2)
noncomputable def putG{κ:Type}[DecidableEq κ](kv:List (κ×Int))(k:κ)(n:Int):List (κ×Int):=if (kv.any fun z=>decide (z.1=k))=true then kv.map (fun z=>if z.1=k then (z.1,n) else z) else kv++[(k,n)]
noncomputable def addG{κ:Type}[DecidableEq κ](s:List (κ×Int))(z:κ×Int):List (κ×Int):=putG s z.1 ((valG s z.1).getD 0+z.2)
noncomputable def sumG{κ:Type}[DecidableEq κ](zs:List (κ×Int)):List (κ×Int):=zs.foldl addG []
noncomputable def dF{κ κ':Type}(f:κ->κ')(kv:List (κ×Int)):List (κ'×V):=kv.map fun z=>(f z.1,V.int z.2)
section
variable {κ κ':Type}[DecidableEq κ] [DecidableEq κ']
theorem zo6{z:κ×Int}{kv:List (κ×Int)}{k:κ}(e:z.1=k):valG (z :: kv) k=some z.2:=by unfold valG;rw[zdc4,decide_eq_true e];rfl
theorem zo5{z:κ×Int}{kv:List (κ×Int)}{k:κ}(e:¬ z.1=k):valG (z :: kv) k=valG kv k:=by unfold valG;rw[zdc4,decide_eq_false e]
theorem zz3{f:κ->κ'}(hf:∀ a b,f a=f b->a=b)(k:κ):∀ kv:List (κ×Int),valV (dF f kv) (f k)=(valG kv k).map V.int
 | []=>rfl
 | z :: kv=>by
  show valV ((f z.1,V.int z.2) :: dF f kv) (f k)=_
  by_cases e:z.1=k
  ·rw[zab1 (p:=(f z.1,V.int z.2)) (congrArg f e),zo6 e];rfl
  ·rw[zab7 (p:=(f z.1,V.int z.2)) (fun q=>e (hf _ _ q)),zz3 hf k kv,zo5 e]
theorem zak1{f:κ->κ'}(hf:∀ a b,f a=f b->a=b)(kv:List (κ×Int))(k:κ)(n:Int):putK (dF f kv) (f k) (.int n)=dF f (putG kv k n):=by
 unfold putK putG dF
 have e1:((kv.map fun z=>(f z.1,V.int z.2)).any fun kv=>decide (kv.1=f k))=kv.any fun z=>decide (z.1=k):=by
  rw[List.any_map]
  congr 1;funext z
  exact decide_eq_decide.mpr ⟨hf _ _,congrArg f⟩
 rw[e1]
 split
 ·rw[zcz3,zcz3]
  refine zcy9 fun z _=>?_
  show (if f z.1=f k then (f z.1,V.int n) else (f z.1,V.int z.2))=(f (if z.1=k then (z.1,n) else z).1,V.int (if z.1=k then (z.1,n) else z).2)
  by_cases e:z.1=k
  ·rw[if_pos (congrArg f e),if_pos e]
  ·rw[if_neg (fun q=>e (hf _ _ q)),if_neg e]
 ·rw[zcy6];rfl
theorem zcf1(kv:List (κ×Int))(k:κ)(n:Int):(putG kv k n).length<=kv.length+1:=by
 unfold putG
 split
 ·rw[zcv8];omega
 ·rw[zcw7];exact zcx3 _
theorem zaa7(zs:List (κ×Int))(z:κ×Int):sumG (zs++[z])=addG (sumG zs) z:=by unfold sumG;rw[List.foldl_append];rfl
theorem zq0(zs:List (κ×Int)):(sumG zs).length<=zs.length:=by
 have:∀ (zs s:List (κ×Int)),(zs.foldl addG s).length<=s.length+zs.length:=fun zs=>by
  induction zs with
  | nil=>exact fun s=>zcx3 _
  | cons z zs ih=>
   intro s
   have h1:=ih (addG s z)
   have h2:(addG s z).length<=s.length+1:=zcf1 _ _ _
   rw[List.foldl_cons,zcx5]
   omega
 have:=this zs []
 unfold sumG
 simpa using this
theorem zaa2{zs:List (κ×Int)}{z:κ×Int}(h:zs[i]?=some z):sumG (zs.take (i+1))=addG (sumG (zs.take i)) z:=by
 rw[zdf2,h];exact zaa7 _ _
end
theorem zx2(a b:Int)(h:(Sum.inl a:Key)=Sum.inl b):a=b:=Sum.inl.inj h
theorem zag9(a b:Int×Int)(h:pK a=pK b):a=b:=by
 unfold pK at h
 simp only[List.cons.injEq,Sum.inl.injEq,and_true] at h
 exact Prod.ext h.1 h.2
@[irreducible] noncomputable def zr9:Sp:=fun vs H Q _=>
 (∃ (p:Addr) (ts:List Addr) (zs:List (Int×Int)),vs=[.ref p]/\H p=some (.lst (ts.map V.ref))/\ts.length=zs.length/\zs.length<=2000/\(∀ (i:Nat) t z,ts[i]?=some t->zs[i]?=some z->H t=some (.tup [.int z.1,.int z.2]))/\∀ r H',H r=none->Same H H'->H' r=some (.dK (dF Sum.inl (sumG zs)))->Q (.ref r) H') ∨
 ∃ (p:Addr) (ts:List (Addr×Addr)) (zs:List ((Int×Int)×Int)),vs=[.ref p]/\H p=some (.lst (ts.map fun t=>V.ref t.1))/\ts.length=zs.length/\zs.length<=2000/\(∀ (i:Nat) t z,ts[i]?=some t->zs[i]?=some z->H t.1=some (.tup [.ref t.2,.int z.2])/\H t.2=some (.tup (pV z.1)))/\∀ r H',H r=none->Same H H'->H' r=some (.dT (dF pK (sumG zs)))->Q (.ref r) H'
theorem zam9{p:Addr}{ts:List Addr}{zs:List (Int×Int)}(hp:H p=some (.lst (ts.map V.ref)))(hl:ts.length=zs.length)(hz:zs.length<=2000)(ht:∀ (i:Nat) t z,ts[i]?=some t->zs[i]?=some z->H t=some (.tup [.int z.1,.int z.2]))(q:∀ r H',H r=none->Same H H'->H' r=some (.dK (dF Sum.inl (sumG zs)))->Q (.ref r) H'):zr9 [.ref p] H Q E:=by
 unfold zr9;exact .inl ⟨p,ts,zs,rfl,hp,hl,hz,ht,q⟩
theorem zbx5(F:Fun K "summed" "summed" zar5 f fd)(N:Nm mg):FnOk P w K mg base CX0 1 f fd ["pairs"] zr9:=by
 refine F.ok zab9 (fun vs H Q E h=>by unfold zr9 at h;rcases h with ⟨_,_,_,rfl,_⟩|⟨_,_,_,rfl,_⟩<;>rfl) fun _ _ _ s H vs Q E hr h=>?_
 unfold zr9 at h
 have hu:=hu40 hr
 refine⟨_,(za3 (psS (i:=1) zab9.nd zak3)
   (za3 (zp5 PassesOwn.never rfl (ze4 (K:=K) rfl (pq 0)) (zi6 (K:=K) (n:=2) rfl rfl (zb7 (za5 (i:=2) zab9.nd rfl (by eq_refl)) (zb7 (za5 (i:=3) zab9.nd rfl (by eq_refl)) zj0))) (za4 (zbi8 (by exact hu) (pq 1) (pq 2) (zb4 oAdd (zaf9 (by exact hu) (pq 1) (pq 2) za2) (pq 3)))))
   (za4 (za9 (pq 1))))),?_⟩
 rcases h with ⟨p,ts,zs,rfl,hp,hl,hz,ht,q⟩|⟨p,ts,zs,rfl,hp,hl,hz,ht,q⟩
 ·ac_nf
  refine zbg9 (fun r H1 f1 s1 h1=>?_)
  have npr:p≠r:=za6 hp f1
  refine zc4 (s1 _ _ hp) ?_
  refine zn7 (xs:=ts.map V.ref) (fun i σ I=>∃ t u:Option V,σ=[some (.ref p),some (.ref r),t,u]/\Chg r H1 I/\I r=some (.dK (dF Sum.inl (sumG (zs.take i))))) ?_ ?_ ?_ ?_
  ·exact⟨_,_,rfl,Chg.refl _ _,h1⟩
  ·rintro i σ I _ ⟨_,_,_,c,_⟩
   exact SqL.of (c _ _ npr (s1 _ _ hp))
  ·rintro i v σ I hi ⟨t',u',rfl,c,hr'⟩
   rw[zcw0] at hi
   obtain⟨t,et,rfl⟩:=zcw4.mp hi
   obtain⟨z,ez⟩:∃ z,zs[i]?=some z:=⟨_,zcv7 (by have:=(zcv9.mp et).1;omega)⟩
   have e0:=ht i t z et ez
   have e1:=c _ _ (za6 e0 f1) (s1 _ _ e0)
   refine zd8 e1 ?_
   refine zbd8 hr' ?_
   refine zbd4 hr' ?_
   have ev:(valV (dF Sum.inl (sumG (zs.take i))) (Sum.inl z.1:Key)).getD (V.int 0)=.int ((valG (sumG (zs.take i)) z.1).getD 0):=by
    rw[zz3 zx2]
    cases valG (sumG (zs.take i)) z.1<;>rfl
   rw[ev]
   refine zbw0 hr' (by unfold dF;rw[zcv8,zdf5];have:=zq0 (zs.take i);rw[zda3] at this;omega) (fun I2 c2 h2=>?_)
   rw[zak1 zx2] at h2
   ac_nf
   exact⟨_,_,rfl,c.trans c2,by rw[zaa2 ez];exact h2⟩
  ·rintro σ I ⟨t',u',rfl,c,hr'⟩
   rw[zcv8,hl,zdd2] at hr'
   ac_nf
   exact q r I f1 (s1.chg f1 c) hr'
 ·ac_nf
  refine zch9 (fun r H1 f1 s1 h1=>?_)
  have npr:p≠r:=za6 hp f1
  refine zc4 (s1 _ _ hp) ?_
  refine zn7 (xs:=ts.map fun t=>V.ref t.1) (fun i σ I=>∃ t u:Option V,σ=[some (.ref p),some (.ref r),t,u]/\Chg r H1 I/\I r=some (.dT (dF pK (sumG (zs.take i))))) ?_ ?_ ?_ ?_
  ·exact⟨_,_,rfl,Chg.refl _ _,h1⟩
  ·rintro i σ I _ ⟨_,_,_,c,_⟩
   exact SqL.of (c _ _ npr (s1 _ _ hp))
  ·rintro i v σ I hi ⟨t',u',rfl,c,hr'⟩
   rw[zcw0] at hi
   obtain⟨t,et,rfl⟩:=zcw4.mp hi
   obtain⟨z,ez⟩:∃ z,zs[i]?=some z:=⟨_,zcv7 (by have:=(zcv9.mp et).1;omega)⟩
   obtain⟨e0,e0'⟩:=ht i t z et ez
   have e1:=c _ _ (za6 e0 f1) (s1 _ _ e0)
   have e2:=c _ _ (za6 e0' f1) (s1 _ _ e0')
   refine zd8 e1 ?_
   refine zbu8 hr' ?_
   refine zbs7 hr' (k:=pK z.1) e2 ?_
   have ev:(valV (dF pK (sumG (zs.take i))) (pK z.1)).getD (V.int 0)=.int ((valG (sumG (zs.take i)) z.1).getD 0):=by
    rw[zz3 zag9]
    cases valG (sumG (zs.take i)) z.1<;>rfl
   rw[ev]
   refine zci1 hr' (k:=pK z.1) e2 (by unfold dF;rw[zcv8,zdf5];have:=zq0 (zs.take i);rw[zda3] at this;omega) (fun I2 c2 h2=>?_)
   rw[zak1 zag9] at h2
   ac_nf
   exact⟨_,_,rfl,c.trans c2,by rw[zaa2 ez];exact h2⟩
  ·rintro σ I ⟨t',u',rfl,c,hr'⟩
   rw[zcv8,hl,zdd2] at hr'
   ac_nf
   exact q r I f1 (s1.chg f1 c) hr'
noncomputable def triD:PyData->Int×Int×Int
 | .tuple [a,b,c]=>(intD a,intD b,intD c)
 | _=>(0,0,0)
noncomputable def rowF(d:PyData):List (Int×Int×Int):=(zc2 d).map triD
noncomputable def zz5:PyData->Bool
 | .list ds=>decide (0<ds.length)&&rowD (ds.getD 0 .none)&&decide (0<(zc2 (ds.getD 0 .none)).length)
 | _=>false
theorem zan4{v:V}{d:PyData}(h:ShV H v d)(e:rowD d=true):∃ (a:Addr) (ts:List Addr) (ds:List PyData),v=.ref a/\d=.list ds/\H a=some (.lst (ts.map V.ref))/\ts.length=ds.length/\(∀ (i:Nat) t x,ts[i]?=some t->(rowF d)[i]?=some x->H t=some (.tup [.int x.1,.int x.2.1,.int x.2.2]))/\∀ x∈rowF d,0<=x.2.1/\x.2.1<=x.1/\1<=x.2.2:=by
 cases h
 case lst a xs ds e1 l=>
  have e:(ds.all zm3&&incD ds)=true:=e
  have ea:=zcx2.mp (Bool.and_eq_true_iff.mp e).1
  have key:∀ {xs:List V}{ds:List PyData},ShL H xs ds->(∀ d∈ds,zm3 d=true)->∃ ts:List Addr,xs=ts.map V.ref/\(∀ (i:Nat) t x,ts[i]?=some t->(ds.map triD)[i]?=some x->H t=some (.tup [.int x.1,.int x.2.1,.int x.2.2]))/\∀ x∈ds.map triD,0<=x.2.1/\x.2.1<=x.1/\1<=x.2.2:=fun {xs ds} l ea=>by
   induction ds generalizing xs with
   | nil=>cases l;exact⟨[],rfl,fun i t x h=>by simp at h,fun x h=>by cases h⟩
   | cons d ds ih=>
    cases l with
    | cons h1 l=>
     obtain⟨ts,rfl,k1,k2⟩:=ih l fun d hd=>ea d (.tail _ hd)
     obtain⟨t,i,j,w,rfl,ht,rfl,hj1,hj2,hw⟩:=zar3 h1 (ea _ (.head _))
     refine⟨t :: ts,rfl,fun n t' x g1 g2=>?_,fun x hx=>?_⟩
     ·match n with
      | 0=>cases g1;cases g2;exact ht
      | n+1=>exact k1 n t' x g1 g2
     ·rcases zcw8.mp hx with rfl|hx
      ·exact⟨hj1,hj2,hw⟩
      ·exact k2 x hx
  obtain⟨ts,rfl,k1,k2⟩:=key l ea
  exact⟨a,ts,ds,rfl,rfl,e1,by have:=l.len;rwa [zcv8] at this,k1,k2⟩
 all_goals simp[rowD] at e
theorem zj7(ds:List PyData):(rowF (.list ds)).length=ds.length:=by unfold rowF;rw[zcv8];rfl
@[irreducible] noncomputable def zr4:Sp:=fun vs H Q _=>∃ (v:V) (d:PyData),vs=[v]/\ShV H v d/\sml d=true/\∀ H',Same H H'->Q (.bl (zz5 d)) H'
theorem zbl3{v:V}{d:PyData}(h:ShV H v d)(hs:sml d=true)(q:∀ H',Same H H'->Q (.bl (zz5 d)) H'):zr4 [v] H Q E:=by unfold zr4;exact⟨v,d,rfl,h,hs,q⟩
theorem zbq6(F:Fun K "begins" "begins" zaq4 f fd)(N:Nm mg)(zct1:Def P w K mg base CX0 5 "is_row" ["row"] zp4):FnOk P w K mg base CX0 6 f fd ["stream"] zr4:=by
 refine F.ok zbs8 (fun vs H Q E h=>by unfold zr4 at h;obtain⟨_,_,rfl,_⟩:=h;rfl) fun _ _ _ s H vs Q E hr h=>?_
 unfold zr4 at h
 obtain⟨v,d,rfl,h,hs,q⟩:=h
 have hu:=hu40 hr
 refine⟨_,(za4 (za9 (zu4 (pB (zq2 (K:=K) rfl) N.isinstance_ zb8 (za0 (pq 0) (za0 (pTy N.list_ zp7) za1))) (zu4 (peC oGt (pB (zf7 (K:=K) rfl) N.len_ zd2 (za0 (pq 0) za1)) za2) (zu4 (pD zct1 hr zb3 (za0 (za7 (K:=K) rfl (pq 0) za2) za1)) (zr7 (peC oGt (pB (zf7 (K:=K) rfl) N.len_ zd2 (za0 (za7 (K:=K) rfl (pq 0) za2) za1)) za2))))))),?_⟩
 refine zf9 h (.inr (.inr (.inl rfl))) ?_
 cases h
 case lst a xs ds e l=>
  have ll:=l.len
  obtain⟨dl,dm⟩:=zs2 hs
  have q:∀ H',Same H H'->Q (.bl (decide (0<ds.length)&&rowD (ds.getD 0 .none)&&decide (0<(zc2 (ds.getD 0 .none)).length))) H':=q
  refine br_T ?_
  refine zc5 e ?_
  rw[ll]
  refine zc8 (fun h0=>?_) (fun h0=>?_)
  ·rw[decide_eq_true (show 0<ds.length by rfl'),zcz7] at q
   obtain⟨x0,ex0⟩:∃ x,xs[0]?=some x:=⟨_,zcv7 (by rfl')⟩
   obtain⟨d0,ed0,hd0⟩:=l.get 0 x0 ex0
   rw[getD_some ed0] at q
   have at0:atI xs 0=some x0:=zc1 (j:=0) ex0
   refine zb0 (v:=x0) e at0 ?_
   refine zbp7 hd0 (dm d0 (zcw3 ed0)) (fun H1 s1=>?_)
   cases er:rowD d0
   ·have q:=q _ s1
    rw[er] at q
    refine br_F ?_
    ac_nf
    exact q
   ·have q:=q _ s1
    rw[er,zcz7] at q
    obtain⟨b,ts,es,rfl,rfl,hb,hl,_⟩:=zan4 hd0 er
    refine br_T ?_
    refine zb0 (v:=.ref b) (s1 _ _ e) at0 ?_
    refine zc5 (s1 _ _ hb) ?_
    rw[zcv8,hl]
    ac_nf
    have ed:decide ((es.length:Int)>0)=decide (0<(zc2 (.list es)).length):=decide_eq_decide.mpr (by show (es.length:Int)>0↔0<es.length;omega)
    first|(rw[← ed] at q;exact q)|exact q
  ·have q:=q _ (Same.refl _)
   rw[decide_eq_false (show ¬ 0<ds.length by rfl')] at q
   ac_nf
   exact q
 all_goals (ac_nf;refine br_F ?_;ac_nf;exact q _ (Same.refl _))
noncomputable def zp0(a b:PyData):Bool:=eqDI (sumG ((rowF a).map fun z=>(z.1 - z.2.1,z.2.2))) (sumG ((rowF b).map fun z=>(z.1,z.2.2)))
@[irreducible] noncomputable def zx1:Sp:=fun vs H Q _=>∃ (v u:V) (d e:PyData),vs=[v,u]/\ShV H v d/\ShV H u e/\rowD d=true/\rowD e=true/\(zc2 d).length<=1000/\(zc2 e).length<=1000/\∀ H',Same H H'->Q (.bl (zp0 d e)) H'
theorem zby4{v u:V}{d e:PyData}(hv:ShV H v d)(hu:ShV H u e)(rd:rowD d=true)(re:rowD e=true)(ld:(zc2 d).length<=1000)(le:(zc2 e).length<=1000)(q:∀ H',Same H H'->Q (.bl (zp0 d e)) H'):zx1 [v,u] H Q E:=by unfold zx1;exact⟨v,u,d,e,rfl,hv,hu,rd,re,ld,le,q⟩
theorem zca4(F:Fun K "meets" "meets" zbd7 f fd)(N:Nm mg)(zcu9:Def P w K mg base CX0 1 "summed" ["pairs"] zr9):FnOk P w K mg base CX0 2 f fd ["ahead","row"] zx1:=by
 refine F.ok zbg6 (fun vs H Q E h=>by unfold zx1 at h;obtain⟨_,_,_,_,rfl,_⟩:=h;rfl) fun _ _ _ s H vs Q E hr h=>?_
 unfold zx1 at h
 obtain⟨v,u,d,e,rfl,hv,hu',rd,re,ld,le,q⟩:=h
 have hu:=hu40 hr
 obtain⟨a,ts,ds,rfl,rfl,ha,hl,hp,_⟩:=zan4 hv rd
 obtain⟨b,us,es,rfl,rfl,hb,hl',hp',_⟩:=zan4 hu' re
 have ld:ds.length<=1000:=ld
 have le:es.length<=1000:=le
 refine⟨_,(za3 (psS (i:=2) zbg6.nd (pD zcu9 hr zb3 (za0 (ze8 (N:=["left","sent","flow"]) (ks:=[none,none,none]) (ze4 (K:=K) rfl (pq 0)) (fun _ _ _ _ _=>(zi6 (K:=K) (n:=3) rfl rfl (zb7 (za5 (i:=0) nb_4 rfl (by eq_refl)) (zb7 (za5 (i:=1) nb_4 rfl (by eq_refl)) (zb7 (za5 (i:=2) nb_4 rfl (by eq_refl)) zj0))))) (fun _ _ _ _ _=>zc7) (fun _ _ _ _ _=>(zf2 (za0 (zb4 oSub (pq 0) (pq 1)) (za0 (pq 2) za1)))) (.skip (.skip (.skip .nil)))) za1)))
   (za4 (za9 (peC (zn6 (K:=K) rfl (by exact hu)) (pq 2) (pD zcu9 hr zb3 (za0 (ze8 (N:=["left","sent","flow"]) (ks:=[none,none,none]) (ze4 (K:=K) rfl (pq 1)) (fun _ _ _ _ _=>(zi6 (K:=K) (n:=3) rfl rfl (zb7 (za5 (i:=0) nb_4 rfl (by eq_refl)) (zb7 (za5 (i:=1) nb_4 rfl (by eq_refl)) (zb7 (za5 (i:=2) nb_4 rfl (by eq_refl)) zj0))))) (fun _ _ _ _ _=>zc7) (fun _ _ _ _ _=>(zf2 (za0 (pq 0) (za0 (pq 2) za1)))) (.skip (.skip (.skip .nil)))) za1)))))),?_⟩
 refine zc4 ha ?_
 refine zaf2 (Wk.list (SqL.of ha)) (by rw[zcv8,zdf5];omega) (fun i=>.tup [.int (((rowF (.list ds)).getD i (0,0,0)).1 - ((rowF (.list ds)).getD i (0,0,0)).2.1),.int ((rowF (.list ds)).getD i (0,0,0)).2.2]) (fun j σ=>∃ t u w:Option V,σ=[t,u,w]) ⟨none,none,none,rfl⟩ ?_ ?_
 ·rintro i x σ I R S hi s1 hx ⟨_,_,_,rfl⟩ k
  rw[zcv8] at hi
  rw[zcw0] at hx
  obtain⟨t,et,rfl⟩:=zcw4.mp hx
  obtain⟨z,ez⟩:∃ z,(rowF (.list ds))[i]?=some z:=⟨_,zcv7 (by rw[zj7];omega)⟩
  rw[show (rowF (.list ds)).getD i (0,0,0)=z by rw[zcw1,ez];rfl] at k
  refine zd8 (s1 _ _ (hp i t z et ez)) ?_
  refine br_T ?_
  refine zb6 (fun p I1 f1 r1 k1=>?_)
  ac_nf
  exact k _ _ _ f1 r1 k1 ⟨_,_,_,rfl⟩
 rintro l1 ps1 H1 F1
 rw[zcv8] at F1
 refine zam9 (zs:=(rowF (.list ds)).map fun z=>(z.1 - z.2.1,z.2.2)) F1.out (by rw[F1.len,zcv8,zj7];exact hl) (by rw[zcv8,zj7];omega) (fun i t z g1 g2=>?_) (fun r2 H2 f2 s2 h2=>?_)
 ·rw[zcw0] at g2
  obtain⟨y,ey,rfl⟩:=zcw4.mp g2
  have:=(F1.row i t g1).2
  rw[show (rowF (.list ds)).getD i (0,0,0)=y by rw[zcw1,ey];rfl] at this
  exact this
 have hb2:=s2 _ _ (F1.same _ _ hb)
 refine zc4 hb2 ?_
 refine zaf2 (Wk.list (SqL.of hb2)) (by rw[zcv8,zdf5];omega) (fun i=>.tup [.int ((rowF (.list es)).getD i (0,0,0)).1,.int ((rowF (.list es)).getD i (0,0,0)).2.2]) (fun j σ=>∃ t u w:Option V,σ=[t,u,w]) ⟨none,none,none,rfl⟩ ?_ ?_
 ·rintro i x σ I R S hi s1 hx ⟨_,_,_,rfl⟩ k
  rw[zcv8] at hi
  rw[zcw0] at hx
  obtain⟨t,et,rfl⟩:=zcw4.mp hx
  obtain⟨z,ez⟩:∃ z,(rowF (.list es))[i]?=some z:=⟨_,zcv7 (by rw[zj7];omega)⟩
  rw[show (rowF (.list es)).getD i (0,0,0)=z by rw[zcw1,ez];rfl] at k
  refine zd8 (s1 _ _ (s2 _ _ (F1.same _ _ (hp' i t z et ez)))) ?_
  refine br_T ?_
  refine zb6 (fun p I1 f1 r1 k1=>?_)
  ac_nf
  exact k _ _ _ f1 r1 k1 ⟨_,_,_,rfl⟩
 rintro l3 ps3 H3 F3
 rw[zcv8] at F3
 refine zam9 (zs:=(rowF (.list es)).map fun z=>(z.1,z.2.2)) F3.out (by rw[F3.len,zcv8,zj7];exact hl') (by rw[zcv8,zj7];omega) (fun i t z g1 g2=>?_) (fun r4 H4 f4 s4 h4=>?_)
 ·rw[zcw0] at g2
  obtain⟨y,ey,rfl⟩:=zcw4.mp g2
  have:=(F3.row i t g1).2
  rw[show (rowF (.list es)).getD i (0,0,0)=y by rw[zcw1,ey];rfl] at this
  exact this
 refine zch0 (s4 _ _ (F3.same _ _ h2)) h4 ?_
 ac_nf
 exact q _ (((F1.same.trans s2).trans F3.same).trans s4)
noncomputable def zaf7(h:Int)(d:PyData):Bool:=(rowF d).all fun z=>decide (z.1=h)
noncomputable def zay3(d:PyData):Bool:=(rowF d).all fun z=>decide (z.1=z.2.1)
noncomputable def zt7(ds:List PyData):Bool:=(List.range (ds.length - 1)).all fun i=>zp0 (ds.getD i .none) (ds.getD (i+1) .none)
noncomputable def zd4(h f:Int)(d:PyData):Bool:=zz5 d&&(decide (((zc2 d).length:Int)=f)&&((zc2 d).all rowD&&(zaf7 h ((zc2 d).getD 0 .none)&&(zay3 ((zc2 d).getD ((zc2 d).length - 1) .none)&&zt7 (zc2 d)))))
theorem zbj3{α:Type}(g:α->Bool)(xs:List α):(xs.map g).all id=xs.all g:=by rw[zdd6];rfl
theorem zax1(g:Int×Int×Int->Bool):(List.range xs.length).map (fun i=>V.bl (g (xs.getD i (0,0,0))))=(xs.map g).map V.bl:=by
 apply zdb4
 intro i
 rw[zcw0,zcw0,zcw0]
 by_cases h:i<xs.length
 ·rw[zda5 h,zcv7 h]
  simp[h]
 ·rw[zcy7 (by simp;omega),zcy7 (by rfl')]
  rfl
@[irreducible] noncomputable def zl1:Sp:=fun vs H Q _=>∃ (h f:Int) (v:V) (d:PyData),vs=[.int h,.int f,v]/\ShV H v d/\sml d=true/\∀ H',Same H H'->Q (.bl (zd4 h f d)) H'
theorem zbn0{f:Int}{v:V}{d:PyData}(hv:ShV H v d)(hs:sml d=true)(q:∀ H',Same H H'->Q (.bl (zd4 h f d)) H'):zl1 [.int h,.int f,v] H Q E:=by unfold zl1;exact⟨h,f,v,d,rfl,hv,hs,q⟩
theorem zaw7(F:Fun K "is_stream" "is_stream" zz9 f fd)(N:Nm mg)(zcv1:Def P w K mg base CX0 6 "begins" ["stream"] zr4)(zct1:Def P w K mg base CX0 5 "is_row" ["row"] zp4)(zcv5:Def P w K mg base CX0 2 "meets" ["ahead","row"] zx1):FnOk P w K mg base CX0 7 f fd ["hosts","fields","stream"] zl1:=by
 refine F.ok zv1 (fun vs H Q E h=>by unfold zl1 at h;obtain⟨_,_,_,_,rfl,_⟩:=h;rfl) fun _ _ _ s H vs Q E hr h=>?_
 unfold zl1 at h
 obtain⟨h,f,v,d,rfl,hv,hs,q⟩:=h
 have hu:=hu40 hr
 refine⟨_,(za3 (psIf (ptW (pwOr (zh6 (ptV (pD zcv1 hr zb3 (za0 (pq 2) za1)))) (pwOr (ptC (zac6 (K:=K) rfl (by exact hu)) (pB (zf7 (K:=K) rfl) N.len_ zd2 (za0 (pq 2) za1)) (pq 1)) (zo4 (zh6 (ptV (pB (zap6 (K:=K) rfl rfl) N.all_ zac1 (za0 (ze8 (N:=["row"]) (ks:=[none]) (ze4 (K:=K) rfl (pq 2)) (fun _ _ _ _ _=>(za5 (i:=0) nb_5 rfl (by eq_refl))) (fun _ _ _ _ _=>zc7) (fun _ _ _ _ _=>(pD zct1 hr zb3 (za0 (pq 0) za1))) (.skip .nil)) za1)))))))) (za4 (za9 zs9)) zb2)
   (za3 (psS (i:=3) zv1.nd (pB (zap6 (K:=K) rfl rfl) N.all_ zac1 (za0 (ze8 (N:=["left","sent","flow","hosts"]) (ks:=[none,none,none,some 0]) (ze4 (K:=K) rfl (za7 (K:=K) rfl (pq 2) za2)) (fun _ _ _ _ _=>(zi6 (K:=K) (n:=3) rfl rfl (zb7 (za5 (i:=0) nb_6 rfl (by eq_refl)) (zb7 (za5 (i:=1) nb_6 rfl (by eq_refl)) (zb7 (za5 (i:=2) nb_6 rfl (by eq_refl)) zj0))))) (fun _ _ _ _ _=>zc7) (fun _ _ _ _ _=>(peC (zn6 (K:=K) rfl (by exact hu)) (pq 0) (pq 3))) (.skip (.skip (.skip (.take rfl rfl (by eq_refl) .nil))))) za1)))
   (za3 (psS (i:=4) zv1.nd (pB (zap6 (K:=K) rfl rfl) N.all_ zac1 (za0 (ze8 (N:=["left","sent","flow"]) (ks:=[none,none,none]) (ze4 (K:=K) rfl (za7 (K:=K) rfl (pq 2) (zv6 uNeg za2))) (fun _ _ _ _ _=>(zi6 (K:=K) (n:=3) rfl rfl (zb7 (za5 (i:=0) nb_7 rfl (by eq_refl)) (zb7 (za5 (i:=1) nb_7 rfl (by eq_refl)) (zb7 (za5 (i:=2) nb_7 rfl (by eq_refl)) zj0))))) (fun _ _ _ _ _=>zc7) (fun _ _ _ _ _=>(peC (zn6 (K:=K) rfl (by exact hu)) (pq 0) (pq 1))) (.skip (.skip (.skip .nil)))) za1)))
   (za4 (za9 (zu4 (pq 3) (zu4 (pq 4) (zr7 (pB (zap6 (K:=K) rfl rfl) N.all_ zac1 (za0 (ze8 (N:=["ahead","row"]) (ks:=[none,none]) (zbu0 (K:=K) rfl N.zip_ (za0 (pq 2) (za0 (zg1 (slXK (K:=K) rfl) (pq 2) (zn5 za2) zi8) za1))) (fun _ _ _ _ _=>(zi6 (K:=K) (n:=2) rfl rfl (zb7 (za5 (i:=0) nb_8 rfl (by eq_refl)) (zb7 (za5 (i:=1) nb_8 rfl (by eq_refl)) zj0)))) (fun _ _ _ _ _=>zc7) (fun _ _ _ _ _=>(pD zcv5 hr zb3 (za0 (pq 0) (za0 (pq 1) za1)))) (.skip (.skip .nil))) za1)))))))))),?_⟩
 refine zbl3 hv hs (fun H1 s1=>?_)
 unfold zd4 at q
 cases eb:zz5 d
 ·have q:=q _ s1
  rw[eb] at q
  refine zb9 (br_F ?_)
  refine br_T ?_
  ac_nf
  exact q
 cases hv
 case lst a xs ds e l=>
  have q:∀ H',Same H H'->Q (.bl (true&&(decide ((ds.length:Int)=f)&&(ds.all rowD&&(zaf7 h (ds.getD 0 .none)&&(zay3 (ds.getD (ds.length - 1) .none)&&zt7 ds)))))) H':=fun H' s'=>by
   have q:=q H' s'
   rw[eb] at q
   exact q
  have ll:=l.len
  obtain⟨dl,dm⟩:=zs2 hs
  have d0:0<ds.length:=by
   have eb:(decide (0<ds.length)&&rowD (ds.getD 0 .none)&&decide (0<(zc2 (ds.getD 0 .none)).length))=true:=eb
   rw[zcx4,zcx4] at eb
   exact of_decide_eq_true eb.1.1
  have e1:=s1 _ _ e
  refine zb9 (br_T ?_)
  refine zc5 e1 ?_
  rw[ll]
  refine zb9 (zc8 (fun hf=>?_) (fun hf=>?_))
  ·rw[decide_eq_true hf,zcz7,zcz7] at q
   refine zc4 e1 ?_
   refine zk0 (Wk.list (SqL.of e1)) (by rw[zdf5];omega) (fun i=>.bl (rowD (ds.getD i .none))) (fun _=>true) (fun j σ=>∃ t:Option V,σ=[t]) ⟨none,rfl⟩ ?_ ?_
   ·rintro j x σ H2 R S hj s2 hx ⟨t,rfl⟩ k _
    obtain⟨d,ed,hd⟩:=l.get j x hx
    refine br_T ?_
    refine zbp7 (hd.same (s1.trans s2)) (dm d (zcw3 ed)) (fun H3 s3=>?_)
    ac_nf
    rw[← getD_some ed]
    exact k rfl _ _ s3 ⟨_,rfl⟩
   intro acc H2 f2 s2 h2
   rw[ze6,ll,zw9 rowD] at h2
   have s02:=s1.trans s2
   refine zx4 h2 ?_
   rw[zag5]
   cases ea:ds.all rowD
   ·have q:=q _ s02
    rw[ea] at q
    refine zb9 (br_F ?_)
    ac_nf
    exact q
   have ea':∀ d∈ds,rowD d=true:=zcx2.mp ea
   rw[ea,zcz7] at q
   refine zb9 (br_T ?_)
   obtain⟨x0,ex0⟩:∃ x,xs[0]?=some x:=⟨_,zcv7 (by rfl')⟩
   obtain⟨d0',ed0,hd0⟩:=l.get 0 x0 ex0
   have m0:=dm d0' (zcw3 ed0)
   obtain⟨r0,ts0,es0,rfl,rfl,hr0,hl0,hp0,_⟩:=zan4 hd0 (ea' d0' (zcw3 ed0))
   have b0:=(zs2 m0).1
   rw[getD_some ed0] at q
   have e2:=s2 _ _ e1
   refine zb0 (v:=.ref r0) e2 (zc1 (j:=0) ex0) ?_
   refine zc4 (s02 _ _ hr0) ?_
   refine zk0 (Wk.list (SqL.of (s02 _ _ hr0))) (by rw[zcv8,zdf5];omega) (fun i=>.bl (decide (((rowF (.list es0)).getD i (0,0,0)).1=h))) (fun _=>true) (fun j σ=>∃ t u w:Option V,σ=[t,u,w,some (.int h)]) ⟨none,none,none,rfl⟩ ?_ ?_
   ·rintro i x σ I R S hi s3 hx ⟨_,_,_,rfl⟩ k _
    rw[zcv8] at hi
    rw[zcw0] at hx
    obtain⟨t,et,rfl⟩:=zcw4.mp hx
    obtain⟨z,ez⟩:∃ z,(rowF (.list es0))[i]?=some z:=⟨_,zcv7 (by rw[zj7];omega)⟩
    rw[show (rowF (.list es0)).getD i (0,0,0)=z by rw[zcw1,ez];rfl] at k
    refine zd8 (s3 _ _ (s02 _ _ (hp0 i t z et ez))) ?_
    refine br_T ?_
    ac_nf
    exact k rfl _ _ (Same.refl _) ⟨_,_,_,rfl⟩
   intro acc3 H3 f3 s3 h3
   rw[ze6,zcv8,hl0,← zj7 es0,zax1 fun z=>decide (z.1=h)] at h3
   refine zx4 h3 ?_
   rw[zbj3]
   obtain⟨x1,ex1⟩:∃ x,xs[ds.length - 1]?=some x:=⟨_,zcv7 (by rfl')⟩
   obtain⟨d1',ed1,hd1⟩:=l.get _ x1 ex1
   have m1:=dm d1' (zcw3 ed1)
   obtain⟨r1,ts1,es1,rfl,rfl,hr1,hl1,hp1,_⟩:=zan4 hd1 (ea' d1' (zcw3 ed1))
   have b1:=(zs2 m1).1
   rw[getD_some ed1] at q
   have s03:=s02.trans s3
   have e3:=s3 _ _ e2
   refine zb0 (v:=.ref r1) e3 (zar1 (n:=ds.length - 1) (by rfl') ex1) ?_
   refine zc4 (s03 _ _ hr1) ?_
   refine zk0 (Wk.list (SqL.of (s03 _ _ hr1))) (by rw[zcv8,zdf5];omega) (fun i=>.bl (decide (((rowF (.list es1)).getD i (0,0,0)).1=((rowF (.list es1)).getD i (0,0,0)).2.1))) (fun _=>true) (fun j σ=>∃ t u w:Option V,σ=[t,u,w]) ⟨none,none,none,rfl⟩ ?_ ?_
   ·rintro i x σ I R S hi s4 hx ⟨_,_,_,rfl⟩ k _
    rw[zcv8] at hi
    rw[zcw0] at hx
    obtain⟨t,et,rfl⟩:=zcw4.mp hx
    obtain⟨z,ez⟩:∃ z,(rowF (.list es1))[i]?=some z:=⟨_,zcv7 (by rw[zj7];omega)⟩
    rw[show (rowF (.list es1)).getD i (0,0,0)=z by rw[zcw1,ez];rfl] at k
    refine zd8 (s4 _ _ (s03 _ _ (hp1 i t z et ez))) ?_
    refine br_T ?_
    ac_nf
    exact k rfl _ _ (Same.refl _) ⟨_,_,_,rfl⟩
   intro acc4 H4 f4 s4 h4
   rw[ze6,zcv8,hl1,← zj7 es1,zax1 fun z=>decide (z.1=z.2.1)] at h4
   refine zx4 h4 ?_
   rw[zbj3]
   have s04:=s03.trans s4
   have e4:=s4 _ _ e3
   have q:∀ H',Same H H'->Q (.bl ((rowF (.list es0)).all (fun z=>decide (z.1=h))&&((rowF (.list es1)).all (fun z=>decide (z.1=z.2.1))&&zt7 ds))) H':=q
   ac_nf
   cases e5:(rowF (.list es0)).all (fun z=>decide (z.1=h))
   ·have q:=q _ s04
    rw[e5] at q
    refine br_F ?_
    ac_nf
    exact q
   rw[e5,zcz7] at q
   refine br_T ?_
   ac_nf
   cases e6:(rowF (.list es1)).all (fun z=>decide (z.1=z.2.1))
   ·have q:=q _ s04
    rw[e6] at q
    refine br_F ?_
    ac_nf
    exact q
   rw[e6,zcz7] at q
   refine br_T ?_
   refine zq1 (SqL.of e4) (fun p5 H5 f5 s5 h5=>?_)
   rw[zag2 (by rfl')] at h5
   have s05:=s04.trans s5
   refine zbp6 (SqL.of (s5 _ _ e4)) (SqL.of h5) ?_
   refine zk0 (Wk.zipN (n:=ds.length - 1) (SqL.of (s5 _ _ e4)) (SqL.of h5) (by rfl') (by rw[zda4];show _<=_ - 1;omega) (.inr (by rw[zda4,ll];rfl))) (by rw[zdf5];omega) (fun i=>.bl (zp0 (ds.getD i .none) (ds.getD (i+1) .none))) (fun _=>true) (fun j σ=>∃ t u:Option V,σ=[t,u]) ⟨none,none,rfl⟩ ?_ ?_
   ·rintro j v σ H6 R S hj s6 ⟨p,x,y,rfl,hp,hx,hy⟩ ⟨t,u,rfl⟩ k _
    rw[List.getElem?_drop,show (1:Int).toNat+j=j+1 by show 1+j=j+1;omega] at hy
    obtain⟨d,ed,hd⟩:=l.get j x hx
    obtain⟨d',ed',hd'⟩:=l.get (j+1) y hy
    have s06:=s05.trans s6
    rw[getD_some ed,getD_some ed'] at k
    have il:∀ {d:PyData},sml d=true->rowD d=true->(zc2 d).length<=1000:=fun {d} m r=>by
     cases d with
     | list es=>exact (zs2 m).1
     | _=>simp[rowD] at r
    have rd:=ea' d (zcw3 ed)
    have rd':=ea' d' (zcw3 ed')
    refine zd8 hp ?_
    refine br_T ?_
    refine zby4 (hd.same s06) (hd'.same s06) rd rd' (il (dm d (zcw3 ed)) rd) (il (dm d' (zcw3 ed')) rd') (fun H7 s7=>?_)
    ac_nf
    exact k rfl _ _ s7 ⟨_,_,rfl⟩
   intro acc6 H6 f6 s6 h6
   rw[ze6] at h6
   have h6:H6 acc6=some (.lst (((List.range (ds.length - 1)).map fun i=>zp0 (ds.getD i .none) (ds.getD (i+1) .none)).map V.bl)):=by rw[h6,zcz3];rfl
   refine zx4 h6 ?_
   rw[zdd6]
   exact q _ (s05.trans s6)
  ·have q:=q _ s1
   rw[decide_eq_false hf] at q
   refine br_T ?_
   ac_nf
   exact q
 all_goals simp[zz5] at eb
structure RwAt(H:Hp)(p:Addr)(bs:List Addr)(xs:List (Int×Int×Int)):Prop where
 out:H p=some (.lst (bs.map V.ref))
 len:bs.length=xs.length
 row:∀ (i:Nat) b x,bs[i]?=some b->xs[i]?=some x->H b=some (.tup [.int x.1,.int x.2.1,.int x.2.2])
theorem RwAt.same{p:Addr}{bs:List Addr}(R:RwAt H p bs xs)(s:Same H H'):RwAt H' p bs xs:=⟨s _ _ R.out,R.len,fun i b x e1 e2=>s _ _ (R.row i b x e1 e2)⟩
noncomputable def flw(ms:List (List Int×Int))(i:Nat):List ((Int×Int)×Int):=ms.map fun x=>(((x.1.drop i).sum,x.1.getD i 0),x.2)
def keyT(z:Int×Int×Int):Int×Int:=(z.1,z.2.1)
noncomputable def zy9(ms:List (List Int×Int))(i:Nat)(xs:List (Int×Int×Int)):Prop:=OrdK (xs.map keyT)/\(∀ k,k∈xs.map keyT↔k∈(sumG (flw ms i)).map (·.1))/\∀ z∈xs,valG (sumG (flw ms i)) (keyT z)=some z.2.2
theorem zbf0{κ:Type}[DecidableEq κ]{k:κ}:∀ {kv:List (κ×Int)},k∈kv.map (·.1)->∃ n,valG kv k=some n
 | [],h=>by cases h
 | z :: kv,h=>by
  by_cases e:z.1=k
  ·exact⟨z.2,zo6 e⟩
  ·rw[zo5 e]
   rw[zcz4] at h
   rcases zcw8.mp h with h|h
   ·exact absurd h.symm e
   ·exact zbf0 h
structure StAt(H:Hp)(p:Addr)(rs:List (Addr×List Addr))(xss:List (List (Int×Int×Int))):Prop where
 out:H p=some (.lst (rs.map fun r=>V.ref r.1))
 len:rs.length=xss.length
 row:∀ (i:Nat) r xs,rs[i]?=some r->xss[i]?=some xs->RwAt (rm p H) r.1 r.2 xs
 nd:(rs.map (·.1)).Nodup
theorem StAt.same{H H':Hp}{p:Addr}{rs:List (Addr×List Addr)}{xss:List (List (Int×Int×Int))}(R:StAt H p rs xss)(s:Same H H'):StAt H' p rs xss:=⟨s _ _ R.out,R.len,fun i r xs e1 e2=>(R.row i r xs e1 e2).same (Same.rm s),R.nd⟩
noncomputable def zbc7(ms:List (List Int×Int))(f:Nat)(xss:List (List (Int×Int×Int))):Prop:=xss.length=f/\∀ (i:Nat) xs,xss[i]?=some xs->zy9 ms i xs/\xs.length<=ms.length
theorem zf8{α:Type}{as:List α}{a b:α}(h:(as++[a])[i]?=some b):(i<as.length/\as[i]?=some b)∨(i=as.length/\b=a):=by
 by_cases hi:i<as.length
 ·rw[zcz0 hi] at h
  exact .inl ⟨hi,h⟩
 ·rw[zcz5 (by rfl')] at h
  have:i - as.length=0:=by
   have:=(zcv9.mp h).1
   simp at this;omega
  rw[this] at h
  cases h
  exact .inr ⟨by rfl',rfl⟩
theorem zcl9{H1 I I1:Hp}{acc r:Addr}{bs:List Addr}(nd:(rs.map (·.1)).Nodup)(hl:rs.length=xss.length)(rp:∀ (i:Nat) r xs,rs[i]?=some r->xss[i]?=some xs->RwAt (rm acc (nw H1 I)) r.1 r.2 xs)(hr:I r=none):((rs++[(r,bs)]).map (·.1)).Nodup:=by
 rw[zcy6,List.nodup_append]
 refine⟨nd,by simp,fun a ha b hb=>?_⟩
 obtain⟨r',hr',rfl⟩:=zcx0.mp ha
 obtain⟨i,ei⟩:=zcx8 hr'
 obtain⟨xs,ex⟩:∃ xs,xss[i]?=some xs:=⟨_,zcv7 (by have:=(zcv9.mp ei).1;omega)⟩
 have o:=zu6 _ _ _ _ (zt4 _ _ _ _ (rp i r' xs ei ex).out)
 rw[show b=r by simpa using hb]
 exact za6 o hr
theorem zbd0{H:Hp}:∀ {xs:List V}{ds:List PyData}{ys:List V}{es:List PyData},ShL H xs ds->ShL H ys es->ShL H (xs++ys) (ds++es)
 | _,_,_,_,.nil,b=>b
 | _,_,_,_,.cons h a,b=>.cons h (zbd0 a b)
theorem zu8{d:PyData}:∀ {ds:List PyData},d∈ds->d.depth<=PyData.depthAll ds
 | [],h=>by cases h
 | e :: ds,h=>by
  rw[show PyData.depthAll (e :: ds)=max e.depth (PyData.depthAll ds) from rfl]
  rcases zcw8.mp h with rfl|h
  ·exact Nat.le_max_left _ _
  ·exact zda0 (zu8 h) (Nat.le_max_right _ _)
noncomputable def zar9:Nat->Sp
 | 0=>fun _ _ _ _=>False
 | n+1=>fun vs H Q _=>∃ (v:V) (d:PyData),vs=[v]/\ShV H v d/\sml d=true/\d.depth<=n/\∀ v' H',Same H H'->ShV (nw H H') v' d->Q v' H'
@[irreducible] def zk4:Sp:=zar9 9
theorem zag1{v:V}{d:PyData}(h:ShV H v d)(hs:sml d=true)(hd:d.depth<=8)(q:∀ v' H',Same H H'->ShV (nw H H') v' d->Q v' H'):zk4 [v] H Q E:=by unfold zk4;exact⟨v,d,rfl,h,hs,hd,q⟩
theorem zay9(F:Fun K "_law_deep" "_law_deep" zy3 f fd)(N:Nm mg)(hgR:mg "_law_deep"=some (.ref f))(hkR:zdd4 K (.ref f)=true)(hbR:zau1 K fd ["_law_thing"] []):FnOk P w K mg base CX0 10 f fd ["_law_thing"] zk4:=by
 have key:∀ n,FnOk P w K mg base CX0 (n+1) f fd ["_law_thing"] (zar9 n):=by
  intro n
  induction n with
  | zero=>exact F.ok zaf0 (fun vs H Q E h=>h.elim) (fun cdv A outer s H vs Q E hr h=>h.elim)
  | succ n ih=>
   have zcq5:Def P w K mg base CX0 (n+1) "_law_deep" ["_law_thing"] (zar9 n):=⟨f,fd,ih,hgR,hkR,hbR⟩
   refine F.ok zaf0 (fun vs H Q E h=>by obtain⟨_,_,rfl,_⟩:=h;rfl) fun _ _ _ s H vs Q E hr h=>?_
   refine⟨_,(za3 (psIf (ptV (pB (zq2 (K:=K) rfl) N.isinstance_ zb8 (za0 (pq 0) (za0 (pTy N.list_ zp7) za1)))) (za4 (za9 (ze8 (N:=["_law_part"]) (ks:=[none]) (ze4 (K:=K) rfl (pq 0)) (fun _ _ _ _ _=>(za5 (i:=0) nb_18 rfl (by eq_refl))) (fun _ _ _ _ _=>zc7) (fun _ _ _ _ _=>(pD zcq5 hr zb3 (za0 (pq 0) za1) (hk:=by rfl'))) (.skip .nil)))) zb2)
   (za3 (psIf (ptV (pB (zq2 (K:=K) rfl) N.isinstance_ zb8 (za0 (pq 0) (za0 (pTy N.tuple_ zp9) za1)))) (za4 (za9 (pT (cTupK (K:=K) rfl) N.tuple_ zp9 (za0 (ze8 (N:=["_law_part"]) (ks:=[none]) (ze4 (K:=K) rfl (pq 0)) (fun _ _ _ _ _=>(za5 (i:=0) nb_18 rfl (by eq_refl))) (fun _ _ _ _ _=>zc7) (fun _ _ _ _ _=>(pD zcq5 hr zb3 (za0 (pq 0) za1) (hk:=by rfl'))) (.skip .nil)) za1)))) zb2)
   (za4 (za9 (pq 0))))),?_⟩
   obtain⟨v,d,rfl,hv,hs,hd,q⟩:=h
   have inside:∀ {acc:Addr}{I I1 I2:Hp}{ys:List V},Same H I->I acc=some (.lst ys)->Same I I1->Chg acc I1 I2->Same (rm acc (nw H I)) (rm acc (nw H I2))/\Same (nw I I1) (rm acc (nw H I2)):=fun {acc I I1 I2 ys} s2 hacc s3 c2=>
    ⟨fun b o z=>by
     obtain⟨z1,z2⟩:=zae0 z
     obtain⟨z3,z4⟩:=zu3 z2
     exact zi2 z1 (zn9 z3 (c2 _ _ z1 (s3 _ _ z4))),
    fun b o z=>by
     obtain⟨z3,z4⟩:=zu3 z
     have nb:b≠acc:=fun w=>by rw[w,hacc] at z3;cases z3
     exact zi2 nb (zn9 (s2.free z3) (c2 _ _ nb z4))⟩
   refine zf9 hv (.inr (.inr (.inl rfl))) ?_
   cases hv
   case lst a xs ds e l=>
    have ll:=l.len
    obtain⟨dl,dm⟩:=zs2 hs
    have hd:PyData.depthAll ds+1<=n:=hd
    obtain⟨n',rfl⟩:∃ n',n=n'+1:=⟨n - 1,by rfl'⟩
    refine br_T ?_
    refine zc4 e ?_
    refine zbi1 (Wk.list (SqL.of e)) (by rw[zdf5];omega) (fun acc j ys σ I=>∃ t:Option V,σ=[t]/\ShL (rm acc (nw H I)) ys (ds.take j)) ?_ ?_ ?_ ?_
    ·intro acc I f1 s2 h1
     exact⟨none,rfl,.nil⟩
    ·rintro acc j ys σ I I' s' ⟨t,r1,r2⟩
     exact⟨t,r1,r2.same (Same.rm (zaz8 s'))⟩
    ·rintro acc j x ys σ I R S hj facc s1 hacc hx ⟨t,rfl,L⟩ kR _
     obtain⟨d,ed,hd'⟩:=l.get j x hx
     refine br_T ?_
     ac_nf
     refine⟨x,d,rfl,hd'.same s1,dm d (zcw3 ed),by have:=zu8 (zcw3 ed);omega,fun v' I1 s2 S1=>?_⟩
     ac_nf
     refine kR _ _ _ s2 (fun I2 c2=>⟨_,rfl,?_⟩)
     obtain⟨u1,u2⟩:=inside s1 hacc s2 c2
     rw[zdf2,ed]
     exact zbd0 (L.same u1) (.cons (S1.same u2) .nil)
    ·rintro acc ys σ I facc s1 hacc ⟨t,rfl,L⟩
     rw[ll,zdd2] at L
     ac_nf
     exact q _ _ s1 (.lst (zn9 facc hacc) (L.same (zt4 _ _)))
   case tup a xs ds e l=>
    have ll:=l.len
    obtain⟨dl,dm⟩:=zbj6 hs
    have hd:PyData.depthAll ds+1<=n:=hd
    obtain⟨n',rfl⟩:∃ n',n=n'+1:=⟨n - 1,by rfl'⟩
    refine br_F ?_
    refine zf9 (.tup e l) (.inr (.inr (.inr rfl))) ?_
    refine br_T ?_
    refine zas4 e ?_
    refine zbi1 (Wk.tup e) (by rw[zdf5];omega) (fun acc j ys σ I=>∃ t:Option V,σ=[t]/\ShL (rm acc (nw H I)) ys (ds.take j)) ?_ ?_ ?_ ?_
    ·intro acc I f1 s2 h1
     exact⟨none,rfl,.nil⟩
    ·rintro acc j ys σ I I' s' ⟨t,r1,r2⟩
     exact⟨t,r1,r2.same (Same.rm (zaz8 s'))⟩
    ·rintro acc j x ys σ I R S hj facc s1 hacc hx ⟨t,rfl,L⟩ kR _
     obtain⟨d,ed,hd'⟩:=l.get j x hx
     refine br_T ?_
     ac_nf
     refine⟨x,d,rfl,hd'.same s1,dm d (zcw3 ed),by have:=zu8 (zcw3 ed);omega,fun v' I1 s2 S1=>?_⟩
     ac_nf
     refine kR _ _ _ s2 (fun I2 c2=>⟨_,rfl,?_⟩)
     obtain⟨u1,u2⟩:=inside s1 hacc s2 c2
     rw[zdf2,ed]
     exact zbd0 (L.same u1) (.cons (S1.same u2) .nil)
    ·rintro acc ys σ I facc s1 hacc ⟨t,rfl,L⟩
     rw[ll,zdd2] at L
     refine zcp6 (SqL.of hacc) (fun p2 I2 f2 s2 h2=>?_)
     ac_nf
     exact q _ _ (s1.trans s2) (.tup (zn9 (s1.free f2) h2) ((L.same (zt4 _ _)).same (zaz8 s2)))
   all_goals
    refine br_F ?_
    ac_nf
    first
     | refine zbz0 ?_ (by rfl)
     | refine zag8 ?_ (by rfl)
     | refine zah1 ?_ (by rfl)
     | refine zbx0 ?_ (by rfl)
    refine br_F ?_
    ac_nf
    exact q _ _ (Same.refl _) (by constructor)
 unfold zk4
 exact key 9
noncomputable def okD(n:Nat)(d:PyData):Prop:=sml d=true/\d.canLay0=true/\d.depth<=n
noncomputable def Rd(H:Hp)(v:V)(n:Nat):Prop:=∃ d,ShV H v d/\okD n d/\(zc2 d).length<60
theorem Rd.same{H H':Hp}{v:V}{n:Nat}(h:Rd H v n)(s:Same H H'):Rd H' v n:=by obtain⟨d,h1,h2⟩:=h;exact⟨d,h1.same s,h2⟩
theorem okD.up{n:Nat}{d:PyData}(h:okD n d)(l:n<=m):okD m d:=⟨h.1,h.2.1,zda0 h.2.2 l⟩
theorem Rd.up{H:Hp}{v:V}{n m:Nat}(h:Rd H v n)(l:n<=m:=by decide):Rd H v m:=by obtain⟨d,h1,h2⟩:=h;exact⟨d,h1,h2.1.up l,h2.2⟩
theorem Rd.int{H:Hp}(i:Int)(n:Nat):Rd H (.int i) n:=⟨.int i,.int i,⟨rfl,rfl,zcy3 _⟩,by show (0:Nat)<60;decide⟩
theorem Rd.non{H:Hp}(n:Nat):Rd H .non n:=⟨.none,.non,⟨rfl,rfl,zcy3 _⟩,by show (0:Nat)<60;decide⟩
theorem zch8(h:∀ d∈ds,d.canLay0=true):PyData.canLayAll0 ds=true:=by
 induction ds with
 | nil=>rfl
 | cons d ds ih=>
  show (d.canLay0&&PyData.canLayAll0 ds)=true
  rw[h d (.head _),ih fun x hx=>h x (.tail _ hx)];rfl
theorem zac8:∀ {ds:List PyData},PyData.canLayAll0 ds=true->∀ d∈ds,d.canLay0=true
 | [],_,d,h=>by cases h
 | e :: ds,h,d,hd=>by
  have h:(e.canLay0&&PyData.canLayAll0 ds)=true:=h
  rw[zcx4] at h
  rcases zcw8.mp hd with rfl|hd
  ·exact h.1
  ·exact zac8 h.2 d hd
theorem zci8{n:Nat}(h:∀ d∈ds,d.depth<=n):PyData.depthAll ds<=n:=by
 induction ds with
 | nil=>exact zcy3 _
 | cons d ds ih=>
  rw[show PyData.depthAll (d :: ds)=max d.depth (PyData.depthAll ds) from rfl]
  exact Nat.max_le.mpr ⟨h d (.head _),ih fun x hx=>h x (.tail _ hx)⟩
theorem okD.list{n:Nat}{ds:List PyData}(l:ds.length<=1000)(h:∀ d∈ds,okD n d):okD (n+1) (.list ds):=
 ⟨by simp only[sml,zcx4,decide_eq_true_eq];exact⟨by rfl',zp1 fun d hd=>(h d hd).1⟩,zch8 fun d hd=>(h d hd).2.1,Nat.succ_le_succ (zci8 fun d hd=>(h d hd).2.2)⟩
theorem okD.tuple{n:Nat}{ds:List PyData}(l:ds.length<=1000)(h:∀ d∈ds,okD n d):okD (n+1) (.tuple ds):=
 ⟨by simp only[sml,zcx4,decide_eq_true_eq];exact⟨by rfl',zp1 fun d hd=>(h d hd).1⟩,zch8 fun d hd=>(h d hd).2.1,Nat.succ_le_succ (zci8 fun d hd=>(h d hd).2.2)⟩
theorem Rd.lst{H:Hp}{a:Addr}{xs:List V}{n:Nat}(e:H a=some (.lst xs))(l:xs.length<60)(h:∀ x∈xs,Rd H x n):Rd H (.ref a) (n+1):=by
 obtain⟨ds,h1,h2⟩:=ShL.ex (P:=fun d=>okD n d) fun x hx=>by obtain⟨d,h1,h2,_⟩:=h x hx;exact⟨d,h1,h2⟩
 exact⟨.list ds,.lst e h1,okD.list (by rw[← h1.len];omega) h2,by show ds.length<60;rw[← h1.len];exact l⟩
theorem Rd.tup{H:Hp}{a:Addr}{xs:List V}{n:Nat}(e:H a=some (.tup xs))(l:xs.length<60)(h:∀ x∈xs,Rd H x n):Rd H (.ref a) (n+1):=by
 obtain⟨ds,h1,h2⟩:=ShL.ex (P:=fun d=>okD n d) fun x hx=>by obtain⟨d,h1,h2,_⟩:=h x hx;exact⟨d,h1,h2⟩
 exact⟨.tuple ds,.tup e h1,okD.tuple (by rw[← h1.len];omega) h2,by show (0:Nat)<60;decide⟩
theorem zaq3:∀ {n:Nat}{d:PyData},d.depth<=n->d.canLay0=true->d.eqv d=true
 | _,.none,_,_=>rfl
 | _,.bool b,_,_=>by show (b==b)=true;exact beq_self_eq_true _
 | _,.int i,_,_=>by show (i==i)=true;exact beq_self_eq_true _
 | _,.str x,_,_=>by show (x==x)=true;exact beq_self_eq_true _
 | 0,.list ds,h,_=>by have h:PyData.depthAll ds+1<=0:=h;omega
 | 0,.tuple ds,h,_=>by have h:PyData.depthAll ds+1<=0:=h;omega
 | n+1,.list ds,h,c=>by
  have h:PyData.depthAll ds+1<=n+1:=h
  have c:PyData.canLayAll0 ds=true:=c
  show PyData.eqvAll ds ds=true
  exact all ds (fun d hd=>zaq3 (n:=n) (zda0 (zu8 hd) (by rfl')) (zac8 c d hd))
 | n+1,.tuple ds,h,c=>by
  have h:PyData.depthAll ds+1<=n+1:=h
  have c:PyData.canLayAll0 ds=true:=c
  show PyData.eqvAll ds ds=true
  exact all ds (fun d hd=>zaq3 (n:=n) (zda0 (zu8 hd) (by rfl')) (zac8 c d hd))
 | _,.dict _,_,c=>by cases (show false=true from c)
where all:∀ ds:List PyData,(∀ d∈ds,d.eqv d=true)->PyData.eqvAll ds ds=true
 | [],_=>rfl
 | d :: ds,h=>by
  show (d.eqv d&&PyData.eqvAll ds ds)=true
  rw[h d (.head _),all ds fun x hx=>h x (.tail _ hx)];rfl
theorem okD.eqv{n:Nat}{d:PyData}(h:okD n d):d.eqv d=true:=zaq3 h.2.2 h.2.1
theorem zcg9{K:zcw2}{n:Nat}{x y:V}{d:PyData}(hx:ShV H x d)(hy:ShV H y d)(o:okD n d)(hn:n<=40)(q:Q (.bl false) H):zbw8 K x y H Q:=by
 have gen:rEqX K x y H fun v H'=>match v with
   | .bl b=>Q (.bl (!b)) H'
   | _=>False:=zci7 hx hy o.2.1 o.2.1 (zda0 o.2.2 hn) (by rw[o.eqv];exact q)
 unfold zbw8 zay7
 cases hx<;>cases hy
 case int i=>show Q (.bl (!decide (i=i))) H;rw[decide_eq_true rfl];exact q
 case bl i=>show Q (.bl (!decide (i=i))) H;rw[decide_eq_true rfl];exact q
 case str i=>show Q (.bl (!decide (i=i))) H;rw[decide_eq_true rfl];exact q
 all_goals exact gen
theorem zk3:∀ {ns:List Int},(∀ x∈ns,0<=x)->(∀ x∈ns,x<=ns.sum)/\0<=ns.sum
 | [],_=>⟨fun x h=>by (cases h),Int.le_refl _⟩
 | n :: ns,h=>by
  have h0:=h n (.head _)
  obtain⟨i1,i2⟩:=zk3 (ns:=ns) fun y hy=>h y (.tail _ hy)
  rw[zdc0]
  refine⟨fun x hx=>?_,by rfl'⟩
  rcases zcw8.mp hx with rfl|hx
  ·omega
  ·have:=i1 x hx;omega
section
variable {κ μ:Type}[DecidableEq κ] [DecidableEq μ]
noncomputable def atG(zs:List (κ×Int))(k:κ):Int:=((zs.filter fun z=>decide (z.1=k)).map (·.2)).sum
theorem zac0{kv:List (κ×Int)}{k:κ}:k ∉ kv.map (·.1)->valG kv k=none:=by
 induction kv with
 | nil=>intro _;rfl
 | cons z kv ih=>
  intro h
  rw[zcz4,zcw8,not_or] at h
  rw[zo5 (fun e=>h.1 e.symm),ih h.2]
theorem zcf7(kv:List (κ×Int))(k j:κ)(n:Int):valG (kv.map fun z=>if z.1=k then (z.1,n) else z) j=if j=k then (if j∈kv.map (·.1) then some n else none) else valG kv j:=by
 induction kv with
 | nil=>by_cases e:j=k<;>simp[e,valG]
 | cons z kv ih=>
  rw[zcz4]
  by_cases ez:z.1=j
  ·subst ez
   by_cases ek:z.1=k
   ·rw[if_pos ek,if_pos ek,zo6 (z:=(z.1,n)) rfl,if_pos (by simp)]
   ·rw[if_neg ek,if_neg ek,zo6 rfl,zo6 rfl]
  ·have:¬ (if z.1=k then (z.1,n) else z).1=j:=by split<;>exact ez
   rw[zo5 this,ih,zo5 ez]
   by_cases ek:j=k
   ·rw[if_pos ek,if_pos ek]
    have:(j∈(z :: kv).map (·.1))↔j∈kv.map (·.1):=by
     rw[zcz4,zcw8]
     exact⟨fun h=>h.resolve_left fun e=>ez e.symm,.inr⟩
    by_cases h:j∈kv.map (·.1)
    ·rw[if_pos h,if_pos (this.mpr h)]
    ·rw[if_neg h,if_neg fun z=>h (this.mp z)]
   ·rw[if_neg ek,if_neg ek]
theorem zap9(kv:List (κ×Int))(k:κ):(kv.any fun z=>decide (z.1=k))=true↔k∈kv.map (·.1):=by
 rw[List.any_eq_true,zcx0]
 exact⟨fun ⟨z,h1,h2⟩=>⟨z,h1,of_decide_eq_true h2⟩,fun ⟨z,h1,h2⟩=>⟨z,h1,decide_eq_true h2⟩⟩
theorem zca9(kv:List (κ×Int))(z:κ×Int)(j:κ):valG (kv++[z]) j=match valG kv j with|some n=>some n|none=>if z.1=j then some z.2 else none:=by
 induction kv with
 | nil=>
  by_cases e:z.1=j
  ·show valG [z] j=if z.1=j then some z.2 else none;rw[zo6 e,if_pos e]
  ·show valG [z] j=if z.1=j then some z.2 else none;rw[zo5 e,if_neg e];rfl
 | cons y kv ih=>
  rw[List.cons_append]
  by_cases e:y.1=j
  ·rw[zo6 e,zo6 e]
  ·rw[zo5 e,zo5 e,ih]
theorem zca7(kv:List (κ×Int))(k j:κ)(n:Int):valG (putG kv k n) j=if j=k then some n else valG kv j:=by
 unfold putG
 by_cases h:(kv.any fun z=>decide (z.1=k))=true
 ·rw[if_pos h,zcf7]
  by_cases e:j=k
  ·rw[if_pos e,if_pos e,if_pos (by rw[e];exact (zap9 kv k).mp h)]
  ·rw[if_neg e,if_neg e]
 ·rw[if_neg h,zca9]
  have hk:k ∉ kv.map (·.1):=fun z=>h ((zap9 kv k).mpr z)
  by_cases e:j=k
  ·subst e
   rw[zac0 hk,if_pos rfl]
   first|done|exact if_pos rfl
  ·rw[if_neg e]
   cases valG kv j with
   | none=>exact if_neg fun z=>e z.symm
   | some m=>rfl
theorem zce0(zs:List (κ×Int))(z:κ×Int)(k:κ):atG (zs++[z]) k=atG zs k+if z.1=k then z.2 else 0:=by
 unfold atG
 rw[List.filter_append,zcy6,List.sum_append]
 by_cases e:z.1=k
 ·rw[if_pos e,zdc6,if_pos (decide_eq_true e)];simp
 ·rw[if_neg e,zdc6,if_neg (by rw[decide_eq_false e];exact zcw5)];simp
theorem zap8(zs:List (κ×Int))(z:κ×Int)(k:κ):atG (z :: zs) k=(if z.1=k then z.2 else 0)+atG zs k:=by
 unfold atG
 by_cases e:z.1=k
 ·rw[if_pos e,zdc6,if_pos (decide_eq_true e)];simp
 ·rw[if_neg e,zdc6,if_neg (by rw[decide_eq_false e];exact zcw5)];simp
theorem zbf7{α:Type}{P:List α->Prop}(h0:P [])(hs:∀ xs x,P xs->P (xs++[x]))(xs:List α):P xs:=by
 have:∀ n (xs:List α),xs.length=n->P xs:=fun n=>by
  induction n with
  | zero=>intro xs h;rw[List.length_eq_zero_iff.mp h];exact h0
  | succ n ih=>
   intro xs h
   have hn:xs≠[]:=fun z=>by rw[z] at h;simp at h
   rw[← List.dropLast_concat_getLast hn]
   exact hs _ _ (ih _ (by rw[List.length_dropLast];omega))
 exact this _ xs rfl
theorem zw2(zs:List (κ×Int))(k:κ):valG (sumG zs) k=if k∈zs.map (·.1) then some (atG zs k) else none:=by
 induction zs using zbf7 with
 | h0=>rfl
 | hs zs z ih=>
  rw[zaa7]
  unfold addG
  rw[zca7,zce0]
  have mm:k∈(zs++[z]).map (·.1)↔(k∈zs.map (·.1)∨k∈[z].map (·.1)):=by rw[zcy6,zcy1]
  by_cases e:k=z.1
  ·subst e
   rw[if_pos rfl,if_pos (mm.mpr (.inr (by simp))),if_pos rfl,ih]
   by_cases h:z.1∈zs.map (·.1)
   ·rw[if_pos h];rfl
   ·rw[if_neg h]
    have:atG zs z.1=0:=by
     unfold atG
     rw[List.filter_eq_nil_iff.mpr fun y hy hd=>h (zcx0.mpr ⟨y,hy,of_decide_eq_true hd⟩)];rfl
    rw[this];rfl
  ·have z0:(if z.1=k then z.2 else 0)=0:=if_neg fun q=>e q.symm
   rw[if_neg e,ih,z0,Int.add_zero]
   have:(k∈zs.map (·.1)∨k∈[z].map (·.1))↔k∈zs.map (·.1):=⟨fun h=>h.resolve_right fun q=>e (by simpa using q),.inl⟩
   by_cases h:k∈zs.map (·.1)
   ·rw[if_pos h,if_pos (mm.mpr (.inl h))]
   ·rw[if_neg h,if_neg fun q=>h (this.mp (mm.mp q))]
theorem zcb1(kv:List (κ×Int))(k:κ)(n:Int):(putG kv k n).map (·.1)=if k∈kv.map (·.1) then kv.map (·.1) else kv.map (·.1)++[k]:=by
 unfold putG
 by_cases h:(kv.any fun z=>decide (z.1=k))=true
 ·rw[if_pos h,if_pos ((zap9 kv k).mp h),zcz3]
  refine zcy9 fun z _=>?_
  show (if z.1=k then (z.1,n) else z).1=z.1
  split<;>rfl
 ·rw[if_neg h,if_neg fun z=>h ((zap9 kv k).mpr z),zcy6];rfl
theorem zh2(zs:List (κ×Int)):((sumG zs).map (·.1)).Nodup/\∀ k,k∈(sumG zs).map (·.1)↔k∈zs.map (·.1):=by
 induction zs using zbf7 with
 | h0=>exact⟨List.nodup_nil,fun k=>Iff.rfl⟩
 | hs zs z ih=>
  rw[zaa7]
  unfold addG
  rw[zcb1]
  by_cases h:z.1∈(sumG zs).map (·.1)
  ·rw[if_pos h]
   refine⟨ih.1,fun k=>?_⟩
   rw[ih.2,zcy6,zcy1]
   exact⟨.inl,fun q=>q.elim id fun q=>by rw[show k=z.1 by simpa using q];exact (ih.2 _).mp h⟩
  ·rw[if_neg h]
   refine⟨?_,fun k=>?_⟩
   ·rw[List.nodup_append]
    refine⟨ih.1,by simp,fun a ha b hb=>?_⟩
    rw[show b=z.1 by simpa using hb]
    exact fun q=>h (q▸ha)
   ·rw[zcy1,ih.2,zcy6,zcy1];rfl
theorem zbg7{kv:List (κ×Int)}(nd:(kv.map (·.1)).Nodup){z:κ×Int}(h:z∈kv):valG kv z.1=some z.2:=by
 induction kv with
 | nil=>cases h
 | cons y kv ih=>
  rw[zcz4,zdb3] at nd
  rcases zcw8.mp h with rfl|h
  ·exact zo6 rfl
  ·rw[zo5 (fun e=>nd.1 (e▸zcx0.mpr ⟨z,h,rfl⟩))]
   exact ih nd.2 h
theorem atG_ge{zs:List (κ×Int)}(h1:∀ z∈zs,1<=z.2):∀ {k:κ},(0<=atG zs k)/\(k∈zs.map (·.1)->1<=atG zs k):=by
 induction zs with
 | nil=>exact fun {k}=>⟨Int.le_refl _,fun h=>by cases h⟩
 | cons z zs ih=>
  intro k
  obtain⟨i1,i2⟩:=ih (fun y hy=>h1 y (.tail _ hy)) (k:=k)
  have z1:=h1 z (.head _)
  rw[zap8]
  by_cases e:z.1=k
  ·rw[if_pos e]
   exact⟨by rfl',fun _=>by rfl'⟩
  ·rw[if_neg e]
   refine⟨by rfl',fun h=>?_⟩
   rw[zcz4,zcw8] at h
   have:=i2 (h.resolve_left fun q=>e q.symm)
   omega
theorem zba0{p:κ->Bool}{a:κ}{c:Int}:∀ {ks:List κ},ks.Nodup->((ks.filter p).map fun k=>if a=k then c else 0).sum=if a∈ks/\p a=true then c else 0
 | [],_=>by simp
 | k :: ks,nd=>by
  rw[zdb3] at nd
  have ih:=zba0 (p:=p) (a:=a) (c:=c) nd.2
  rw[zdc6]
  by_cases e:a=k
  ·subst e
   have:¬ (a∈ks/\p a=true):=fun h=>nd.1 h.1
   rw[if_neg this] at ih
   by_cases hp:p a=true
   ·rw[if_pos hp,zcz4,zdc0,ih,if_pos rfl,if_pos ⟨.head _,hp⟩];omega
   ·rw[if_neg hp,ih,if_neg fun h=>hp h.2]
  ·have:(a∈k :: ks/\p a=true)↔(a∈ks/\p a=true):=by rw[zcw8];exact⟨fun h=>⟨h.1.resolve_left e,h.2⟩,fun h=>⟨.inr h.1,h.2⟩⟩
   have st:∀ b,(if b=true then k :: ks.filter p else ks.filter p).map (fun k=>if a=k then c else 0)=if b=true then 0 :: (ks.filter p).map (fun k=>if a=k then c else 0) else (ks.filter p).map fun k=>if a=k then c else 0:=fun b=>by
    cases b
    ·rfl
    ·show (if a=k then c else 0) :: _=_
     rw[if_neg e];rfl
   rw[st]
   have s0:(if p k=true then (0:Int) :: (ks.filter p).map (fun k=>if a=k then c else 0) else (ks.filter p).map fun k=>if a=k then c else 0).sum=((ks.filter p).map fun k=>if a=k then c else 0).sum:=by
    split
    ·rw[zdc0,zdc3]
    ·rfl
   rw[s0,ih]
   by_cases h:a∈ks/\p a=true
   ·rw[if_pos h,if_pos (this.mpr h)]
   ·rw[if_neg h,if_neg fun q=>h (this.mp q)]
theorem zas0{α:Type}(f g:α->Int):∀ xs:List α,(xs.map fun x=>f x+g x).sum=(xs.map f).sum+(xs.map g).sum
 | []=>rfl
 | x :: xs=>by
  have:=zas0 f g xs
  simp only[zcz4,zdc0]
  omega
theorem zby8{p:κ->Bool}{ks:List κ}(nd:ks.Nodup):∀ {zs:List (κ×Int)},(∀ z∈zs,z.1∈ks)->((ks.filter p).map (atG zs)).sum=((zs.filter fun z=>p z.1).map (·.2)).sum
 | [],_=>by
  have:((ks.filter p).map (atG ([]:List (κ×Int)))).sum=0:=by
   induction (ks.filter p) with
   | nil=>rfl
   | cons k l ih=>rw[zcz4,zdc0,ih];rfl
  rw[this];rfl
 | z :: zs,h=>by
  have ih:=zby8 (p:=p) nd (zs:=zs) fun y hy=>h y (.tail _ hy)
  have e:(ks.filter p).map (atG (z :: zs))=(ks.filter p).map fun k=>(if z.1=k then z.2 else 0)+atG zs k:=zcy9 fun k _=>zap8 zs z k
  rw[e,zas0,zba0 nd,ih,zdc6]
  by_cases hp:p z.1=true
  ·rw[if_pos ⟨h z (.head _),hp⟩,if_pos hp];rfl
  ·rw[if_neg fun q=>hp q.2,if_neg hp,zdc3]
end
theorem zba4{za zb:List (Int×Int)}(h:∀ k,valG (sumG za) k=valG (sumG zb) k):eqDI (sumG za) (sumG zb)=true:=by
 obtain⟨na,ma⟩:=zh2 za
 obtain⟨nb,mb⟩:=zh2 zb
 have keys:∀ k,k∈(sumG za).map (·.1)↔k∈(sumG zb).map (·.1):=fun k=>by
  rw[ma,mb]
  have:=h k
  rw[zw2,zw2] at this
  by_cases h1:k∈za.map (·.1)<;>by_cases h2:k∈zb.map (·.1)<;>simp[h1,h2] at this ⊢
 have len:=((List.perm_ext_iff_of_nodup na nb).mpr keys).length_eq
 rw[zcv8,zcv8] at len
 unfold eqDI
 rw[len,beq_self_eq_true,zcz7,zcx2]
 intro z hz
 have e:valI (sumG zb) z.1=valG (sumG zb) z.1:=rfl
 rw[e,← h,zbg7 na hz]
 exact beq_self_eq_true _
theorem zr1{x y:Int×Int}:ltP x y=true↔x.1<y.1∨(x.1=y.1/\x.2<y.2):=by
 unfold ltP
 by_cases e:x.1=y.1
 ·rw[if_pos (by simpa using e)]
  by_cases e2:x.2=y.2
  ·rw[if_pos (by simpa using e2)]
   exact⟨fun h=>by (cases h),fun h=>by rfl'⟩
  ·rw[if_neg (by simpa using e2),decide_eq_true_iff];omega
 ·rw[if_neg (by simpa using e),decide_eq_true_iff];omega
theorem zam3:∀ {ks ls:List (Int×Int)},OrdK ks->OrdK ls->(∀ k,k∈ks↔k∈ls)->ks=ls
 | [],[],_,_,_=>rfl
 | [],l :: ls,_,_,h=>absurd ((h l).mpr (.head _)) (by simp)
 | k :: ks,[],_,_,h=>absurd ((h k).mp (.head _)) (by simp)
 | k :: ks,l :: ls,o1,o2,h=>by
  obtain⟨n1,p1⟩:=o1
  obtain⟨n2,p2⟩:=o2
  rw[zdb3] at n1 n2
  rw[List.pairwise_cons] at p1 p2
  have e:k=l:=by
   rcases zcw8.mp ((h k).mp (.head _)) with e|e
   ·exact e
   ·rcases zcw8.mp ((h l).mpr (.head _)) with e' | e'
    ·exact e'.symm
    ·have a:=zr1.mp (p2.1 k e)
     have b:=zr1.mp (p1.1 l e')
     omega
  subst e
  rw[zam3 ⟨n1.2,p1.2⟩ ⟨n2.2,p2.2⟩ fun z=>⟨fun hz=>?_,fun hz=>?_⟩]
  ·rcases zcw8.mp ((h z).mp (.tail _ hz)) with e|e
   ·exact absurd (e▸hz) n1.1
   ·exact e
  ·rcases zcw8.mp ((h z).mpr (.tail _ hz)) with e|e
   ·exact absurd (e▸hz) n2.1
   ·exact e
noncomputable def zu1(z:Int×Int×Int):PyData:=.tuple [.int z.1,.int z.2.1,.int z.2.2]
noncomputable def zg8(xs:List (Int×Int×Int)):PyData:=.list (xs.map zu1)
noncomputable def stmD(xss:List (List (Int×Int×Int))):PyData:=.list (xss.map zg8)
theorem zw8(xs:List (Int×Int×Int)):rowF (zg8 xs)=xs:=by
 unfold rowF zg8
 show (xs.map zu1).map triD=xs
 rw[zcz3]
 exact (zcy9 fun x _=>rfl).trans (List.map_id _)
theorem zz4{ns:List Int}(nn:∀ n∈ns,0<=n)(hi:i<ns.length):0<=ns.getD i 0/\ns.getD i 0<=(ns.drop i).sum/\(ns.drop i).sum - ns.getD i 0=(ns.drop (i+1)).sum:=by
 have e:ns.drop i=ns[i] :: ns.drop (i+1):=zdd0 hi
 have g:ns.getD i 0=ns[i]:=by rw[zcw1,zcv7 hi];rfl
 have z:=(zk3 (ns:=ns.drop (i+1)) fun n hn=>nn n (zdc2 hn)).2
 rw[g,e,zdc0]
 exact⟨nn _ (zdb0 hi),by rfl',by rfl'⟩
structure OkS(ms:List (List Int×Int))(h:Int)(f:Nat):Prop where
 ne:1<=ms.length
 f1:1<=f
 all:∀ x∈ms,(∀ n∈x.1,0<=n)/\x.1.length=f/\x.1.sum=h/\1<=x.2
theorem zah2(R:zy9 ms i xs){z:Int×Int×Int}(hz:z∈xs):∃ x∈ms,z.1=(x.1.drop i).sum/\z.2.1=x.1.getD i 0:=by
 have:keyT z∈(sumG (flw ms i)).map (·.1):=(R.2.1 _).mp (zcx0.mpr ⟨z,hz,rfl⟩)
 rw[(zh2 _).2,zcx0] at this
 obtain⟨y,hy,ey⟩:=this
 unfold flw at hy
 obtain⟨x,hx,rfl⟩:=zcx0.mp hy
 have ey:((x.1.drop i).sum,x.1.getD i 0)=(z.1,z.2.1):=ey
 exact⟨x,hx,(congrArg Prod.fst ey).symm,(congrArg Prod.snd ey).symm⟩
theorem zs5{f:Nat}(O:OkS ms h f)(hi:i<f)(R:zy9 ms i xs){z:Int×Int×Int}(hz:z∈xs):0<=z.2.1/\z.2.1<=z.1/\z.2.2=atG (flw ms i) (keyT z)/\1<=z.2.2:=by
 obtain⟨x,hx,e1,e2⟩:=zah2 R hz
 obtain⟨nn,xl,_,_⟩:=O.all x hx
 obtain⟨a,b,_⟩:=zz4 nn (i:=i) (by rfl')
 have v:=R.2.2 z hz
 rw[zw2] at v
 have km:keyT z∈(flw ms i).map (·.1):=(zh2 _).2 _ |>.mp ((R.2.1 _).mp (zcx0.mpr ⟨z,hz,rfl⟩))
 rw[if_pos km] at v
 have v:=Option.some.inj v
 have w:∀ y∈flw ms i,1<=y.2:=fun y hy=>by
  unfold flw at hy
  obtain⟨x,hx,rfl⟩:=zcx0.mp hy
  exact (O.all x hx).2.2.2
 have g:=(atG_ge w (k:=keyT z)).2 km
 exact⟨by rfl',by rfl',v.symm,by rfl'⟩
theorem zci3{f:Nat}(O:OkS ms h f)(hi:i<f)(R:zy9 ms i xs):rowD (zg8 xs)=true:=by
 show ((xs.map zu1).all zm3&&incD (xs.map zu1))=true
 rw[zcx4]
 constructor
 ·rw[zdd6,zcx2]
  intro z hz
  obtain⟨a,b,_,c⟩:=zs5 O hi R hz
  show (decide ((0:Int)<=z.1)&&decide ((0:Int)<=z.2.1/\z.2.1<=z.1)&&decide ((1:Int)<=z.2.2))=true
  rw[decide_eq_true (show (0:Int)<=z.1 by rfl'),decide_eq_true (show (0:Int)<=z.2.1/\z.2.1<=z.1 from ⟨a,b⟩),decide_eq_true c];rfl
 ·unfold incD
  rw[zcv8,zcx2]
  intro j hj
  have hj:=zcy0.mp hj
  have p:=zda9.mp R.1.2 j (j+1) (by rw[zcv8];omega) (by rw[zcv8];omega) (by rfl')
  have g:∀ (j:Nat) (hj:j<xs.length),keyD ((xs.map zu1).getD j .none)=(xs.map keyT)[j]'(by rw[zcv8];exact hj):=fun j hj=>by
   rw[zcw1,zcw0,zcv7 hj,zdf1];rfl
  rw[g j (by rfl'),g (j+1) (by rfl')]
  exact p
theorem zay8(R:zy9 ms i xs)(hv:∀ z∈xs,z.2.2=atG (flw ms i) (keyT z))(g:Int×Int->Int)(k:Int):valG (sumG (xs.map fun z=>(g (keyT z),z.2.2))) k=valG (sumG ((flw ms i).map fun z=>(g z.1,z.2))) k:=by
 rw[zw2,zw2]
 have mem:k∈(xs.map fun z=>(g (keyT z),z.2.2)).map (·.1)↔k∈((flw ms i).map fun z=>(g z.1,z.2)).map (·.1):=by
  rw[zcz3,zcz3,zcx0,zcx0]
  constructor
  ·rintro⟨z,hz,rfl⟩
   have:=(zh2 _).2 _ |>.mp ((R.2.1 _).mp (zcx0.mpr ⟨z,hz,rfl⟩))
   obtain⟨y,hy,ey⟩:=zcx0.mp this
   exact⟨y,hy,congrArg g ey⟩
  ·rintro⟨y,hy,rfl⟩
   have:y.1∈xs.map keyT:=(R.2.1 _).mpr ((zh2 _).2 _ |>.mpr (zcx0.mpr ⟨y,hy,rfl⟩))
   obtain⟨z,hz,ez⟩:=zcx0.mp this
   exact⟨z,hz,congrArg g ez⟩
 have at1:atG (xs.map fun z=>(g (keyT z),z.2.2)) k=(((xs.map keyT).filter fun q=>decide (g q=k)).map (atG (flw ms i))).sum:=by
  unfold atG
  rw[List.filter_map,List.filter_map,zcz3,zcz3]
  refine congrArg List.sum (zcy9 fun z hz=>?_)
  exact hv z (zdd8.mp hz).1
 have at2:atG ((flw ms i).map fun z=>(g z.1,z.2)) k=(((flw ms i).filter fun z=>decide (g z.1=k)).map (·.2)).sum:=by
  unfold atG
  rw[List.filter_map,zcz3]
  rfl
 rw[at1,at2,zby8 (p:=fun q=>decide (g q=k)) R.1.1 fun z hz=>(R.2.1 _).mpr ((zh2 _).2 _ |>.mpr (zcx0.mpr ⟨z,hz,rfl⟩))]
 by_cases h:k∈(xs.map fun z=>(g (keyT z),z.2.2)).map (·.1)
 ·rw[if_pos h,if_pos (mem.mp h)]
 ·rw[if_neg h,if_neg fun q=>h (mem.mpr q)]
theorem zbp5{f:Nat}{ys:List (Int×Int×Int)}(O:OkS ms h f)(hi:i+1<f)(R1:zy9 ms i xs)(R2:zy9 ms (i+1) ys):zp0 (zg8 xs) (zg8 ys)=true:=by
 unfold zp0
 rw[zw8,zw8]
 refine zba4 fun k=>?_
 have a:=zay8 R1 (fun z hz=>(zs5 O (by rfl') R1 hz).2.2.1) (fun q=>q.1 - q.2) k
 have b:=zay8 R2 (fun z hz=>(zs5 O hi R2 hz).2.2.1) (fun q=>q.1) k
 have e:((flw ms i).map fun z=>(z.1.1 - z.1.2,z.2))=(flw ms (i+1)).map fun z=>(z.1.1,z.2):=by
  unfold flw
  rw[zcz3,zcz3]
  refine zcy9 fun x hx=>?_
  obtain⟨nn,xl,_,_⟩:=O.all x hx
  obtain⟨_,_,c⟩:=zz4 nn (i:=i) (by rfl')
  show ((x.1.drop i).sum - x.1.getD i 0,x.2)=((x.1.drop (i+1)).sum,x.2)
  rw[c]
 have a:valG (sumG (xs.map fun z=>(z.1 - z.2.1,z.2.2))) k=valG (sumG ((flw ms i).map fun z=>(z.1.1 - z.1.2,z.2))) k:=a
 have b:valG (sumG (ys.map fun z=>(z.1,z.2.2))) k=valG (sumG ((flw ms (i+1)).map fun z=>(z.1.1,z.2))) k:=b
 rw[a,e,b]
theorem zcj3{f:Nat}(O:OkS ms h f)(S:zbc7 ms f xss):zd4 h f (stmD xss)=true:=by
 have f1:=O.f1
 have gd:∀ (i:Nat) (hi:i<xss.length),(xss.map zg8).getD i .none=zg8 xss[i]:=fun i hi=>by
  rw[zcw1,zcw0,zcv7 hi];rfl
 have ri:∀ (i:Nat) (hi:i<xss.length),zy9 ms i xss[i]:=fun i hi=>(S.2 i _ (zcv7 hi)).1
 have sl:=S.1
 have l0:0<xss.length:=by rfl'
 have r0:=ri 0 l0
 obtain⟨x0,ex0⟩:∃ x,ms[0]?=some x:=⟨_,zcv7 (by have:=O.ne;omega)⟩
 have n0:0<(xss[0]).length:=by
  have:((x0.1.drop 0).sum,x0.1.getD 0 0)∈(xss[0]).map keyT:=(r0.2.1 _).mpr ((zh2 _).2 _ |>.mpr (by
   unfold flw
   rw[zcz3]
   exact zcx0.mpr ⟨x0,zcw3 ex0,rfl⟩))
  obtain⟨z,hz,_⟩:=zcx0.mp this
  exact zde6 hz
 have items:zc2 (stmD xss)=xss.map zg8:=rfl
 unfold zd4
 rw[items]
 have b:zz5 (stmD xss)=true:=by
  show (decide (0<(xss.map zg8).length)&&rowD ((xss.map zg8).getD 0 .none)&&decide (0<(zc2 ((xss.map zg8).getD 0 .none)).length))=true
  rw[gd 0 l0,zcv8,decide_eq_true l0,zci3 O (by rfl') r0]
  show (true&&true&&decide (0<((xss[0]).map zu1).length))=true
  rw[zcv8,decide_eq_true n0];rfl
 have c1:decide ((((xss.map zg8).length:Nat):Int)=(f:Int))=true:=decide_eq_true (by rw[zcv8,sl])
 have c2:(xss.map zg8).all rowD=true:=by
  rw[zdd6,zcx2]
  intro xs hx
  obtain⟨i,ei⟩:=zcx8 hx
  exact zci3 O (by have:=(zcv9.mp ei).1;omega) (S.2 i xs ei).1
 have c3:zaf7 h ((xss.map zg8).getD 0 .none)=true:=by
  rw[gd 0 l0]
  unfold zaf7
  rw[zw8,zcx2]
  intro z hz
  obtain⟨x,hx,e1,_⟩:=zah2 r0 hz
  rw[e1,List.drop_zero]
  exact decide_eq_true (O.all x hx).2.2.1
 have c4:zay3 ((xss.map zg8).getD ((xss.map zg8).length - 1) .none)=true:=by
  rw[zcv8,gd (xss.length - 1) (by rfl')]
  unfold zay3
  rw[zw8,zcx2]
  intro z hz
  obtain⟨x,hx,e1,e2⟩:=zah2 (ri _ (by rfl')) hz
  obtain⟨nn,xl,_,_⟩:=O.all x hx
  obtain⟨_,_,c⟩:=zz4 nn (i:=xss.length - 1) (by rfl')
  rw[zdc8 (i:=xss.length - 1+1) (by rfl')] at c
  have:([]:List Int).sum=0:=rfl
  rw[e1,e2]
  exact decide_eq_true (by rfl')
 have c5:zt7 (xss.map zg8)=true:=by
  unfold zt7
  rw[zcv8,zcx2]
  intro i hi
  have hi:=zcy0.mp hi
  rw[gd i (by rfl'),gd (i+1) (by rfl')]
  exact zbp5 O (by rfl') (ri i (by rfl')) (ri (i+1) (by rfl'))
 rw[b,c1,c2,c3,c4,c5];rfl
theorem RwAt.shL{p:Addr}{bs:List Addr}(R:RwAt H p bs xs):ShL H (bs.map V.ref) (xs.map zu1):=ShL.idx (by rw[zcv8,zcv8,R.len]) fun i x d h1 h2=>by
 rw[zcw0] at h1 h2
 obtain⟨b,eb,rfl⟩:=zcw4.mp h1
 obtain⟨z,ez,rfl⟩:=zcw4.mp h2
 exact .tup (R.row i b z eb ez) (.cons (.int _) (.cons (.int _) (.cons (.int _) .nil)))
theorem RwAt.sh{p:Addr}{bs:List Addr}(R:RwAt H p bs xs):ShV H (.ref p) (zg8 xs):=.lst R.out R.shL
inductive Fd where
 | more (w t:Int)
 | lead (w l:Int)
 | tab (g:Nat->Nat->Int)
noncomputable def Fd.won:Fd->Nat->Nat->Int
 | .more w t,x,y=>if x=y then t else if y<x then w else -w
 | .lead w l,x,y=>if l<=(x:Int) - y then w else -w
 | .tab g,x,y=>g x y
noncomputable def Fd.Ok:Fd->Prop
 | .more w t=>1<=w/\-w<=t/\t<=w
 | .lead w _=>1<=w
 | .tab _=>True
noncomputable def FdAt(H:Hp)(p:Addr)(a c:Nat):Fd->Prop
 | .more w t=>H p=some (.tup [.str "more",.int w,.int t])
 | .lead w l=>H p=some (.tup [.str "lead",.int w,.int l])
 | .tab g=>∃ q ps,H p=some (.tup [.str "table",.ref q])/\zf0 H q ps (a+1) (c+1) g
theorem FdAt.same{H H':Hp}{p:Addr}{a c:Nat}{f:Fd}(F:FdAt H p a c f)(s:Same H H'):FdAt H' p a c f:=by
 cases f with
 | more w t=>exact s _ _ F
 | lead w l=>exact s _ _ F
 | tab g=>
  obtain⟨q,ps,h1,h2⟩:=F
  exact⟨q,ps,s _ _ h1,h2.same s⟩
theorem FdAt.some{H:Hp}{p:Addr}{a c:Nat}{f:Fd}(F:FdAt H p a c f):∃ xs,H p=some (.tup xs):=by
 cases f with
 | more w t=>exact⟨_,F⟩
 | lead w l=>exact⟨_,F⟩
 | tab g=>
  obtain⟨q,ps,h1,h2⟩:=F
  exact⟨_,h1⟩
structure zj2(H:Hp)(b l:Addr)(ps:List Addr)(a c:Nat)(fs:List Fd):Prop where
 out:H b=some (.tup [.int a,.int c,.ref l])
 lst:H l=some (.lst (ps.map V.ref))
 len:ps.length=fs.length
 fld:∀ (i:Nat) p f,ps[i]?=some p->fs[i]?=some f->FdAt H p a c f/\f.Ok
noncomputable abbrev OkB(a c:Nat)(fs:List Fd):Prop:=(a<=10/\c<=10)/\1<=fs.length/\fs.length<=5
theorem zj2.same{H H':Hp}{b l:Addr}{ps:List Addr}{a c:Nat}{fs:List Fd}(B:zj2 H b l ps a c fs)(s:Same H H'):zj2 H' b l ps a c fs:=⟨s _ _ B.out,s _ _ B.lst,B.len,fun i p f h1 h2=>⟨(B.fld i p f h1 h2).1.same s,(B.fld i p f h1 h2).2⟩⟩
theorem zj2.elt{b:Addr}{a:Nat}{fs:List Fd}(B:zj2 H b l ps a c fs){v:V}(e:(ps.map V.ref)[i]?=some v):∃ p f,v=.ref p/\ps[i]?=some p/\fs[i]?=some f/\FdAt H p a c f/\f.Ok:=by
 rw[zcw0] at e
 obtain⟨p,ep,rfl⟩:=zcw4.mp e
 obtain⟨f,ef⟩:∃ f,fs[i]?=some f:=⟨_,zcv7 (by have:=(zcv9.mp ep).1;have:=B.len;omega)⟩
 exact⟨p,f,rfl,ep,ef,B.fld i p f ep ef⟩
@[irreducible] noncomputable def zan2:Sp:=fun vs H Q _=>∃ (p:Addr) (a c x y:Nat) (f:Fd),vs=[.ref p,.int x,.int y]/\FdAt H p a c f/\x<=a/\y<=c/\Q (.int (f.won x y)) H
theorem zcg8{p:Addr}{a x y:Nat}{f:Fd}(F:FdAt H p a c f)(h1:x<=a)(h2:y<=c)(q:Q (.int (f.won x y)) H):zan2 [.ref p,.int x,.int y] H Q E:=by unfold zan2;exact⟨p,a,c,x,y,f,rfl,F,h1,h2,q⟩
theorem ok_won(F:Fun K "won" "won" s_won f fd)(N:Nm mg):FnOk P w K mg base CX0 1 f fd ["field","x","y"] zan2:=by
 refine F.ok sc_won (fun vs H Q E h=>by unfold zan2 at h;obtain⟨_,_,_,_,_,_,rfl,_⟩:=h;rfl) fun _ _ _ s H vs Q E hr h=>?_
 unfold zan2 at h
 obtain⟨p,a,c,x,y,f,rfl,F,h1,h2,q⟩:=h
 have hu:=hu40 hr
 refine⟨_,(za3 (psIf (ptC (oEqK (K:=K) rfl (by exact hu)) (za7 (K:=K) rfl (pq 0) za2) ze1) (za4 (za9 (za7 (K:=K) rfl (za7 (K:=K) rfl (za7 (K:=K) rfl (pq 0) za2) (pq 1)) (pq 2)))) zb2)
   (za3 (psIf (ptC (oEqK (K:=K) rfl (by exact hu)) (za7 (K:=K) rfl (pq 0) za2) ze1) (za4 (za9 (peIf (ptC oGe (zb4 oSub (pq 1) (pq 2)) (za7 (K:=K) rfl (pq 0) za2)) (za7 (K:=K) rfl (pq 0) za2) (zv6 uNeg (za7 (K:=K) rfl (pq 0) za2))))) zb2)
   (za3 (psIf (ptC (oEqK (K:=K) rfl (by exact hu)) (pq 1) (pq 2)) (za4 (za9 (za7 (K:=K) rfl (pq 0) za2))) zb2)
   (za4 (za9 (peIf (ptC oGt (pq 1) (pq 2)) (za7 (K:=K) rfl (pq 0) za2) (zv6 uNeg (za7 (K:=K) rfl (pq 0) za2)))))))),?_⟩
 cases f with
 | more wt t=>
  have F:H p=some (.tup [.str "more",.int wt,.int t]):=F
  refine zb1 (v:=.str "more") F rfl ?_
  refine zl7 (by decide) ?_
  refine zb1 (v:=.str "more") F rfl ?_
  refine zl7 (by decide) ?_
  ac_nf
  have q:Q (.int (if x=y then t else if y<x then wt else -wt)) H:=q
  refine zc8 (fun h=>?_) (fun h=>?_)
  ·ac_nf
   refine zb1 (v:=.int t) F rfl ?_
   ac_nf
   rw[if_pos (by rfl')] at q
   exact q
  ·rw[if_neg (by rfl')] at q
   refine zc8 (fun h=>?_) (fun h=>?_)
   ·ac_nf
    refine zb1 (v:=.int wt) F rfl ?_
    ac_nf
    rw[if_pos (by rfl')] at q
    exact q
   ·ac_nf
    refine zb1 (v:=.int wt) F rfl ?_
    ac_nf
    rw[if_neg (by rfl')] at q
    exact q
 | lead wt l=>
  have F:H p=some (.tup [.str "lead",.int wt,.int l]):=F
  refine zb1 (v:=.str "lead") F rfl ?_
  refine zl7 (by decide) ?_
  refine zb1 (v:=.str "lead") F rfl ?_
  refine zk2 rfl ?_
  refine zb1 (v:=.int l) F rfl ?_
  ac_nf
  have q:Q (.int (if l<=(x:Int) - y then wt else -wt)) H:=q
  refine zc8 (fun h=>?_) (fun h=>?_)
  ·ac_nf
   refine zb1 (v:=.int wt) F rfl ?_
   ac_nf
   rw[if_pos (by rfl')] at q
   exact q
  ·ac_nf
   refine zb1 (v:=.int wt) F rfl ?_
   ac_nf
   rw[if_neg (by rfl')] at q
   exact q
 | tab g=>
  obtain⟨q',ps,F,G⟩:=F
  obtain⟨r,er,hr'⟩:=G.some (i:=x) (by rfl')
  refine zb1 (v:=.str "table") F rfl ?_
  refine zk2 rfl ?_
  refine zb1 (v:=.ref q') F rfl ?_
  refine zb0 (v:=.ref r) G.out (zc1 (by rw[zcw0,er];rfl)) ?_
  refine zb0 (v:=.int (g x y)) hr' (zc1 (ze5 (by rfl'))) ?_
  ac_nf
  exact q
noncomputable def zj8(n:Int):PyData->Bool
 | .list ds=>decide ((ds.length:Int)=n)&&ds.all isW
 | _=>false
noncomputable def tabD(n m:Int):PyData->Bool
 | .list ds=>decide ((ds.length:Int)=n)&&ds.all (zj8 m)
 | _=>false
@[irreducible] noncomputable def zg5:Sp:=fun vs H Q _=>∃ (n:Int) (v:V) (d:PyData),vs=[.int n,v]/\ShV H v d/\sml d=true/\∀ H',Same H H'->Q (.bl (zj8 n d)) H'
theorem zbn1{n:Int}{v:V}{d:PyData}(h:ShV H v d)(hs:sml d=true)(q:∀ H',Same H H'->Q (.bl (zj8 n d)) H'):zg5 [.int n,v] H Q E:=by unfold zg5;exact⟨n,v,d,rfl,h,hs,q⟩
theorem zak0(F:Fun K "is_table_row" "is_table_row" zq7 f fd)(N:Nm mg)(zcq7:Def P w K mg base CX0 1 "is_whole" ["thing"] zh4):FnOk P w K mg base CX0 2 f fd ["many_numbers","row"] zg5:=by
 refine F.ok zaj3 (fun vs H Q E h=>by unfold zg5 at h;obtain⟨_,_,_,rfl,_⟩:=h;rfl) fun _ _ _ s H vs Q E hr h=>?_
 unfold zg5 at h
 obtain⟨n,v,d,rfl,h,hs,q⟩:=h
 have hu:=hu40 hr
 refine⟨_,(za4 (za9 (zu4 (pB (zq2 (K:=K) rfl) N.isinstance_ zb8 (za0 (pq 1) (za0 (pTy N.list_ zp7) za1))) (zu4 (peC (zn6 (K:=K) rfl (by exact hu)) (pB (zf7 (K:=K) rfl) N.len_ zd2 (za0 (pq 1) za1)) (pq 0)) (zr7 (pB (zap6 (K:=K) rfl rfl) N.all_ zac1 (za0 (ze8 (N:=["number"]) (ks:=[none]) (ze4 (K:=K) rfl (pq 1)) (fun _ _ _ _ _=>(za5 (i:=0) nb_0 rfl (by eq_refl))) (fun _ _ _ _ _=>zc7) (fun _ _ _ _ _=>(pD zcq7 hr zb3 (za0 (pq 0) za1))) (.skip .nil)) za1))))))),?_⟩
 refine zf9 h (.inr (.inr (.inl rfl))) ?_
 cases h
 case lst a xs ds e l=>
  have ll:=l.len
  obtain⟨dl,dm⟩:=zs2 hs
  have q:∀ H',Same H H'->Q (.bl (decide ((ds.length:Int)=n)&&ds.all isW)) H':=q
  refine br_T ?_
  refine zc5 e ?_
  rw[ll]
  refine zc8 (fun h0=>?_) (fun h0=>?_)
  ·rw[decide_eq_true h0,zcz7] at q
   refine zc4 e ?_
   refine zk0 (Wk.list (SqL.of e)) (by rw[zdf5];omega) (fun i=>.bl (isW (ds.getD i .none))) (fun _=>true) (fun j σ=>∃ t:Option V,σ=[t]) ⟨none,rfl⟩ ?_ ?_
   ·rintro j x σ H1 R S hj s1 hx ⟨t,rfl⟩ k _
    obtain⟨d,ed,hd⟩:=l.get j x hx
    rw[getD_some ed] at k
    refine br_T ?_
    refine zbb8 (hd.same s1) ?_
    ac_nf
    exact k rfl _ _ (Same.refl _) ⟨_,rfl⟩
   intro acc H1 f1 s1 h1
   rw[ze6,ll,zw9 isW] at h1
   refine zx4 h1 ?_
   rw[zag5]
   ac_nf
   exact q _ s1
  ·have q:=q _ (Same.refl _)
   rw[decide_eq_false h0] at q
   ac_nf
   exact q
 all_goals (ac_nf;refine br_F ?_;ac_nf;exact q _ (Same.refl _))
@[irreducible] noncomputable def zi4:Sp:=fun vs H Q _=>∃ (n m:Int) (v:V) (d:PyData),vs=[.int n,.int m,v]/\ShV H v d/\sml d=true/\∀ H',Same H H'->Q (.bl (tabD n m d)) H'
theorem zbo8{n m:Int}{v:V}{d:PyData}(h:ShV H v d)(hs:sml d=true)(q:∀ H',Same H H'->Q (.bl (tabD n m d)) H'):zi4 [.int n,.int m,v] H Q E:=by unfold zi4;exact⟨n,m,v,d,rfl,h,hs,q⟩
theorem zbb0(F:Fun K "is_table" "is_table" zae2 f fd)(N:Nm mg)(zcr8:Def P w K mg base CX0 2 "is_table_row" ["many_numbers","row"] zg5):FnOk P w K mg base CX0 3 f fd ["many_rows","many_numbers","rows"] zi4:=by
 refine F.ok zbb6 (fun vs H Q E h=>by unfold zi4 at h;obtain⟨_,_,_,_,rfl,_⟩:=h;rfl) fun _ _ _ s H vs Q E hr h=>?_
 unfold zi4 at h
 obtain⟨n,m,v,d,rfl,h,hs,q⟩:=h
 have hu:=hu40 hr
 refine⟨_,(za3 (psIf (ptW (pwOr (zh6 (ptV (pB (zq2 (K:=K) rfl) N.isinstance_ zb8 (za0 (pq 2) (za0 (pTy N.list_ zp7) za1))))) (zo4 (ptC (zac6 (K:=K) rfl (by exact hu)) (pB (zf7 (K:=K) rfl) N.len_ zd2 (za0 (pq 2) za1)) (pq 0))))) (za4 (za9 zs9)) zb2)
   (za4 (za9 (pB (zap6 (K:=K) rfl rfl) N.all_ zac1 (za0 (ze8 (N:=["row","many_numbers"]) (ks:=[none,some 1]) (ze4 (K:=K) rfl (pq 2)) (fun _ _ _ _ _=>(za5 (i:=0) nb_1 rfl (by eq_refl))) (fun _ _ _ _ _=>zc7) (fun _ _ _ _ _=>(pD zcr8 hr zb3 (za0 (pq 1) (za0 (pq 0) za1)))) (.skip (.take rfl rfl (by eq_refl) .nil))) za1))))),?_⟩
 refine zf9 h (.inr (.inr (.inl rfl))) ?_
 cases h
 case lst a xs ds e l=>
  have ll:=l.len
  obtain⟨dl,dm⟩:=zs2 hs
  have q:∀ H',Same H H'->Q (.bl (decide ((ds.length:Int)=n)&&ds.all (zj8 m))) H':=q
  refine zb9 (br_T ?_)
  refine zc5 e ?_
  rw[ll]
  refine zb9 (zc8 (fun h0=>?_) (fun h0=>?_))
  ·rw[decide_eq_true h0,zcz7] at q
   refine zc4 e ?_
   refine zk0 (Wk.list (SqL.of e)) (by rw[zdf5];omega) (fun i=>.bl (zj8 m (ds.getD i .none))) (fun _=>true) (fun j σ=>∃ t:Option V,σ=[t,some (.int m)]) ⟨none,rfl⟩ ?_ ?_
   ·rintro j x σ H1 R S hj s1 hx ⟨t,rfl⟩ k _
    obtain⟨d,ed,hd⟩:=l.get j x hx
    rw[getD_some ed] at k
    refine br_T ?_
    refine zbn1 (hd.same s1) (dm d (zcw3 ed)) (fun H2 s2=>?_)
    ac_nf
    exact k rfl _ _ s2 ⟨_,rfl⟩
   intro acc H1 f1 s1 h1
   rw[ze6,ll,zw9 (zj8 m)] at h1
   refine zx4 h1 ?_
   rw[zag5]
   ac_nf
   exact q _ s1
  ·have q:=q _ (Same.refl _)
   rw[decide_eq_false h0] at q
   ac_nf
   exact q
 all_goals (ac_nf;refine zb9 (br_F ?_);ac_nf;refine br_T ?_;ac_nf;exact q _ (Same.refl _))
theorem zcc2{r:Addr}{n:Nat}{g:Nat->Nat->Int}(G:zf0 H r ps n m g):ShV H (.ref r) (.list ((List.range n).map fun i=>.list ((List.range m).map fun j=>.int (g i j)))):=by
 refine .lst G.out (ShL.idx (by rw[zcv8,zcv8,zcx6,G.len]) fun i x d h1 h2=>?_)
 rw[zcw0] at h1 h2
 obtain⟨p,ep,rfl⟩:=zcw4.mp h1
 obtain⟨k,ek,rfl⟩:=zcw4.mp h2
 obtain rfl:k=i:=by have:=(zcv9.mp ek).2;rw[List.getElem_range] at this;exact this.symm
 refine .lst (G.row k p ep) (ShL.idx (by rw[zd3,zcv8,zcx6]) fun j y e g1 g2=>?_)
 rw[zcw0] at g2
 obtain⟨k',ek',rfl⟩:=zcw4.mp g2
 have hl:=(zcv9.mp ek').1
 obtain rfl:k'=j:=by have:=(zcv9.mp ek').2;rw[List.getElem_range] at this;exact this.symm
 rw[zcx6] at hl
 rw[ze5 hl] at g1
 cases g1
 exact .int _
theorem zbt6(n m:Nat)(g:Nat->Nat->Int):tabD n m (.list ((List.range n).map fun i=>.list ((List.range m).map fun j=>.int (g i j))))=true:=by
 show (decide ((((List.range n).map fun i=>PyData.list ((List.range m).map fun j=>.int (g i j))).length:Int)=n)&&((List.range n).map fun i=>PyData.list ((List.range m).map fun j=>.int (g i j))).all (zj8 m))=true
 rw[zcv8,zcx6,decide_eq_true rfl,zcz7,zcx2]
 intro d hd
 obtain⟨i,_,rfl⟩:=zcx0.mp hd
 show (decide ((((List.range m).map fun j=>PyData.int (g i j)).length:Int)=m)&&((List.range m).map fun j=>PyData.int (g i j)).all isW)=true
 rw[zcv8,zcx6,decide_eq_true rfl,zcz7,zcx2]
 intro e he
 obtain⟨j,_,rfl⟩:=zcx0.mp he
 rfl
theorem zcb2{n:Nat}(hn:n<=1000)(hm:m<=1000)(g:Nat->Nat->Int):sml (.list ((List.range n).map fun i=>.list ((List.range m).map fun j=>.int (g i j))))=true:=by
 show (decide (_<=1000)&&zaf1 _)=true
 rw[zcv8,zcx6,decide_eq_true hn,zcz7]
 refine zp1 fun d hd=>?_
 obtain⟨i,_,rfl⟩:=zcx0.mp hd
 show (decide (_<=1000)&&zaf1 _)=true
 rw[zcv8,zcx6,decide_eq_true hm,zcz7]
 refine zp1 fun d hd=>?_
 obtain⟨j,_,rfl⟩:=zcx0.mp hd
 rfl
theorem zbb7{r:Addr}{n:Nat}{g:Nat->Nat->Int}(h:zf0 H r ps n m g)(hn:n<=1000)(hm:m<=1000)(q:∀ H',Same H H'->Q (.bl true) H'):zi4 [.int n,.int m,.ref r] H Q E:=by
 refine zbo8 (zcc2 h) (zcb2 hn hm g) (fun H' s=>?_)
 rw[zbt6]
 exact q H' s
@[irreducible] noncomputable def zm1:Sp:=fun vs H Q _=>∃ (p:Addr) (a c:Nat) (f:Fd),vs=[.int a,.int c,.ref p]/\FdAt H p a c f/\f.Ok/\a<=10/\c<=10/\∀ H',Same H H'->Q (.bl true) H'
theorem zbb2{p:Addr}{a:Nat}{f:Fd}(F:FdAt H p a c f)(O:f.Ok)(h1:a<=10)(h2:c<=10)(q:∀ H',Same H H'->Q (.bl true) H'):zm1 [.int a,.int c,.ref p] H Q E:=by unfold zm1;exact⟨p,a,c,f,rfl,F,O,h1,h2,q⟩
theorem zba6(F:Fun K "is_field" "is_field" zad8 f fd)(N:Nm mg)(zcq4:Def P w K mg base CX0 3 "is_between" ["thing","least","most"] ze7)(zcq6:Def P w K mg base CX0 2 "is_from" ["thing","least"] zj1)(zcr7:Def P w K mg base CX0 3 "is_table" ["many_rows","many_numbers","rows"] zi4)(zcq7:Def P w K mg base CX0 1 "is_whole" ["thing"] zh4):FnOk P w K mg base CX0 4 f fd ["first","second","field"] zm1:=by
 refine F.ok zba5 (fun vs H Q E h=>by unfold zm1 at h;obtain⟨_,_,_,_,rfl,_⟩:=h;rfl) fun _ _ _ s H vs Q E hr h=>?_
 unfold zm1 at h
 obtain⟨p,a,c,f,rfl,F,O,h1,h2,q⟩:=h
 have hu:=hu40 hr
 refine⟨_,(za3 (psIf (zh6 (ptV (pB (zq2 (K:=K) rfl) N.isinstance_ zb8 (za0 (pq 2) (za0 (pTy N.tuple_ zp9) za1))))) (za4 (za9 zs9)) zb2)
   (za3 (psIf (ptW (zaf6 (ptC (oEqK (K:=K) rfl (by exact hu)) (pB (zf7 (K:=K) rfl) N.len_ zd2 (za0 (pq 2) za1)) za2) (zo1 (ptC (oEqK (K:=K) rfl (by exact hu)) (za7 (K:=K) rfl (pq 2) za2) ze1)))) (za4 (za9 (zu4 (pD zcq6 hr zb3 (za0 (za7 (K:=K) rfl (pq 2) za2) (za0 za2 za1))) (zr7 (pD zcq4 hr zb3 (za0 (za7 (K:=K) rfl (pq 2) za2) (za0 (zv6 uNeg (za7 (K:=K) rfl (pq 2) za2)) (za0 (za7 (K:=K) rfl (pq 2) za2) za1)))))))) zb2)
   (za3 (psIf (ptW (zaf6 (ptC (oEqK (K:=K) rfl (by exact hu)) (pB (zf7 (K:=K) rfl) N.len_ zd2 (za0 (pq 2) za1)) za2) (zo1 (ptC (oEqK (K:=K) rfl (by exact hu)) (za7 (K:=K) rfl (pq 2) za2) ze1)))) (za4 (za9 (zu4 (pD zcq6 hr zb3 (za0 (za7 (K:=K) rfl (pq 2) za2) (za0 za2 za1))) (zr7 (pD zcq7 hr zb3 (za0 (za7 (K:=K) rfl (pq 2) za2) za1)))))) zb2)
   (za3 (psIf (ptW (zaf6 (ptC (oEqK (K:=K) rfl (by exact hu)) (pB (zf7 (K:=K) rfl) N.len_ zd2 (za0 (pq 2) za1)) za2) (zo1 (ptC (oEqK (K:=K) rfl (by exact hu)) (za7 (K:=K) rfl (pq 2) za2) ze1)))) (za4 (za9 (pD zcr7 hr zb3 (za0 (zb4 oAdd (pq 0) za2) (za0 (zb4 oAdd (pq 1) za2) (za0 (za7 (K:=K) rfl (pq 2) za2) za1)))))) zb2)
   (za4 (za9 zs9)))))),?_⟩
 cases f with
 | more wt t=>
  have F:H p=some (.tup [.str "more",.int wt,.int t]):=F
  obtain⟨o1,o2,o3⟩:1<=wt/\-wt<=t/\t<=wt:=O
  refine zae5 F ?_
  refine zb9 (br_T ?_)
  refine zp6 F ?_
  refine zk2 rfl ?_
  refine zb1 (v:=.str "more") F rfl ?_
  refine zk2 rfl ?_
  refine zb1 (v:=.int wt) F rfl ?_
  refine zcg3 ?_
  refine zk2 o1 ?_
  refine zb1 (v:=.int t) F rfl ?_
  refine zb1 (v:=.int wt) F rfl ?_
  refine zb1 (v:=.int wt) F rfl ?_
  refine zbn7 ?_
  rw[decide_eq_true ⟨o2,o3⟩]
  ac_nf
  exact q _ (Same.refl _)
 | lead wt l=>
  have F:H p=some (.tup [.str "lead",.int wt,.int l]):=F
  have O:1<=wt:=O
  refine zae5 F ?_
  refine zb9 (br_T ?_)
  refine zp6 F ?_
  refine zk2 rfl ?_
  refine zb1 (v:=.str "lead") F rfl ?_
  refine zl7 (by decide) ?_
  refine zp6 F ?_
  refine zk2 rfl ?_
  refine zb1 (v:=.str "lead") F rfl ?_
  refine zk2 rfl ?_
  refine zb1 (v:=.int wt) F rfl ?_
  refine zcg3 ?_
  refine zk2 O ?_
  refine zb1 (v:=.int l) F rfl ?_
  refine isw_rd ?_
  ac_nf
  exact q _ (Same.refl _)
 | tab g=>
  obtain⟨q',ps,F,G⟩:=F
  refine zae5 F ?_
  refine zb9 (br_T ?_)
  refine zp6 F ?_
  refine zl7 (by show ¬ ((2:Nat):Int)=3;decide) ?_
  refine br_F ?_
  refine zp6 F ?_
  refine zl7 (by show ¬ ((2:Nat):Int)=3;decide) ?_
  refine br_F ?_
  refine zp6 F ?_
  refine zk2 rfl ?_
  refine zb1 (v:=.str "table") F rfl ?_
  refine zk2 rfl ?_
  refine zb1 (v:=.ref q') F rfl ?_
  refine zbb7 (n:=a+1) (m:=c+1) G (by rfl') (by rfl') (fun H1 s1=>?_)
  ac_nf
  exact q _ s1
@[irreducible] noncomputable def zk6:Sp:=fun vs H Q _=>∃ x y:Int,vs=[.int x,.int y]/\Q (.bl (decide ((0<=x/\x<=10)/\0<=y/\y<=10))) H
theorem zaw4{x y:Int}(q:Q (.bl (decide ((0<=x/\x<=10)/\0<=y/\y<=10))) H):zk6 [.int x,.int y] H Q E:=by unfold zk6;exact⟨x,y,rfl,q⟩
theorem zaw8(F:Fun K "are_hosts" "are_hosts" zy4 f fd)(N:Nm mg){zcs2:Tok}(c_MOST_HOSTS:mg "MOST_HOSTS"=some (.int 10 zcs2))(zcq4:Def P w K mg base CX0 3 "is_between" ["thing","least","most"] ze7):FnOk P w K mg base CX0 4 f fd ["first","second"] zk6:=by
 refine F.ok zaw3 (fun vs H Q E h=>by unfold zk6 at h;obtain⟨_,_,rfl,_⟩:=h;rfl) fun _ _ _ s H vs Q E hr h=>?_
 unfold zk6 at h
 obtain⟨x,y,rfl,q⟩:=h
 refine⟨_,(za4 (za9 (zu4 (pD zcq4 hr zb3 (za0 (pq 0) (za0 za2 (za0 (zbb4 (v:=.int 10) rfl c_MOST_HOSTS ⟨_,rfl⟩) za1)))) (zr7 (pD zcq4 hr zb3 (za0 (pq 1) (za0 za2 (za0 (zbb4 (v:=.int 10) rfl c_MOST_HOSTS ⟨_,rfl⟩) za1)))))))),?_⟩
 refine zbn7 ?_
 refine zc8 (fun h=>?_) (fun h=>?_)
 ·ac_nf
  refine zbn7 ?_
  ac_nf
  rw[zbk0 h] at q
  exact q
 ·ac_nf
  rw[zbh8 h] at q
  exact q
@[irreducible] noncomputable def zm5:Sp:=fun vs H Q _=>∃ (b l:Addr) (ps:List Addr) (a c:Nat) (fs:List Fd),vs=[.ref b]/\zj2 H b l ps a c fs/\OkB a c fs/\Q (.bl true) H
theorem zbd2{b:Addr}{a:Nat}{fs:List Fd}(B:zj2 H b l ps a c fs)(O:OkB a c fs)(q:Q (.bl true) H):zm5 [.ref b] H Q E:=by unfold zm5;exact⟨b,l,ps,a,c,fs,rfl,B,O,q⟩
theorem zaz9(F:Fun K "has_size" "has_size" zad7 f fd)(N:Nm mg){zcr9:Tok}(c_MOST_FIELDS:mg "MOST_FIELDS"=some (.int 5 zcr9))(zct3:Def P w K mg base CX0 4 "are_hosts" ["first","second"] zk6):FnOk P w K mg base CX0 5 f fd ["battle"] zm5:=by
 refine F.ok zbc2 (fun vs H Q E h=>by unfold zm5 at h;obtain⟨_,_,_,_,_,_,rfl,_⟩:=h;rfl) fun _ _ _ s H vs Q E hr h=>?_
 unfold zm5 at h
 obtain⟨b,l,ps,a,c,fs,rfl,B,⟨⟨o1,o2⟩,o3,o4⟩,q⟩:=h
 have bl:=B.len
 refine⟨_,(za4 (za9 (zu4 (pD zct3 hr zb3 (za0 (za7 (K:=K) rfl (pq 0) za2) (za0 (za7 (K:=K) rfl (pq 0) za2) za1))) (zr7 (zcm1 oLe oLe za2 (pB (zf7 (K:=K) rfl) N.len_ zd2 (za0 (za7 (K:=K) rfl (pq 0) za2) za1)) (zbb4 (v:=.int 5) rfl c_MOST_FIELDS ⟨_,rfl⟩)))))),?_⟩
 refine zb1 (v:=.int a) B.out rfl ?_
 refine zb1 (v:=.int c) B.out rfl ?_
 refine zaw4 ?_
 rw[decide_eq_true ⟨⟨by rfl',by rfl'⟩,by rfl',by rfl'⟩]
 refine br_T ?_
 refine zb1 (v:=.ref l) B.out rfl ?_
 refine zc5 B.lst ?_
 rw[zcv8,bl]
 refine zk2 (by rfl') ?_
 ac_nf
 rw[decide_eq_true (by rfl')]
 exact q
@[irreducible] noncomputable def zh8:Sp:=fun vs H Q _=>∃ (b l:Addr) (ps:List Addr) (a c:Nat) (fs:List Fd),vs=[.ref b]/\zj2 H b l ps a c fs/\OkB a c fs/\∀ H',Same H H'->Q .non H'
theorem zal4{b:Addr}{a:Nat}{fs:List Fd}(B:zj2 H b l ps a c fs)(O:OkB a c fs)(q:∀ H',Same H H'->Q .non H'):zh8 [.ref b] H Q E:=by unfold zh8;exact⟨b,l,ps,a,c,fs,rfl,B,O,q⟩
theorem zam0(F:Fun K "look_battle" "look_battle" zs3 f fd)(N:Nm mg)(zcu3:Def P w K mg base CX0 5 "has_size" ["battle"] zm5)(zcu4:Def P w K mg base CX0 4 "is_field" ["first","second","field"] zm1):FnOk P w K mg base CX0 6 f fd ["battle"] zh8:=by
 refine F.ok zq4 (fun vs H Q E h=>by unfold zh8 at h;obtain⟨_,_,_,_,_,_,rfl,_⟩:=h;rfl) fun _ _ _ s H vs Q E hr h=>?_
 unfold zh8 at h
 obtain⟨b,l,ps,a,c,fs,rfl,B,O,q⟩:=h
 refine⟨_,(za3 (psIf (zh6 (ptV (pD zcu3 hr zb3 (za0 (pq 0) za1)))) (za4 zas5) zb2)
   (za4 (zp5 PassesOwn.never rfl (zaz3 (K:=K) rfl N.enumerate_ (za0 (za7 (K:=K) rfl (pq 0) za2) za1)) (zi6 (K:=K) (n:=2) rfl rfl (zb7 (za5 (i:=1) zq4.nd rfl (by eq_refl)) (zb7 (za5 (i:=2) zq4.nd rfl (by eq_refl)) zj0))) (za4 (psIf (zh6 (ptV (pD zcu4 hr zb3 (za0 (za7 (K:=K) rfl (pq 0) za2) (za0 (za7 (K:=K) rfl (pq 0) za2) (za0 (pq 2) za1)))))) (za4 zas5) zb2))))),?_⟩
 refine zbd2 B O ?_
 refine zb9 (br_T ?_)
 refine zb1 (v:=.ref l) B.out rfl ?_
 refine zar4 B.lst ?_
 refine zaa1 (xs:=ps.map V.ref) (fun i σ H1=>∃ x y:Option V,σ=[some (.ref b),x,y]/\Same H H1) ?_ ?_ ?_ ?_
 ·exact⟨_,_,rfl,Same.refl _⟩
 ·rintro i σ H1 _ ⟨_,_,_,s1⟩
  exact SqL.of (s1 _ _ B.lst)
 ·rintro i v σ H1 p H2 hi ⟨x,y,rfl,s1⟩ f2 s2 h2
  have s12:=s1.trans s2
  obtain⟨p',f,rfl,e1,e2,hf,ok⟩:=(B.same s12).elt hi
  refine zd8 h2 ?_
  refine zb1 (v:=.int a) (s12 _ _ B.out) rfl ?_
  refine zb1 (v:=.int c) (s12 _ _ B.out) rfl ?_
  refine zbb2 hf ok O.1.1 O.1.2 (fun H3 s3=>?_)
  refine zb9 (br_T ?_)
  ac_nf
  exact⟨_,_,rfl,s12.trans s3⟩
 ·rintro σ H1 ⟨x,y,rfl,s1⟩
  ac_nf
  exact q _ s1
noncomputable def zc0(H:Hp)(a:Addr)(b:Int):Prop:=∃ x y z:Int,H a=some (.lst [.int x,.int y,.int z])/\(y=1∨(y=0/\0<=x/\x<2147483629))/\0<=z/\z<=b
theorem zc0.same{H H':Hp}{a:Addr}{b:Int}(h:zc0 H a b)(s:Same H H'):zc0 H' a b:=by
 obtain⟨x,y,z,e,r⟩:=h
 exact⟨x,y,z,s _ _ e,r⟩
local macro_rules | `(tactic| walk_at "la")=>`(tactic| first|assumption|(refine zc0.same (H:=?H) ?l ?s;(case s=>assumption);(case l=>walk_at "la"))|fail "la")
theorem zc0.up{a:Addr}{b c:Int}(h:zc0 H a b)(l:b<=c):zc0 H a c:=by
 obtain⟨x,y,z,e1,e2,e3,e4⟩:=h
 exact⟨x,y,z,e1,e2,e3,by rfl'⟩
theorem zc0.ne{H:Hp}{a p:Addr}{b:Int}(h:zc0 H a b)(f:H p=none):p≠a:=by
 obtain⟨x,y,z,e,_⟩:=h
 exact Ne.symm (za6 e f)
local macro_rules | `(tactic| walk_at "ne")=>`(tactic| first|assumption|(apply Ne.symm;assumption)|(refine zc0.ne (H:=?H) (b:=?b) ?l ?f;(case f=>assumption);(case l=>walk_at "la"))|fail "ne")
@[irreducible] noncomputable def zm4:Sp:=fun vs H Q _=>∃ n k:Int,vs=[.int n,.int k]/\0<=n/\n<2147483629/\0<=k/\k<=10000000/\∀ r:Int,0<=r->r<2147483587->Q (.int r) H
theorem zbg5{n k:Int}(h0:0<=n)(h1:n<2147483629)(h2:0<=k)(h3:k<=10000000)(q:∀ r:Int,0<=r->r<2147483587->Q (.int r) H):zm4 [.int n,.int k] H Q E:=by
 unfold zm4;exact⟨n,k,rfl,h0,h1,h2,h3,q⟩
theorem zbc1(F:Fun K "_law_mix" "_law_mix" zac5 f fd)(N:Nm mg):FnOk P w K mg base CX0 1 f fd ["_law_number","_law_k"] zm4:=by
 refine F.ok zai9 (fun vs H Q E h=>by unfold zm4 at h;obtain⟨n,k,rfl,_⟩:=h;rfl) fun _ _ _ s H vs Q E hr h=>?_
 unfold zm4 at h
 obtain⟨n,k,rfl,h1,h2,h3,h4,q⟩:=h
 refine⟨_,(za3 (psS (i:=2) zai9.nd (zb4 oMod (zb4 oMul (zb4 oAdd (zb4 oAdd (zb4 oMul (pq 0) (pq 0)) (zb4 oMul (pq 1) (pq 0))) (zb4 oMul (zb4 oMul za2 (pq 1)) (pq 1))) za2) za2))
   (za4 (za9 (zb4 oMod (zb4 oMul (pq 2) (pq 2)) za2)))),?_⟩
 repeat walk_at "st"
 ac_nf
 exact q _ (by assumption) (by assumption)
@[irreducible] noncomputable def zg7:Sp:=fun vs H Q _=>∃ (a:Addr) (z:Int),vs=[.ref a,.int 0]/\H a=some (.lst [.int z])/\Q (.int z) H
theorem zbl1{a:Addr}{z:Int}(h:H a=some (.lst [.int z]))(q:Q (.int z) H):zg7 [.ref a,.int 0] H Q E:=by unfold zg7;exact⟨a,z,rfl,h,q⟩
theorem zak2(F:Fun K "_law_cell_at" "_law_cell_at" zq6 f fd)(N:Nm mg):FnOk P w K mg base CX0 1 f fd ["_law_script","_law_k"] zg7:=by
 refine F.ok zaj6 (fun vs H Q E h=>by unfold zg7 at h;obtain⟨_,_,rfl,_⟩:=h;rfl) fun _ _ _ s H vs Q E hr h=>?_
 unfold zg7 at h
 obtain⟨a,z,rfl,h,q⟩:=h
 have hu:=hu40 hr
 refine⟨_,(za3 (psIf (ptC oLt (pq 1) (pB (zf7 (K:=K) rfl) N.len_ zd2 (za0 (pq 0) za1))) (za4 (za9 (za7 (K:=K) rfl (pq 0) (pq 1)))) zb2)
   (za4 (za9 za2))),?_⟩
 refine zc5 h ?_
 refine zk2 (by show (0:Int)<((1:Nat):Int);decide) ?_
 refine zb0 (v:=.int z) h rfl ?_
 ac_nf
 exact q
@[irreducible] noncomputable def zk7:Sp:=fun vs H Q _=>∃ (a:Addr) (z:Int),vs=[.ref a,.int 0]/\H a=some (.lst [.int z])/\∀ p H',H p=none->Same H H'->zc0 H' p 0->Q (.ref p) H'
theorem zck1{a:Addr}{z:Int}(h:H a=some (.lst [.int z]))(q:∀ p H',H p=none->Same H H'->zc0 H' p 0->Q (.ref p) H'):zk7 [.ref a,.int 0] H Q E:=by unfold zk7;exact⟨a,z,rfl,h,q⟩
theorem zay4(F:Fun K "_law_left" "_law_left" zy8 f fd)(N:Nm mg)(zcs0:Def P w K mg base CX0 1 "_law_cell_at" ["_law_script","_law_k"] zg7):FnOk P w K mg base CX0 2 f fd ["_law_script","_law_k"] zk7:=by
 refine F.ok zae8 (fun vs H Q E h=>by unfold zk7 at h;obtain⟨_,_,rfl,_⟩:=h;rfl) fun _ _ _ s H vs Q E hr h=>?_
 unfold zk7 at h
 obtain⟨a,z,rfl,h,q⟩:=h
 have hu:=hu40 hr
 refine⟨_,(za3 (psS (i:=2) zae8.nd (pD zcs0 hr zb3 (za0 (pq 0) (za0 (pq 1) za1))))
   (za3 (psIf (ptC oLt (pq 2) (zb4 oPow za2 za2)) (za4 (za9 (zg3 (za0 (zb4 oMod (pq 2) za2) (za0 za2 (za0 za2 za1)))))) zb2)
   (za4 (za9 (zg3 (za0 (zb4 oSub (pq 2) (zb4 oPow za2 za2)) (za0 za2 (za0 za2 za1)))))))),?_⟩
 refine zbl1 h ?_
 walk_at "st"
 refine zc8 (fun h=>?_) (fun h=>?_)
 ·repeat walk_at "st"
  ac_nf
  exact q _ _ (by assumption) (by assumption) ⟨_,_,_,by assumption,.inr ⟨rfl,by assumption,by assumption⟩,by rfl',by rfl'⟩
 ·repeat walk_at "st"
  ac_nf
  exact q _ _ (by assumption) (by assumption) ⟨_,_,_,by assumption,.inl rfl,by rfl',by rfl'⟩
@[irreducible] noncomputable def zc9:Sp:=fun vs H Q _=>∃ (a:Addr) (m b:Int),vs=[.ref a,.int m]/\zc0 H a b/\b<=1000000/\0<m/\m<10 ^ 60/\∀ (d:Int) H',0<=d->d<m->Chg a H H'->zc0 H' a (b+1)->Q (.int d) H'
theorem zc6{a:Addr}{m b:Int}(hL:zc0 H a b)(hb:b<=1000000)(h0:0<m)(h1:m<10 ^ 60)(q:∀ (d:Int) H',0<=d->d<m->Chg a H H'->zc0 H' a (b+1)->Q (.int d) H'):zc9 [.ref a,.int m] H Q E:=by
 unfold zc9;exact⟨a,m,b,rfl,hL,hb,h0,h1,q⟩
theorem zat5(F:Fun K "_law_draw" "_law_draw" zz7 f fd)(N:Nm mg)(zct2:Def P w K mg base CX0 1 "_law_mix" ["_law_number","_law_k"] zm4):FnOk P w K mg base CX0 2 f fd ["_law_left_here","_law_base"] zc9:=by
 refine F.ok zw0 (fun vs H Q E h=>by unfold zc9 at h;obtain⟨a,m,b,rfl,_⟩:=h;rfl) fun _ _ _ s H vs Q E hr h=>?_
 unfold zc9 at h
 obtain⟨a,m,b,rfl,⟨x,y,z,hl,hy,hz0,hz1⟩,hb,hm0,hm1,q⟩:=h
 have hu:=hu40 hr
 refine⟨_,(za3 (zu9 (zb4 oAdd (za7 (K:=K) rfl (pq 0) za2) za2) (zam1 (pq 0) za2 setM))
   (za3 (psIf (ptC (oEqK (K:=K) rfl (by exact hu)) (za7 (K:=K) rfl (pq 0) za2) za2) (za3 (psS (i:=2) zw0.nd (pD zct2 hr zb3 (za0 (za7 (K:=K) rfl (pq 0) za2) (za0 (za7 (K:=K) rfl (pq 0) za2) za1))))
   (za3 (psIf (ptC oGt (pq 1) (zb4 oPow za2 za2)) (za4 (za9 (zb4 oMod (zb4 oMul (pq 2) (zb4 oAdd (zb4 oPow (pD zct2 hr zb3 (za0 (za7 (K:=K) rfl (pq 0) za2) (za0 (zb4 oAdd (za7 (K:=K) rfl (pq 0) za2) za2) za1))) za2) za2)) (pq 1)))) zb2)
   (za4 (za9 (zb4 oMod (zb4 oMod (zb4 oMul (pq 2) (zb4 oAdd (pq 2) za2)) za2) (pq 1)))))) zb2)
   (za3 (psS (i:=3) zw0.nd (zb4 oMod (za7 (K:=K) rfl (pq 0) za2) (pq 1)))
   (za3 (zu9 (zb4 oDiv (za7 (K:=K) rfl (pq 0) za2) (pq 1)) (zam1 (pq 0) za2 setM))
   (za4 (za9 (pq 3))))))),?_⟩
 walk_at "st"
 refine zan3 hl (by rfl) (fun H1 c1 h1=>?_)
 have h1:H1 a=some (.lst [.int x,.int y,.int (z+1)]):=h1
 refine zb0 (v:=.int y) h1 rfl ?_
 refine zc8 (fun h=>?_) (fun h=>?_)
 ·obtain⟨hx0,hx1⟩:0<=x/\x<2147483629:=by rfl'
  subst h
  refine zb0 (v:=.int x) h1 rfl ?_
  refine zb0 (v:=.int (z+1)) h1 rfl ?_
  refine zbg5 hx0 hx1 (by rfl') (by rfl') (fun r r0 r1=>?_)
  walk_at "st"
  refine zc8 (fun g=>?_) (fun g=>?_)
  ·ac_nf
   refine zb0 (v:=.int x) h1 rfl ?_
   refine zb0 (v:=.int (z+1)) h1 rfl ?_
   refine zbg5 hx0 hx1 (by rfl') (by rfl') (fun r2 r20 r21=>?_)
   refine zci4 ⟨by decide,by decide,by rfl'⟩ ?_
   refine zai4 (by rfl') (by rfl') ?_
   refine zac4 (by rfl') (fun d d0 d1=>?_)
   ac_nf
   exact q _ _ d0 d1 c1 ⟨_,_,_,h1,.inr ⟨rfl,hx0,hx1⟩,by rfl',by rfl'⟩
  ·ac_nf
   refine zai4 (by rfl') (by rfl') ?_
   refine zac4 (by rfl') (fun d1 d10 d11=>?_)
   refine zac4 (by rfl') (fun d d0 d1=>?_)
   ac_nf
   exact q _ _ d0 d1 c1 ⟨_,_,_,h1,.inr ⟨rfl,hx0,hx1⟩,by rfl',by rfl'⟩
 ·have hy1:y=1:=by rfl'
  subst hy1
  refine zb0 (v:=.int x) h1 rfl ?_
  refine zac4 (by rfl') (fun d d0 d1=>?_)
  refine zb0 (v:=.int x) h1 rfl ?_
  walk_at "st"
  refine zan3 h1 (by rfl) (fun H2 c2 h2=>?_)
  ac_nf
  exact q _ _ d0 d1 (c1.trans c2) ⟨_,_,_,h2,.inl rfl,by rfl',by rfl'⟩
theorem zc0.chg{a p:Addr}{b:Int}(h:zc0 H a b)(c:Chg p H H')(n:a≠p):zc0 H' a b:=by
 obtain⟨x,y,z,e,r⟩:=h
 exact⟨x,y,z,c _ _ n e,r⟩
theorem zc0.some{H:Hp}{a:Addr}{b:Int}(h:zc0 H a b):∃ o,H a=some o:=by
 obtain⟨x,y,z,e,r⟩:=h
 exact⟨_,e⟩
theorem Chg.free'{a:Addr}(x:Chg a H H')(h:H' l=none)(n:l≠a):H l=none:=by
 cases e:H l with
 | none=>rfl
 | some o=>
  have:=x l o n e
  rw[h] at this
  cases this
noncomputable def Fd.Bd(a c:Nat):Fd->Prop
 | .more w _=>w<=2*10 ^ 28
 | .lead w _=>w<=2*10 ^ 28
 | .tab g=>∀ x y,x<=a->y<=c->-(2*10 ^ 28)<=g x y/\g x y<=2*10 ^ 28
@[irreducible] noncomputable def zk5:Sp:=fun vs H Q _=>∃ (a:Addr) (b:Int),vs=[.ref a]/\zc0 H a b/\b<=100000/\∀ (d:Int) H',-(10 ^ 28)<=d->d<=10 ^ 28->Chg a H H'->zc0 H' a (b+2)->Q (.int d) H'
theorem zcn6{a:Addr}{b:Int}(hL:zc0 H a b)(hb:b<=100000)(q:∀ (d:Int) H',-(10 ^ 28)<=d->d<=10 ^ 28->Chg a H H'->zc0 H' a (b+2)->Q (.int d) H'):zk5 [.ref a] H Q E:=by unfold zk5;exact⟨a,b,rfl,hL,hb,q⟩
theorem zaw5(F:Fun K "_law_some" "_law_some" zy6 f fd)(N:Nm mg)(zcq2:Def P w K mg base CX0 2 "_law_draw" ["_law_left_here","_law_base"] zc9):FnOk P w K mg base CX0 3 f fd ["_law_left_here"] zk5:=by
 refine F.ok zaf4 (fun vs H Q E h=>by unfold zk5 at h;obtain⟨_,_,rfl,_⟩:=h;rfl) fun _ _ _ s H vs Q E hr h=>?_
 unfold zk5 at h
 obtain⟨a,b,rfl,hL,hb,q⟩:=h
 refine⟨_,(za3 (psS (i:=1) zaf4.nd (za7 (K:=K) rfl (zg3 (za0 za2 (za0 za2 (za0 (zb4 oPow za2 za2) za1)))) (pD zcq2 hr zb3 (za0 (pq 0) (za0 za2 za1)))))
   (za4 (za9 (zb4 oSub (pD zcq2 hr zb3 (za0 (pq 0) (za0 (zb4 oAdd (zb4 oMul za2 (pq 1)) za2) za1))) (pq 1))))),?_⟩
 walk_at "st"
 refine zc3 (fun p1 H1 f1 s1 h1=>?_)
 refine zc6 (hL.same s1) (by rfl') (by rfl') (by rfl') (fun d1 H2 d10 d11 c2 L2=>?_)
 have h12:=c2 _ _ (hL.ne f1) h1
 refine zi3 h12 (by rfl') (by simp only[zcx5,zcz1];omega) ?_
 intro v hv
 obtain⟨m,rfl,m1,m2⟩:∃ m:Int,v=.int m/\1<=m/\m<=10 ^ 28:=by
  simp only[zcw8,zcx9,or_false] at hv
  rcases hv with rfl|rfl|rfl<;>exact⟨_,rfl,by rfl',by rfl'⟩
 clear hv
 refine zai4 (by decide) (by decide) ?_
 refine zc6 L2 (by rfl') (by rfl') (by rfl') (fun d3 H3 d30 d31 c3 L3=>?_)
 ac_nf
 exact q _ _ (by rfl') (by rfl') ((s1.toChg.trans c2).trans c3) (L3.up (by rfl'))
theorem zbw1{z:List Int}{n:Nat}(h:z.length=n):z.map V.int=rowV n fun y=>z.getD y 0:=by
 subst h
 apply zdb4
 intro i
 by_cases hi:i<z.length
 ·rw[ze5 hi,zcw0,zcv7 hi,zcw1,zcv7 hi]
  rfl
 ·rw[zcy7 (by simp;omega),zcy7 (by rw[zd3];omega)]
@[irreducible] noncomputable def zl2:Sp:=fun vs H Q _=>∃ (a:Addr) (b:Int) (n m:Nat),vs=[.ref a,.int n,.int m]/\zc0 H a b/\b<=90000/\n<=10/\m<=10/\∀ p f H',Chg a H H'->zc0 H' a (b+1000)->FdAt (nw H H') p n m f->f.Ok->f.Bd n m->Q (.ref p) H'
theorem zcl3{a:Addr}{b:Int}{n:Nat}(hL:zc0 H a b)(hb:b<=90000)(h1:n<=10)(h2:m<=10)(q:∀ p f H',Chg a H H'->zc0 H' a (b+1000)->FdAt (nw H H') p n m f->f.Ok->f.Bd n m->Q (.ref p) H'):zl2 [.ref a,.int n,.int m] H Q E:=by unfold zl2;exact⟨a,b,n,m,rfl,hL,hb,h1,h2,q⟩
theorem zau9(F:Fun K "_law_rule" "_law_rule" zz0 f fd)(N:Nm mg)(zcq2:Def P w K mg base CX0 2 "_law_draw" ["_law_left_here","_law_base"] zc9)(zct4:Def P w K mg base CX0 3 "_law_some" ["_law_left_here"] zk5):FnOk P w K mg base CX0 4 f fd ["_law_left_here","_law_first","_law_second"] zl2:=by
 refine F.ok zw1 (fun vs H Q E h=>by unfold zl2 at h;obtain⟨_,_,_,_,rfl,_⟩:=h;rfl) fun _ _ _ s H vs Q E hr h=>?_
 unfold zl2 at h
 obtain⟨a,b,n,m,rfl,hL,hb,h1,h2,q⟩:=h
 have hu:=hu40 hr
 refine⟨_,(za3 (psS (i:=3) zw1.nd (pD zcq2 hr zb3 (za0 (pq 0) (za0 za2 za1))))
   (za3 (psS (i:=4) zw1.nd (zb4 oAdd za2 (pD zcq2 hr zb3 (za0 (pq 0) (za0 (za7 (K:=K) rfl (zg3 (za0 za2 (za0 za2 (za0 (zb4 oPow za2 za2) za1)))) (pD zcq2 hr zb3 (za0 (pq 0) (za0 za2 za1)))) za1)))))
   (za3 (psIf (ptC oLt (pq 3) za2) (za4 (za9 (zf2 (za0 ze1 (za0 (pq 4) (za0 (zb4 oSub (pD zcq2 hr zb3 (za0 (pq 0) (za0 (zb4 oAdd (zb4 oMul za2 (pq 4)) za2) za1))) (pq 4)) za1)))))) zb2)
   (za3 (psIf (ptC (oEqK (K:=K) rfl (by exact hu)) (pq 3) za2) (za4 (za9 (zf2 (za0 ze1 (za0 (pq 4) (za0 (zb4 oSub (pD zcq2 hr zb3 (za0 (pq 0) (za0 (za7 (K:=K) rfl (zg3 (za0 za2 (za0 za2 za1))) (pD zcq2 hr zb3 (za0 (pq 0) (za0 za2 za1)))) za1))) za2) za1)))))) zb2)
   (za3 (psIf (ptC (oEqK (K:=K) rfl (by exact hu)) (pq 3) za2) (za4 (za9 (zf2 (za0 ze1 (za0 (ze8 (N:=["_law_x","_law_second","_law_left_here"]) (ks:=[none,some 2,some 0]) (zl6 N.range_ (za0 (zb4 oAdd (pq 1) za2) za1)) (fun _ _ _ _ _=>(za5 (i:=0) nb_15 rfl (by eq_refl))) (fun _ _ _ _ _=>zc7) (fun _ _ _ _ _=>(ze8 (N:=["_law_y","_law_left_here"]) (ks:=[none,some 2]) (zl6 N.range_ (za0 (zb4 oAdd (pq 1) za2) za1)) (fun _ _ _ _ _=>(za5 (i:=0) nb_16 rfl (by eq_refl))) (fun _ _ _ _ _=>zc7) (fun _ _ _ _ _=>(zb4 oSub (pD zcq2 hr zb3 (za0 (pq 1) (za0 za2 za1))) za2)) (.skip (.take rfl rfl (by eq_refl) .nil)))) (.skip (.take rfl rfl (by eq_refl) (.take rfl rfl (by eq_refl) .nil)))) za1))))) zb2)
   (za4 (za9 (zf2 (za0 ze1 (za0 (ze8 (N:=["_law_x","_law_second","_law_left_here"]) (ks:=[none,some 2,some 0]) (zl6 N.range_ (za0 (zb4 oAdd (pq 1) za2) za1)) (fun _ _ _ _ _=>(za5 (i:=0) nb_15 rfl (by eq_refl))) (fun _ _ _ _ _=>zc7) (fun _ _ _ _ _=>(ze8 (N:=["_law_y","_law_left_here"]) (ks:=[none,some 2]) (zl6 N.range_ (za0 (zb4 oAdd (pq 1) za2) za1)) (fun _ _ _ _ _=>(za5 (i:=0) nb_16 rfl (by eq_refl))) (fun _ _ _ _ _=>zc7) (fun _ _ _ _ _=>(pD zct4 hr zb3 (za0 (pq 1) za1))) (.skip (.take rfl rfl (by eq_refl) .nil)))) (.skip (.take rfl rfl (by eq_refl) (.take rfl rfl (by eq_refl) .nil)))) za1)))))))))),?_⟩
 refine zc6 hL (by rfl') (by rfl') (by rfl') (fun kd H1 k0 k1 c1 L1=>?_)
 walk_at "st"
 refine zc3 (fun q1 Ha fa sa ha=>?_)
 refine zc6 (L1.same sa) (by rfl') (by rfl') (by rfl') (fun d3 Hb d30 d31 cb Lb=>?_)
 have hab:=cb _ _ (L1.ne fa) ha
 refine zi3 hab (by rfl') (by simp only[zcx5,zcz1];omega) ?_
 intro v hv
 obtain⟨tp,rfl,tp1,tp2⟩:∃ t:Int,v=.int t/\1<=t/\t<=10 ^ 28:=by
  simp only[zcw8,zcx9,or_false] at hv
  rcases hv with rfl|rfl|rfl<;>exact⟨_,rfl,by rfl',by rfl'⟩
 clear hv hab ha
 refine zc6 Lb (by rfl') (by rfl') (by rfl') (fun d4 H2 d40 d41 c2 L2=>?_)
 have c02:Chg a H H2:=((c1.same sa).trans cb).trans c2
 obtain⟨wt,ewt,w0,w1⟩:∃ wt:Int,1+d4=wt/\1<=wt/\wt<=10 ^ 28:=⟨_,rfl,by rfl',by rfl'⟩
 ac_nf
 rw[ewt]
 refine zc8 (fun e0=>?_) (fun e0=>?_)
 ·ac_nf
  refine zai4 (by decide) (by decide) ?_
  refine zc6 L2 (by rfl') (by rfl') (by rfl') (fun d5 H5 d50 d51 c5 L5=>?_)
  refine zb6 (fun p6 H6 f6 s6 h6=>?_)
  ac_nf
  have c05:=c02.trans c5
  exact q p6 (.more wt (d5 - wt)) H6 (c05.same s6) ((L5.same s6).up (by rfl')) (zn9 (Chg.free' c05 f6 (L5.ne f6)) h6) ⟨w0,by rfl',by rfl'⟩ (show wt<=2*10 ^ 28 by rfl')
 refine zc8 (fun e1=>?_) (fun e1=>?_)
 ·ac_nf
  refine zc3 (fun p4 H4 f4 s4 h4=>?_)
  refine zc6 (L2.same s4) (by rfl') (by rfl') (by rfl') (fun d5 H5 d50 d51 c5 L5=>?_)
  have h45:=c5 _ _ (L2.ne f4) h4
  refine zi3 h45 (by rfl') (by simp only[zcx5,zcz1];omega) ?_
  intro v hv
  obtain⟨tq,rfl,tq1,tq2⟩:∃ t:Int,v=.int t/\1<=t/\t<=25:=by
   simp only[zcw8,zcx9,or_false] at hv
   rcases hv with rfl|rfl<;>exact⟨_,rfl,by rfl',by rfl'⟩
  clear hv
  refine zc6 L5 (by rfl') (by rfl') (by rfl') (fun d6 H6 d60 d61 c6 L6=>?_)
  refine zb6 (fun p7 H7 f7 s7 h7=>?_)
  ac_nf
  have c06:=((c02.same s4).trans c5).trans c6
  exact q p7 (.lead wt (d6 - 2)) H7 (c06.same s7) ((L6.same s7).up (by rfl')) (zn9 (Chg.free' c06 f7 (L6.ne f7)) h7) w0 (show wt<=2*10 ^ 28 by rfl')
 refine zc8 (fun e2=>?_) (fun e2=>?_)
 ·ac_nf
  refine ze2 (by decide) (by decide) (by rfl') (by rfl') ?_
  rw[show ((n:Int)+1 - 0).toNat=n+1 by rfl']
  refine zp3 (by rw[zdf5];omega) (fun r H3 f3 s3 h3=>?_)
  have nr:r≠a:=L2.ne f3
  have fr:H r=none:=Chg.free' c02 f3 nr
  refine⟨fun i ys σ H4=>∃ (t:Option V) (qs:List Addr) (zs:List (List Int)),σ=[t,some (.int m),some (.ref a)]/\ys=qs.map V.ref/\zc0 H4 a (b+20+50*i)/\Chg2 a r H2 H4/\qs.length=i/\zs.length=i/\∀ (k:Nat) q z,qs[k]?=some q->zs[k]?=some z->H q=none/\q≠r/\q≠a/\H4 q=some (.lst (z.map V.int))/\z.length=m+1/\∀ y∈z,-(10 ^ 28)<=y/\y<=10 ^ 28,?_,?_,?_⟩
  ·exact⟨none,[],[],rfl,rfl,(L2.same s3).up (by rfl'),s3.to2,rfl,rfl,fun k q z e=>by simp at e⟩
  ·rintro i mm ys σ H4 hi hm hl h4 ⟨t,qs,zs,rfl,rfl,L4,c4,ql,zl,pr⟩
   have hi:i<n+1:=hi
   refine br_T ?_
   refine ze2 (by decide) (by decide) (by rfl') (by rfl') ?_
   rw[show ((m:Int)+1 - 0).toNat=m+1 by rfl']
   refine zp3 (by rw[zdf5];omega) (fun acc H5 f5 s5 h5=>?_)
   have na:acc≠a:=L4.ne f5
   have nra:r≠acc:=za6 h4 f5
   refine⟨fun j ys σ H6=>∃ (t:Option V) (z:List Int),σ=[t,some (.ref a)]/\ys=z.map V.int/\z.length=j/\(∀ y∈z,-(10 ^ 28)<=y/\y<=10 ^ 28)/\zc0 H6 a (b+20+50*i+4*j)/\Chg2 a acc H4 H6,?_,?_,?_⟩
   ·exact⟨none,[],rfl,rfl,rfl,fun y hy=>by (cases hy),(L4.same s5).up (by rfl'),s5.to2⟩
   ·rintro j m' ys σ H6 hj hm' hl' h6 ⟨t,z,rfl,rfl,lz,bz,L6,c6⟩
    have hj:j<m+1:=hj
    refine br_T ?_
    refine zc6 L6 (by rfl') (by rfl') (by rfl') (fun d H7 d0 d1 c7 L7=>?_)
    refine zaa8 hj hm' hl' (c7 _ _ na h6) (fun H8 c8 h8=>?_)
    exact⟨_,z++[_],rfl,by rw[zcy6];rfl,by rw[zcw7,lz];rfl,(fun y hy=>by
     rcases zcy1.mp hy with hy|hy
     ·exact bz y hy
     ·rw[zcz6.mp hy];omega),(L7.chg c8 (Ne.symm na)).up (by rfl'),(c6.trans c7.toL).trans c8.toR⟩
   ·rintro ys σ H6 h6 ⟨t,z,rfl,rfl,lz,bz,L6,c6⟩
    have facc:H acc=none:=Chg.free' c02 (by
     cases e:H2 acc with
     | none=>rfl
     | some o=>
      have:=c4 _ _ na (Ne.symm nra) e
      rw[f5] at this
      cases this) na
    refine zaa8 hi hm hl (c6 _ _ nr nra h4) (fun H7 c7 h7=>?_)
    refine⟨_,qs++[acc],zs++[z],rfl,by rw[zcy6];rfl,(L6.chg c7 (Ne.symm nr)).up (by rfl'),fun x o z1 z2 e=>?_,by rw[zcw7,ql];rfl,by rw[zcw7,zl];rfl,fun k q z' g1 g2=>?_⟩
    ·have e4:=c4 _ _ z1 z2 e
     exact c7 _ _ z2 (c6 _ _ z1 (za6 e4 f5) e4)
    by_cases hk:k<qs.length
    ·rw[zcz0 hk] at g1
     rw[zcz0 (by rfl')] at g2
     obtain⟨y1,y2,y3,y4,y5,y6⟩:=pr k q z' g1 g2
     exact⟨y1,y2,y3,c7 _ _ y2 (c6 _ _ y3 (za6 y4 f5) y4),y5,y6⟩
    ·rw[zcz5 (by rfl')] at g1 g2
     have k0:k - qs.length=0:=by
      have:=(zcv9.mp g1).1
      simp at this;omega
     rw[k0] at g1
     rw[show k - zs.length=0 by rfl'] at g2
     cases g1
     cases g2
     exact⟨facc,Ne.symm nra,na,c7 _ _ (Ne.symm nra) h6,lz,bz⟩
  ·rintro ys σ H4 h4 ⟨t,qs,zs,rfl,rfl,L4,c4,ql,zl,pr⟩
   have c04:Chg a H H4:=fun x o z1 e=>c4 _ _ z1 (za6 e fr) (c02 _ _ z1 e)
   refine zb6 (fun p5 H5 f5 s5 h5=>?_)
   ac_nf
   refine q p5 (.tab fun x y=>(zs.getD x []).getD y 0) H5 (c04.same s5) ((L4.same s5).up (by rfl')) ⟨r,qs,zn9 (Chg.free' c04 f5 (L4.ne f5)) h5,zn9 fr (s5 _ _ h4),ql,fun i p e=>?_⟩ trivial (fun x y hx hy=>by
    obtain⟨z,ez⟩:∃ z,zs[x]?=some z:=⟨_,zcv7 (by rfl')⟩
    obtain⟨p,ep⟩:∃ p,qs[x]?=some p:=⟨_,zcv7 (by rfl')⟩
    obtain⟨y1,y2,y3,y4,y5,y6⟩:=pr x p z ep ez
    have e1:zs.getD x []=z:=by rw[zcw1,ez];rfl
    show -(2*10 ^ 28)<=(zs.getD x []).getD y 0/\(zs.getD x []).getD y 0<=2*10 ^ 28
    rw[e1]
    have hm:=y6 (z.getD y 0) (by rw[zcw1,zcv7 (by rfl')];exact zdb0 _)
    omega)
   obtain⟨z,ez⟩:∃ z,zs[i]?=some z:=⟨_,zcv7 (by have:=(zcv9.mp e).1;omega)⟩
   obtain⟨y1,y2,y3,y4,y5,_⟩:=pr i p z e ez
   have eg:zs.getD i []=z:=by rw[zcw1,ez];rfl
   show nw H H5 p=some (.lst (rowV (m+1) fun y=>(zs.getD i []).getD y 0))
   rw[eg,← zbw1 y5]
   exact zn9 y1 (s5 _ _ y4)
 ·ac_nf
  refine ze2 (by decide) (by decide) (by rfl') (by rfl') ?_
  rw[show ((n:Int)+1 - 0).toNat=n+1 by rfl']
  refine zp3 (by rw[zdf5];omega) (fun r H3 f3 s3 h3=>?_)
  have nr:r≠a:=L2.ne f3
  have fr:H r=none:=Chg.free' c02 f3 nr
  refine⟨fun i ys σ H4=>∃ (t:Option V) (qs:List Addr) (zs:List (List Int)),σ=[t,some (.int m),some (.ref a)]/\ys=qs.map V.ref/\zc0 H4 a (b+20+50*i)/\Chg2 a r H2 H4/\qs.length=i/\zs.length=i/\∀ (k:Nat) q z,qs[k]?=some q->zs[k]?=some z->H q=none/\q≠r/\q≠a/\H4 q=some (.lst (z.map V.int))/\z.length=m+1/\∀ y∈z,-(10 ^ 28)<=y/\y<=10 ^ 28,?_,?_,?_⟩
  ·exact⟨none,[],[],rfl,rfl,(L2.same s3).up (by rfl'),s3.to2,rfl,rfl,fun k q z e=>by simp at e⟩
  ·rintro i mm ys σ H4 hi hm hl h4 ⟨t,qs,zs,rfl,rfl,L4,c4,ql,zl,pr⟩
   have hi:i<n+1:=hi
   refine br_T ?_
   refine ze2 (by decide) (by decide) (by rfl') (by rfl') ?_
   rw[show ((m:Int)+1 - 0).toNat=m+1 by rfl']
   refine zp3 (by rw[zdf5];omega) (fun acc H5 f5 s5 h5=>?_)
   have na:acc≠a:=L4.ne f5
   have nra:r≠acc:=za6 h4 f5
   refine⟨fun j ys σ H6=>∃ (t:Option V) (z:List Int),σ=[t,some (.ref a)]/\ys=z.map V.int/\z.length=j/\(∀ y∈z,-(10 ^ 28)<=y/\y<=10 ^ 28)/\zc0 H6 a (b+20+50*i+4*j)/\Chg2 a acc H4 H6,?_,?_,?_⟩
   ·exact⟨none,[],rfl,rfl,rfl,fun y hy=>by (cases hy),(L4.same s5).up (by rfl'),s5.to2⟩
   ·rintro j m' ys σ H6 hj hm' hl' h6 ⟨t,z,rfl,rfl,lz,bz,L6,c6⟩
    have hj:j<m+1:=hj
    refine br_T ?_
    refine zcn6 L6 (by rfl') (fun d H7 d0 d1 c7 L7=>?_)
    refine zaa8 hj hm' hl' (c7 _ _ na h6) (fun H8 c8 h8=>?_)
    exact⟨_,z++[_],rfl,by rw[zcy6];rfl,by rw[zcw7,lz];rfl,(fun y hy=>by
     rcases zcy1.mp hy with hy|hy
     ·exact bz y hy
     ·rw[zcz6.mp hy];omega),(L7.chg c8 (Ne.symm na)).up (by rfl'),(c6.trans c7.toL).trans c8.toR⟩
   ·rintro ys σ H6 h6 ⟨t,z,rfl,rfl,lz,bz,L6,c6⟩
    have facc:H acc=none:=Chg.free' c02 (by
     cases e:H2 acc with
     | none=>rfl
     | some o=>
      have:=c4 _ _ na (Ne.symm nra) e
      rw[f5] at this
      cases this) na
    refine zaa8 hi hm hl (c6 _ _ nr nra h4) (fun H7 c7 h7=>?_)
    refine⟨_,qs++[acc],zs++[z],rfl,by rw[zcy6];rfl,(L6.chg c7 (Ne.symm nr)).up (by rfl'),fun x o z1 z2 e=>?_,by rw[zcw7,ql];rfl,by rw[zcw7,zl];rfl,fun k q z' g1 g2=>?_⟩
    ·have e4:=c4 _ _ z1 z2 e
     exact c7 _ _ z2 (c6 _ _ z1 (za6 e4 f5) e4)
    by_cases hk:k<qs.length
    ·rw[zcz0 hk] at g1
     rw[zcz0 (by rfl')] at g2
     obtain⟨y1,y2,y3,y4,y5,y6⟩:=pr k q z' g1 g2
     exact⟨y1,y2,y3,c7 _ _ y2 (c6 _ _ y3 (za6 y4 f5) y4),y5,y6⟩
    ·rw[zcz5 (by rfl')] at g1 g2
     have k0:k - qs.length=0:=by
      have:=(zcv9.mp g1).1
      simp at this;omega
     rw[k0] at g1
     rw[show k - zs.length=0 by rfl'] at g2
     cases g1
     cases g2
     exact⟨facc,Ne.symm nra,na,c7 _ _ (Ne.symm nra) h6,lz,bz⟩
  ·rintro ys σ H4 h4 ⟨t,qs,zs,rfl,rfl,L4,c4,ql,zl,pr⟩
   have c04:Chg a H H4:=fun x o z1 e=>c4 _ _ z1 (za6 e fr) (c02 _ _ z1 e)
   refine zb6 (fun p5 H5 f5 s5 h5=>?_)
   ac_nf
   refine q p5 (.tab fun x y=>(zs.getD x []).getD y 0) H5 (c04.same s5) ((L4.same s5).up (by rfl')) ⟨r,qs,zn9 (Chg.free' c04 f5 (L4.ne f5)) h5,zn9 fr (s5 _ _ h4),ql,fun i p e=>?_⟩ trivial (fun x y hx hy=>by
    obtain⟨z,ez⟩:∃ z,zs[x]?=some z:=⟨_,zcv7 (by rfl')⟩
    obtain⟨p,ep⟩:∃ p,qs[x]?=some p:=⟨_,zcv7 (by rfl')⟩
    obtain⟨y1,y2,y3,y4,y5,y6⟩:=pr x p z ep ez
    have e1:zs.getD x []=z:=by rw[zcw1,ez];rfl
    show -(2*10 ^ 28)<=(zs.getD x []).getD y 0/\(zs.getD x []).getD y 0<=2*10 ^ 28
    rw[e1]
    have hm:=y6 (z.getD y 0) (by rw[zcw1,zcv7 (by rfl')];exact zdb0 _)
    omega)
   obtain⟨z,ez⟩:∃ z,zs[i]?=some z:=⟨_,zcv7 (by have:=(zcv9.mp e).1;omega)⟩
   obtain⟨y1,y2,y3,y4,y5,_⟩:=pr i p z e ez
   have eg:zs.getD i []=z:=by rw[zcw1,ez];rfl
   show nw H H5 p=some (.lst (rowV (m+1) fun y=>(zs.getD i []).getD y 0))
   rw[eg,← zbw1 y5]
   exact zn9 y1 (s5 _ _ y4)
@[irreducible] noncomputable def zi0:Sp:=fun vs H Q _=>∃ (a:Addr) (b:Int) (t:Nat),vs=[.ref a,.int t,.int 5]/\t<=10/\zc0 H a b/\b<=1000/\∀ bt l ps n m fs H',Chg a H H'->zc0 H' a (b+10000)->zj2 (rm a H') bt l ps n m fs->OkB n m fs->(∀ f∈fs,f.Bd n m)->Q (.ref bt) H'
theorem zas1{a:Addr}{b:Int}{t:Nat}(ht:t<=10)(hL:zc0 H a b)(hb:b<=1000)(q:∀ bt l ps n m fs H',Chg a H H'->zc0 H' a (b+10000)->zj2 (rm a H') bt l ps n m fs->OkB n m fs->(∀ f∈fs,f.Bd n m)->Q (.ref bt) H'):zi0 [.ref a,.int t,.int 5] H Q E:=by unfold zi0;exact⟨a,b,t,rfl,ht,hL,hb,q⟩
theorem zak8(F:Fun K "_law_battle" "_law_battle" zt6 f fd)(N:Nm mg)(zcq2:Def P w K mg base CX0 2 "_law_draw" ["_law_left_here","_law_base"] zc9)(zct5:Def P w K mg base CX0 4 "_law_rule" ["_law_left_here","_law_first","_law_second"] zl2):FnOk P w K mg base CX0 5 f fd ["_law_left_here","_law_most","_law_fields"] zi0:=by
 refine F.ok zq8 (fun vs H Q E h=>by unfold zi0 at h;obtain⟨_,_,_,rfl,_⟩:=h;rfl) fun _ _ _ s H vs Q E hr h=>?_
 unfold zi0 at h
 obtain⟨a,b,tt,rfl,ht,hL,hb,q⟩:=h
 refine⟨_,(za3 (psS (i:=3) zq8.nd (pD zcq2 hr zb3 (za0 (pq 0) (za0 (zb4 oAdd (pq 1) za2) za1))))
   (za3 (psS (i:=4) zq8.nd (pD zcq2 hr zb3 (za0 (pq 0) (za0 (zb4 oAdd (pq 1) za2) za1))))
   (za4 (za9 (zf2 (za0 (pq 3) (za0 (pq 4) (za0 (ze8 (N:=["_law_k","_law_left_here","_law_first","_law_second"]) (ks:=[none,some 0,some 3,some 4]) (zl6 N.range_ (za0 (zb4 oAdd za2 (pD zcq2 hr zb3 (za0 (pq 0) (za0 (pq 2) za1)))) za1)) (fun _ _ _ _ _=>(za5 (i:=0) nb_17 rfl (by eq_refl))) (fun _ _ _ _ _=>zc7) (fun _ _ _ _ _=>(pD zct5 hr zb3 (za0 (pq 1) (za0 (pq 2) (za0 (pq 3) za1))))) (.skip (.take rfl rfl (by eq_refl) (.take rfl rfl (by eq_refl) (.take rfl rfl (by eq_refl) .nil))))) za1)))))))),?_⟩
 refine zc6 hL (by rfl') (by rfl') (by rfl') (fun d1 H1 d10 d11 c1 L1=>?_)
 obtain⟨n,rfl⟩:∃ n:Nat,d1=n:=⟨d1.toNat,by rfl'⟩
 refine zc6 L1 (by rfl') (by rfl') (by rfl') (fun d2 H2 d20 d21 c2 L2=>?_)
 obtain⟨m,rfl⟩:∃ n:Nat,d2=n:=⟨d2.toNat,by rfl'⟩
 refine zc6 L2 (by rfl') (by rfl') (by rfl') (fun d3 H3 d30 d31 c3 L3=>?_)
 have c03:=(c1.trans c2).trans c3
 refine ze2 (by decide) (by decide) (by rfl') (by rfl') ?_
 obtain⟨z,ez⟩:∃ z:Nat,(1+d3 - 0).toNat=z:=⟨_,rfl⟩
 rw[ez]
 have hz:1<=z/\z<=5:=by rfl'
 refine zp3 (by rw[zdf5];omega) (fun acc H4 f4 s4 h4=>?_)
 have na:acc≠a:=L3.ne f4
 have facc:H acc=none:=Chg.free' c03 f4 na
 refine⟨fun j ys σ H5=>∃ (t:Option V) (qs:List Addr) (fs:List Fd),σ=[t,some (.ref a),some (.int n),some (.int m)]/\ys=qs.map V.ref/\qs.length=j/\fs.length=j/\zc0 H5 a (b+12+1000*j)/\Chg2 a acc H3 H5/\∀ (k:Nat) q f,qs[k]?=some q->fs[k]?=some f->FdAt (rm a (rm acc H5)) q n m f/\f.Ok/\f.Bd n m,?_,?_,?_⟩
 ·exact⟨none,[],[],rfl,rfl,rfl,rfl,(L3.same s4).up (by rfl'),s4.to2,fun k q f e=>by simp at e⟩
 ·rintro j m' ys σ H5 hj hm hl h5 ⟨t,qs,fs,rfl,rfl,ql,fl,L5,c5,pr⟩
  have hj:j<z:=hj
  obtain⟨oa,ea⟩:=L5.some
  refine br_T ?_
  refine zcl3 L5 (by rfl') (by rfl') (by rfl') (fun p6 f H6 c6 L6 F6 ok okb=>?_)
  refine zaa8 hj hm hl (c6 _ _ na h5) (fun H7 c7 h7=>?_)
  refine⟨_,qs++[p6],fs++[f],rfl,by rw[zcy6];rfl,by rw[zcw7,ql];rfl,by rw[zcw7,fl];rfl,(L6.chg c7 (Ne.symm na)).up (by rfl'),(c5.trans c6.toL).trans c7.toR,fun k p f' g1 g2=>?_⟩
  by_cases hk:k<qs.length
  ·rw[zcz0 hk] at g1
   rw[zcz0 (by rfl')] at g2
   obtain⟨y1,y2,y3⟩:=pr k p f' g1 g2
   refine⟨y1.same (fun b o e=>?_),y2,y3⟩
   have e1:=zae0 e
   have e2:=zae0 e1.2
   exact zi2 e1.1 (zi2 e2.1 (c7 _ _ e2.1 (c6 _ _ e1.1 e2.2)))
  ·rw[zcz5 (by rfl')] at g1 g2
   have k0:k - qs.length=0:=by
    have:=(zcv9.mp g1).1
    simp at this;omega
   rw[k0] at g1
   rw[show k - fs.length=0 by rfl'] at g2
   cases g1
   cases g2
   refine⟨F6.same (fun b o e=>?_),ok,okb⟩
   have e1:=zu3 e
   have n1:b≠a:=fun w=>by rw[w,ea] at e1;cases e1.1
   have n2:b≠acc:=fun w=>by rw[w,h5] at e1;cases e1.1
   exact zi2 n1 (zi2 n2 (c7 _ _ n2 e1.2))
 ·rintro ys σ H5 h5 ⟨t,qs,fs,rfl,rfl,ql,fl,L5,c5,pr⟩
  have c05:Chg a H H5:=fun b o z1 e=>c5 _ _ z1 (za6 e facc) (c03 _ _ z1 e)
  refine zb6 (fun p7 H7 f7 s7 h7=>?_)
  ac_nf
  exact q p7 acc qs n m fs H7 (c05.same s7) ((L5.same s7).up (by rfl')) ⟨zi2 (L5.ne f7) h7,zi2 na (s7 _ _ h5),by rfl',fun i p f g1 g2=>⟨((pr i p f g1 g2).1.same (Same.rm (zt4 acc H5))).same (Same.rm s7),(pr i p f g1 g2).2.1⟩⟩ ⟨⟨by rfl',by rfl'⟩,by rfl'⟩ (fun f hf=>by
   obtain⟨i,ei⟩:=zcx8 hf
   obtain⟨p,ep⟩:∃ p,qs[i]?=some p:=⟨_,zcv7 (by have:=(zcv9.mp ei).1;omega)⟩
   exact (pr i p f ep ei).2.2)
@[irreducible] noncomputable def zl5:Sp:=fun vs H Q _=>∃ (p:Addr) (a c x y:Nat) (f:Fd),vs=[.ref p,.int x,.int y]/\FdAt H p a c f/\x<=a/\y<=c/\∀ H',Same H H'->Q (.int (f.won x y)) H'
theorem zbu9{p:Addr}{a x y:Nat}{f:Fd}(F:FdAt H p a c f)(h1:x<=a)(h2:y<=c)(q:∀ H',Same H H'->Q (.int (f.won x y)) H'):zl5 [.ref p,.int x,.int y] H Q E:=by unfold zl5;exact⟨p,a,c,x,y,f,rfl,F,h1,h2,q⟩
theorem zau7(F:Fun K "_law_paid" "_law_paid" zy0 f fd)(N:Nm mg):FnOk P w K mg base CX0 1 f fd ["_law_field","_law_x","_law_y"] zl5:=by
 refine F.ok zay1 (fun vs H Q E h=>by unfold zl5 at h;obtain⟨_,_,_,_,_,_,rfl,_⟩:=h;rfl) fun _ _ _ s H vs Q E hr h=>?_
 unfold zl5 at h
 obtain⟨p,a,c,x,y,f,rfl,F,h1,h2,q⟩:=h
 have hu:=hu40 hr
 refine⟨_,(za3 (psIf (ptC (oEqK (K:=K) rfl (by exact hu)) (za7 (K:=K) rfl (pq 0) za2) ze1) (za4 (za9 (za7 (K:=K) rfl (za7 (K:=K) rfl (za7 (K:=K) rfl (pq 0) za2) (pq 1)) (pq 2)))) zb2)
   (za3 (psIf (ptC (oEqK (K:=K) rfl (by exact hu)) (za7 (K:=K) rfl (pq 0) za2) ze1) (za4 (za9 (za7 (K:=K) rfl (zg3 (za0 (zb4 oSub za2 (za7 (K:=K) rfl (pq 0) za2)) (za0 (za7 (K:=K) rfl (pq 0) za2) za1))) (pT cInt N.int_ zaw9 (za0 (peC oGe (zb4 oSub (pq 1) (pq 2)) (za7 (K:=K) rfl (pq 0) za2)) za1))))) zb2)
   (za4 (za9 (za7 (K:=K) rfl (zg3 (za0 (zb4 oSub za2 (za7 (K:=K) rfl (pq 0) za2)) (za0 (za7 (K:=K) rfl (pq 0) za2) (za0 (za7 (K:=K) rfl (pq 0) za2) za1)))) (zb4 oAdd (pT cInt N.int_ zaw9 (za0 (peC oGe (pq 1) (pq 2)) za1)) (pT cInt N.int_ zaw9 (za0 (peC oGt (pq 1) (pq 2)) za1)))))))),?_⟩
 cases f with
 | more wt t=>
  have F:H p=some (.tup [.str "more",.int wt,.int t]):=F
  refine zb1 (v:=.str "more") F rfl ?_
  refine zl7 (by decide) ?_
  refine zb1 (v:=.str "more") F rfl ?_
  refine zl7 (by decide) ?_
  refine zb1 (v:=.int wt) F rfl ?_
  refine zb1 (v:=.int t) F rfl ?_
  refine zb1 (v:=.int wt) F rfl ?_
  refine zc3 (fun p1 H1 f1 s1 h1'=>?_)
  have q:Q (.int (if x=y then t else if y<x then wt else -wt)) H1:=q _ s1
  ac_nf
  by_cases e:x=y
  ·rw[if_pos e] at q
   refine zb0 (v:=.int t) h1' ?_ q
   rw[decide_eq_true (show (y:Int)<=(x:Int) by rfl'),decide_eq_false (show ¬ (y:Int)<(x:Int) by rfl')]
   rfl
  ·rw[if_neg e] at q
   by_cases g:y<x
   ·rw[if_pos g] at q
    refine zb0 (v:=.int wt) h1' ?_ q
    rw[decide_eq_true (show (y:Int)<=(x:Int) by rfl'),decide_eq_true (show (y:Int)<(x:Int) by rfl')]
    rfl
   ·rw[if_neg g] at q
    refine zb0 (v:=.int (-wt)) h1' ?_ q
    rw[decide_eq_false (show ¬ (y:Int)<=(x:Int) by rfl'),decide_eq_false (show ¬ (y:Int)<(x:Int) by rfl')]
    show some (V.int (0 - wt))=some (V.int (-wt))
    congr 2
    omega
 | lead wt l=>
  have F:H p=some (.tup [.str "lead",.int wt,.int l]):=F
  refine zb1 (v:=.str "lead") F rfl ?_
  refine zl7 (by decide) ?_
  refine zb1 (v:=.str "lead") F rfl ?_
  refine zk2 rfl ?_
  refine zb1 (v:=.int wt) F rfl ?_
  refine zb1 (v:=.int wt) F rfl ?_
  refine zc3 (fun p1 H1 f1 s1 h1'=>?_)
  have q:Q (.int (if l<=(x:Int) - y then wt else -wt)) H1:=q _ s1
  refine zb1 (v:=.int l) (s1 _ _ F) rfl ?_
  ac_nf
  by_cases g:l<=(x:Int) - y
  ·rw[if_pos g] at q
   refine zb0 (v:=.int wt) h1' ?_ q
   rw[decide_eq_true g]
   rfl
  ·rw[if_neg g] at q
   refine zb0 (v:=.int (-wt)) h1' ?_ q
   rw[decide_eq_false g]
   show some (V.int (0 - wt))=some (V.int (-wt))
   congr 2
   omega
 | tab g=>
  obtain⟨q',ps,F,G⟩:=F
  obtain⟨r,er,hr'⟩:=G.some (i:=x) (by rfl')
  refine zb1 (v:=.str "table") F rfl ?_
  refine zk2 rfl ?_
  refine zb1 (v:=.ref q') F rfl ?_
  refine zb0 (v:=.ref r) G.out (zc1 (by rw[zcw0,er];rfl)) ?_
  refine zb0 (v:=.int (g x y)) hr' (zc1 (ze5 (by rfl'))) ?_
  ac_nf
  exact q _ (Same.refl _)
noncomputable def Off(b:Addr)(ts:List (Addr×Addr)):Prop:=∀ t∈ts,t.1≠b/\t.2≠b
theorem zl9.chg{m b:Addr}(M:zl9 H m ts ms)(c:Chg b H H')(n:m≠b)(o:Off b ts):zl9 H' m ts ms:=
 ⟨c _ _ n M.out,M.len,fun i t x h1 h2=>⟨c _ _ (o t (zcw3 h1)).1 (M.part i t x h1 h2).1,c _ _ (o t (zcw3 h1)).2 (M.part i t x h1 h2).2⟩⟩
theorem zl9.off{m b:Addr}(M:zl9 H m ts ms)(f:H b=none):m≠b/\Off b ts:=by
 refine⟨za6 M.out f,fun t ht=>?_⟩
 obtain⟨i,hi⟩:=zcx8 ht
 obtain⟨t',x,h1,h2,h3,h4⟩:=M.get (i:=i) (by have:=(zcv9.mp hi).1;have:=M.len;omega)
 rw[hi] at h1
 cases h1
 exact⟨za6 h3 f,za6 h4 f⟩
theorem zl9.push{m p q:Addr}{x:List Int×Int}(M:zl9 H m ts ms)(c:Chg m H H')(o:Off m ts)(h':H' m=some (.lst ((ts.map fun t=>V.ref t.1)++[.ref p])))(hp:H' p=some (.tup [.ref q,.int x.2]))(hq:H' q=some (.lst (x.1.map V.int))):zl9 H' m (ts++[(p,q)]) (ms++[x]):=by
 refine⟨by rw[h',zcy6];rfl,by rw[zcw7,zcw7,M.len];rfl,fun i t y h1 h2=>?_⟩
 by_cases hi:i<ts.length
 ·rw[zcz0 hi] at h1
  rw[zcz0 (by have:=M.len;omega)] at h2
  have:=o t (zcw3 h1)
  exact⟨c _ _ this.1 (M.part i t y h1 h2).1,c _ _ this.2 (M.part i t y h1 h2).2⟩
 ·rw[zcz5 (by rfl')] at h1
  rw[zcz5 (by have:=M.len;omega)] at h2
  have e0:i - ts.length=0:=by
   have:=(zcv9.mp h1).1
   simp at this;omega
  rw[e0] at h1
  rw[show i - ms.length=0 by have:=M.len;omega] at h2
  cases h1
  cases h2
  exact⟨hp,hq⟩
theorem Off.push{b p q:Addr}(o:Off b ts)(n1:p≠b)(n2:q≠b):Off b (ts++[(p,q)]):=fun t ht=>by
 rcases zcy1.mp ht with h|h
 ·exact o t h
 ·have:t=(p,q):=by simpa using h
  subst this
  exact⟨n1,n2⟩
theorem zcf6{α:Type}{p:α->Prop}{xs:List α}{y:α}(h:∀ x∈xs,p x)(hy:p y):∀ x∈xs++[y],p x:=fun x hx=>by
 rcases zcy1.mp hx with h' | h'
 ·exact h x h'
 ·have:x=y:=by simpa using h'
  subst this
  exact hy
@[irreducible] noncomputable def zl0:Sp:=fun vs H Q _=>∃ (a:Addr) (b:Int) (h f:Nat),vs=[.ref a,.int h,.int f]/\zc0 H a b/\b<=100000/\h<=40/\(1<=f/\f<=8)/\∀ l H' (ns:List Int),H l=none->Chg a H H'->zc0 H' a (b+10)->l≠a->H' l=some (.lst (ns.map V.int))->ns.length=f->ns.sum=h->(∀ x∈ns,0<=x)->Q (.ref l) H'
theorem zco1{a:Addr}{b:Int}{h f:Nat}(hL:zc0 H a b)(hb:b<=100000)(h1:h<=40)(h2:1<=f)(h3:f<=8)(q:∀ l H' (ns:List Int),H l=none->Chg a H H'->zc0 H' a (b+10)->l≠a->H' l=some (.lst (ns.map V.int))->ns.length=f->ns.sum=h->(∀ x∈ns,0<=x)->Q (.ref l) H'):zl0 [.ref a,.int h,.int f] H Q E:=by
 unfold zl0;exact⟨a,b,h,f,rfl,hL,hb,h1,⟨h2,h3⟩,q⟩
theorem zco0(ns:List Int)(k:Nat):(ns.drop k++ns.take k).sum=ns.sum:=by
 have:=congrArg List.sum (List.take_append_drop k ns)
 rw[List.sum_append] at this ⊢
 omega
theorem zaw0(F:Fun K "_law_plan" "_law_plan" zy5 f fd)(N:Nm mg)(zcq2:Def P w K mg base CX0 2 "_law_draw" ["_law_left_here","_law_base"] zc9):FnOk P w K mg base CX0 3 f fd ["_law_left_here","_law_hosts","_law_many"] zl0:=by
 refine F.ok zk8 (fun vs H Q E h=>by unfold zl0 at h;obtain⟨_,_,_,_,rfl,_⟩:=h;rfl) fun _ _ _ s H vs Q E hr h=>?_
 unfold zl0 at h
 obtain⟨a,b,h,f,rfl,hL,hb,h1,⟨h2,h3⟩,q⟩:=h
 refine⟨_,(za3 (psS (i:=3) zk8.nd (zg3 za1))
   (za3 (psS (i:=4) zk8.nd (pq 1))
   (za3 (zp5 PassesOwn.never rfl (zl6 N.range_ (za0 (zb4 oSub (pq 2) za2) za1)) (za5 (i:=5) zk8.nd rfl (by eq_refl)) (za3 (zz2 (zr5 (pq 3) (za0 (pD zcq2 hr zb3 (za0 (pq 0) (za0 (zb4 oAdd (pq 4) za2) za1))) za1)))
   (za4 (psS (i:=4) zk8.nd (zb4 oSub (pq 4) (za7 (K:=K) rfl (pq 3) (zv6 uNeg za2)))))))
   (za3 (zz2 (zr5 (pq 3) (za0 (pq 4) za1)))
   (za3 (psS (i:=6) zk8.nd (pD zcq2 hr zb3 (za0 (pq 0) (za0 (pq 2) za1))))
   (za4 (za9 (zb4 oAdd (zg1 (slXK (K:=K) rfl) (pq 3) (zn5 (pq 6)) zi8) (zg1 (slXK (K:=K) rfl) (pq 3) zi8 (zn5 (pq 6))))))))))),?_⟩
 refine zc3 (fun l H1 f1 s1 h1'=>?_)
 have n1:l≠a:=hL.ne f1
 refine ze2 (by decide) (by decide) (by rfl') (by rfl') ?_
 refine zf5 (fun i σ H2=>∃ (x y:Option V) (ns:List Int) (r:Int),σ=[some (.ref a),some (.int h),some (.int f),some (.ref l),some (.int r),x,y]/\Chg a H H2/\zc0 H2 a (b+i)/\H2 l=some (.lst (ns.map V.int))/\ns.length=i/\ns.sum+r=h/\0<=r/\r<=40/\∀ x∈ns,0<=x) ?_ ?_ ?_
 ·exact⟨_,_,[],h,rfl,s1.toChg,(hL.same s1).up (by rfl'),h1',rfl,by simp,by rfl',by rfl',by simp⟩
 ·rintro i σ H2 hi ⟨x0,y0,ns,r,rfl,c2,L2,e2,l2,t2,r0,r1,nn⟩
  have hi:i<8:=by rfl'
  refine zat4 e2 ?_
  refine zc6 L2 (by rfl') (by rfl') (by rfl') (fun d3 H3 d30 d31 c3 L3=>?_)
  have e3:=c3 _ _ n1 e2
  refine zax3 e3 (by rw[zcv8,zdf5];omega) (fun H4 c4 h4=>?_)
  have h4:H4 l=some (.lst ((ns++[d3]).map V.int)):=by rw[h4,zcy6];rfl
  refine zb0 (v:=.int d3) h4 (zar1 (n:=i) (by rw[zcv8,zcw7,l2];rfl) (by rw[zcw0,zcz5 (by rfl'),l2,Nat.sub_self];rfl)) ?_
  ac_nf
  have c23:Chg a H H3:=c2.trans c3
  refine⟨_,_,ns++[d3],r - d3,rfl,fun b o h1 e=>c4 _ _ (za6 e f1) (c23 _ _ h1 e),(L3.chg c4 (Ne.symm n1)).up (by rfl'),h4,by rw[zcw7,l2];rfl,by rw[List.sum_append];simp;omega,by rfl',by rfl',fun x hx=>?_⟩
  rcases zcy1.mp hx with hx|hx
  ·exact nn x hx
  ·have:x=d3:=by simpa using hx
   omega
 ·rintro σ H2 ⟨x0,y0,ns,r,rfl,c2,L2,e2,l2,t2,r0,r1,nn⟩
  refine zat4 e2 ?_
  refine zax3 e2 (by rw[zcv8,zdf5];omega) (fun H3 c3 h3'=>?_)
  have h3':H3 l=some (.lst ((ns++[r]).map V.int)):=by rw[h3',zcy6];rfl
  have L3:=L2.chg c3 (Ne.symm n1)
  refine zc6 L3 (by rfl') (by rfl') (by rfl') (fun at_ H4 a0 a1 c4 L4=>?_)
  have h4:=c4 _ _ n1 h3'
  refine zq1 (SqL.of h4) (fun p5 H5 f5 s5 h5=>?_)
  rw[zag2 (by rfl'),← List.map_drop] at h5
  refine zq1 (SqL.of (s5 _ _ h4)) (fun p6 H6 f6 s6 h6=>?_)
  rw[zah6 (by rfl'),← List.map_take] at h6
  refine zx5 (s6 _ _ h5) h6 (by rw[zcv8,zcv8,zda4,zda3,zdf5,zcw7,l2,zcy4];omega) (fun p7 H7 f7 s7 h7=>?_)
  ac_nf
  have s56:=s5.trans s6
  have L6:=L4.same s56
  have c06:Chg a H H6:=fun b o h1 e=>s56 _ _ (c4 _ _ h1 (c3 _ _ (za6 e f1) (c2 _ _ h1 e)))
  refine q p7 H7 ((ns++[r]).drop at_.toNat++(ns++[r]).take at_.toNat) (Chg.free' c06 f7 (L6.ne f7)) (c06.same s7) ((L6.same s7).up (by rfl')) (L6.ne f7) (by rw[h7,zcy6]) (by rw[zcw7,zda4,zda3,zcw7,l2,zcy4];omega) (by rw[zco0,List.sum_append];simp;omega) (fun x hx=>?_)
  have hx:x∈ns++[r]:=by
   rcases zcy1.mp hx with hx|hx
   ·exact zdc2 hx
   ·exact zdd5 hx
  rcases zcy1.mp hx with hx|hx
  ·exact nn x hx
  ·have:x=r:=by simpa using hx
   omega
theorem zcd3{j:Nat}{x:List Int×Int}(h:ms[j]?=some x)(i:Nat):sumG (flw (ms.take (j+1)) i)=addG (sumG (flw (ms.take j) i)) (((x.1.drop i).sum,x.1.getD i 0),x.2):=by
 unfold flw
 rw[zdf2,h,zcy6]
 exact zaa7 _ _
theorem zbw6(ms:List (List Int×Int))(i:Nat):(sumG (flw ms i)).length<=ms.length:=by
 have:=zq0 (flw ms i)
 unfold flw at this ⊢
 rwa [zcv8] at this
structure DsAt(H0 H:Hp)(l:Addr)(ds:List Addr)(g:Nat->List ((Int×Int)×Int)):Prop where
 fl:H0 l=none
 out:H l=some (.lst (ds.map V.ref))
 nd:ds.Nodup
 nin:l ∉ ds
 row:∀ (i:Nat) d,ds[i]?=some d->H0 d=none/\H d=some (.dT (dF pK (g i)))
theorem DsAt.put{H0:Hp}{d:Addr}{ds:List Addr}{g:Nat->List ((Int×Int)×Int)}{k:Nat}{n:List ((Int×Int)×Int)}(D:DsAt H0 H l ds g)(e:ds[k]?=some d)(c:Chg d H H')(h:H' d=some (.dT (dF pK n))):DsAt H0 H' l ds fun i=>if i=k then n else g i:=by
 refine⟨D.fl,c _ _ (fun z=>D.nin (z▸zcw3 e)) D.out,D.nd,D.nin,fun i d' e'=>?_⟩
 by_cases hi:i=k
 ·subst hi
  rw[e] at e'
  cases e'
  exact⟨(D.row i d e).1,by rw[h,if_pos rfl]⟩
 ·rw[if_neg hi]
  have ne:d'≠d:=fun z=>by
   subst z
   exact hi ((List.getElem?_inj (zcv9.mp e').1 D.nd).mp (e'.trans e.symm))
  exact⟨(D.row i d' e').1,c _ _ ne (D.row i d' e').2⟩
theorem DsAt.ext{H0:Hp}{ds:List Addr}{g g':Nat->List ((Int×Int)×Int)}(D:DsAt H0 H l ds g)(h:∀ i,i<ds.length->g i=g' i):DsAt H0 H l ds g':=
 ⟨D.fl,D.out,D.nd,D.nin,fun i d e=>⟨(D.row i d e).1,by rw[← h i (zcv9.mp e).1];exact (D.row i d e).2⟩⟩
@[irreducible] noncomputable def zh0:Sp:=fun vs H Q _=>∃ (m:Addr) (ts:List (Addr×Addr)) (ms:List (List Int×Int)) (f:Nat),vs=[.ref m]/\zl9 H m ts ms/\(1<=ms.length/\ms.length<64)/\f<=100/\(∀ x∈ms,x.1.length=f)/\∀ r rs xss H',Same H H'->StAt (nw H H') r rs xss->zbc7 ms f xss->Q (.ref r) H'
theorem zbf9{m:Addr}{f:Nat}(M:zl9 H m ts ms)(h1:1<=ms.length)(h2:ms.length<64)(h3:f<=100)(h4:∀ x∈ms,x.1.length=f)(q:∀ r rs xss H',Same H H'->StAt (nw H H') r rs xss->zbc7 ms f xss->Q (.ref r) H'):zh0 [.ref m] H Q E:=by
 unfold zh0;exact⟨m,ts,ms,f,rfl,M,⟨h1,h2⟩,h3,h4,q⟩
theorem zaq1(F:Fun K "_law_flows" "_law_flows" zw6 f fd)(N:Nm mg):FnOk P w K mg base CX0 1 f fd ["_law_mix_here"] zh0:=by
 refine F.ok zj3 (fun vs H Q E h=>by unfold zh0 at h;obtain⟨_,_,_,_,rfl,_⟩:=h;rfl) fun _ _ _ s H vs Q E hr h=>?_
 unfold zh0 at h
 obtain⟨m,ts,ms,f,rfl,M,⟨m1,m2⟩,hf,fl,q⟩:=h
 have hu:=hu40 hr
 have ml:=M.len
 refine⟨_,(za3 (psC (i:=1) (N:=["_law_place"]) (ks:=[none]) zj3.nd (ze4 (K:=K) rfl (za7 (K:=K) rfl (za7 (K:=K) rfl (pq 0) za2) za2)) (fun _ _ _ _ _=>(za5 (i:=0) nb_19 rfl (by eq_refl))) (fun _ _ _ _ _=>zc7) (fun _ _ _ _ _=>zak3) (.skip .nil))
   (za3 (zp5 PassesOwn.never rfl (ze4 (K:=K) rfl (pq 0)) (zi6 (K:=K) (n:=2) rfl rfl (zb7 (za5 (i:=2) zj3.nd rfl (by eq_refl)) (zb7 (za5 (i:=3) zj3.nd rfl (by eq_refl)) zj0))) (za4 (zp5 PassesOwn.never rfl (zl6 N.range_ (za0 (pB (zf7 (K:=K) rfl) N.len_ zd2 (za0 (pq 2) za1)) za1)) (za5 (i:=4) zj3.nd rfl (by eq_refl)) (za3 (psS (i:=5) zj3.nd (zf2 (za0 (pB (zbm4 (K:=K) rfl rfl) N.sum_ zan1 (za0 (zg1 (slXK (K:=K) rfl) (pq 2) (zn5 (pq 4)) zi8) za1)) (za0 (za7 (K:=K) rfl (pq 2) (pq 4)) za1))))
   (za4 (zbi8 (by exact hu) (za7 (K:=K) rfl (pq 1) (pq 4)) (pq 5) (zb4 oAdd (zaf9 (by exact hu) (za7 (K:=K) rfl (pq 1) (pq 4)) (pq 5) za2) (pq 3))))))))
   (za4 (za9 (zco2 (x0:="_law_flow") (N:=["_law_flow"]) (ks:=[none]) (ze4 (K:=K) rfl (pq 1)) (fun _ _ _ _ _=>(za5 (i:=0) nb_20 rfl (by eq_refl))) (fun _ _ _ _ _=>zc7) (fun _ _ _ _ _=>(ze8 (N:=["_law_rest","_law_sent","_law_flow"]) (ks:=[none,none,some 0]) (ze4 (K:=K) rfl (pB (cSortO rfl) N.sorted_ zaa4 (za0 (pq 0) za1))) (fun _ _ _ _ _=>(zi6 (K:=K) (n:=2) rfl rfl (zb7 (za5 (i:=0) nb_21 rfl (by eq_refl)) (zb7 (za5 (i:=1) nb_21 rfl (by eq_refl)) zj0)))) (fun _ _ _ _ _=>zc7) (fun _ _ _ _ _=>(zf2 (za0 (pq 0) (za0 (pq 1) (za0 (peDGet (by exact hu) (pq 2) (zf2 (za0 (pq 0) (za0 (pq 1) za1)))) za1))))) (.skip (.skip (.take rfl rfl (by eq_refl) .nil))))) (.skip .nil)))))),?_⟩
 obtain⟨x0,ex0⟩:∃ x,ms[0]?=some x:=⟨_,zcv7 (by rfl')⟩
 obtain⟨t0,et0,at0,ht0,hp0⟩:=M.ix ex0
 have l0:=fl x0 (zcw3 ex0)
 refine zb0 (v:=.ref t0.1) M.out at0 ?_
 refine zb1 (v:=.ref t0.2) ht0 rfl ?_
 refine zc4 hp0 ?_
 refine zaf2 (n:=(x0.1.map V.int).length) (Wk.list (SqL.of hp0)) (by rw[zcv8,zdf5];omega) (fun j=>.dT []) (fun j σ=>∃ t:Option V,σ=[t]) ⟨none,rfl⟩ ?_ ?_
 ·rintro j v σ H4 R' S' hj s4 hx ⟨t,rfl⟩ k
  refine br_T ?_
  refine zch9 (fun p5 H5 f5 s5 h5=>?_)
  ac_nf
  exact k _ _ _ f5 s5 h5 ⟨_,rfl⟩
 intro l ds H1 F1
 rw[zcv8,l0] at F1
 have dl:=F1.len
 have D1:DsAt H H1 l ds fun i=>sumG (flw (ms.take 0) i):=⟨F1.facc,F1.out,F1.nd,F1.nin,fun i d e=>F1.row i d e⟩
 have s1:=F1.same
 clear F1
 refine zc4 (s1 _ _ M.out) ?_
 refine zn7 (xs:=ts.map fun t=>V.ref t.1) (fun j σ I=>∃ t u v w:Option V,σ=[some (.ref m),some (.ref l),t,u,v,w]/\Same H I/\DsAt H I l ds fun i=>sumG (flw (ms.take j) i)) ?_ ?_ ?_ ?_
 ·exact⟨_,_,_,_,rfl,s1,D1⟩
 ·rintro j σ I _ ⟨_,_,_,_,_,s2,_⟩
  exact SqL.of (s2 _ _ M.out)
 ·rintro j v σ I hj ⟨_,_,_,_,rfl,s2,D2⟩
  obtain⟨t,x,rfl,e1,e2,e3,e4⟩:=(M.same s2).elt hj
  have jl:=(zcv9.mp e2).1
  have e40:=(M.part j t x e1 e2).2
  have xl:=fl x (zcw3 e2)
  refine zd8 e3 ?_
  refine zc5 e4 ?_
  rw[zcv8,xl]
  refine ze2 (by rfl') (by rfl') (by rfl') (by rfl') ?_
  refine zf5 (fun k σ I2=>∃ v w:Option V,σ=[some (.ref m),some (.ref l),some (.ref t.2),some (.int x.2),v,w]/\Same H I2/\DsAt H I2 l ds fun i=>if i<k then sumG (flw (ms.take (j+1)) i) else sumG (flw (ms.take j) i)) ?_ ?_ ?_
  ·exact⟨_,_,rfl,s2,D2.ext fun i _=>by rw[if_neg (by rfl')]⟩
  ·rintro k σ I2 hk ⟨_,_,rfl,s3,D3⟩
   have hk:k<f:=by rfl'
   obtain⟨d,ed⟩:∃ d,ds[k]?=some d:=⟨_,zcv7 (by rfl')⟩
   obtain⟨dn,dh⟩:=D3.row k d ed
   rw[if_neg (by rfl')] at dh
   have e43:=s3 _ _ e40
   have kx:x.1[k]?=some (x.1.getD k 0):=by rw[zcw1,zcv7 (by rfl')];rfl
   refine zq1 (SqL.of e43) (fun p4 I4 f4 s4 h4=>?_)
   rw[zag2 (by rfl'),show ((0:Int)+(k:Int)).toNat=k by rfl',← List.map_drop] at h4
   refine zam7 h4 ?_
   refine zb0 (v:=.int (x.1.getD k 0)) (s4 _ _ e43) (int_at (by rfl') (by rw[show ((0:Int)+(k:Int)).toNat=k by rfl'];exact kx)) ?_
   refine zb6 (fun p5 I5 f5 s5 h5=>?_)
   have s35:=s4.trans s5
   have h5:I5 p5=some (.tup ((pK ((x.1.drop k).sum,x.1.getD k 0)).map kV)):=h5
   have dk:atI (ds.map V.ref) ((0:Int)+(k:Int))=some (.ref d):=ref_at (by rfl') (by rw[show ((0:Int)+(k:Int)).toNat=k by rfl'];exact ed)
   have lo:=s35 _ _ D3.out
   have dh5:=s35 _ _ dh
   refine zb0 (v:=.ref d) lo dk ?_
   refine zbu8 dh5 ?_
   refine zbs7 dh5 (k:=pK ((x.1.drop k).sum,x.1.getD k 0)) h5 ?_
   have ev:(valV (dF pK (sumG (flw (ms.take j) k))) (pK ((x.1.drop k).sum,x.1.getD k 0))).getD (V.int 0)=.int ((valG (sumG (flw (ms.take j) k)) ((x.1.drop k).sum,x.1.getD k 0)).getD 0):=by
    rw[zz3 zag9]
    cases valG (sumG (flw (ms.take j) k)) ((x.1.drop k).sum,x.1.getD k 0)<;>rfl
   rw[ev]
   refine zb0 (v:=.ref d) lo dk ?_
   refine zci1 dh5 (k:=pK ((x.1.drop k).sum,x.1.getD k 0)) h5 (by unfold dF;rw[zcv8,zdf5];have:=zbw6 (ms.take j) k;rw[zda3] at this;omega) (fun I6 c6 h6=>?_)
   rw[zak1 zag9] at h6
   ac_nf
   have D5:DsAt H I5 l ds fun i=>if i<k then sumG (flw (ms.take (j+1)) i) else sumG (flw (ms.take j) i):=⟨D3.fl,lo,D3.nd,D3.nin,fun i d e=>⟨(D3.row i d e).1,s35 _ _ (D3.row i d e).2⟩⟩
   refine⟨_,_,rfl,(s3.trans s35).chg dn c6,(D5.put ed c6 h6).ext fun i _=>?_⟩
   by_cases hi:i=k
   ·subst hi
    rw[if_pos rfl,if_pos (by rfl'),zcd3 e2]
    rfl
   ·rw[if_neg hi]
    by_cases h':i<k
    ·rw[if_pos h',if_pos (by rfl')]
    ·rw[if_neg h',if_neg (by rfl')]
  ·rintro σ I2 ⟨_,_,rfl,s3,D3⟩
   ac_nf
   exact⟨_,_,_,_,rfl,s3,D3.ext fun i hi=>by rw[if_pos (by rfl')]⟩
 ·rintro σ H2 ⟨_,_,_,_,rfl,s2,D2⟩
  rw[zcv8,ml,zdd2] at D2
  refine zc4 D2.out ?_
  refine zbi1 (Wk.list (SqL.of D2.out)) (by rw[zcv8,zdf5];omega) (fun acc j ys σ I=>∃ (t:Option V) (rs:List (Addr×List Addr)) (xss:List (List (Int×Int×Int))),σ=[t]/\ys=(rs.map fun r=>V.ref r.1)/\rs.length=j/\xss.length=j/\(∀ (i:Nat) r xs,rs[i]?=some r->xss[i]?=some xs->RwAt (rm acc (nw H2 I)) r.1 r.2 xs)/\(∀ (i:Nat) xs,xss[i]?=some xs->zy9 ms i xs/\xs.length<=ms.length)/\(rs.map (·.1)).Nodup) ?_ ?_ ?_ ?_
  ·intro acc I f1 s2 h1
   exact⟨none,[],[],rfl,rfl,rfl,rfl,fun i r xs e=>by simp at e,fun i xs e=>by simp at e,List.nodup_nil⟩
  ·rintro acc j ys σ I I' s' ⟨t,rs,xss,r1,r2,r3,r4,r5,r6,r7⟩
   exact⟨t,rs,xss,r1,r2,r3,r4,fun i r xs e1 e2=>(r5 i r xs e1 e2).same (Same.rm (zaz8 s')),r6,r7⟩
  ·rintro acc j v ys σ I R S hj facc s3 hacc hx ⟨t,rs,xss,rfl,rfl,rl,xl,rp,xp,nd⟩ kR _
   rw[zcw0] at hx
   obtain⟨d,ed,rfl⟩:=zcw4.mp hx
   have dh:=s3 _ _ (D2.row j d ed).2
   have dh':I d=some (.dT (((sumG (flw ms j)).map fun z=>(z.1,V.int z.2)).map fun z=>(pK z.1,z.2))):=by rw[dh,zcz3];rfl
   have sl:=zbw6 ms j
   refine br_T ?_
   refine soO_rd dh' (by rw[zcv8];omega) (fun p4 I4 bs ks f4 s4 pm od pr h4=>?_)
   have pm:ks.Perm ((sumG (flw ms j)).map (·.1)):=by rw[zcz3] at pm;exact pm
   have bl:bs.length=ks.length:=pr.length
   have kl:ks.length<=ms.length:=by have:=pm.length_eq;rw[zcv8] at this;omega
   have eg:∀ x∈ks,valG (sumG (flw ms j)) x=some ((valG (sumG (flw ms j)) x).getD 0):=fun x hx=>by
    obtain⟨n,e⟩:=zbf0 (pm.mem_iff.mp hx)
    rw[e];rfl
   refine zc4 h4 ?_
   refine zaf2 (n:=(bs.map V.ref).length) (Wk.list (SqL.of h4)) (by rw[zcv8,zdf5];omega) (fun j'=>.tup [.int (ks.getD j' (0,0)).1,.int (ks.getD j' (0,0)).2,.int ((valG (sumG (flw ms j)) (ks.getD j' (0,0))).getD 0)]) (fun j σ=>∃ t u:Option V,σ=[t,u,some (.ref d)]) ⟨none,none,rfl⟩ ?_ ?_
   ·rintro j' v σ H4 R' S' hj s5 hx ⟨t,u,rfl⟩ k
    rw[zcw0] at hx
    obtain⟨b,eb,rfl⟩:=zcw4.mp hx
    obtain⟨x,ex⟩:∃ x,ks[j']?=some x:=⟨ks[j']'(by have:=(zcv9.mp eb).1;omega),zcv7 _⟩
    have eb':=s5 _ _ (zr6 pr j' b x eb ex)
    rw[show ks.getD j' (0,0)=x by rw[zcw1,ex];rfl] at k
    have h4:=s5 _ _ (s4 _ _ dh)
    refine zd8 eb' ?_
    refine br_T ?_
    refine zb6 (fun p5 H5 f5 s5 h5=>?_)
    refine dgT_rd (s5 _ _ h4) (k:=pK x) h5 (by rw[zz3 zag9,eg x (zcw3 ex)];rfl) ?_
    refine zb6 (fun pa Ha fa sa ha=>?_)
    ac_nf
    exact k _ _ _ (s5.free fa) (s5.trans sa) ha ⟨_,_,rfl⟩
   intro acc4 ps H4 F4
   rw[zcv8] at F4
   have F4l:=F4.len
   have s34:=s4.trans F4.same
   ac_nf
   have R4:RwAt (nw I H4) acc4 ps (ks.map fun x=>(x.1,x.2,(valG (sumG (flw ms j)) x).getD 0)):=⟨zn9 (s4.free F4.facc) F4.out,by rw[zcv8];omega,fun j b x e1 e2=>by
    rw[zcw0] at e2
    obtain⟨y,ey,rfl⟩:=zcw4.mp e2
    obtain⟨z1,z2⟩:=F4.row j b e1
    rw[show ks.getD j (0,0)=y by rw[zcw1,ey];rfl] at z2
    exact zn9 (s4.free z1) z2⟩
   have ri:zy9 ms j (ks.map fun x=>(x.1,x.2,(valG (sumG (flw ms j)) x).getD 0)):=by
    have em:(ks.map fun x=>(x.1,x.2,(valG (sumG (flw ms j)) x).getD 0)).map keyT=ks:=by
     rw[zcz3]
     exact (zcy9 fun x _=>rfl).trans (List.map_id _)
    refine⟨by rw[em];exact od,fun k=>by rw[em];exact pm.mem_iff,fun z hz=>?_⟩
    obtain⟨x,hx,rfl⟩:=zcx0.mp hz
    exact eg x hx
   have xl1:(ks.map fun x=>(x.1,x.2,(valG (sumG (flw ms j)) x).getD 0)).length<=ms.length:=by rw[zcv8];exact kl
   generalize (ks.map fun x=>(x.1,x.2,(valG (sumG (flw ms j)) x).getD 0))=xs at R4 ri xl1
   refine kR _ _ _ s34 (fun I2 c2=>⟨_,rs++[(acc4,ps)],xss++[xs],rfl,by rw[zcy6];rfl,by rw[zcw7,rl];rfl,by rw[zcw7,xl];rfl,fun i r' xs' e1 e2=>?_,fun i xs' e=>?_,zcl9 (I1:=H4) nd (by rfl') rp (zu3 R4.out).1⟩)
   ·have up:Same (rm acc (nw H2 I)) (rm acc (nw H2 I2)):=fun b o z=>by
     obtain⟨z1,z2⟩:=zae0 z
     obtain⟨z3,z4⟩:=zu3 z2
     exact zi2 z1 (zn9 z3 (c2 _ _ z1 (s34 _ _ z4)))
    have new:Same (nw I H4) (rm acc (nw H2 I2)):=fun b o z=>by
     obtain⟨z3,z4⟩:=zu3 z
     have nb:b≠acc:=fun w=>by rw[w,hacc] at z3;cases z3
     exact zi2 nb (zn9 (s3.free z3) (c2 _ _ nb z4))
    rcases zf8 e1 with ⟨a1,a2⟩|⟨a1,rfl⟩
    ·rcases zf8 e2 with ⟨b1,b2⟩|⟨b1,_⟩
     ·exact (rp i r' xs' a2 b2).same up
     ·omega
    ·rcases zf8 e2 with ⟨b1,_⟩|⟨b1,rfl⟩
     ·omega
     ·exact R4.same new
   ·rcases zf8 e with ⟨b1,b2⟩|⟨b1,rfl⟩
    ·exact xp i xs' b2
    ·rw[b1,xl]
     exact⟨ri,xl1⟩
  ·rintro acc ys σ I facc s3 hacc ⟨t,rs,xss,rfl,rfl,rl,xl,rp,xp,nd⟩
   rw[zcv8,dl] at rl xl
   ac_nf
   have left:Same (nw H2 I) (nw H I):=zck4 s2
   exact q acc rs xss I (s2.trans s3) ⟨left _ _ (zn9 facc hacc),by rfl',fun i r xs e1 e2=>(rp i r xs e1 e2).same (Same.rm left),nd⟩ ⟨xl,xp⟩
noncomputable def optL(sd:Bool):List Int->Int
 | []=>0
 | [x]=>x
 | x :: y :: ys=>if sd then max x (optL sd (y :: ys)) else min x (optL sd (y :: ys))
theorem zas2(sd:Bool):∀ {xs:List Int},xs≠[]->optL sd xs∈xs
 | [],h=>absurd rfl h
 | [x],_=>.head _
 | x :: y :: ys,_=>by
  have ih:=zas2 sd (xs:=y :: ys) (by simp)
  show (if sd then max x (optL sd (y :: ys)) else min x (optL sd (y :: ys)))∈_
  cases sd
  ·by_cases h:x<=optL false (y :: ys)
   ·rw[if_neg zcw5,show min x (optL false (y :: ys))=x by rfl'];exact .head _
   ·rw[if_neg zcw5,show min x (optL false (y :: ys))=optL false (y :: ys) by rfl'];exact .tail _ ih
  ·by_cases h:x<=optL true (y :: ys)
   ·rw[if_pos rfl,show max x (optL true (y :: ys))=optL true (y :: ys) by rfl'];exact .tail _ ih
   ·rw[if_pos rfl,show max x (optL true (y :: ys))=x by rfl'];exact .head _
noncomputable def leS(sd:Bool)(x y:Int):Prop:=if sd then y<=x else x<=y
theorem zak6(sd:Bool):∀ {xs:List Int},∀ a∈xs,leS sd (optL sd xs) a
 | [],a,h=>by cases h
 | [x],a,h=>by
  rw[zcz6.mp h]
  unfold leS optL
  split<;>exact Int.le_refl _
 | x :: y :: ys,a,h=>by
  have ih:=zak6 sd (xs:=y :: ys)
  show leS sd (if sd then max x (optL sd (y :: ys)) else min x (optL sd (y :: ys))) a
  rcases zcw8.mp h with rfl|h
  ·cases sd
   ·show min a (optL false (y :: ys))<=a;omega
   ·show a<=max a (optL true (y :: ys));omega
  ·have:=ih a h
   cases sd
   ·have:optL false (y :: ys)<=a:=this
    show min x (optL false (y :: ys))<=a;omega
   ·have:a<=optL true (y :: ys):=this
    show a<=max x (optL true (y :: ys));omega
theorem zbp0{xs:List Int}{M:Int}(hm:M∈xs)(hb:∀ a∈xs,leS sd M a):M=optL sd xs:=by
 have h1:=hb _ (zas2 sd (xs:=xs) (fun e=>by rw[e] at hm;cases hm))
 have h2:=zak6 sd _ hm
 unfold leS at h1 h2
 cases sd
 ·have h1:M<=optL false xs:=h1
  have h2:optL false xs<=M:=h2
  omega
 ·have h1:optL true xs<=M:=h1
  have h2:M<=optL true xs:=h2
  omega
noncomputable def tabR(sd:Bool):List (Nat->Int)->Nat->Int
 | [],_=>0
 | [d],r=>d r
 | d :: e :: ds,r=>optL sd ((List.range (r+1)).map fun s=>d s+tabR sd (e :: ds) (r - s))
noncomputable def zav0(sd:Bool)(ds:List (Nat->Int))(r:Nat):List Int:=match ds with
 | []=>[]
 | [d]=>[d r]
 | d :: e :: ds=>(List.range (r+1)).map fun s=>d s+tabR sd (e :: ds) (r - s)
theorem zbu7(sd:Bool){ds:List (Nat->Int)}(h:ds≠[])(r:Nat):tabR sd ds r=optL sd (zav0 sd ds r)/\zav0 sd ds r≠[]:=by
 match ds,h with
 | [d],_=>exact⟨rfl,by simp[zav0]⟩
 | d :: e :: ds,_=>exact⟨rfl,by simp[zav0]⟩
noncomputable def wonS(sd:Bool)(f:Fd)(x c:Nat):Int:=if sd then f.won c x else f.won x c
noncomputable def dueS(sd:Bool)(f:Fd)(xs:List (Int×Int×Int))(c:Nat):Int:=(xs.map fun z=>z.2.2*wonS sd f z.2.1.toNat c).sum
noncomputable def zh5(sd:Bool)(fs:List Fd)(xss:List (List (Int×Int×Int))):List (Nat->Int):=(List.range fs.length).map fun k=>dueS sd (fs.getD k (.more 0 0)) (xss.getD k [])
theorem zap5{κ:Type}[DecidableEq κ]{ks:List κ}(nd:ks.Nodup)(g:κ->Int):∀ {zs:List (κ×Int)},(∀ z∈zs,z.1∈ks)->(ks.map fun k=>atG zs k*g k).sum=(zs.map fun z=>z.2*g z.1).sum
 | [],_=>by
  have:∀ ks:List κ,(ks.map fun k=>atG ([]:List (κ×Int)) k*g k).sum=0:=fun ks=>by
   induction ks with
   | nil=>rfl
   | cons k ks ih=>
    rw[zcz4,zdc0,ih]
    show (0:Int)*g k+0=0
    rw[Int.zero_mul];rfl
  exact this _
 | z :: zs,h=>by
  have ih:=zap5 nd g (zs:=zs) fun y hy=>h y (.tail _ hy)
  have e:(ks.map fun k=>atG (z :: zs) k*g k)=ks.map fun k=>(if z.1=k then z.2*g z.1 else 0)+atG zs k*g k:=zcy9 fun k _=>by
   rw[zap8,Int.add_mul]
   by_cases e:z.1=k
   ·rw[if_pos e,if_pos e,e]
   ·rw[if_neg e,if_neg e,Int.zero_mul]
  rw[e,zas0,ih,zcz4,zdc0]
  have o:=zba0 (p:=fun _=>true) (a:=z.1) (c:=z.2*g z.1) nd
  rw[List.filter_eq_self.mpr fun _ _=>rfl,if_pos ⟨h z (.head _),rfl⟩] at o
  rw[o]
theorem due_eq{f:Nat}{fd:Fd}(O:OkS ms h f)(hi:i<f)(R:zy9 ms i xs):dueS sd fd xs c=(ms.map fun x=>x.2*wonS sd fd (x.1.getD i 0).toNat c).sum:=by
 unfold dueS
 have e1:(xs.map fun z=>z.2.2*wonS sd fd z.2.1.toNat c)=(xs.map keyT).map fun k=>atG (flw ms i) k*wonS sd fd k.2.toNat c:=by
  rw[zcz3]
  exact zcy9 fun z hz=>by
   show z.2.2*wonS sd fd z.2.1.toNat c=atG (flw ms i) (keyT z)*wonS sd fd (keyT z).2.toNat c
   rw[← (zs5 O hi R hz).2.2.1];rfl
 rw[e1,zap5 R.1.1 (fun k=>wonS sd fd k.2.toNat c) fun z hz=>(R.2.1 _).mpr ((zh2 _).2 _ |>.mpr (zcx0.mpr ⟨z,hz,rfl⟩))]
 unfold flw
 rw[zcz3];rfl
noncomputable def zo3(ms:List (List Int×Int)):Int:=(ms.map fun x=>x.2).sum
theorem zax5{α:Type}{f g:α->Int}:∀ {xs:List α},(∀ x∈xs,f x<=g x)->(xs.map f).sum<=(xs.map g).sum
 | [],_=>Int.le_refl _
 | x :: xs,h=>by
  have:=zax5 (xs:=xs) fun y hy=>h y (.tail _ hy)
  have:=h x (.head _)
  rw[zcz4,zcz4,zdc0,zdc0]
  omega
noncomputable def wd(sd:Bool):Str:=if sd then "second" else "first"
@[irreducible] noncomputable def zl3:Sp:=fun vs H Q _=>∃ sd,vs=[.str (wd sd)]/\∀ H',Same H H'->Q .non H'
theorem zay6(q:∀ H',Same H H'->Q .non H'):zl3 [.str (wd sd)] H Q E:=by unfold zl3;exact⟨sd,rfl,q⟩
theorem zat9(F:Fun K "look_side" "look_side" zx9 f fd)(N:Nm mg):FnOk P w K mg base CX0 1 f fd ["side"] zl3:=by
 refine F.ok zax2 (fun vs H Q E h=>by unfold zl3 at h;obtain⟨_,rfl,_⟩:=h;rfl) fun _ _ _ s H vs Q E hr h=>?_
 unfold zl3 at h
 refine⟨_,(za4 (psIf (ptC (zcm3 (K:=K) rfl) (pq 0) (zf2 (za0 ze1 (za0 ze1 za1)))) (za4 zas5) zb2)),?_⟩
 obtain⟨sd,rfl,q⟩:=h
 refine zb6 (fun p1 H1 f1 s1 h1=>?_)
 refine zbr0 (SqT.of h1) rfl rfl ?_
 rw[show inV (.str (wd sd)) [.str "first",.str "second"]=true by cases sd<;>decide +kernel]
 refine br_F ?_
 ac_nf
 exact q _ s1
noncomputable def ownH(sd:Bool)(n m:Nat):Nat:=if sd then m else n
noncomputable def othH(sd:Bool)(n m:Nat):Nat:=if sd then n else m
@[irreducible] noncomputable def zl4:Sp:=fun vs H Q _=>∃ (b l:Addr) (n m:Nat) (sd:Bool),vs=[.ref b,.str (wd sd)]/\H b=some (.tup [.int n,.int m,.ref l])/\Q (.int (ownH sd n m)) H
theorem zat0{b:Addr}{n:Nat}(h:H b=some (.tup [.int n,.int m,.ref l]))(q:Q (.int (ownH sd n m)) H):zl4 [.ref b,.str (wd sd)] H Q E:=by unfold zl4;exact⟨b,l,n,m,sd,rfl,h,q⟩
theorem zav3(F:Fun K "own_hosts" "own_hosts" zy2 f fd)(N:Nm mg):FnOk P w K mg base CX0 1 f fd ["battle","side"] zl4:=by
 refine F.ok zat8 (fun vs H Q E h=>by unfold zl4 at h;obtain⟨_,_,_,_,_,rfl,_⟩:=h;rfl) fun _ _ _ s H vs Q E hr h=>?_
 unfold zl4 at h
 obtain⟨b,l,n,m,sd,rfl,h,q⟩:=h
 have hu:=hu40 hr
 refine⟨_,(za4 (za9 (peIf (ptC (zn6 (K:=K) rfl (by exact hu)) (pq 1) ze1) (za7 (K:=K) rfl (pq 0) za2) (za7 (K:=K) rfl (pq 0) za2)))),?_⟩
 cases sd
 ·ac_nf
  refine zk2 rfl ?_
  refine zb1 (v:=.int n) h rfl ?_
  ac_nf
  exact q
 ·ac_nf
  refine zl7 (by decide) ?_
  refine zb1 (v:=.int m) h rfl ?_
  ac_nf
  exact q
@[irreducible] noncomputable def zf1:Sp:=fun vs H Q _=>∃ (b l:Addr) (n m:Nat) (sd:Bool),vs=[.ref b,.str (wd sd)]/\H b=some (.tup [.int n,.int m,.ref l])/\Q (.int (othH sd n m)) H
theorem zq5{b:Addr}{n:Nat}(h:H b=some (.tup [.int n,.int m,.ref l]))(q:Q (.int (othH sd n m)) H):zf1 [.ref b,.str (wd sd)] H Q E:=by unfold zf1;exact⟨b,l,n,m,sd,rfl,h,q⟩
theorem zal2(F:Fun K "other_hosts" "other_hosts" zt1 f fd)(N:Nm mg):FnOk P w K mg base CX0 1 f fd ["battle","side"] zf1:=by
 refine F.ok zak9 (fun vs H Q E h=>by unfold zf1 at h;obtain⟨_,_,_,_,_,rfl,_⟩:=h;rfl) fun _ _ _ s H vs Q E hr h=>?_
 unfold zf1 at h
 obtain⟨b,l,n,m,sd,rfl,h,q⟩:=h
 have hu:=hu40 hr
 refine⟨_,(za4 (za9 (peIf (ptC (zn6 (K:=K) rfl (by exact hu)) (pq 1) ze1) (za7 (K:=K) rfl (pq 0) za2) (za7 (K:=K) rfl (pq 0) za2)))),?_⟩
 cases sd
 ·ac_nf
  refine zk2 rfl ?_
  refine zb1 (v:=.int m) h rfl ?_
  ac_nf
  exact q
 ·ac_nf
  refine zl7 (by decide) ?_
  refine zb1 (v:=.int n) h rfl ?_
  ac_nf
  exact q
theorem Fd.won_bd{f:Fd}{a x y:Nat}(O:f.Ok)(B:f.Bd a c)(hx:x<=a)(hy:y<=c):-(2*10 ^ 28)<=f.won x y/\f.won x y<=2*10 ^ 28:=by
 cases f with
 | more w t=>
  have O:1<=w/\-w<=t/\t<=w:=O
  have B:w<=2*10 ^ 28:=B
  unfold Fd.won
  dsimp only
  split
  ·omega
  ·split<;>omega
 | lead w l=>
  have O:1<=w:=O
  have B:w<=2*10 ^ 28:=B
  unfold Fd.won
  dsimp only
  split<;>omega
 | tab g=>exact B x y hx hy
noncomputable abbrev zx3(h:Nat)(xs:List (Int×Int×Int)):Prop:=xs.length<=1000/\∀ z∈xs,(0<=z.2.1/\z.2.1<=h)/\(0<=z.2.2/\z.2.2<=10 ^ 82)
@[irreducible] noncomputable def zam2:Sp:=fun vs H Q _=>∃ (p a:Addr) (n m c:Nat) (sd:Bool) (f:Fd) (bs:List Addr) (xs:List (Int×Int×Int)),vs=[.ref p,.str (wd sd),.ref a,.int c]/\FdAt H p n m f/\f.Ok/\f.Bd n m/\RwAt H a bs xs/\zx3 (ownH sd n m) xs/\c<=othH sd n m/\∀ H',Same H H'->Q (.int (dueS sd f xs c)) H'
theorem due_rd{p a:Addr}{n:Nat}{f:Fd}{bs:List Addr}(F:FdAt H p n m f)(O:f.Ok)(B:f.Bd n m)(R:RwAt H a bs xs)(ok:zx3 (ownH sd n m) xs)(hc:c<=othH sd n m)(q:∀ H',Same H H'->Q (.int (dueS sd f xs c)) H'):zam2 [.ref p,.str (wd sd),.ref a,.int c] H Q E:=by unfold zam2;exact⟨p,a,n,m,c,sd,f,bs,xs,rfl,F,O,B,R,ok,hc,q⟩
theorem zbj7{f:Fd}{k:Nat}(hk:k=xs.length):((List.range k).map fun i=>V.int ((xs.getD i (0,0,0)).2.2*wonS sd f (xs.getD i (0,0,0)).2.1.toNat c))=(xs.map fun z=>z.2.2*wonS sd f z.2.1.toNat c).map V.int:=by
 subst hk
 apply zdb4
 intro i
 rw[zcw0,zcw0,zcw0]
 by_cases h:i<xs.length
 ·rw[zda5 h,zcv7 h]
  simp[h]
 ·rw[zcy7 (by simp;omega),zcy7 (by rfl')]
  rfl
theorem ok_due(F:Fun K "due" "due" s_due f fd)(N:Nm mg)(D_won:Def P w K mg base CX0 1 "won" ["field","x","y"] zan2):FnOk P w K mg base CX0 2 f fd ["field","side","row","count"] zam2:=by
 refine F.ok sc_due (fun vs H Q E h=>by unfold zam2 at h;obtain⟨_,_,_,_,_,_,_,_,_,rfl,_⟩:=h;rfl) fun _ _ _ s H vs Q E hr h=>?_
 unfold zam2 at h
 obtain⟨p,a,n,m,c,sd,f,bs,xs,rfl,F,O,B,R,ok,hc,q⟩:=h
 have hu:=hu40 hr
 have rl:=R.len
 have xl:=ok.1
 refine⟨_,(za3 (psIf (ptC (zn6 (K:=K) rfl (by exact hu)) (pq 1) ze1) (za4 (za9 (pB (zbm4 (K:=K) rfl rfl) N.sum_ zan1 (za0 (ze8 (N:=["left","sent","flow","field","count"]) (ks:=[none,none,none,some 0,some 3]) (ze4 (K:=K) rfl (pq 2)) (fun _ _ _ _ _=>(zi6 (K:=K) (n:=3) rfl rfl (zb7 (za5 (i:=0) zbk2 rfl (by eq_refl)) (zb7 (za5 (i:=1) zbk2 rfl (by eq_refl)) (zb7 (za5 (i:=2) zbk2 rfl (by eq_refl)) zj0))))) (fun _ _ _ _ _=>zc7) (fun _ _ _ _ _=>(zb4 oMul (pq 2) (pD D_won hr zb3 (za0 (pq 3) (za0 (pq 1) (za0 (pq 4) za1)))))) (.skip (.skip (.skip (.take rfl rfl (by eq_refl) (.take rfl rfl (by eq_refl) .nil)))))) za1)))) zb2)
   (za4 (za9 (pB (zbm4 (K:=K) rfl rfl) N.sum_ zan1 (za0 (ze8 (N:=["left","sent","flow","field","count"]) (ks:=[none,none,none,some 0,some 3]) (ze4 (K:=K) rfl (pq 2)) (fun _ _ _ _ _=>(zi6 (K:=K) (n:=3) rfl rfl (zb7 (za5 (i:=0) zbk2 rfl (by eq_refl)) (zb7 (za5 (i:=1) zbk2 rfl (by eq_refl)) (zb7 (za5 (i:=2) zbk2 rfl (by eq_refl)) zj0))))) (fun _ _ _ _ _=>zc7) (fun _ _ _ _ _=>(zb4 oMul (pq 2) (pD D_won hr zb3 (za0 (pq 3) (za0 (pq 4) (za0 (pq 1) za1)))))) (.skip (.skip (.skip (.take rfl rfl (by eq_refl) (.take rfl rfl (by eq_refl) .nil)))))) za1))))),?_⟩
 cases sd
 ·ac_nf
  refine zk2 rfl ?_
  refine zc4 R.out ?_
  refine zk0 (Wk.list (SqL.of R.out)) (by rw[zcv8,zdf5];omega) (fun i=>.int ((xs.getD i (0,0,0)).2.2*wonS false f (xs.getD i (0,0,0)).2.1.toNat c)) (fun _=>true) (fun j σ=>∃ t u w:Option V,σ=[t,u,w,some (.ref p),some (.int c)]) ⟨none,none,none,rfl⟩ ?_ ?_
  ·rintro i x σ I R' S hi s1 hx ⟨_,_,_,rfl⟩ kk _
   rw[zcw0] at hx
   obtain⟨t,et,rfl⟩:=zcw4.mp hx
   obtain⟨z,ez⟩:∃ z,xs[i]?=some z:=⟨_,zcv7 (by have:=(zcv9.mp et).1;omega)⟩
   rw[show xs.getD i (0,0,0)=z by rw[zcw1,ez];rfl] at kk
   obtain⟨z1,z2⟩:=ok.2 z (zcw3 ez)
   have z1:0<=z.2.1/\z.2.1<=(n:Int):=z1
   have hc:c<=m:=hc
   have wb:=Fd.won_bd O B (x:=z.2.1.toNat) (y:=c) (by rfl') hc
   refine zd8 (s1 _ _ (R.row i t z et ez)) ?_
   refine br_T ?_
   rw[show z.2.1=((z.2.1.toNat:Nat):Int) by rfl']
   refine zcg8 (F.same s1) (by rfl') hc ?_
   refine zu2 (zn1 (by rfl') (by rfl') (by rfl') (by rfl')) ?_
   ac_nf
   exact kk rfl _ _ (Same.refl _) ⟨_,_,_,rfl⟩
  intro acc H1 f1 s1 h1
  rw[ze6,zbj7 (by rw[zcv8];exact rl)] at h1
  refine zam7 h1 ?_
  ac_nf
  exact q _ s1
 ·ac_nf
  refine zl7 (by decide) ?_
  refine zc4 R.out ?_
  refine zk0 (Wk.list (SqL.of R.out)) (by rw[zcv8,zdf5];omega) (fun i=>.int ((xs.getD i (0,0,0)).2.2*wonS true f (xs.getD i (0,0,0)).2.1.toNat c)) (fun _=>true) (fun j σ=>∃ t u w:Option V,σ=[t,u,w,some (.ref p),some (.int c)]) ⟨none,none,none,rfl⟩ ?_ ?_
  ·rintro i x σ I R' S hi s1 hx ⟨_,_,_,rfl⟩ kk _
   rw[zcw0] at hx
   obtain⟨t,et,rfl⟩:=zcw4.mp hx
   obtain⟨z,ez⟩:∃ z,xs[i]?=some z:=⟨_,zcv7 (by have:=(zcv9.mp et).1;omega)⟩
   rw[show xs.getD i (0,0,0)=z by rw[zcw1,ez];rfl] at kk
   obtain⟨z1,z2⟩:=ok.2 z (zcw3 ez)
   have z1:0<=z.2.1/\z.2.1<=(m:Int):=z1
   have hc:c<=n:=hc
   have wb:=Fd.won_bd O B (x:=c) (y:=z.2.1.toNat) hc (by rfl')
   refine zd8 (s1 _ _ (R.row i t z et ez)) ?_
   refine br_T ?_
   rw[show z.2.1=((z.2.1.toNat:Nat):Int) by rfl']
   refine zcg8 (F.same s1) hc (by rfl') ?_
   refine zu2 (zn1 (by rfl') (by rfl') (by rfl') (by rfl')) ?_
   ac_nf
   exact kk rfl _ _ (Same.refl _) ⟨_,_,_,rfl⟩
  intro acc H1 f1 s1 h1
  rw[ze6,zbj7 (by rw[zcv8];exact rl)] at h1
  refine zam7 h1 ?_
  ac_nf
  exact q _ s1
@[irreducible] noncomputable def zm7:Sp:=fun vs H Q _=>∃ (p a:Addr) (n m:Nat) (sd:Bool) (f:Fd) (bs:List Addr) (xs:List (Int×Int×Int)),vs=[.ref p,.str (wd sd),.ref a,.int (othH sd n m)]/\FdAt H p n m f/\f.Ok/\f.Bd n m/\RwAt H a bs xs/\zx3 (ownH sd n m) xs/\othH sd n m<=10/\∀ r H',H r=none->Same H H'->H' r=some (.lst (rowV (othH sd n m+1) (dueS sd f xs)))->Q (.ref r) H'
theorem zbb1{p a:Addr}{n:Nat}{f:Fd}{bs:List Addr}(F:FdAt H p n m f)(O:f.Ok)(B:f.Bd n m)(R:RwAt H a bs xs)(ok:zx3 (ownH sd n m) xs)(ho:othH sd n m<=10)(q:∀ r H',H r=none->Same H H'->H' r=some (.lst (rowV (othH sd n m+1) (dueS sd f xs)))->Q (.ref r) H'):zm7 [.ref p,.str (wd sd),.ref a,.int (othH sd n m)] H Q E:=by unfold zm7;exact⟨p,a,n,m,sd,f,bs,xs,rfl,F,O,B,R,ok,ho,q⟩
theorem zba7(F:Fun K "row_dues" "row_dues" zae3 f fd)(N:Nm mg)(D_due:Def P w K mg base CX0 2 "due" ["field","side","row","count"] zam2):FnOk P w K mg base CX0 3 f fd ["field","side","row","most"] zm7:=by
 refine F.ok zba3 (fun vs H Q E h=>by unfold zm7 at h;obtain⟨_,_,_,_,_,_,_,_,rfl,_⟩:=h;rfl) fun _ _ _ s H vs Q E hr h=>?_
 unfold zm7 at h
 obtain⟨p,a,n,m,sd,f,bs,xs,rfl,F,O,B,R,ok,ho,q⟩:=h
 have hu:=hu40 hr
 refine⟨_,(za4 (za9 (ze8 (N:=["count","field","side","row"]) (ks:=[none,some 0,some 1,some 2]) (zl6 N.range_ (za0 (zb4 oAdd (pq 3) za2) za1)) (fun _ _ _ _ _=>(za5 (i:=0) nb_11 rfl (by eq_refl))) (fun _ _ _ _ _=>zc7) (fun _ _ _ _ _=>(pD D_due hr zb3 (za0 (pq 1) (za0 (pq 2) (za0 (pq 3) (za0 (pq 0) za1)))))) (.skip (.take rfl rfl (by eq_refl) (.take rfl rfl (by eq_refl) (.take rfl rfl (by eq_refl) .nil))))))),?_⟩
 refine ze2 (by rfl') (by rfl') (by rfl') (by rfl') ?_
 rw[show ((othH sd n m:Int)+1 - 0).toNat=othH sd n m+1 by rfl']
 refine zk0 (n:=othH sd n m+1) Wk.range (by rw[zdf5];omega) (fun i=>.int (dueS sd f xs i)) (fun _=>true) (fun j σ=>∃ t:Option V,σ=[t,some (.ref p),some (.str (wd sd)),some (.ref a)]) ⟨none,rfl⟩ ?_ ?_
 ·rintro i x σ I R' S hi s1 hx ⟨_,rfl⟩ kk _
  obtain rfl:x=.int i:=by rw[hx,zdc3]
  refine br_T ?_
  refine due_rd (F.same s1) O B (R.same s1) ok (by rfl') (fun H2 s2=>?_)
  ac_nf
  exact kk rfl _ _ s2 ⟨_,rfl⟩
 intro acc H1 f1 s1 h1
 rw[ze6] at h1
 ac_nf
 exact q acc H1 f1 s1 h1
structure StW(H:Hp)(p:Addr)(rs:List (Addr×List Addr))(xss:List (List (Int×Int×Int))):Prop where
 out:H p=some (.lst (rs.map fun r=>V.ref r.1))
 len:rs.length=xss.length
 row:∀ (i:Nat) r xs,rs[i]?=some r->xss[i]?=some xs->RwAt H r.1 r.2 xs
theorem StW.same{H H':Hp}{p:Addr}{rs:List (Addr×List Addr)}{xss:List (List (Int×Int×Int))}(R:StW H p rs xss)(s:Same H H'):StW H' p rs xss:=⟨s _ _ R.out,R.len,fun i r xs e1 e2=>(R.row i r xs e1 e2).same s⟩
theorem StW.sh{H:Hp}{p:Addr}{rs:List (Addr×List Addr)}{xss:List (List (Int×Int×Int))}(R:StW H p rs xss):ShV H (.ref p) (stmD xss):=.lst R.out (ShL.idx (by rw[zcv8,zcv8,R.len]) fun i x d h1 h2=>by
 rw[zcw0] at h1 h2
 obtain⟨b,eb,rfl⟩:=zcw4.mp h1
 obtain⟨z,ez,rfl⟩:=zcw4.mp h2
 exact (R.row i b z eb ez).sh)
theorem StAt.toW{p:Addr}(R:StAt H p rs xss):StW H p rs xss:=⟨R.out,R.len,fun i r xs e1 e2=>(R.row i r xs e1 e2).same (zt4 _ _)⟩
@[irreducible] noncomputable def zad4:Sp:=fun vs H Q _=>∃ (b l st:Addr) (ps:List Addr) (n m:Nat) (sd:Bool) (fs:List Fd) (rs:List (Addr×List Addr)) (xss:List (List (Int×Int×Int))),vs=[.ref b,.str (wd sd),.ref st]/\zj2 H b l ps n m fs/\OkB n m fs/\(∀ f∈fs,f.Bd n m)/\StW H st rs xss/\xss.length=fs.length/\(∀ xs∈xss,zx3 (ownH sd n m) xs)/\∀ (r:Addr) (qs:List Addr) (H':Hp),H r=none->Same H H'->zf0 H' r qs fs.length (othH sd n m+1) (fun k=>dueS sd (fs.getD k (.more 0 0)) (xss.getD k []))->Q (.ref r) H'
theorem zcn1{b:Addr}{n:Nat}{fs:List Fd}(B:zj2 H b l ps n m fs)(O:OkB n m fs)(D:∀ f∈fs,f.Bd n m)(S:StW H st rs xss)(hl:xss.length=fs.length)(ok:∀ xs∈xss,zx3 (ownH sd n m) xs)(q:∀ (r:Addr) (qs:List Addr) (H':Hp),H r=none->Same H H'->zf0 H' r qs fs.length (othH sd n m+1) (fun k=>dueS sd (fs.getD k (.more 0 0)) (xss.getD k []))->Q (.ref r) H'):zad4 [.ref b,.str (wd sd),.ref st] H Q E:=by
 unfold zad4;exact⟨b,l,st,ps,n,m,sd,fs,rs,xss,rfl,B,O,D,S,hl,ok,q⟩
theorem zai7{n:Nat}{fs:List Fd}(O:OkB n m fs)(sd:Bool):othH sd n m<=10/\ownH sd n m<=10:=by
 have:=O.1
 unfold othH ownH
 cases sd<;>simp<;>omega
theorem zcp4(F:Fun K "dues" "dues" zbz8 f fd)(N:Nm mg)(zcq3:Def P w K mg base CX0 1 "other_hosts" ["battle","side"] zf1)(zcu5:Def P w K mg base CX0 3 "row_dues" ["field","side","row","most"] zm7):FnOk P w K mg base CX0 4 f fd ["battle","side","stream"] zad4:=by
 refine F.ok zbz2 (fun vs H Q E h=>by unfold zad4 at h;obtain⟨_,_,_,_,_,_,_,_,_,_,rfl,_⟩:=h;rfl) fun _ _ _ s H vs Q E hr h=>?_
 unfold zad4 at h
 obtain⟨b,l,st,ps,n,m,sd,fs,rs,xss,rfl,B,O,D,S,hl,ok,q⟩:=h
 have hu:=hu40 hr
 have bl:=B.len
 have sl:=S.len
 have o2:=O.2
 obtain⟨ho,hw⟩:=zai7 O sd
 refine⟨_,(za3 (psS (i:=3) zbz2.nd (pD zcq3 hr zb3 (za0 (pq 0) (za0 (pq 1) za1))))
   (za4 (za9 (ze8 (N:=["field","row","side","most"]) (ks:=[none,none,some 1,some 3]) (zbu0 (K:=K) rfl N.zip_ (za0 (za7 (K:=K) rfl (pq 0) za2) (za0 (pq 2) za1))) (fun _ _ _ _ _=>(zi6 (K:=K) (n:=2) rfl rfl (zb7 (za5 (i:=0) nb_12 rfl (by eq_refl)) (zb7 (za5 (i:=1) nb_12 rfl (by eq_refl)) zj0)))) (fun _ _ _ _ _=>zc7) (fun _ _ _ _ _=>(pD zcu5 hr zb3 (za0 (pq 0) (za0 (pq 2) (za0 (pq 1) (za0 (pq 3) za1)))))) (.skip (.skip (.take rfl rfl (by eq_refl) (.take rfl rfl (by eq_refl) .nil)))))))),?_⟩
 refine zq5 B.out ?_
 refine zb1 (v:=.ref l) B.out rfl ?_
 refine zbp6 (SqL.of B.lst) (SqL.of S.out) ?_
 refine zaf2 (n:=fs.length) (Wk.zip (SqL.of B.lst) (SqL.of S.out) (by rw[zcv8,bl]) (by rw[zcv8,sl,hl])) (by rw[zdf5];omega) (fun i=>.lst (rowV (othH sd n m+1) (dueS sd (fs.getD i (.more 0 0)) (xss.getD i [])))) (fun j σ=>∃ t u:Option V,σ=[t,u,some (.str (wd sd)),some (.int (othH sd n m))]) ⟨none,none,rfl⟩ ?_ ?_
 ·rintro i x σ I R' S' hi s1 ⟨t,y1,y2,rfl,ht,hy1,hy2⟩ ⟨_,_,rfl⟩ kk
  obtain⟨p,f,rfl,ep,ef,hf,of⟩:=(B.same s1).elt hy1
  rw[zcw0] at hy2
  obtain⟨r,er,rfl⟩:=zcw4.mp hy2
  obtain⟨xs,ex⟩:∃ xs,xss[i]?=some xs:=⟨_,zcv7 (by rfl')⟩
  rw[show fs.getD i (.more 0 0)=f by rw[zcw1,ef];rfl,show xss.getD i []=xs by rw[zcw1,ex];rfl] at kk
  have R:=(S.row i r xs er ex).same s1
  refine zd8 ht ?_
  refine br_T ?_
  refine zbb1 hf of (D f (zcw3 ef)) R (ok xs (zcw3 ex)) ho (fun r2 H2 f2 s2 h2=>?_)
  ac_nf
  exact kk _ _ _ f2 s2 h2 ⟨_,_,rfl⟩
 rintro r qs H1 F1
 ac_nf
 exact q r qs H1 F1.facc F1.same ⟨F1.out,F1.len,fun i p e=>(F1.row i p e).2⟩
@[irreducible] noncomputable def zn8:Sp:=fun vs H Q _=>∃ (a:Addr) (v:V) (k c:Nat) (d:Nat->Int) (ns:List Int),vs=[.ref a,v,.int c]/\H a=some (.lst (rowV k d))/\c<k/\k<=100/\((v=.non/\ns=[d c])∨∃ (b:Addr) (t:Nat->Int),v=.ref b/\H b=some (.lst (rowV k t))/\ns=(List.range (c+1)).map fun s=>d s+t (c - s))/\∀ r H',H r=none->Same H H'->H' r=some (.lst (ns.map V.int))->Q (.ref r) H'
theorem zbm9{a:Addr}{k:Nat}{d:Nat->Int}(ha:H a=some (.lst (rowV k d)))(hc:c<k)(hk:k<=100)(q:∀ r H',H r=none->Same H H'->H' r=some (.lst ([d c].map V.int))->Q (.ref r) H'):zn8 [.ref a,.non,.int c] H Q E:=by unfold zn8;exact⟨a,.non,k,c,d,_,rfl,ha,hc,hk,.inl ⟨rfl,rfl⟩,q⟩
theorem zbl2{a b:Addr}{k:Nat}{d t:Nat->Int}(ha:H a=some (.lst (rowV k d)))(hb:H b=some (.lst (rowV k t)))(hc:c<k)(hk:k<=100)(q:∀ r H',H r=none->Same H H'->H' r=some (.lst (((List.range (c+1)).map fun s=>d s+t (c - s)).map V.int))->Q (.ref r) H'):zn8 [.ref a,.ref b,.int c] H Q E:=by unfold zn8;exact⟨a,.ref b,k,c,d,_,rfl,ha,hc,hk,.inr ⟨b,t,rfl,hb,rfl⟩,q⟩
theorem zbv1(F:Fun K "bounds" "bounds" zao4 f fd)(N:Nm mg):FnOk P w K mg base CX0 1 f fd ["field_dues","behind","count"] zn8:=by
 refine F.ok zbz5 (fun vs H Q E h=>by unfold zn8 at h;obtain⟨_,_,_,_,_,_,rfl,_⟩:=h;rfl) fun _ _ _ s H vs Q E hr h=>?_
 unfold zn8 at h
 obtain⟨a,v,k,c,d,ns,rfl,ha,hc,hk,h,q⟩:=h
 have hu:=hu40 hr
 refine⟨_,(za3 (psIf (ptC oIsX (pq 1) zv0) (za4 (za9 (zg3 (za0 (za7 (K:=K) rfl (pq 0) (pq 2)) za1)))) zb2)
   (za4 (za9 (ze8 (N:=["sent","field_dues","behind","count"]) (ks:=[none,some 0,some 1,some 2]) (zl6 N.range_ (za0 (zb4 oAdd (pq 2) za2) za1)) (fun _ _ _ _ _=>(za5 (i:=0) nb_13 rfl (by eq_refl))) (fun _ _ _ _ _=>zc7) (fun _ _ _ _ _=>(zb4 oAdd (za7 (K:=K) rfl (pq 1) (pq 0)) (za7 (K:=K) rfl (pq 2) (zb4 oSub (pq 3) (pq 0))))) (.skip (.take rfl rfl (by eq_refl) (.take rfl rfl (by eq_refl) (.take rfl rfl (by eq_refl) .nil)))))))),?_⟩
 rcases h with ⟨rfl,rfl⟩|⟨b,t,rfl,hb,rfl⟩
 ·ac_nf
  first|refine br_T ?_|refine zk2 rfl ?_
  refine zb0 (v:=.int (d c)) ha (zc1 (ze5 hc)) ?_
  refine zc3 (fun r H1 f1 s1 h1=>?_)
  ac_nf
  exact q r H1 f1 s1 h1
 ·ac_nf
  first|refine br_F ?_|refine zl7 (fun z=>by cases z) ?_
  refine ze2 (by rfl') (by rfl') (by rfl') (by rfl') ?_
  rw[show ((c:Int)+1 - 0).toNat=c+1 by rfl']
  refine zk0 (n:=c+1) Wk.range (by rw[zdf5];omega) (fun i=>.int (d i+t (c - i))) (fun _=>true) (fun j σ=>∃ t:Option V,σ=[t,some (.ref a),some (.ref b),some (.int c)]) ⟨none,rfl⟩ ?_ ?_
  ·rintro i x σ I R' S hi s1 hx ⟨_,rfl⟩ kk _
   obtain rfl:x=.int i:=by rw[hx,zdc3]
   refine br_T ?_
   refine zb0 (v:=.int (d i)) (s1 _ _ ha) (zc1 (ze5 (by rfl'))) ?_
   refine zb0 (v:=.int (t (c - i))) (s1 _ _ hb) (by rw[show (c:Int) - (i:Int)=((c - i:Nat):Int) by rfl'];exact zc1 (ze5 (by rfl'))) ?_
   ac_nf
   exact kk rfl _ _ (Same.refl _) ⟨_,rfl⟩
  intro acc H1 f1 s1 h1
  rw[ze6] at h1
  ac_nf
  exact q acc H1 f1 s1 (by rw[h1,zcz3];rfl)
noncomputable def zk1(sd:Bool)(x y:Int):Bool:=if sd then decide (y<=x) else decide (x<=y)
theorem zau5{x y:Int}:zk1 sd x y=true↔leS sd x y:=by
 unfold zk1 leS
 cases sd<;>simp
@[irreducible] noncomputable def zt8:Sp:=fun vs H Q _=>∃ (sd:Bool) (x y:Int),vs=[.str (wd sd),.int x,.int y]/\Q (.bl (zk1 sd x y)) H
theorem zao7{x y:Int}(q:Q (.bl (zk1 sd x y)) H):zt8 [.str (wd sd),.int x,.int y] H Q E:=by unfold zt8;exact⟨sd,x,y,rfl,q⟩
theorem zce6(F:Fun K "keeps" "keeps" zba1 f fd)(N:Nm mg):FnOk P w K mg base CX0 1 f fd ["side","number","bound"] zt8:=by
 refine F.ok zca3 (fun vs H Q E h=>by unfold zt8 at h;obtain⟨_,_,_,rfl,_⟩:=h;rfl) fun _ _ _ s H vs Q E hr h=>?_
 unfold zt8 at h
 obtain⟨sd,x,y,rfl,q⟩:=h
 have hu:=hu40 hr
 refine⟨_,(za4 (za9 (peIf (ptC (zn6 (K:=K) rfl (by exact hu)) (pq 0) ze1) (peC oLe (pq 1) (pq 2)) (peC oGe (pq 1) (pq 2))))),?_⟩
 cases sd
 ·ac_nf
  refine zk2 rfl ?_
  ac_nf
  exact q
 ·ac_nf
  refine zl7 (by decide) ?_
  ac_nf
  exact q
@[irreducible] noncomputable def zm0:Sp:=fun vs H Q _=>∃ (st:Addr) (rs:List (Addr×List Addr)) (xss:List (List (Int×Int×Int))),vs=[.ref st]/\StW H st rs xss/\1<=xss.length/\(xss.getD 0 []).length<=1000/\∀ H',Same H H'->Q (.int ((xss.getD 0 []).map fun z=>z.2.2).sum) H'
theorem zbe8(S:StW H st rs xss)(h1:1<=xss.length)(hl:(xss.getD 0 []).length<=1000)(q:∀ H',Same H H'->Q (.int ((xss.getD 0 []).map fun z=>z.2.2).sum) H'):zm0 [.ref st] H Q E:=by unfold zm0;exact⟨st,rs,xss,rfl,S,h1,hl,q⟩
theorem zah0{k:Nat}(hk:k=xs.length):((List.range k).map fun i=>V.int (xs.getD i (0,0,0)).2.2)=(xs.map fun z=>z.2.2).map V.int:=by
 subst hk
 apply zdb4
 intro i
 rw[zcw0,zcw0,zcw0]
 by_cases h:i<xs.length
 ·rw[zda5 h,zcv7 h]
  simp[h]
 ·rw[zcy7 (by simp;omega),zcy7 (by rfl')]
  rfl
theorem zbe3(F:Fun K "whole_in" "whole_in" zad5 f fd)(N:Nm mg):FnOk P w K mg base CX0 1 f fd ["stream"] zm0:=by
 refine F.ok zbd9 (fun vs H Q E h=>by unfold zm0 at h;obtain⟨_,_,_,rfl,_⟩:=h;rfl) fun _ _ _ s H vs Q E hr h=>?_
 unfold zm0 at h
 obtain⟨st,rs,xss,rfl,S,h1,hl,q⟩:=h
 have hu:=hu40 hr
 have sl:=S.len
 obtain⟨r,er⟩:∃ r,rs[0]?=some r:=⟨_,zcv7 (by rfl')⟩
 obtain⟨xs,ex⟩:∃ r,xss[0]?=some r:=⟨_,zcv7 (by rfl')⟩
 rw[show xss.getD 0 []=xs by rw[zcw1,ex];rfl] at hl q
 have R:=S.row 0 r xs er ex
 have rl:=R.len
 refine⟨_,(za4 (za9 (pB (zbm4 (K:=K) rfl rfl) N.sum_ zan1 (za0 (ze8 (N:=["left","sent","flow"]) (ks:=[none,none,none]) (ze4 (K:=K) rfl (za7 (K:=K) rfl (pq 0) za2)) (fun _ _ _ _ _=>(zi6 (K:=K) (n:=3) rfl rfl (zb7 (za5 (i:=0) nb_9 rfl (by eq_refl)) (zb7 (za5 (i:=1) nb_9 rfl (by eq_refl)) (zb7 (za5 (i:=2) nb_9 rfl (by eq_refl)) zj0))))) (fun _ _ _ _ _=>zc7) (fun _ _ _ _ _=>(pq 2)) (.skip (.skip (.skip .nil)))) za1)))),?_⟩
 refine zb0 (v:=.ref r.1) S.out (zc1 (j:=0) (by rw[zcw0,er];rfl)) ?_
 refine zc4 R.out ?_
 refine zk0 (Wk.list (SqL.of R.out)) (by rw[zcv8,zdf5];omega) (fun i=>.int (xs.getD i (0,0,0)).2.2) (fun _=>true) (fun j σ=>∃ t u w:Option V,σ=[t,u,w]) ⟨none,none,none,rfl⟩ ?_ ?_
 ·rintro i x σ I R' S' hi s1 hx ⟨_,_,_,rfl⟩ kk _
  rw[zcw0] at hx
  obtain⟨t,et,rfl⟩:=zcw4.mp hx
  obtain⟨z,ez⟩:∃ z,xs[i]?=some z:=⟨_,zcv7 (by have:=(zcv9.mp et).1;omega)⟩
  rw[show xs.getD i (0,0,0)=z by rw[zcw1,ez];rfl] at kk
  refine zd8 (s1 _ _ (R.row i t z et ez)) ?_
  refine br_T ?_
  ac_nf
  exact kk rfl _ _ (Same.refl _) ⟨_,_,_,rfl⟩
 intro acc H1 f1 s1 h1
 rw[ze6,zah0 (by rw[zcv8];exact rl)] at h1
 refine zam7 h1 ?_
 ac_nf
 exact q _ s1
theorem zcg5:∀ {xs ys:List Int},xs.Nodup->(∀ x∈xs,x∈ys)->ys.length<=xs.length->∀ y∈ys,y∈xs
 | [],ys,_,_,hl,y,hy=>by
  have:ys=[]:=List.length_eq_zero_iff.mp (by simpa using hl)
  rw[this] at hy
  cases hy
 | x :: xs,ys,nd,hs,hl,y,hy=>by
  rw[zdb3] at nd
  have hx:=hs x (.head _)
  have ih:=zcg5 (xs:=xs) (ys:=ys.erase x) nd.2 (fun z hz=>(List.mem_erase_of_ne (fun (e:z=x)=>nd.1 (e▸hz))).mpr (hs z (.tail _ hz))) (by rw[List.length_erase_of_mem hx];rw[zcx5] at hl;omega)
  by_cases e:y=x
  ·rw[e];exact .head _
  ·exact .tail _ (ih y ((List.mem_erase_of_ne e).mpr hy))
theorem zag0{za zb:List (Int×Int)}(h:eqDI (sumG za) (sumG zb)=true):(sumG za).length=(sumG zb).length/\∀ k,valG (sumG za) k=valG (sumG zb) k:=by
 obtain⟨na,ma⟩:=zh2 za
 obtain⟨nb,mb⟩:=zh2 zb
 unfold eqDI at h
 rw[zcx4,zcx2] at h
 obtain⟨hl,h⟩:=h
 have hl:(sumG za).length=(sumG zb).length:=by simpa using hl
 refine⟨hl,?_⟩
 have h1:∀ z∈sumG za,valG (sumG zb) z.1=some z.2:=fun z hz=>by
  have:=h z hz
  have e:valI (sumG zb) z.1=valG (sumG zb) z.1:=rfl
  rw[e] at this
  simpa using this
 have sub:∀ k,k∈(sumG za).map (·.1)->k∈(sumG zb).map (·.1):=fun k hk=>by
  obtain⟨z,hz,rfl⟩:=zcx0.mp hk
  by_cases e:z.1∈(sumG zb).map (·.1)
  ·exact e
  ·have:=h1 z hz
   rw[zac0 e] at this
   cases this
 have sup:∀ k,k∈(sumG zb).map (·.1)->k∈(sumG za).map (·.1):=fun k hk=>by
  exact zcg5 na (fun k hk=>sub k hk) (by rw[zcv8,zcv8];omega) k hk
 intro k
 by_cases e:k∈(sumG za).map (·.1)
 ·obtain⟨z,hz,rfl⟩:=zcx0.mp e
  rw[zbg7 na hz,h1 z hz]
 ·rw[zac0 e,zac0 fun z=>e (sup k z)]
theorem zbo3(za zb:List (Int×Int)):eqDI (sumG za) (sumG zb)=eqDI (sumG zb) (sumG za):=by
 rw[zdb1]
 exact⟨fun h=>zba4 fun k=>((zag0 h).2 k).symm,fun h=>zba4 fun k=>((zag0 h).2 k).symm⟩
theorem zbl6{d e:PyData}(h:zp0 d e=true)(hd:0<(zc2 d).length):0<(zc2 e).length:=by
 unfold zp0 at h
 have l:=(zag0 h).1
 have l1:=zq0 ((rowF e).map fun z=>(z.1,z.2.2))
 rw[zcv8,show (rowF e).length=(zc2 e).length by unfold rowF;rw[zcv8]] at l1
 have l2:0<(sumG ((rowF d).map fun z=>(z.1 - z.2.1,z.2.2))).length:=by
  obtain⟨x,ex⟩:∃ x,(zc2 d)[0]?=some x:=⟨_,zcv7 hd⟩
  have:(triD x).1 - (triD x).2.1∈(sumG ((rowF d).map fun z=>(z.1 - z.2.1,z.2.2))).map (·.1):=(zh2 _).2 _ |>.mpr (by
   rw[zcz3]
   exact zcx0.mpr ⟨triD x,by unfold rowF;exact zcx0.mpr ⟨x,zcw3 ex,rfl⟩,rfl⟩)
  have:=zde6 this
  rwa [zcv8] at this
 omega
theorem _root_.L2.ShV.lstOr{v:V}{d:PyData}(h:ShV H v d):(∃ a xs ds,v=.ref a/\d=.list ds/\H a=some (.lst xs)/\ShL H xs ds)∨isD "list" d=false:=by
 cases h
 case lst a xs ds e l=>exact .inl ⟨a,xs,ds,rfl,rfl,e,l⟩
 all_goals exact .inr rfl
theorem _root_.L2.ShV.tupOr{v:V}{d:PyData}(h:ShV H v d):(∃ a xs ds,v=.ref a/\d=.tuple ds/\H a=some (.tup xs)/\ShL H xs ds)∨isD "tuple" d=false:=by
 cases h
 case tup a xs ds e l=>exact .inl ⟨a,xs,ds,rfl,rfl,e,l⟩
 all_goals exact .inr rfl
@[irreducible] noncomputable def zh3:Sp:=fun vs H Q _=>∃ (v:V) (d:PyData),vs=[v]/\ShV H v d/\Q (.bl (isW d)) H
theorem zan5{v:V}{d:PyData}(h:ShV H v d)(q:Q (.bl (isW d)) H):zh3 [v] H Q E:=by unfold zh3;exact⟨v,d,rfl,h,q⟩
theorem zao2(F:Fun K "_law_whole" "_law_whole" zv7 f fd)(N:Nm mg):FnOk P w K mg base CX0 1 f fd ["_law_thing"] zh3:=by
 refine F.ok zar0 (fun vs H Q E h=>by unfold zh3 at h;obtain⟨_,_,rfl,_⟩:=h;rfl) fun _ _ _ s H vs Q E hr h=>?_
 unfold zh3 at h
 obtain⟨v,d,rfl,h,q⟩:=h
 refine⟨_,(za4 (za9 (zu4 (pB (zq2 (K:=K) rfl) N.isinstance_ zb8 (za0 (pq 0) (za0 (pTy N.int_ zaw9) za1))) (zr7 (peNot (pB (zq2 (K:=K) rfl) N.isinstance_ zb8 (za0 (pq 0) (za0 (pTy N.bool_ zba8) za1)))))))),?_⟩
 refine zf9 h (.inl rfl) ?_
 cases h
 case int i=>
  refine br_T ?_
  refine zah1 ?_
  ac_nf
  exact q
 case bl b=>
  refine br_T ?_
  refine zag8 ?_
  ac_nf
  exact q
 all_goals (ac_nf;refine br_F ?_;ac_nf;exact q)
noncomputable def zu5(h:Int)(d:PyData):Bool:=zm3 d&&decide ((triD d).1<=h)
noncomputable def zad2(h:Int):PyData->Bool
 | .list ds=>ds.all (zu5 h)&&(incD ds&&decide (0<ds.length))
 | _=>false
theorem zbo0{d:PyData}(h:isD "tuple" d=false):zm3 d=false:=by
 cases d<;>first|rfl|exact zde7 (show true=false from h)
theorem zbs9{d:PyData}(e:isD "list" d=false):zad2 h d=false:=by
 cases d<;>first|rfl|exact zde7 (show true=false from e)
theorem zca6{d:PyData}(hd:d∈ds)(e:zu5 h d=false):zad2 h (.list ds)=false:=by
 have:ds.all (zu5 h)=false:=by
  cases z:ds.all (zu5 h)
  ·rfl
  ·rw[zcx2.mp z d hd] at e;cases e
 show (ds.all (zu5 h)&&_)=false
 rw[this];rfl
theorem inc_pw:incD ds=true↔(ds.map keyD).Pairwise (fun x y=>ltP x y=true):=by
 unfold incD
 rw[zcx2]
 have gk:∀ i,i<ds.length->(ds.map keyD)[i]?=some (keyD (ds.getD i .none)):=fun i hi=>by rw[zcw0,zcw1,zcv7 hi];rfl
 constructor
 ·intro h
  have step:∀ (n i:Nat),i+n+1<ds.length->ltP (keyD (ds.getD i .none)) (keyD (ds.getD (i+n+1) .none))=true:=fun n=>by
   induction n with
   | zero=>intro i hi;exact h i (zcy0.mpr (by rfl'))
   | succ n ih=>
    intro i hi
    have a:=zr1.mp (ih i (by rfl'))
    have b:=zr1.mp (h (i+n+1) (zcy0.mpr (by rfl')))
    exact zr1.mpr (by rw[show i+(n+1)+1=i+n+1+1 by rfl'];omega)
  rw[zda9]
  intro i j hi hj hij
  rw[zcv8] at hi hj
  have e1:=gk i hi
  have e2:=gk j hj
  rw[zcv7 (by rw[zcv8];exact hi)] at e1
  rw[zcv7 (by rw[zcv8];exact hj)] at e2
  rw[Option.some.inj e1,Option.some.inj e2]
  have:=step (j - i - 1) i (by rfl')
  rwa [show i+(j - i - 1)+1=j by rfl'] at this
 ·intro h i hi
  have hi:=zcy0.mp hi
  have e1:=gk i (by rfl')
  have e2:=gk (i+1) (by rfl')
  rw[zcv7 (by rw[zcv8];omega)] at e1 e2
  have:=zda9.mp h i (i+1) (by rw[zcv8];omega) (by rw[zcv8];omega) (by rfl')
  rw[Option.some.inj e1,Option.some.inj e2] at this
  exact this
theorem zbr5{ks ls:List (Int×Int)}(pm:ls.Perm ks)(so:ls.Pairwise (fun x y=>ltP y x=false)):(decide (ks=ls)&&decide (ks.Nodup))=decide (ks.Pairwise (fun x y=>ltP x y=true)):=by
 rw[zdb1,zcx4,decide_eq_true_eq,decide_eq_true_eq,decide_eq_true_eq]
 constructor
 ·rintro⟨e,nd⟩
  rw[← e] at so
  exact (zaz2 nd so).2
 ·intro h
  have nd:ks.Nodup:=h.imp fun {x y} z e=>by
   subst e
   have:=zr1.mp z
   omega
  exact⟨zam3 ⟨nd,h⟩ (zaz2 (pm.nodup_iff.mpr nd) so) fun k=>pm.mem_iff.symm,nd⟩
theorem zbu4{ks ls:List (Int×Int)}(hl:ks.length=ls.length):((List.range ks.length).all fun j=>decide ((ks.getD j (0,0)).1=(ls.getD j (0,0)).1/\(ks.getD j (0,0)).2=(ls.getD j (0,0)).2))=decide (ks=ls):=by
 rw[zdb1,zcx2,decide_eq_true_eq]
 constructor
 ·intro h
  apply zdb8 hl
  intro i h1 h2
  have:=of_decide_eq_true (h i (zcy0.mpr h1))
  rw[zcw1,zcw1,zcv7 h1,zcv7 h2] at this
  exact Prod.ext this.1 this.2
 ·rintro rfl i _
  exact decide_eq_true ⟨rfl,rfl⟩
@[irreducible] noncomputable def zh9:Sp:=fun vs H Q _=>∃ (v:V) (d:PyData) (h:Int),vs=[v,.int h]/\ShV H v d/\(zc2 d).length<=18/\∀ H',Same H H'->Q (.bl (zad2 h d)) H'
theorem zcb9{v:V}{d:PyData}(hv:ShV H v d)(hs:(zc2 d).length<=18)(q:∀ H',Same H H'->Q (.bl (zad2 h d)) H'):zh9 [v,.int h] H Q E:=by unfold zh9;exact⟨v,d,h,rfl,hv,hs,q⟩
theorem zal5(F:Fun K "_law_is_row" "_law_is_row" zs4 f fd)(N:Nm mg)(zcr1:Def P w K mg base CX0 1 "_law_whole" ["_law_thing"] zh3):FnOk P w K mg base CX0 2 f fd ["_law_row","_law_hosts"] zh9:=by
 refine F.ok zq3 (fun vs H Q E h=>by unfold zh9 at h;obtain⟨_,_,_,rfl,_⟩:=h;rfl) fun _ _ _ s H vs Q E hr h=>?_
 unfold zh9 at h
 obtain⟨v,d,hh,rfl,h,hs,q⟩:=h
 have hu:=hu40 hr
 refine⟨_,(za3 (psIf (ptW (pwOr (zh6 (ptV (pB (zq2 (K:=K) rfl) N.isinstance_ zb8 (za0 (pq 0) (za0 (pTy N.list_ zp7) za1))))) (zo4 (ptC (zn6 (K:=K) rfl (by exact hu)) (pB (zf7 (K:=K) rfl) N.len_ zd2 (za0 (pq 0) za1)) za2)))) (za4 (za9 zs9)) zb2)
   (za3 (zp5 PassesOwn.never rfl (ze4 (K:=K) rfl (pq 0)) (za5 (i:=2) zq3.nd rfl (by eq_refl)) (za3 (psIf (ptW (pwOr (zh6 (ptV (pB (zq2 (K:=K) rfl) N.isinstance_ zb8 (za0 (pq 2) (za0 (pTy N.tuple_ zp9) za1))))) (pwOr (ptC (zac6 (K:=K) rfl (by exact hu)) (pB (zf7 (K:=K) rfl) N.len_ zd2 (za0 (pq 2) za1)) za2) (zo4 (ptC oGt (pB (zf7 (K:=K) rfl) N.len_ zd2 (za0 (ze8 (N:=["_law_one"]) (ks:=[none]) (ze4 (K:=K) rfl (pq 2)) (fun _ _ _ _ _=>(za5 (i:=0) nb_22 rfl (by eq_refl))) (fun _ _ _ _ _=>(zbz9 (zh6 (ptV (pD zcr1 hr zb3 (za0 (pq 0) za1)))))) (fun _ _ _ _ _=>(pq 0)) (.skip .nil)) za1)) za2))))) (za4 (za9 zs9)) zb2)
   (za4 (psIf (ptW (pwOr (ptC (oLtX (by exact hu)) (za7 (K:=K) rfl (pq 2) za2) za2) (pwOr (ptC oGt (za7 (K:=K) rfl (pq 2) za2) (za7 (K:=K) rfl (pq 2) za2)) (pwOr (ptC oGt (za7 (K:=K) rfl (pq 2) za2) (pq 1)) (zo4 (ptC (oLtX (by exact hu)) (za7 (K:=K) rfl (pq 2) za2) za2)))))) (za4 (za9 zs9)) zb2))))
   (za3 (psC (i:=3) (N:=["_law_part"]) (ks:=[none]) zq3.nd (ze4 (K:=K) rfl (pq 0)) (fun _ _ _ _ _=>(za5 (i:=0) nb_23 rfl (by eq_refl))) (fun _ _ _ _ _=>zc7) (fun _ _ _ _ _=>(zg1 (slXK (K:=K) rfl) (pq 0) zi8 (zn5 za2))) (.skip .nil))
   (za4 (za9 (zu4 (peC (zn6 (K:=K) rfl (by exact hu)) (pq 3) (pB (zca2 (K:=K) rfl rfl) N.sorted_ zaa4 (za0 (pq 3) za1))) (zr7 (peC (zn6 (K:=K) rfl (by exact hu)) (pB (zf7 (K:=K) rfl) N.len_ zd2 (za0 (pq 3) za1)) (peLenS (K:=K) rfl (by exact hu) N.len_ N.set_ (za0 (pq 3) za1)))))))))),?_⟩
 refine zf9 h (.inr (.inr (.inl rfl))) ?_
 rcases h.lstOr with ⟨a,xs,ds,rfl,rfl,e,l⟩|e0
 case inl=>
  have ll:=l.len
  have dl:ds.length<=18:=hs
  refine zb9 (br_T ?_)
  refine zc5 e ?_
  rw[ll]
  refine zc8 (fun z=>?_) (fun z=>?_)
  ·ac_nf
   have q:=q _ (Same.refl _)
   rw[show zad2 hh (.list ds)=false by
    show (ds.all (zu5 hh)&&(incD ds&&decide (0<ds.length)))=false
    rw[decide_eq_false (show ¬ 0<ds.length by rfl'),zdf0,zdf0]] at q
   exact q
  have d0:0<ds.length:=by rfl'
  refine zc4 e ?_
  refine zn7 (xs:=xs) (fun j σ I=>∃ t u:Option V,σ=[some (.ref a),some (.int hh),t,u]/\Same H I/\∀ d∈ds.take j,zu5 hh d=true) ?_ ?_ ?_ ?_
  ·exact⟨_,_,rfl,Same.refl _,fun d hd=>by simp at hd⟩
  ·rintro j σ I _ ⟨_,_,_,sI,_⟩
   exact SqL.of (sI _ _ e)
  ·rintro j x σ I hj ⟨t,u,rfl,sI,ok⟩
   obtain⟨dj,ed,hd0⟩:=l.get j x hj
   have hd:=hd0.same sI
   have hm:=zcw3 ed
   have bad:zu5 hh dj=false->∀ I',Same I I'->Q (.bl false) I':=fun z I' s'=>by
    have q:=q I' (sI.trans s')
    rw[zca6 hm z] at q
    exact q
   have badF:zm3 dj=false->∀ I',Same I I'->Q (.bl false) I':=fun z=>bad (by unfold zu5;rw[z];rfl)
   have good:zu5 hh dj=true->∀ d∈ds.take (j+1),zu5 hh d=true:=fun z d hd=>by
    rw[zdf2,ed] at hd
    rcases zcy1.mp hd with hd|hd
    ·exact ok d hd
    ·have:d=dj:=by simpa using hd
     rw[this];exact z
   refine zf9 hd (.inr (.inr (.inr rfl))) ?_
   rcases hd.tupOr with ⟨t',ys,es,rfl,rfl,et,lt⟩|e0
   case inl=>
    have ltl:=lt.len
    refine zb9 (br_T ?_)
    refine zp6 et ?_
    refine zb9 (zc8 (fun h3=>?_) (fun h3=>?_))
    rotate_left
    ·ac_nf
     refine br_T ?_
     ac_nf
     exact badF (zaq8 (by rfl')) _ (Same.refl _)
    obtain⟨y1,y2,y3,a1,a2,a3,rfl,rfl,ha1,ha2,ha3⟩:=zah5 lt (by rfl')
    refine zas4 et ?_
    refine zk0 (Wk.tup et) (by rw[zdf5];simp only[zcx5,zcz1];decide) (fun i=>[y1,y2,y3].getD i .non) (fun i=>!isW ([a1,a2,a3].getD i .none)) (fun j σ=>∃ t:Option V,σ=[t]) ⟨none,rfl⟩ ?_ ?_
    ·rintro i y σ I1 R S hi s2 hy ⟨_,rfl⟩ kk kf
     have hyd:ShV I1 y ([a1,a2,a3].getD i .none)/\[y1,y2,y3].getD i .non=y:=by
      match i with
      | 0=>cases hy;exact⟨ha1.same s2,rfl⟩
      | 1=>cases hy;exact⟨ha2.same s2,rfl⟩
      | 2=>cases hy;exact⟨ha3.same s2,rfl⟩
      | i+3=>simp at hy
     refine zan5 hyd.1 ?_
     cases ew:isW ([a1,a2,a3].getD i .none)
     ·ac_nf
      refine br_T ?_
      ac_nf
      have:=kk (by rw[ew];rfl) [some y] I1 (Same.refl _) ⟨_,rfl⟩
      rw[hyd.2] at this
      exact this
     ·ac_nf
      refine br_F ?_
      ac_nf
      exact kf (by rw[ew];rfl) _ _ (Same.refl _) ⟨_,rfl⟩
    intro ac2 I2 f2 s2 h2
    have et2:=s2 _ _ et
    refine zc5 h2 ?_
    have cnt:(decide ((0:Int)<((((List.range [y1,y2,y3].length).filter fun i=>!isW ([a1,a2,a3].getD i .none)).map fun i=>[y1,y2,y3].getD i .non).length:Nat)))=!([isW a1,isW a2,isW a3].all id):=by
     show decide ((0:Int)<((((List.range 3).filter fun i=>!isW ([a1,a2,a3].getD i .none)).map fun i=>[y1,y2,y3].getD i .non).length:Nat))=_
     rw[zcv8]
     show decide ((0:Int)<((([0,1,2]:List Nat).filter fun i=>!isW ([a1,a2,a3].getD i .none)).length:Nat))=_
     have f0:[a1,a2,a3].getD 0 .none=a1:=rfl
     have f1:[a1,a2,a3].getD 1 .none=a2:=rfl
     have f2:[a1,a2,a3].getD 2 .none=a3:=rfl
     rw[zdc6,zdc6,zdc6,List.filter_nil,f0,f1,f2]
     cases isW a1<;>cases isW a2<;>cases isW a3<;>rfl
    ac_nf
    rw[cnt]
    cases ew:[isW a1,isW a2,isW a3].all id
    ·first|refine br_T ?_|refine zb9 (br_F ?_)
     ac_nf
     refine badF ?_ _ s2
     show (zr8 0 a1&&zac9 0 (intD a1) a2&&zr8 1 a3)=false
     cases e1:isW a1
     ·have:zr8 0 a1=false:=by cases a1<;>first|rfl|(cases e1)
      rw[this];rfl
     cases e2:isW a2
     ·have:zac9 0 (intD a1) a2=false:=by cases a2<;>first|rfl|(cases e2)
      rw[this,zdf0];rfl
     cases e3:isW a3
     ·have:zr8 1 a3=false:=by cases a3<;>first|rfl|(cases e3)
      rw[this,zdf0]
     rw[e1,e2,e3] at ew;cases ew
    simp only[List.all_cons,List.all_nil,id,Bool.and_true,zcx4] at ew
    obtain⟨w1,w2,w3⟩:=ew
    obtain⟨i1,rfl⟩:∃ i,a1=.int i:=by cases a1<;>first|exact⟨_,rfl⟩|(cases w1)
    obtain⟨i2,rfl⟩:∃ i,a2=.int i:=by cases a2<;>first|exact⟨_,rfl⟩|(cases w2)
    obtain⟨i3,rfl⟩:∃ i,a3=.int i:=by cases a3<;>first|exact⟨_,rfl⟩|(cases w3)
    cases ha1
    cases ha2
    cases ha3
    have fl:zu5 hh (.tuple [.int i1,.int i2,.int i3])=decide (0<=i2/\i2<=i1/\i1<=hh/\1<=i3):=by
     show (decide (0<=i1)&&decide (0<=i2/\i2<=i1)&&decide (1<=i3)&&decide (i1<=hh))=_
     rw[zdb1]
     simp only[zcx4,decide_eq_true_eq]
     omega
    first|refine br_F ?_|refine zb9 (br_T ?_)
    refine zb1 (v:=.int i2) et2 rfl ?_
    refine zc8 (fun g1=>?_) (fun g1=>?_)
    ·ac_nf
     refine br_T ?_
     ac_nf
     refine bad (by rw[fl];exact decide_eq_false (by rfl')) _ s2
    refine zb1 (v:=.int i2) et2 rfl ?_
    refine zb1 (v:=.int i1) et2 rfl ?_
    refine zc8 (fun g2=>?_) (fun g2=>?_)
    ·ac_nf
     refine br_T ?_
     ac_nf
     refine bad (by rw[fl];exact decide_eq_false (by rfl')) _ s2
    refine zb1 (v:=.int i1) et2 rfl ?_
    refine zc8 (fun g4=>?_) (fun g4=>?_)
    ·ac_nf
     refine br_T ?_
     ac_nf
     refine bad (by rw[fl];exact decide_eq_false (by rfl')) _ s2
    refine zb1 (v:=.int i3) et2 rfl ?_
    refine zc8 (fun g3=>?_) (fun g3=>?_)
    ·ac_nf
     refine bad (by rw[fl];exact decide_eq_false (by rfl')) _ s2
    ac_nf
    exact⟨_,_,rfl,sI.trans s2,good (by rw[fl];exact decide_eq_true (by rfl'))⟩
   rw[e0]
   refine zb9 (br_F ?_)
   refine br_T ?_
   ac_nf
   exact badF (zbo0 e0) _ (Same.refl _)
  ·rintro σ I ⟨t,u,rfl,sI,ok⟩
   rw[ll,zdd2] at ok
   have eI:=sI _ _ e
   have tup:∀ (i:Nat) x,xs[i]?=some x->∃ (t1:Addr) (j1 w1:Int),x=.ref t1/\H t1=some (.tup [.int (keyD (ds.getD i .none)).1,.int j1,.int w1])/\j1=(keyD (ds.getD i .none)).2:=fun i x ex=>by
    obtain⟨d1,ed1,hd1⟩:=l.get i x ex
    have f1:=ok d1 (zcw3 ed1)
    unfold zu5 at f1
    rw[zcx4] at f1
    obtain⟨t1,i1,j1,w1,rfl,ht1,rfl,_⟩:=zar3 hd1 f1.1
    rw[getD_some ed1]
    exact⟨t1,j1,w1,rfl,ht1,rfl⟩
   refine zc4 eI ?_
   refine zaf2 (n:=xs.length) (Wk.list (SqL.of eI)) (by rw[zdf5];omega) (fun i=>.tup [.int (keyD (ds.getD i .none)).1,.int (keyD (ds.getD i .none)).2]) (fun j σ=>∃ t:Option V,σ=[t]) ⟨none,rfl⟩ ?_ ?_
   ·rintro i x σ I1 R S hi s2 hx ⟨_,rfl⟩ kk
    obtain⟨t1,j1,w1,rfl,ht1,rfl⟩:=tup i x hx
    refine br_T ?_
    refine zbp2 ((sI.trans s2) _ _ ht1) (fun p4 H4 f4 s4 h4=>?_)
    ac_nf
    exact kk _ p4 H4 f4 s4 h4 ⟨_,rfl⟩
   intro sp bs I2 FL
   have bl:=FL.len
   have kl:(ds.map keyD).length=bs.length:=by rw[zcv8,bl,ll]
   have pr:Paired (fun b x=>I2 b=some (.tup [.int x.1,.int x.2])) bs (ds.map keyD):=zab3 kl.symm fun i b x e1 e2=>by
    obtain⟨_,z⟩:=FL.row i b e1
    rw[zcw0] at e2
    obtain⟨d1,ed1,rfl⟩:=zcw4.mp e2
    rw[getD_some ed1] at z
    exact z
   have s02:=sI.trans FL.same
   refine soL_rd FL.out (by rfl') pr (fun so I3 cs ls f3 s3 pm so_ pr3 h3=>?_)
   have ql:=q
   have cl:cs.length=ls.length:=pr3.length
   have lk:ls.length=(ds.map keyD).length:=pm.length_eq
   refine zbv2 (EqR.lst (n:=1) (fun j=>decide (((ds.map keyD).getD j (0,0)).1=(ls.getD j (0,0)).1/\((ds.map keyD).getD j (0,0)).2=(ls.getD j (0,0)).2)) (SqL.of (s3 _ _ FL.out)) (SqL.of h3) (by rw[zcv8,zcv8];omega) (fun j x y hx hy=>?_)) ?_
   ·rw[zcw0] at hx hy
    obtain⟨b,eb,rfl⟩:=zcw4.mp hx
    obtain⟨c,ec,rfl⟩:=zcw4.mp hy
    obtain⟨k1,ek1⟩:∃ k,(ds.map keyD)[j]?=some k:=⟨_,zcv7 (by have:=(zcv9.mp eb).1;omega)⟩
    obtain⟨k2,ek2⟩:∃ k,ls[j]?=some k:=⟨_,zcv7 (by have:=(zcv9.mp ec).1;omega)⟩
    rw[zcw1,zcw1,ek1,ek2]
    exact EqR.ints2 (s3 _ _ (zr6 pr j b k1 eb ek1)) (zr6 pr3 j c k2 ec ek2)
   rw[zcv8,← kl,zbu4 lk.symm]
   have fin:zad2 hh (.list ds)=(decide (ds.map keyD=ls)&&decide ((ds.map keyD).Nodup)):=by
    show (ds.all (zu5 hh)&&(incD ds&&decide (0<ds.length)))=_
    rw[zcx2.mpr ok,decide_eq_true d0,zcz7,Bool.and_true,zbr5 pm so_,zdb1,decide_eq_true_eq]
    exact inc_pw
   have q:=q I3 (s02.trans s3)
   rw[fin] at q
   cases ec:decide (ds.map keyD=ls)
   ·rw[ec] at q
    refine br_F ?_
    ac_nf
    exact q
   ·rw[ec] at q
    refine br_T ?_
    refine zc5 (s3 _ _ FL.out) ?_
    rw[zcv8,← kl]
    refine zco7 (s3 _ _ FL.out) kl.symm (by rw[zcv8];omega) (fun i p k e1 e2=>s3 _ _ (zr6 pr i p k e1 e2)) ?_
    ac_nf
    have e5:decide (((ds.map keyD).length:Int)=((ddK [] ((ds.map keyD).map zaj8)).length:Int))=decide ((ds.map keyD).Nodup):=by
     rw[zdb1,decide_eq_true_eq,decide_eq_true_eq]
     exact dd_len
    rw[e5]
    exact q
 rw[e0]
 refine zb9 (br_F ?_)
 refine br_T ?_
 ac_nf
 have q:=q _ (Same.refl _)
 rw[zbs9 e0] at q
 exact q
theorem zt3{d:PyData}(e:zad2 h d=true):∃ ds,d=.list ds/\0<ds.length/\rowD d=true/\∀ z∈rowF d,z.1<=h:=by
 cases d with
 | list ds=>
  have e:(ds.all (zu5 h)&&(incD ds&&decide (0<ds.length)))=true:=e
  rw[zcx4,zcx4,decide_eq_true_eq,zcx2] at e
  obtain⟨e1,e2,e3⟩:=e
  have f1:∀ x∈ds,zm3 x=true/\(triD x).1<=h:=fun x hx=>by
   have:=e1 x hx
   unfold zu5 at this
   rw[zcx4,decide_eq_true_eq] at this
   exact this
  refine⟨ds,rfl,e3,?_,fun z hz=>?_⟩
  ·show (ds.all zm3&&incD ds)=true
   rw[zcx2.mpr fun x hx=>(f1 x hx).1,e2];rfl
  ·obtain⟨x,hx,rfl⟩:=zcx0.mp (show z∈ds.map triD from hz)
   exact (f1 x hx).2
 | _=>cases (show false=true from e)
theorem zca5(h0:0<ds.length)(hr:rowD (.list ds)=true)(hb:∀ z∈rowF (.list ds),z.1<=h):zad2 h (.list ds)=true:=by
 have hr:(ds.all zm3&&incD ds)=true:=hr
 rw[zcx4] at hr
 show (ds.all (zu5 h)&&(incD ds&&decide (0<ds.length)))=true
 rw[hr.2,decide_eq_true h0,Bool.and_self,Bool.and_true,zcx2]
 intro x hx
 unfold zu5
 rw[zcx2.mp hr.1 x hx,zcz7]
 exact decide_eq_true (hb _ (zcx0.mpr ⟨x,hx,rfl⟩))
noncomputable def gonP(d:PyData):List (Int×Int):=(rowF d).map fun z=>(z.1 - z.2.1,z.2.2)
noncomputable def comP(d:PyData):List (Int×Int):=(rowF d).map fun z=>(z.1,z.2.2)
theorem zm9{f:Int}(e:zd4 h f (.list ds)=true):0<ds.length/\(ds.length:Int)=f/\(∀ i,i<ds.length->zad2 h (ds.getD i .none)=true)/\zaf7 h (ds.getD 0 .none)=true/\zay3 (ds.getD (ds.length - 1) .none)=true/\∀ i,i+1<ds.length->zp0 (ds.getD i .none) (ds.getD (i+1) .none)=true:=by
 unfold zd4 at e
 simp only[zcx4] at e
 obtain⟨eb,el,ea,ef,eg,em⟩:=e
 have el:(ds.length:Int)=f:=of_decide_eq_true el
 have ea:ds.all rowD=true:=ea
 have ea:=zcx2.mp ea
 have em:zt7 ds=true:=em
 unfold zt7 at em
 have em:=zcx2.mp em
 have eb:(decide (0<ds.length)&&rowD (ds.getD 0 .none)&&decide (0<(zc2 (ds.getD 0 .none)).length))=true:=eb
 rw[zcx4,zcx4,decide_eq_true_eq,decide_eq_true_eq] at eb
 have ef:zaf7 h (ds.getD 0 .none)=true:=ef
 have mem:∀ i,i<ds.length->ds.getD i .none∈ds:=fun i hi=>by rw[zcw1,zcv7 hi];exact zdb0 _
 have key:∀ i,i<ds.length->0<(zc2 (ds.getD i .none)).length/\∀ z∈rowF (ds.getD i .none),z.1<=h:=fun i=>by
  induction i with
  | zero=>
   refine fun _=>⟨eb.2,fun z hz=>?_⟩
   have:=of_decide_eq_true (zcx2.mp ef z hz)
   omega
  | succ i ih=>
   intro hi
   obtain⟨i1,i2⟩:=ih (by rfl')
   have mt:=em i (zcy0.mpr (by rfl'))
   refine⟨zbl6 mt i1,fun z hz=>?_⟩
   unfold zp0 at mt
   have hv:=(zag0 mt).2 z.1
   have hk:z.1∈((rowF (ds.getD (i+1) .none)).map fun z=>(z.1,z.2.2)).map (·.1):=zcx0.mpr ⟨(z.1,z.2.2),zcx0.mpr ⟨z,hz,rfl⟩,rfl⟩
   rw[zw2,zw2,if_pos hk] at hv
   by_cases c:z.1∈((rowF (ds.getD i .none)).map fun z=>(z.1 - z.2.1,z.2.2)).map (·.1)
   ·obtain⟨y,hy,ey⟩:=zcx0.mp c
    obtain⟨w,hw,rfl⟩:=zcx0.mp hy
    have h1:=i2 w hw
    have r1:=ea _ (mem i (by rfl'))
    have w2:0<=w.2.1:=by
     obtain⟨x,hx,rfl⟩:=zcx0.mp (show w∈(zc2 (ds.getD i .none)).map triD from hw)
     have fx:zm3 x=true:=by
      cases ez:ds.getD i .none with
      | list es=>
       rw[ez] at r1 hx
       have r1:(es.all zm3&&incD es)=true:=r1
       rw[zcx4] at r1
       exact zcx2.mp r1.1 x hx
      | _=>rw[ez] at r1;cases (show false=true from r1)
     cases x with
     | tuple l=>
      match l,fx with
      | [a,b,c],fx=>
       have fx:(zr8 0 a&&zac9 0 (intD a) b&&zr8 1 c)=true:=fx
       rw[zcx4,zcx4] at fx
       obtain⟨j,rfl,hj,_⟩:=zaj7 fx.1.2
       exact hj
      | [],fx=>cases (show false=true from fx)
      | [_],fx=>cases (show false=true from fx)
      | [_,_],fx=>cases (show false=true from fx)
      | _ :: _ :: _ :: _ :: _,fx=>cases (show false=true from fx)
     | _=>cases (show false=true from fx)
    have ey:w.1 - w.2.1=z.1:=ey
    omega
   ·rw[if_neg c] at hv
    cases hv
 refine⟨eb.1.1,el,fun i hi=>?_,ef,eg,fun i hi=>em i (zcy0.mpr (by rfl'))⟩
 obtain⟨k1,k2⟩:=key i hi
 have r1:=ea _ (mem i hi)
 cases ez:ds.getD i .none with
 | list es=>rw[ez] at k1 k2 r1;exact zca5 k1 r1 k2
 | _=>rw[ez] at r1;cases (show false=true from r1)
theorem zbq3{f:Int}(h0:0<ds.length)(hl:(ds.length:Int)=f)(hr:∀ i,i<ds.length->zad2 h (ds.getD i .none)=true)(hf:zaf7 h (ds.getD 0 .none)=true)(hm:∀ i,i+1<ds.length->zp0 (ds.getD i .none) (ds.getD (i+1) .none)=true):zd4 h f (.list ds)=zay3 (ds.getD (ds.length - 1) .none):=by
 have rd:∀ i,i<ds.length->rowD (ds.getD i .none)=true/\0<(zc2 (ds.getD i .none)).length:=fun i hi=>by
  obtain⟨es,e1,e2,e3,_⟩:=zt3 (hr i hi)
  rw[e1] at e3 ⊢
  exact⟨e3,e2⟩
 have a1:zz5 (.list ds)=true:=by
  show (decide (0<ds.length)&&rowD (ds.getD 0 .none)&&decide (0<(zc2 (ds.getD 0 .none)).length))=true
  rw[decide_eq_true h0,(rd 0 h0).1,decide_eq_true (rd 0 h0).2];rfl
 have a2:(zc2 (.list ds)).all rowD=true:=zcx2.mpr fun x hx=>by
  obtain⟨i,ei⟩:=zcx8 (show x∈ds from hx)
  have:=(rd i (zcv9.mp ei).1).1
  rwa [getD_some ei] at this
 have a3:zt7 ds=true:=zcx2.mpr fun i hi=>hm i (by have:=zcy0.mp hi;omega)
 unfold zd4
 rw[a1,a2,show decide (((zc2 (.list ds)).length:Int)=f)=true from decide_eq_true hl,show zaf7 h ((zc2 (.list ds)).getD 0 .none)=true from hf,show zt7 (zc2 (.list ds))=true from a3,zcz7,zcz7,zcz7,zcz7,Bool.and_true]
 rfl
theorem zbg2{zs:List (Int×Int)}{ms:List Int}(pm:ms.Perm ((sumG zs).map (·.1)))(h0:zs≠[]):decide (ms=[h])=zs.all fun z=>decide (z.1=h):=by
 obtain⟨nd,mk⟩:=zh2 zs
 rw[zdb1,decide_eq_true_eq,zcx2]
 constructor
 ·intro e z hz
  have:z.1∈ms:=pm.mem_iff.mpr ((mk z.1).mpr (zcx0.mpr ⟨z,hz,rfl⟩))
  rw[e] at this
  exact decide_eq_true (zcz6.mp this)
 ·intro a
  have all:∀ k∈ms,k=h:=fun k hk=>by
   obtain⟨z,hz,rfl⟩:=zcx0.mp ((mk k).mp (pm.mem_iff.mp hk))
   exact of_decide_eq_true (a z hz)
  have nd':=pm.nodup_iff.mpr nd
  cases ms with
  | nil=>
   obtain⟨z,hz⟩:=List.exists_mem_of_ne_nil zs h0
   have:=pm.mem_iff.mpr ((mk z.1).mpr (zcx0.mpr ⟨z,hz,rfl⟩))
   cases this
  | cons x xs=>
   have ex:=all x (.head _)
   cases xs with
   | nil=>rw[ex]
   | cons y ys=>
    have ey:=all y (.tail _ (.head _))
    have:=(zdb3.mp nd').1
    rw[ex,ey] at this
    exact absurd (.head _) this
theorem zcl6{k:Nat}{α:Type}{xs:List α}{x d:α}(h:xs[k]?=some x):xs.getD k d=x:=by rw[zcw1,h];rfl
@[irreducible] noncomputable def zf3:Sp:=fun vs H Q _=>∃ (v:V) (d:PyData) (h:Int) (f:Nat),vs=[.int h,.int f,v]/\ShV H v d/\(1<=f/\f<=100)/\(∀ x∈zc2 d,(zc2 x).length<=18)/\∀ H',Same H H'->Q (.bl (zd4 h f d)) H'
theorem zcc8{v:V}{d:PyData}{f:Nat}(hv:ShV H v d)(h1:1<=f)(h2:f<=100)(hs:∀ x∈zc2 d,(zc2 x).length<=18)(q:∀ H',Same H H'->Q (.bl (zd4 h f d)) H'):zf3 [.int h,.int f,v] H Q E:=by unfold zf3;exact⟨v,d,h,f,rfl,hv,⟨h1,h2⟩,hs,q⟩
theorem zae1(F:Fun K "_law_is_stream" "_law_is_stream" zo2 f fd)(N:Nm mg)(zcs3:Def P w K mg base CX0 2 "_law_is_row" ["_law_row","_law_hosts"] zh9):FnOk P w K mg base CX0 3 f fd ["_law_hosts","_law_many","_law_stream"] zf3:=by
 refine F.ok zd1 (fun vs H Q E h=>by unfold zf3 at h;obtain⟨_,_,_,_,rfl,_⟩:=h;rfl) fun _ _ _ s H vs Q E hr h=>?_
 unfold zf3 at h
 obtain⟨v,d,hh,f,rfl,h,⟨f1,f2⟩,hs,q⟩:=h
 have hu:=hu40 hr
 refine⟨_,(za3 (psIf (ptW (pwOr (zh6 (ptV (pB (zq2 (K:=K) rfl) N.isinstance_ zb8 (za0 (pq 2) (za0 (pTy N.list_ zp7) za1))))) (zo4 (ptC (zac6 (K:=K) rfl (by exact hu)) (pB (zf7 (K:=K) rfl) N.len_ zd2 (za0 (pq 2) za1)) (pq 1))))) (za4 (za9 zs9)) zb2)
   (za3 (psS (i:=3) zd1.nd zak3)
   (za3 (zp5 PassesOwn.never rfl (zl6 N.range_ (za0 (pq 1) za1)) (za5 (i:=4) zd1.nd rfl (by eq_refl)) (za3 (psIf (zh6 (ptV (pD zcs3 hr zb3 (za0 (za7 (K:=K) rfl (pq 2) (pq 4)) (za0 (pq 0) za1))))) (za4 (za9 zs9)) zb2)
   (za3 (psS (i:=5) zd1.nd zak3)
   (za3 (psS (i:=6) zd1.nd zak3)
   (za3 (zp5 PassesOwn.never rfl (ze4 (K:=K) rfl (za7 (K:=K) rfl (pq 2) (pq 4))) (zi6 (K:=K) (n:=3) rfl rfl (zb7 (za5 (i:=7) zd1.nd rfl (by eq_refl)) (zb7 (za5 (i:=8) zd1.nd rfl (by eq_refl)) (zb7 (za5 (i:=9) zd1.nd rfl (by eq_refl)) zj0)))) (za3 (zbi8 (by exact hu) (pq 5) (pq 7) (zb4 oAdd (zaf9 (by exact hu) (pq 5) (pq 7) za2) (pq 9)))
   (za4 (zbi8 (by exact hu) (pq 6) (zb4 oSub (pq 7) (pq 8)) (zb4 oAdd (zaf9 (by exact hu) (pq 6) (zb4 oSub (pq 7) (pq 8)) za2) (pq 9))))))
   (za3 (psIf (ptW (pwOr (ptW (zaf6 (ptC (zn6 (K:=K) rfl (by exact hu)) (pq 4) za2) (zo1 (ptC (zac6 (K:=K) rfl (by exact hu)) (pB (zca2 (K:=K) rfl rfl) N.sorted_ zaa4 (za0 (pq 5) za1)) (zg3 (za0 (pq 0) za1)))))) (zo4 (ptW (zaf6 (ptC oGt (pq 4) za2) (zo1 (ptC (zac6 (K:=K) rfl (by exact hu)) (pq 5) (pq 3)))))))) (za4 (za9 zs9)) zb2)
   (za4 (psS (i:=3) zd1.nd (pq 6)))))))))
   (za4 (za9 (peC (zn6 (K:=K) rfl (by exact hu)) (pB (zca2 (K:=K) rfl rfl) N.sorted_ zaa4 (za0 (pq 3) za1)) (zg3 (za0 za2 za1)))))))),?_⟩
 refine zf9 h (.inr (.inr (.inl rfl))) ?_
 rcases h.lstOr with ⟨a,xs,ds,rfl,rfl,e,l⟩|e0
 case inl=>
  have ll:=l.len
  refine zb9 (br_T ?_)
  refine zc5 e ?_
  rw[ll]
  refine zb9 (zc8 (fun z=>?_) (fun z=>?_))
  rotate_left
  ·ac_nf
   have q:=q _ (Same.refl _)
   rw[show zd4 hh f (.list ds)=false by
    cases es:zd4 hh f (.list ds)
    ·rfl
    ·exact absurd (zm9 es).2.1 z] at q
   exact q
  have zf:ds.length=f:=by rfl'
  refine zbg9 (fun c0 H1 g1 s1 h1=>?_)
  refine ze2 (by decide) (by decide) (by rfl') (by rfl') ?_
  rw[show ((f:Int) - 0).toNat=f by rfl']
  refine zf5 (fun k σ I=>∃ (y5 y6 y7 y8 y9 y10:Option V) (co:Addr),σ=[some (.int hh),some (.int f),some (.ref a),some (.ref co),y5,y6,y7,y8,y9,y10]/\Same H I/\(0<k->I co=some (.dK (dF Sum.inl (sumG (gonP (ds.getD (k - 1) .none))))))/\(∀ i,i<k->zad2 hh (ds.getD i .none)=true)/\(0<k->zaf7 hh (ds.getD 0 .none)=true)/\∀ i,i+1<k->zp0 (ds.getD i .none) (ds.getD (i+1) .none)=true) ?_ ?_ ?_
  ·exact⟨_,_,_,_,_,_,c0,rfl,s1,fun h=>absurd h (by rfl'),fun i hi=>absurd hi (by rfl'),fun h=>absurd h (by rfl'),fun i hi=>absurd hi (by rfl')⟩
  ·rintro k σ I hk ⟨y5,y6,y7,y8,y9,y10,co,rfl,sI,hco,hrow,hful,hmt⟩
   have hk:k<f:=hk
   rw[zdc3]
   obtain⟨x,ex⟩:∃ x,xs[k]?=some x:=⟨_,zcv7 (by rfl')⟩
   obtain⟨dk,edk,hdk⟩:=l.get k x ex
   have gk:ds.getD k .none=dk:=getD_some edk
   have atk:atI xs (k:Int)=some x:=zc1 ex
   have bad:∀ {I'},Same I I'->zd4 hh f (.list ds)=false->Q (.bl false) I':=fun {I'} s' z=>by
    have q:=q I' (sI.trans s')
    rw[z] at q
    exact q
   refine zb0 (v:=x) (sI _ _ e) atk ?_
   refine zcb9 (hdk.same sI) (hs dk (zcw3 edk)) (fun I1 s1'=>?_)
   cases er:zad2 hh dk
   ·ac_nf
    refine zb9 (br_F ?_)
    ac_nf
    refine bad s1' ?_
    cases es:zd4 hh f (.list ds)
    ·rfl
    ·have:=(zm9 es).2.2.1 k (by rfl')
     rw[gk,er] at this
     cases this
   obtain⟨es,rfl,es0,rdk,_⟩:=zt3 er
   obtain⟨b,ts,ds',rfl,e1',eb,tl,hts,_⟩:=zan4 (hdk.same (sI.trans s1')) rdk
   cases e1'
   have eb0:∀ I',Same I1 I'->I' b=some (.lst (ts.map V.ref)):=fun I' s'=>s' _ _ eb
   have fl:(rowF (.list es)).length=es.length:=zj7 es
   have es18:es.length<=18:=hs (.list es) (zcw3 edk)
   refine zb9 (br_T ?_)
   refine zbg9 (fun tk I2 f2 s2 h2=>?_)
   refine zbg9 (fun gn I3 f3 s3 h3=>?_)
   have ntg:tk≠gn:=za6 h2 f3
   have s13:=s2.trans s3
   have sI3:=(sI.trans s1').trans s13
   have ftk:I1 tk=none:=f2
   have fgn:I1 gn=none:=s2.free f3
   refine zb0 (v:=.ref b) (sI3 _ _ e) atk ?_
   refine zc4 (eb0 _ s13) ?_
   refine zn7 (xs:=ts.map V.ref) (fun j σ J=>∃ y8 y9 y10:Option V,σ=[some (.int hh),some (.int f),some (.ref a),some (.ref co),some (.int k),some (.ref tk),some (.ref gn),y8,y9,y10]/\Same I1 J/\J tk=some (.dK (dF Sum.inl (sumG ((comP (.list es)).take j))))/\J gn=some (.dK (dF Sum.inl (sumG ((gonP (.list es)).take j))))) ?_ ?_ ?_ ?_
   ·exact⟨_,_,_,rfl,s13,s3 _ _ h2,h3⟩
   ·rintro j σ J _ ⟨_,_,_,_,sJ,_,_⟩
    exact SqL.of (eb0 _ sJ)
   ·rintro j v σ J hj ⟨y8',y9',y10',rfl,sJ,htk,hgn⟩
    rw[zcw0] at hj
    obtain⟨t,et,rfl⟩:=zcw4.mp hj
    have jl:=(zcv9.mp et).1
    obtain⟨z,ez⟩:∃ z,(rowF (.list es))[j]?=some z:=⟨_,zcv7 (by rfl')⟩
    have ht:=sJ _ _ (hts j t z et ez)
    have ec:(comP (.list es))[j]?=some (z.1,z.2.2):=by unfold comP;rw[zcw0,ez];rfl
    have eg:(gonP (.list es))[j]?=some (z.1 - z.2.1,z.2.2):=by unfold gonP;rw[zcw0,ez];rfl
    refine zd8 ht ?_
    refine zbd8 htk ?_
    refine zbd4 htk ?_
    have ev:(valV (dF Sum.inl (sumG ((comP (.list es)).take j))) (Sum.inl z.1:Key)).getD (V.int 0)=.int ((valG (sumG ((comP (.list es)).take j)) z.1).getD 0):=by
     rw[zz3 zx2]
     cases valG (sumG ((comP (.list es)).take j)) z.1<;>rfl
    rw[ev]
    refine zbw0 htk (by unfold dF;rw[zcv8,zdf5];have:=zq0 ((comP (.list es)).take j);rw[zda3] at this;omega) (fun J2 c2 k2=>?_)
    rw[zak1 zx2] at k2
    have hgn2:=c2 _ _ (Ne.symm ntg) hgn
    refine zbd8 hgn2 ?_
    refine zbd4 hgn2 ?_
    have ev2:(valV (dF Sum.inl (sumG ((gonP (.list es)).take j))) (Sum.inl (z.1 - z.2.1):Key)).getD (V.int 0)=.int ((valG (sumG ((gonP (.list es)).take j)) (z.1 - z.2.1)).getD 0):=by
     rw[zz3 zx2]
     cases valG (sumG ((gonP (.list es)).take j)) (z.1 - z.2.1)<;>rfl
    rw[ev2]
    refine zbw0 hgn2 (by unfold dF;rw[zcv8,zdf5];have:=zq0 ((gonP (.list es)).take j);rw[zda3] at this;omega) (fun J3 c3 k3=>?_)
    rw[zak1 zx2] at k3
    ac_nf
    exact⟨_,_,_,rfl,(sJ.chg ftk c2).chg fgn c3,by rw[c3 _ _ ntg k2,zaa2 ec];rfl,by rw[k3,zaa2 eg];rfl⟩
   ·rintro σ J ⟨y8',y9',y10',rfl,sJ,htk,hgn⟩
    have l1:(comP (.list es)).length=es.length:=by unfold comP;rw[zcv8,fl]
    have l2:(gonP (.list es)).length=es.length:=by unfold gonP;rw[zcv8,fl]
    rw[zcv8,tl,zdb5 (by rfl')] at htk hgn
    have sIJ:=s1'.trans sJ
    have zne:comP (.list es)≠[]:=fun z=>by rw[z] at l1;simp at l1;omega
    have sl:(sumG (comP (.list es))).length<64:=by have:=zq0 (comP (.list es));omega
    refine zc8 (fun k0=>?_) (fun k0=>?_)
    ·obtain rfl:k=0:=by rfl'
     refine zan0 (kv:=sumG (comP (.list es))) htk sl (fun so J1 ms f4 s4 pm po h4=>?_)
     refine zc3 (fun p5 J2 f5 s5 h5=>?_)
     refine zbv2 (EqR.intL (xs:=ms) (ys:=[hh]) (SqL.of (s5 _ _ h4)) (SqL.of h5)) ?_
     rw[zbg2 pm zne]
     have ef:((comP (.list es)).all fun z=>decide (z.1=hh))=zaf7 hh (.list es):=by unfold comP zaf7;rw[zdd6];rfl
     rw[ef]
     have s2':=s4.trans s5
     cases efl:zaf7 hh (.list es)
     ·ac_nf
      first|refine br_T ?_|refine zb9 (br_F ?_)
      ac_nf
      first|refine br_T ?_|skip
      first|(ac_nf)|skip
      refine bad (sIJ.trans s2') ?_
      cases es':zd4 hh f (.list ds)
      ·rfl
      ·have:=(zm9 es').2.2.2.1
       rw[gk,efl] at this
       cases this
     ·ac_nf
      first|refine br_F ?_|refine zb9 (br_T ?_)
      ac_nf
      first|refine br_F ?_|skip
      first|(ac_nf)|skip
      refine br_F ?_
      ac_nf
      refine⟨_,_,_,_,_,_,gn,rfl,sI.trans (sIJ.trans s2'),fun _=>?_,fun i hi=>?_,fun _=>?_,fun i hi=>by rfl'⟩
      ·rw[gk];exact s2' _ _ hgn
      ·obtain rfl:i=0:=by rfl'
       rw[gk];exact er
      ·rw[gk];exact efl
    ·have hk0:0<k:=by rfl'
     refine br_F ?_
     refine zk2 (by rfl') ?_
     refine zch0 (ka:=sumG (comP (.list es))) (kb:=sumG (gonP (ds.getD (k - 1) .none))) htk (sIJ _ _ (hco hk0)) ?_
     have em:eqDI (sumG (comP (.list es))) (sumG (gonP (ds.getD (k - 1) .none)))=zp0 (ds.getD (k - 1) .none) (ds.getD k .none):=by
      rw[gk]
      exact zbo3 _ _
     rw[em]
     cases emt:zp0 (ds.getD (k - 1) .none) (ds.getD k .none)
     ·ac_nf
      first|refine br_T ?_|refine zb9 (br_F ?_)
      ac_nf
      refine bad sIJ ?_
      cases es':zd4 hh f (.list ds)
      ·rfl
      ·have:=(zm9 es').2.2.2.2.2 (k - 1) (by rfl')
       rw[show k - 1+1=k by rfl',emt] at this
       cases this
     ·ac_nf
      first|refine br_F ?_|refine zb9 (br_T ?_)
      ac_nf
      refine⟨_,_,_,_,_,_,gn,rfl,sI.trans sIJ,fun _=>?_,fun i hi=>?_,fun _=>hful hk0,fun i hi=>?_⟩
      ·rw[show k+1 - 1=k by rfl',gk];exact hgn
      ·by_cases z2:i<k
       ·exact hrow i z2
       ·obtain rfl:i=k:=by rfl'
        rw[gk];exact er
      ·by_cases z2:i+1<k
       ·exact hmt i z2
       ·obtain rfl:i=k - 1:=by rfl'
        rw[show k - 1+1=k by rfl'];exact emt
  ·rintro σ I ⟨y5,y6,y7,y8,y9,y10,co,rfl,sI,hco,hrow,hful,hmt⟩
   have hco:=hco (by rfl')
   have fin:=zbq3 (h:=hh) (f:=f) (ds:=ds) (by rfl') (by rfl') (fun i hi=>hrow i (by rfl')) (hful (by rfl')) (fun i hi=>hmt i (by rfl'))
   obtain⟨es,e1,es0,_,_⟩:=zt3 (hrow (f - 1) (by rfl'))
   have l2:(gonP (ds.getD (f - 1) .none)).length=es.length:=by unfold gonP;rw[zcv8,e1,zj7]
   obtain⟨x,ex⟩:∃ x,ds[f - 1]?=some x:=⟨_,zcv7 (by rfl')⟩
   have es18:es.length<=18:=by
    have:=hs x (zcw3 ex)
    rw[getD_some ex] at e1
    rw[e1] at this
    exact this
   refine zan0 (kv:=sumG (gonP (ds.getD (f - 1) .none))) hco (by have:=zq0 (gonP (ds.getD (f - 1) .none));omega) (fun so J1 ms f4 s4 pm po h4=>?_)
   refine zc3 (fun p5 J2 f5 s5 h5=>?_)
   refine zbv2 (EqR.intL (xs:=ms) (ys:=[0]) (SqL.of (s5 _ _ h4)) (SqL.of h5)) ?_
   rw[zbg2 pm (fun z=>by rw[z] at l2;simp at l2;omega)]
   have ef:((gonP (ds.getD (f - 1) .none)).all fun z=>decide (z.1=0))=zay3 (ds.getD (ds.length - 1) .none):=by
    rw[zf]
    unfold gonP zay3
    rw[zdd6]
    refine congrArg (fun g=>(rowF (ds.getD (f - 1) .none)).all g) (funext fun z=>?_)
    show decide (z.1 - z.2.1=0)=decide (z.1=z.2.1)
    rw[zdb1,decide_eq_true_eq,decide_eq_true_eq]
    omega
   rw[ef,← fin]
   ac_nf
   exact q _ ((sI.trans s4).trans s5)
 rw[e0]
 refine zb9 (br_F ?_)
 refine br_T ?_
 ac_nf
 have q:=q _ (Same.refl _)
 rw[show zd4 _ _ d=false by cases d<;>first|rfl|exact zde7 (show true=false from e0)] at q
 exact q
structure PapS(H:Hp)(p st tb:Addr)(rs:List (Addr×List Addr))(xss:List (List (Int×Int×Int)))(qs:List Addr)(F k:Nat)(T:Nat->Nat->Int):Prop where
 out:H p=some (.tup [.ref st,.ref tb])
 stm:StW H st rs xss
 tab:zf0 H tb qs F k T
theorem PapS.same{H H':Hp}{p st tb:Addr}{rs:List (Addr×List Addr)}{xss:List (List (Int×Int×Int))}{qs:List Addr}{F k:Nat}{T:Nat->Nat->Int}(A:PapS H p st tb rs xss qs F k T)(s:Same H H'):PapS H' p st tb rs xss qs F k T:=⟨s _ _ A.out,A.stm.same s,A.tab.same s⟩
noncomputable def bndS(D T:Nat->Nat->Int)(F k c:Nat):List Int:=if k+1<F then (List.range (c+1)).map fun s=>D k s+T (k+1) (c - s) else [D k c]
noncomputable def zbn5:PyData->Option (PyData×PyData)
 | .tuple [a,b]=>some (a,b)
 | _=>none
noncomputable def zp8(h F W:Int)(d:PyData):Option Str:=match zbn5 d with
 | none=>some "paper"
 | some (a,b)=>if zd4 h F a=true then (if tabD F W b=true then none else some "table") else some "stream"
noncomputable def xsD(d:PyData):List (List (Int×Int×Int)):=match zbn5 d with
 | some (a,_)=>(zc2 a).map rowF
 | none=>[]
noncomputable def tabT(b:PyData)(k c:Nat):Int:=intD ((zc2 ((zc2 b).getD k .none)).getD c .none)
noncomputable def tbD(d:PyData):Nat->Nat->Int:=match zbn5 d with
 | some (_,b)=>tabT b
 | none=>fun _ _=>0
theorem zbj8{F W:Int}{d:PyData}(e:isD "tuple" d=false):zp8 h F W d=some "paper":=by
 cases d<;>first|rfl|exact zde7 (show true=false from e)
theorem zav1(h:ds.length≠2):zbn5 (.tuple ds)=none:=by
 match ds,h with
 | [],_=>rfl
 | [_],_=>rfl
 | [_,_],h=>exact absurd rfl h
 | _ :: _ :: _ :: _,_=>rfl
theorem zao8{x:PyData}(h:zm3 x=true):x=zu1 (triD x)/\(0<=(triD x).2.1/\(triD x).2.1<=(triD x).1/\1<=(triD x).2.2):=by
 cases x with
 | tuple l=>
  match l,h with
  | [a,b,c],h=>
   have h:(zr8 0 a&&zac9 0 (intD a) b&&zr8 1 c)=true:=h
   rw[zcx4,zcx4] at h
   obtain⟨i,rfl,hi⟩:=zv3 h.1.1
   obtain⟨j,rfl,hj,hj2⟩:=zaj7 h.1.2
   obtain⟨k,rfl,hk⟩:=zv3 h.2
   exact⟨rfl,hj,hj2,hk⟩
  | [],h=>cases (show false=true from h)
  | [_],h=>cases (show false=true from h)
  | [_,_],h=>cases (show false=true from h)
  | _ :: _ :: _ :: _ :: _,h=>cases (show false=true from h)
 | _=>cases (show false=true from h)
theorem zao6{α β:Type}{f:α->β}{g:β->α}:∀ {xs:List α},(∀ x∈xs,x=g (f x))->xs=(xs.map f).map g
 | [],_=>rfl
 | x :: xs,h=>by
  rw[zcz4,zcz4,← h x (.head _),← zao6 fun y hy=>h y (.tail _ hy)]
theorem zaz7{d:PyData}(h:rowD d=true):d=zg8 (rowF d)/\∀ z∈rowF d,0<=z.2.1/\z.2.1<=z.1/\1<=z.2.2:=by
 cases d with
 | list ds=>
  have h:(ds.all zm3&&incD ds)=true:=h
  rw[zcx4] at h
  have ha:=zcx2.mp h.1
  refine⟨congrArg PyData.list (zao6 fun x hx=>(zao8 (ha x hx)).1),fun z hz=>?_⟩
  obtain⟨x,hx,rfl⟩:=zcx0.mp (show z∈ds.map triD from hz)
  exact (zao8 (ha x hx)).2
 | _=>cases (show false=true from h)
theorem zbc8{f:Int}{d:PyData}(e:zd4 h f d=true):d=stmD ((zc2 d).map rowF)/\(((zc2 d).length:Int)=f/\0<(zc2 d).length)/\∀ xs∈(zc2 d).map rowF,0<xs.length/\∀ z∈xs,(0<=z.2.1/\z.2.1<=h)/\1<=z.2.2:=by
 cases d with
 | list ds=>
  obtain⟨a1,a2,a3,_⟩:=zm9 e
  have each:∀ x∈ds,zad2 h x=true:=fun x hx=>by
   obtain⟨i,ei⟩:=zcx8 hx
   have:=a3 i (zcv9.mp ei).1
   rwa [getD_some ei] at this
  refine⟨congrArg PyData.list (zao6 fun x hx=>?_),⟨a2,a1⟩,fun xs hx=>?_⟩
  ·obtain⟨es,_,_,hr,_⟩:=zt3 (each x hx)
   exact (zaz7 hr).1
  ·obtain⟨x,hx',rfl⟩:=zcx0.mp (show xs∈ds.map rowF from hx)
   obtain⟨es,rfl,h0,hr,hb⟩:=zt3 (each x hx')
   refine⟨by rw[zj7];exact h0,fun z hz=>?_⟩
   have z1:=hb z hz
   have z2:=(zaz7 hr).2 z hz
   exact⟨⟨z2.1,by rfl'⟩,z2.2.2⟩
 | _=>cases (show false=true from e)
theorem zcn3{d:PyData}(h:isW d=true):d=.int (intD d):=by
 cases d with
 | int i=>rfl
 | _=>cases (show false=true from h)
theorem zan7{α:Type}(ds:List α)(x:α):ds=(List.range ds.length).map fun i=>ds.getD i x:=by
 apply zdb4
 intro i
 rw[zcw0]
 by_cases h:i<ds.length
 ·rw[zda5 h,zcv7 h,Option.map_some,zcw1,zcv7 h];rfl
 ·rw[zcy7 (by rfl'),zcy7 (by rw[zcx6];omega)];rfl
theorem zbx9{d:PyData}(h:tabD F W d=true):d=.list ((List.range F).map fun i=>.list ((List.range W).map fun j=>.int (tabT d i j))):=by
 cases d with
 | list ds=>
  have h:(decide ((ds.length:Int)=F)&&ds.all (zj8 W))=true:=h
  rw[zcx4,decide_eq_true_eq] at h
  obtain⟨h1,h2⟩:=h
  have h2:=zcx2.mp h2
  obtain rfl:ds.length=F:=by rfl'
  refine congrArg PyData.list ((zan7 ds .none).trans (zcy9 fun i hi=>?_))
  have il:=zcy0.mp hi
  have hr:=h2 (ds.getD i .none) (by rw[zcw1,zcv7 il];exact zdb0 _)
  have ed:∀ j,tabT (.list ds) i j=intD ((zc2 (ds.getD i .none)).getD j .none):=fun j=>rfl
  generalize ds.getD i .none=e at hr ed
  cases e with
  | list es=>
   have hr:(decide ((es.length:Int)=W)&&es.all isW)=true:=hr
   rw[zcx4,decide_eq_true_eq] at hr
   obtain⟨h3,h4⟩:=hr
   have h4:=zcx2.mp h4
   obtain rfl:es.length=W:=by rfl'
   refine congrArg PyData.list ((zan7 es .none).trans (zcy9 fun j hj=>?_))
   have jl:=zcy0.mp hj
   rw[ed j]
   exact zcn3 (h4 _ (by rw[zcw1,zcv7 jl];exact zdb0 _))
  | _=>cases (show false=true from hr)
 | _=>cases (show false=true from h)
theorem zbt2{h:Nat}{d:PyData}(e:zp8 h F W d=none):∃ a b,d=.tuple [a,b]/\zd4 h F a=true/\tabD F W b=true:=by
 unfold zp8 at e
 cases ep:zbn5 d with
 | none=>rw[ep] at e;cases e
 | some ab=>
  obtain⟨a,b⟩:=ab
  rw[ep] at e
  have e:(if zd4 h F a=true then (if tabD F W b=true then none else some ("table":Str)) else some "stream")=none:=e
  have ed:d=.tuple [a,b]:=by
   cases d with
   | tuple l=>
    match l,ep with
    | [],ep=>cases ep
    | [_],ep=>cases ep
    | [x,y],ep=>cases ep;rfl
    | _ :: _ :: _ :: _,ep=>cases ep
   | _=>cases ep
  by_cases c1:zd4 h F a=true
  ·rw[if_pos c1] at e
   by_cases c2:tabD F W b=true
   ·exact⟨a,b,ed,c1,c2⟩
   ·rw[if_neg c2] at e;cases e
  ·rw[if_neg c1] at e;cases e
@[irreducible] noncomputable def zj6:Sp:=fun vs H Q _=>∃ (b l:Addr) (ps:List Addr) (n m:Nat) (sd:Bool) (fs:List Fd) (v:V) (d:PyData),vs=[.ref b,.str (wd sd),v]/\zj2 H b l ps n m fs/\OkB n m fs/\ShV H v d/\sml d=true/\(zp8 (ownH sd n m) fs.length (othH sd n m+1:Nat) d=none->∀ H',Same H H'->Q .non H')/\∀ x,zp8 (ownH sd n m) fs.length (othH sd n m+1:Nat) d=some x->∀ r H',H r=none->Same H H'->H' r=some (.tup [.str x])->Q (.ref r) H'
theorem zap3{b:Addr}{n:Nat}{fs:List Fd}{v:V}{d:PyData}(B:zj2 H b l ps n m fs)(O:OkB n m fs)(hv:ShV H v d)(hs:sml d=true)(q:zp8 (ownH sd n m) fs.length (othH sd n m+1:Nat) d=none->∀ H',Same H H'->Q .non H')(qx:∀ x,zp8 (ownH sd n m) fs.length (othH sd n m+1:Nat) d=some x->∀ r H',H r=none->Same H H'->H' r=some (.tup [.str x])->Q (.ref r) H'):zj6 [.ref b,.str (wd sd),v] H Q E:=by
 unfold zj6;exact⟨b,l,ps,n,m,sd,fs,v,d,rfl,B,O,hv,hs,q,qx⟩
theorem zao9(F:Fun K "wrong_form" "wrong_form" zw3 f fd)(N:Nm mg)(zct6:Def P w K mg base CX0 7 "is_stream" ["hosts","fields","stream"] zl1)(zcr7:Def P w K mg base CX0 3 "is_table" ["many_rows","many_numbers","rows"] zi4)(zcq3:Def P w K mg base CX0 1 "other_hosts" ["battle","side"] zf1)(zct7:Def P w K mg base CX0 1 "own_hosts" ["battle","side"] zl4):FnOk P w K mg base CX0 8 f fd ["battle","side","paper"] zj6:=by
 refine F.ok zab4 (fun vs H Q E h=>by unfold zj6 at h;obtain⟨_,_,_,_,_,_,_,_,_,rfl,_⟩:=h;rfl) fun _ _ _ s H vs Q E hr h=>?_
 unfold zj6 at h
 obtain⟨b,l,ps,n,m,sd,fs,v,d,rfl,B,O,hv,hs,q,qx⟩:=h
 have hu:=hu40 hr
 have bl:=B.len
 have o2:=O.2
 obtain⟨ho,hw⟩:=zai7 O sd
 refine⟨_,(za3 (psS (i:=3) zab4.nd (pB (zf7 (K:=K) rfl) N.len_ zd2 (za0 (za7 (K:=K) rfl (pq 0) za2) za1)))
   (za3 (psIf (ptW (pwOr (zh6 (ptV (pB (zq2 (K:=K) rfl) N.isinstance_ zb8 (za0 (pq 2) (za0 (pTy N.tuple_ zp9) za1))))) (zo4 (ptC (zac6 (K:=K) rfl (by exact hu)) (pB (zf7 (K:=K) rfl) N.len_ zd2 (za0 (pq 2) za1)) za2)))) (za4 (za9 (zf2 (za0 ze1 za1)))) zb2)
   (za3 (psIf (zh6 (ptV (pD zct6 hr zb3 (za0 (pD zct7 hr zb3 (za0 (pq 0) (za0 (pq 1) za1))) (za0 (pq 3) (za0 (za7 (K:=K) rfl (pq 2) za2) za1)))))) (za4 (za9 (zf2 (za0 ze1 za1)))) zb2)
   (za3 (psIf (zh6 (ptV (pD zcr7 hr zb3 (za0 (pq 3) (za0 (zb4 oAdd (pD zcq3 hr zb3 (za0 (pq 0) (za0 (pq 1) za1))) za2) (za0 (za7 (K:=K) rfl (pq 2) za2) za1)))))) (za4 (za9 (zf2 (za0 ze1 za1)))) zb2)
   (za4 (za9 zv0)))))),?_⟩
 refine zb1 (v:=.ref l) B.out rfl ?_
 refine zc5 B.lst ?_
 rw[zcv8,bl]
 refine zf9 hv (.inr (.inr (.inr rfl))) ?_
 rcases hv.tupOr with ⟨a,xs,ds,rfl,rfl,e,l'⟩|e0
 case inl=>
  have ll:=l'.len
  obtain⟨dl,dm⟩:=zbj6 hs
  refine zb9 (br_T ?_)
  refine zp6 e ?_
  rw[ll]
  refine zb9 (zc8 (fun h0=>?_) (fun h0=>?_))
  rotate_left
  ·ac_nf
   refine zb6 (fun r H1 f1 s1 h1=>?_)
   ac_nf
   refine qx "paper" ?_ r H1 f1 s1 h1
   unfold zp8
   rw[zav1 (by rfl')]
  obtain⟨x,y,dx,dy,rfl,rfl,hx,hy⟩:=zbc4 l' (by rfl')
  have fe:zp8 (ownH sd n m) fs.length (othH sd n m+1:Nat) (.tuple [dx,dy])=(if zd4 (ownH sd n m) fs.length dx=true then (if tabD fs.length (othH sd n m+1:Nat) dy=true then none else some ("table":Str)) else some ("stream":Str)):=rfl
  rw[fe] at q qx
  refine zat0 B.out ?_
  refine zb1 (v:=x) e rfl ?_
  refine zbn0 hx (dm dx (by simp)) (fun H1 s1=>?_)
  cases es:zd4 (ownH sd n m) fs.length dx
  ·rw[es] at q qx
   refine zb9 (br_F ?_)
   refine zb6 (fun r H2 f2 s2 h2=>?_)
   ac_nf
   exact qx "stream" rfl r H2 (s1.free f2) (s1.trans s2) h2
  rw[es,if_pos rfl] at q qx
  refine zb9 (br_T ?_)
  refine zq5 (s1 _ _ B.out) ?_
  refine zb1 (v:=y) (s1 _ _ e) rfl ?_
  refine zbo8 (hy.same s1) (dm dy (by simp)) (fun H2 s2=>?_)
  have ec:((othH sd n m:Int)+1)=((othH sd n m+1:Nat):Int):=by rfl'
  rw[ec]
  have s02:=s1.trans s2
  cases et:tabD fs.length (othH sd n m+1:Nat) dy
  ·rw[et] at q qx
   refine zb9 (br_F ?_)
   refine zb6 (fun r H3 f3 s3 h3=>?_)
   ac_nf
   exact qx "table" rfl r H3 (s02.free f3) (s02.trans s3) h3
  ·rw[et,if_pos rfl] at q
   refine zb9 (br_T ?_)
   ac_nf
   exact q rfl _ s02
 rw[e0]
 refine zb9 (br_F ?_)
 refine br_T ?_
 refine zb6 (fun r H1 f1 s1 h1=>?_)
 ac_nf
 exact qx "paper" (zbj8 e0) r H1 f1 s1 h1
noncomputable abbrev Kept(sd:Bool)(fs:List Fd)(xss:List (List (Int×Int×Int)))(T:Nat->Nat->Int)(k c:Nat):Prop:=∀ x∈bndS (fun k=>dueS sd (fs.getD k (.more 0 0)) (xss.getD k [])) T fs.length k c,zk1 sd (T k c) x=true
noncomputable abbrev zs1(sd:Bool)(n m:Nat)(fs:List Fd)(xss:List (List (Int×Int×Int)))(T:Nat->Nat->Int):Prop:=∀ k c,k<fs.length->c<=othH sd n m->Kept sd fs xss T k c
noncomputable def zw4(sd:Bool)(n m:Nat)(fs:List Fd)(xss:List (List (Int×Int×Int)))(T:Nat->Nat->Int)(i c:Nat):Prop:=i<fs.length/\c<=othH sd n m/\(∀ k c',k<i->c'<=othH sd n m->Kept sd fs xss T k c')/\(∀ d,d<c->Kept sd fs xss T i d)/\¬ Kept sd fs xss T i c
theorem zw4.one{n:Nat}{fs:List Fd}{i' c':Nat}(h:zw4 sd n m fs xss T i c)(g:zw4 sd n m fs xss T i' c'):i=i'/\c=c':=by
 obtain⟨h1,h2,h3,h4,h5⟩:=h
 obtain⟨g1,g2,g3,g4,g5⟩:=g
 have e1:i=i':=by
  rcases Nat.lt_trichotomy i i' with z|z|z
  ·exact absurd (g3 i c z h2) h5
  ·exact z
  ·exact absurd (h3 i' c' z g2) g5
 subst e1
 refine⟨rfl,?_⟩
 rcases Nat.lt_trichotomy c c' with z|z|z
 ·exact absurd (g4 c z) h5
 ·exact z
 ·exact absurd (h4 c' z) g5
@[irreducible] noncomputable def zg6:Sp:=fun vs H Q _=>∃ (b l p st tb:Addr) (ps:List Addr) (n m:Nat) (sd:Bool) (fs:List Fd) (rs:List (Addr×List Addr)) (xss:List (List (Int×Int×Int))) (qs:List Addr) (T:Nat->Nat->Int),vs=[.ref b,.str (wd sd),.ref p]/\zj2 H b l ps n m fs/\OkB n m fs/\(∀ f∈fs,f.Bd n m)/\PapS H p st tb rs xss qs fs.length (othH sd n m+1) T/\xss.length=fs.length/\(∀ xs∈xss,zx3 (ownH sd n m) xs)/\(zs1 sd n m fs xss T->∀ H',Same H H'->Q .non H')/\(∀ i c:Nat,zw4 sd n m fs xss T i c->∀ r H',H r=none->Same H H'->H' r=some (.tup [.str "number",.int i,.int c])->Q (.ref r) H')
theorem zai0{b p tb:Addr}{n:Nat}{fs:List Fd}(B:zj2 H b l ps n m fs)(O:OkB n m fs)(D:∀ f∈fs,f.Bd n m)(A:PapS H p st tb rs xss qs fs.length (othH sd n m+1) T)(hl:xss.length=fs.length)(ok:∀ xs∈xss,zx3 (ownH sd n m) xs)(q:zs1 sd n m fs xss T->∀ H',Same H H'->Q .non H')(qn:∀ i c:Nat,zw4 sd n m fs xss T i c->∀ r H',H r=none->Same H H'->H' r=some (.tup [.str "number",.int i,.int c])->Q (.ref r) H'):zg6 [.ref b,.str (wd sd),.ref p] H Q E:=by
 unfold zg6;exact⟨b,l,p,st,tb,ps,n,m,sd,fs,rs,xss,qs,T,rfl,B,O,D,A,hl,ok,q,qn⟩
theorem zav6{t:Int}{ns:List Int}{k:Nat}(hk:k=ns.length):((List.range k).map fun i=>V.bl (zk1 sd t (ns.getD i 0)))=(ns.map (zk1 sd t)).map V.bl:=by
 subst hk
 apply zdb4
 intro i
 rw[zcw0,zcw0,zcw0]
 by_cases h:i<ns.length
 ·rw[zda5 h,zcv7 h]
  simp[h]
 ·rw[zcy7 (by simp;omega),zcy7 (by rfl')]
  rfl
theorem zah4(F:Fun K "wrong_number" "wrong_number" zr3 f fd)(N:Nm mg)(zcv2:Def P w K mg base CX0 1 "bounds" ["field_dues","behind","count"] zn8)(zcv6:Def P w K mg base CX0 4 "dues" ["battle","side","stream"] zad4)(zcu6:Def P w K mg base CX0 1 "keeps" ["side","number","bound"] zt8):FnOk P w K mg base CX0 5 f fd ["battle","side","paper"] zg6:=by
 refine F.ok zf4 (fun vs H Q E h=>by unfold zg6 at h;obtain⟨_,_,_,_,_,_,_,_,_,_,_,_,_,_,rfl,_⟩:=h;rfl) fun _ _ _ s H vs Q E hr h=>?_
 unfold zg6 at h
 obtain⟨b,l,p,st,tb,ps,n,m,sd,fs,rs,xss,qs,T,rfl,B,O,D,PA,hl,ok,q,qn⟩:=h
 have hu:=hu40 hr
 have o2:=O.2
 obtain⟨ho,hw⟩:=zai7 O sd
 have tl:=PA.tab.len
 refine⟨_,(za3 (psS (i:=3) zf4.nd (za7 (K:=K) rfl (pq 2) za2))
   (za3 (zp5 PassesOwn.never rfl (zaz3 (K:=K) rfl N.enumerate_ (za0 (pD zcv6 hr zb3 (za0 (pq 0) (za0 (pq 1) (za0 (za7 (K:=K) rfl (pq 2) za2) za1)))) za1)) (zi6 (K:=K) (n:=2) rfl rfl (zb7 (za5 (i:=4) zf4.nd rfl (by eq_refl)) (zb7 (za5 (i:=5) zf4.nd rfl (by eq_refl)) zj0))) (za3 (psS (i:=6) zf4.nd (peIf (ptC (oLtX (by exact hu)) (zb4 oAdd (pq 4) za2) (pB (zf7 (K:=K) rfl) N.len_ zd2 (za0 (pq 3) za1))) (za7 (K:=K) rfl (pq 3) (zb4 oAdd (pq 4) za2)) zv0))
   (za4 (zp5 PassesOwn.never rfl (zaz3 (K:=K) rfl N.enumerate_ (za0 (za7 (K:=K) rfl (pq 3) (pq 4)) za1)) (zi6 (K:=K) (n:=2) rfl rfl (zb7 (za5 (i:=7) zf4.nd rfl (by eq_refl)) (zb7 (za5 (i:=8) zf4.nd rfl (by eq_refl)) zj0))) (za4 (psIf (zh6 (ptV (pB (zap6 (K:=K) rfl rfl) N.all_ zac1 (za0 (ze8 (N:=["bound","side","number"]) (ks:=[none,some 1,some 8]) (ze4 (K:=K) rfl (pD zcv2 hr zb3 (za0 (pq 5) (za0 (pq 6) (za0 (pq 7) za1))))) (fun _ _ _ _ _=>(za5 (i:=0) nb_14 rfl (by eq_refl))) (fun _ _ _ _ _=>zc7) (fun _ _ _ _ _=>(pD zcu6 hr zb3 (za0 (pq 1) (za0 (pq 2) (za0 (pq 0) za1))))) (.skip (.take rfl rfl (by eq_refl) (.take rfl rfl (by eq_refl) .nil)))) za1)))) (za4 (za9 (zf2 (za0 ze1 (za0 (pq 4) (za0 (pq 7) za1)))))) zb2))))))
   (za4 (za9 zv0)))),?_⟩
 refine zb1 (v:=.ref tb) PA.out rfl ?_
 refine zb1 (v:=.ref st) PA.out rfl ?_
 refine zcn1 B O D PA.stm hl ok (fun r gs H1 f1 s1 G1=>?_)
 have gl:=G1.len
 refine zar4 G1.out ?_
 refine zaa1 (xs:=gs.map V.ref) (fun i σ I=>∃ y5 y6 y7 y8 y9:Option V,σ=[some (.ref b),some (.str (wd sd)),some (.ref p),some (.ref tb),y5,y6,y7,y8,y9]/\Same H1 I/\∀ k c,k<i->c<=othH sd n m->Kept sd fs xss T k c) ?_ ?_ ?_ ?_
 ·exact⟨_,_,_,_,_,rfl,Same.refl _,fun k c hk=>absurd hk (zde0 k)⟩
 ·rintro i σ I _ ⟨_,_,_,_,_,_,sI,_⟩
  exact SqL.of (sI _ _ G1.out)
 ·rintro i y σ I e I' hy ⟨y5,y6,y7,y8,y9,rfl,sI,kp⟩ fe sE he
  rw[zcw0] at hy
  obtain⟨g,eg,rfl⟩:=zcw4.mp hy
  have hi:i<fs.length:=by have:=(zcv9.mp eg).1;omega
  have s1I:=sI.trans sE
  have s0I:=s1.trans s1I
  have hg:=s1I _ _ (G1.row i g eg)
  have PI:=PA.same s0I
  obtain⟨t0,et0,ht0⟩:=PI.tab.some hi
  refine zd8 he ?_
  refine zc5 PI.tab.out ?_
  rw[zcv8,tl]
  ac_nf
  have inner:∀ (bv:V) (Q1:St->Hp->Prop),(bv=.non/\¬ i+1<fs.length∨∃ t1:Addr,bv=.ref t1/\i+1<fs.length/\I' t1=some (.lst (rowV (othH sd n m+1) (T (i+1)))))->True:=fun _ _ _=>trivial
  refine zc8 (fun hl1=>?_) (fun hl1=>?_)
  ·have hi1:i+1<fs.length:=by rfl'
   obtain⟨t1,et1,ht1⟩:=PI.tab.some hi1
   refine zb0 (v:=.ref t1) PI.tab.out (by rw[show (i:Int)+1=((i+1:Nat):Int) by rfl'];exact zc1 (by rw[zcw0,et1];rfl)) ?_
   refine zb0 (v:=.ref t0) PI.tab.out (zc1 (by rw[zcw0,et0];rfl)) ?_
   refine zar4 ht0 ?_
   refine zaa1 (xs:=rowV (othH sd n m+1) (T i)) (fun c σ J=>∃ y8 y9:Option V,σ=[some (.ref b),some (.str (wd sd)),some (.ref p),some (.ref tb),some (.int i),some (.ref g),some (.ref t1),y8,y9]/\Same I' J/\∀ d,d<c->Kept sd fs xss T i d) ?_ ?_ ?_ ?_
   ·exact⟨_,_,rfl,Same.refl _,fun d hd=>absurd hd (zde0 d)⟩
   ·rintro c σ J _ ⟨_,_,_,sJ,_⟩
    exact SqL.of (sJ _ _ ht0)
   ·rintro c y σ J e2 J' hy ⟨y8,y9,rfl,sJ,kq⟩ fe2 sE2 he2
    have hc:c<othH sd n m+1:=by have:=(zcv9.mp hy).1;rwa [zd3] at this
    rw[ze5 hc] at hy
    cases hy
    have sJ2:=sJ.trans sE2
    refine zd8 he2 ?_
    refine zbl2 (sJ2 _ _ hg) (sJ2 _ _ ht1) hc (by rfl') (fun r3 J3 f3 s3 h3=>?_)
    refine zc4 h3 ?_
    refine zk0 (Wk.list (SqL.of h3)) (by rw[zcv8,zcv8,zcx6,zdf5];omega) (fun j=>.bl (zk1 sd (T i c) (((List.range (c+1)).map fun s=>dueS sd (fs.getD i (.more 0 0)) (xss.getD i []) s+T (i+1) (c - s)).getD j 0))) (fun _=>true) (fun j σ=>∃ t:Option V,σ=[t,some (.str (wd sd)),some (.int (T i c))]) ⟨none,rfl⟩ ?_ ?_
    ·rintro j x σ J4 R' S' hj s4 hx ⟨_,rfl⟩ kk _
     rw[zcw0] at hx
     obtain⟨bd,ebd,rfl⟩:=zcw4.mp hx
     rw[show ((List.range (c+1)).map fun s=>dueS sd (fs.getD i (.more 0 0)) (xss.getD i []) s+T (i+1) (c - s)).getD j 0=bd by rw[zcw1,ebd];rfl] at kk
     refine br_T ?_
     refine zao7 ?_
     ac_nf
     exact kk rfl _ _ (Same.refl _) ⟨_,rfl⟩
    intro acc J5 f5 s5 h5
    rw[ze6,zav6 (by rw[zcv8])] at h5
    refine zx4 h5 ?_
    have iff:(((List.range (c+1)).map fun s=>dueS sd (fs.getD i (.more 0 0)) (xss.getD i []) s+T (i+1) (c - s)).map (zk1 sd (T i c))).all id=true↔Kept sd fs xss T i c:=by
     rw[zdd6,zcx2]
     show _↔∀ x∈bndS (fun k=>dueS sd (fs.getD k (.more 0 0)) (xss.getD k [])) T fs.length i c,zk1 sd (T i c) x=true
     unfold bndS
     rw[if_pos hi1]
     exact Iff.rfl
    cases all:(((List.range (c+1)).map fun s=>dueS sd (fs.getD i (.more 0 0)) (xss.getD i []) s+T (i+1) (c - s)).map (zk1 sd (T i c))).all id
    ·ac_nf
     refine zb9 (br_F ?_)
     refine zb6 (fun r6 J6 f6 s6 h6=>?_)
     ac_nf
     have s05:=((s0I.trans sJ2).trans s3).trans s5
     exact qn i c ⟨hi,by rfl',kp,kq,fun ka=>by have:=iff.mpr ka;rw[all] at this;cases this⟩ r6 J6 (s05.free f6) (s05.trans s6) h6
    ·ac_nf
     refine zb9 (br_T ?_)
     ac_nf
     exact⟨_,_,rfl,(sJ2.trans s3).trans s5,fun d hd=>by
      rcases (show d<c∨d=c by rfl') with h|rfl
      ·exact kq d h
      ·exact iff.mp all⟩
   ·rintro σ J ⟨y8,y9,rfl,sJ,kq⟩
    exact⟨_,_,_,_,_,rfl,s1I.trans sJ,fun k c hk hc=>by
     rcases (show k<i∨k=i by rfl') with h|rfl
     ·exact kp k c h hc
     ·exact kq c (by rw[zd3];omega)⟩
  ·have hi1:¬ i+1<fs.length:=by rfl'
   refine zb0 (v:=.ref t0) PI.tab.out (zc1 (by rw[zcw0,et0];rfl)) ?_
   refine zar4 ht0 ?_
   refine zaa1 (xs:=rowV (othH sd n m+1) (T i)) (fun c σ J=>∃ y8 y9:Option V,σ=[some (.ref b),some (.str (wd sd)),some (.ref p),some (.ref tb),some (.int i),some (.ref g),some .non,y8,y9]/\Same I' J/\∀ d,d<c->Kept sd fs xss T i d) ?_ ?_ ?_ ?_
   ·exact⟨_,_,rfl,Same.refl _,fun d hd=>absurd hd (zde0 d)⟩
   ·rintro c σ J _ ⟨_,_,_,sJ,_⟩
    exact SqL.of (sJ _ _ ht0)
   ·rintro c y σ J e2 J' hy ⟨y8,y9,rfl,sJ,kq⟩ fe2 sE2 he2
    have hc:c<othH sd n m+1:=by have:=(zcv9.mp hy).1;rwa [zd3] at this
    rw[ze5 hc] at hy
    cases hy
    have sJ2:=sJ.trans sE2
    refine zd8 he2 ?_
    refine zbm9 (sJ2 _ _ hg) hc (by rfl') (fun r3 J3 f3 s3 h3=>?_)
    refine zc4 h3 ?_
    refine zk0 (Wk.list (SqL.of h3)) (by rw[zdf5];simp only[zcz4,List.map_nil,zcx5,zcz1];decide) (fun j=>.bl (zk1 sd (T i c) ([dueS sd (fs.getD i (.more 0 0)) (xss.getD i []) c].getD j 0))) (fun _=>true) (fun j σ=>∃ t:Option V,σ=[t,some (.str (wd sd)),some (.int (T i c))]) ⟨none,rfl⟩ ?_ ?_
    ·rintro j x σ J4 R' S' hj s4 hx ⟨_,rfl⟩ kk _
     rw[zcw0] at hx
     obtain⟨bd,ebd,rfl⟩:=zcw4.mp hx
     rw[show [dueS sd (fs.getD i (.more 0 0)) (xss.getD i []) c].getD j 0=bd by rw[zcw1,ebd];rfl] at kk
     refine br_T ?_
     refine zao7 ?_
     ac_nf
     exact kk rfl _ _ (Same.refl _) ⟨_,rfl⟩
    intro acc J5 f5 s5 h5
    rw[ze6,zav6 (by rw[zcv8])] at h5
    refine zx4 h5 ?_
    have iff:([dueS sd (fs.getD i (.more 0 0)) (xss.getD i []) c].map (zk1 sd (T i c))).all id=true↔Kept sd fs xss T i c:=by
     rw[zdd6,zcx2]
     show _↔∀ x∈bndS (fun k=>dueS sd (fs.getD k (.more 0 0)) (xss.getD k [])) T fs.length i c,zk1 sd (T i c) x=true
     unfold bndS
     rw[if_neg hi1]
     exact Iff.rfl
    cases all:([dueS sd (fs.getD i (.more 0 0)) (xss.getD i []) c].map (zk1 sd (T i c))).all id
    ·ac_nf
     refine zb9 (br_F ?_)
     refine zb6 (fun r6 J6 f6 s6 h6=>?_)
     ac_nf
     have s05:=((s0I.trans sJ2).trans s3).trans s5
     exact qn i c ⟨hi,by rfl',kp,kq,fun ka=>by have:=iff.mpr ka;rw[all] at this;cases this⟩ r6 J6 (s05.free f6) (s05.trans s6) h6
    ·ac_nf
     refine zb9 (br_T ?_)
     ac_nf
     exact⟨_,_,rfl,(sJ2.trans s3).trans s5,fun d hd=>by
      rcases (show d<c∨d=c by rfl') with h|rfl
      ·exact kq d h
      ·exact iff.mp all⟩
   ·rintro σ J ⟨y8,y9,rfl,sJ,kq⟩
    exact⟨_,_,_,_,_,rfl,s1I.trans sJ,fun k c hk hc=>by
     rcases (show k<i∨k=i by rfl') with h|rfl
     ·exact kp k c h hc
     ·exact kq c (by rw[zd3];omega)⟩
 ·rintro σ I ⟨y5,y6,y7,y8,y9,rfl,sI,kp⟩
  ac_nf
  exact q (fun k c hk hc=>kp k c (by rw[zcv8];omega) hc) _ (s1.trans sI)
@[irreducible] noncomputable def zi1:Sp:=fun vs H Q _=>∃ (b l p st tb w:Addr) (ps:List Addr) (n m:Nat) (sd:Bool) (fs:List Fd) (rs:List (Addr×List Addr)) (xss:List (List (Int×Int×Int))) (qs:List Addr) (T:Nat->Nat->Int) (w0 w1:Int),vs=[.ref b,.str (wd sd),.ref w,.ref p]/\zj2 H b l ps n m fs/\OkB n m fs/\PapS H p st tb rs xss qs fs.length (othH sd n m+1) T/\xss.length=fs.length/\(xss.getD 0 []).length<=1000/\H w=some (.tup [.int w0,.int w1])/\(-(10 ^ 200)<w0/\w0<10 ^ 200)/\(-(10 ^ 200)<w1/\w1<10 ^ 200)/\(-(10 ^ 200)<T 0 (othH sd n m)/\T 0 (othH sd n m)<10 ^ 200)/\(-(10 ^ 200)<((xss.getD 0 []).map fun z=>z.2.2).sum/\((xss.getD 0 []).map fun z=>z.2.2).sum<10 ^ 200) /\
 (zk1 sd (w0*((xss.getD 0 []).map fun z=>z.2.2).sum) (T 0 (othH sd n m)*w1)=true->∀ H',Same H H'->Q .non H')/\(zk1 sd (w0*((xss.getD 0 []).map fun z=>z.2.2).sum) (T 0 (othH sd n m)*w1)=false->∀ r H',H r=none->Same H H'->H' r=some (.tup [.str "worth"])->Q (.ref r) H')
theorem zal0{b p tb w:Addr}{n:Nat}{fs:List Fd}{w1:Int}(B:zj2 H b l ps n m fs)(O:OkB n m fs)(A:PapS H p st tb rs xss qs fs.length (othH sd n m+1) T)(hl:xss.length=fs.length)(h0:(xss.getD 0 []).length<=1000)(hw:H w=some (.tup [.int w0,.int w1]))(b0:-(10 ^ 200)<w0/\w0<10 ^ 200)(b1:-(10 ^ 200)<w1/\w1<10 ^ 200)(b2:-(10 ^ 200)<T 0 (othH sd n m)/\T 0 (othH sd n m)<10 ^ 200)(b3:-(10 ^ 200)<((xss.getD 0 []).map fun z=>z.2.2).sum/\((xss.getD 0 []).map fun z=>z.2.2).sum<10 ^ 200)(q1:zk1 sd (w0*((xss.getD 0 []).map fun z=>z.2.2).sum) (T 0 (othH sd n m)*w1)=true->∀ H',Same H H'->Q .non H')(q2:zk1 sd (w0*((xss.getD 0 []).map fun z=>z.2.2).sum) (T 0 (othH sd n m)*w1)=false->∀ r H',H r=none->Same H H'->H' r=some (.tup [.str "worth"])->Q (.ref r) H'):zi1 [.ref b,.str (wd sd),.ref w,.ref p] H Q E:=by
 unfold zi1;exact⟨b,l,p,st,tb,w,ps,n,m,sd,fs,rs,xss,qs,T,w0,w1,rfl,B,O,A,hl,h0,hw,b0,b1,b2,b3,q1,q2⟩
theorem zal9(F:Fun K "wrong_worth" "wrong_worth" zt5 f fd)(N:Nm mg)(zcu6:Def P w K mg base CX0 1 "keeps" ["side","number","bound"] zt8)(zcq3:Def P w K mg base CX0 1 "other_hosts" ["battle","side"] zf1)(zcu7:Def P w K mg base CX0 1 "whole_in" ["stream"] zm0):FnOk P w K mg base CX0 2 f fd ["battle","side","worth","paper"] zi1:=by
 refine F.ok zx6 (fun vs H Q E h=>by unfold zi1 at h;obtain⟨_,_,_,_,_,_,_,_,_,_,_,_,_,_,_,_,_,rfl,_⟩:=h;rfl) fun _ _ _ s H vs Q E hr h=>?_
 unfold zi1 at h
 obtain⟨b,l,p,st,tb,w,ps,n,m,sd,fs,rs,xss,qs,T,w0,w1,rfl,B,O,PA,hl,h0,hw,b0,b1,b2,b3,q1,q2⟩:=h
 have hu:=hu40 hr
 have o2:=O.2
 obtain⟨t0,et0,ht0⟩:=PA.tab.some (i:=0) (by rfl')
 refine⟨_,(za3 (psS (i:=4) zx6.nd (za7 (K:=K) rfl (za7 (K:=K) rfl (za7 (K:=K) rfl (pq 3) za2) za2) (pD zcq3 hr zb3 (za0 (pq 0) (za0 (pq 1) za1)))))
   (za3 (psIf (ptV (pD zcu6 hr zb3 (za0 (pq 1) (za0 (zb4 oMul (za7 (K:=K) rfl (pq 2) za2) (pD zcu7 hr zb3 (za0 (za7 (K:=K) rfl (pq 3) za2) za1))) (za0 (zb4 oMul (pq 4) (za7 (K:=K) rfl (pq 2) za2)) za1))))) (za4 (za9 zv0)) zb2)
   (za4 (za9 (zf2 (za0 ze1 za1)))))),?_⟩
 refine zb1 (v:=.ref tb) PA.out rfl ?_
 refine zb0 (v:=.ref t0) PA.tab.out (zc1 (j:=0) (by rw[zcw0,et0];rfl)) ?_
 refine zq5 B.out ?_
 refine zb0 (v:=.int (T 0 (othH sd n m))) ht0 (zc1 (ze5 (by rfl'))) ?_
 refine zb1 (v:=.int w0) hw rfl ?_
 refine zb1 (v:=.ref st) PA.out rfl ?_
 refine zbe8 PA.stm (by rfl') h0 (fun H1 s1=>?_)
 refine zu2 (zn1 (by rfl') (by rfl') (by rfl') (by rfl')) ?_
 refine zb1 (v:=.int w1) (s1 _ _ hw) rfl ?_
 refine zu2 (zn1 (by rfl') (by rfl') (by rfl') (by rfl')) ?_
 refine zao7 ?_
 cases ek:zk1 sd (w0*((xss.getD 0 []).map fun z=>z.2.2).sum) (T 0 (othH sd n m)*w1)
 ·ac_nf
  refine br_F ?_
  refine zb6 (fun r H2 f2 s2 h2=>?_)
  ac_nf
  exact q2 ek r H2 (s1.free f2) (s1.trans s2) h2
 ·ac_nf
  refine br_T ?_
  ac_nf
  exact q1 ek _ s1
theorem okI(i:Int)(n:Nat):okD n (.int i):=⟨rfl,rfl,zcy3 _⟩
theorem zo7{H:Hp}{α β:Type}{mk:β->V}{D:α->PyData}{P:β->α->Prop}(k:∀ x a,ShV H x (D a)->∃ y,x=mk y/\P y a):∀ {xs:List V}{as:List α},ShL H xs (as.map D)->∃ ys:List β,xs=ys.map mk/\ys.length=as.length/\∀ (i:Nat) y a,ys[i]?=some y->as[i]?=some a->P y a
 | xs,[],h=>by
  cases h
  exact⟨[],rfl,rfl,fun i y a e=>by simp at e⟩
 | xs,a :: as,h=>by
  cases h with
  | cons h1 h2=>
   obtain⟨y,rfl,p⟩:=k _ _ h1
   obtain⟨ys,rfl,l,q⟩:=zo7 k h2
   refine⟨y :: ys,rfl,by rw[zcx5,zcx5,l],fun i y' a' e1 e2=>?_⟩
   cases i with
   | zero=>cases e1;cases e2;exact p
   | succ i=>exact q i y' a' e1 e2
noncomputable def rowN(k:Nat)(r:Nat->Int):PyData:=.list ((List.range k).map fun y=>.int (r y))
noncomputable def zaa0(n m:Nat)(g:Nat->Nat->Int):PyData:=.list ((List.range n).map fun x=>rowN m (g x))
noncomputable def fdN(n m:Nat):Fd->PyData
 | .more w t=>.tuple [.str "more",.int w,.int t]
 | .lead w t=>.tuple [.str "lead",.int w,.int t]
 | .tab g=>.tuple [.str "table",zaa0 (n+1) (m+1) g]
noncomputable def batN(n m:Nat)(fs:List Fd):PyData:=.tuple [.int n,.int m,.list (fs.map (fdN n m))]
noncomputable def papN(xss:List (List (Int×Int×Int)))(F k:Nat)(T:Nat->Nat->Int):PyData:=.tuple [stmD xss,zaa0 F k T]
theorem zcn2{p:Addr}{k:Nat}{r:Nat->Int}(h:H p=some (.lst (rowV k r))):ShV H (.ref p) (rowN k r):=by
 unfold rowV at h
 refine .lst h (ShL.idx (by rw[zcv8,zcv8]) fun i x d g1 g2=>?_)
 rw[zcw0] at g1 g2
 obtain⟨t,et,rfl⟩:=zcw4.mp g1
 rw[et] at g2
 cases g2
 exact .int _
theorem zco6{v:V}{k:Nat}{r:Nat->Int}(h:ShV H v (rowN k r)):∃ p,v=.ref p/\H p=some (.lst (rowV k r)):=by
 unfold rowN at h
 cases h with
 | lst e l=>
  obtain⟨ys,rfl,ll,q⟩:=zo7 (mk:=fun y:Int=>V.int y) (D:=fun y:Nat=>PyData.int (r y)) (P:=fun y a=>y=r a) (fun x a h=>by cases h;exact⟨_,rfl,rfl⟩) l
  refine⟨_,rfl,?_⟩
  rw[e]
  refine congrArg some (congrArg HO.lst (zdb4 fun i=>?_))
  unfold rowV
  rw[zcw0,zcw0]
  by_cases hi:i<k
  ·obtain⟨y,ey⟩:∃ y,ys[i]?=some y:=⟨_,zcv7 (by rw[ll,zcx6];exact hi)⟩
   rw[ey,zda5 hi,q i y i ey (zda5 hi)];rfl
  ·rw[zcy7 (by rw[ll,zcx6];omega),zcy7 (by rw[zcx6];omega)];rfl
theorem zbg8{q:Addr}{n:Nat}{g:Nat->Nat->Int}(G:zf0 H q ps n m g):ShV H (.ref q) (zaa0 n m g):=by
 refine .lst G.out (ShL.idx (by rw[zcv8,zcv8,zcx6,G.len]) fun i x d e1 e2=>?_)
 rw[zcw0] at e1 e2
 obtain⟨r,er,rfl⟩:=zcw4.mp e1
 obtain⟨j,ej,rfl⟩:=zcw4.mp e2
 obtain⟨hj1,hj2⟩:=zcv9.mp ej
 rw[List.getElem_range] at hj2
 subst hj2
 exact zcn2 (G.row i r er)
theorem zaq5{v:V}{n:Nat}{g:Nat->Nat->Int}(h:ShV H v (zaa0 n m g)):∃ q ps,v=.ref q/\zf0 H q ps n m g:=by
 unfold zaa0 at h
 cases h with
 | lst e l=>
  obtain⟨ys,rfl,ll,q⟩:=zo7 (mk:=V.ref) (P:=fun p x=>H p=some (.lst (rowV m (g x)))) (fun x a h=>zco6 h) l
  rw[zcx6] at ll
  exact⟨_,ys,rfl,e,ll,fun i p ep=>q i p i ep (zda5 (by have:=(zcv9.mp ep).1;omega))⟩
theorem fdN_sh{p:Addr}{n:Nat}{f:Fd}(F:FdAt H p n m f):ShV H (.ref p) (fdN n m f):=by
 cases f with
 | more w t=>exact .tup F (.cons (.str _) (.cons (.int _) (.cons (.int _) .nil)))
 | lead w t=>exact .tup F (.cons (.str _) (.cons (.int _) (.cons (.int _) .nil)))
 | tab g=>
  obtain⟨q,ps,h1,G⟩:=F
  exact .tup h1 (.cons (.str _) (.cons (zbg8 G) .nil))
theorem fdN_of{v:V}{n:Nat}{f:Fd}(h:ShV H v (fdN n m f)):∃ p,v=.ref p/\FdAt H p n m f:=by
 cases f with
 | more w t=>
  cases h with
  | tup e l=>cases l with | cons a l=>cases a;cases l with | cons a l=>cases a;cases l with | cons a l=>cases a;cases l;exact⟨_,rfl,e⟩
 | lead w t=>
  cases h with
  | tup e l=>cases l with | cons a l=>cases a;cases l with | cons a l=>cases a;cases l with | cons a l=>cases a;cases l;exact⟨_,rfl,e⟩
 | tab g=>
  cases h with
  | tup e l=>
   cases l with
   | cons a l=>
    cases a
    cases l with
    | cons a l=>
     obtain⟨q,ps,rfl,G⟩:=zaq5 a
     cases l
     exact⟨_,rfl,q,ps,e,G⟩
theorem zbc9{b:Addr}{n:Nat}{fs:List Fd}(B:zj2 H b l ps n m fs):ShV H (.ref b) (batN n m fs):=by
 refine .tup B.out (.cons (.int _) (.cons (.int _) (.cons (.lst B.lst (ShL.idx (by rw[zcv8,zcv8,B.len]) fun i x d e1 e2=>?_)) .nil)))
 rw[zcw0] at e1 e2
 obtain⟨p,ep,rfl⟩:=zcw4.mp e1
 obtain⟨f,ef,rfl⟩:=zcw4.mp e2
 exact fdN_sh (B.fld i p f ep ef).1
theorem zco5{v:V}{n:Nat}{fs:List Fd}(h:ShV H v (batN n m fs))(ok:∀ f∈fs,f.Ok):∃ b l ps,v=.ref b/\zj2 H b l ps n m fs:=by
 unfold batN at h
 cases h with
 | tup e l=>
  cases l with
  | cons a l=>
   cases a
   cases l with
   | cons a l=>
    cases a
    cases l with
    | cons a l=>
     cases l
     cases a with
     | lst e2 l2=>
      obtain⟨ys,rfl,ll,q⟩:=zo7 (mk:=V.ref) (P:=fun p f=>FdAt H p n m f) (fun x a h=>fdN_of h) l2
      exact⟨_,_,ys,rfl,e,e2,ll,fun i p f e1 e3=>⟨q i p f e1 e3,ok f (zcw3 e3)⟩⟩
theorem zj2.oks{b:Addr}{n:Nat}{fs:List Fd}(B:zj2 H b l ps n m fs):∀ f∈fs,f.Ok:=fun f hf=>by
 obtain⟨i,ei⟩:=zcx8 hf
 have:=(zcv9.mp ei).1
 have bl:=B.len
 exact (B.fld i _ f (zcv7 (by rfl')) ei).2
theorem rwN_of{v:V}(h:ShV H v (zg8 xs)):∃ r:Addr×List Addr,v=.ref r.1/\RwAt H r.1 r.2 xs:=by
 unfold zg8 at h
 cases h with
 | lst e l=>
  obtain⟨ys,rfl,ll,q⟩:=zo7 (mk:=V.ref) (P:=fun p (z:Int×Int×Int)=>H p=some (.tup [.int z.1,.int z.2.1,.int z.2.2])) (fun x a h=>by
   unfold zu1 at h
   cases h with
   | tup e l=>cases l with | cons a l=>cases a;cases l with | cons a l=>cases a;cases l with | cons a l=>cases a;cases l;exact⟨_,rfl,e⟩) l
  exact⟨(_,ys),rfl,e,ll,q⟩
theorem zcg1{v:V}(h:ShV H v (stmD xss)):∃ st rs,v=.ref st/\StW H st rs xss:=by
 unfold stmD at h
 cases h with
 | lst e l=>
  obtain⟨ys,rfl,ll,q⟩:=zo7 (mk:=fun r:Addr×List Addr=>V.ref r.1) (P:=fun r xs=>RwAt H r.1 r.2 xs) (fun x a h=>rwN_of h) l
  exact⟨_,ys,rfl,e,ll,q⟩
theorem zaz5{p tb:Addr}{k:Nat}(A:PapS H p st tb rs xss qs F k T):ShV H (.ref p) (papN xss F k T):=
 .tup A.out (.cons A.stm.sh (.cons (zbg8 A.tab) .nil))
theorem zbn9{v:V}{k:Nat}(h:ShV H v (papN xss F k T)):∃ p st tb rs qs,v=.ref p/\PapS H p st tb rs xss qs F k T:=by
 unfold papN at h
 cases h with
 | tup e l=>
  cases l with
  | cons a l=>
   obtain⟨st,rs,rfl,S⟩:=zcg1 a
   cases l with
   | cons a l=>
    obtain⟨tb,qs,rfl,G⟩:=zaq5 a
    cases l
    exact⟨_,st,tb,rs,qs,rfl,e,S,G⟩
theorem zcb8{n:Nat}(hn:n<=1000)(hm:m<=1000)(g:Nat->Nat->Int):okD 2 (zaa0 n m g):=okD.list (n:=1) (by rw[zcv8,zcx6];exact hn) fun d hd=>by
 obtain⟨x,_,rfl⟩:=zcx0.mp hd
 exact okD.list (n:=0) (by rw[zcv8,zcx6];exact hm) fun d hd=>by
  obtain⟨y,_,rfl⟩:=zcx0.mp hd
  exact okI _ _
theorem fdN_ok{n:Nat}(hn:n<=100)(hm:m<=100)(f:Fd):okD 3 (fdN n m f):=by
 have two:∀ (w:Str) (i j:Int),PyData.strOk w=true->okD 3 (.tuple [.str w,.int i,.int j]):=fun w i j hw=>okD.tuple (n:=2) (by simp) fun d hd=>by
  simp only[zcw8,zcx9,or_false] at hd
  rcases hd with rfl|rfl|rfl
  ·exact⟨rfl,hw,zcy3 _⟩
  ·exact okI _ _
  ·exact okI _ _
 cases f with
 | more w t=>exact two _ _ _ (by decide +kernel)
 | lead w t=>exact two _ _ _ (by decide +kernel)
 | tab g=>
  refine okD.tuple (n:=2) (by simp) fun d hd=>?_
  simp only[zcw8,zcx9,or_false] at hd
  rcases hd with rfl|rfl
  ·exact⟨rfl,by decide +kernel,zcy3 _⟩
  ·exact zcb8 (by rfl') (by rfl') g
theorem zcl8{n:Nat}{fs:List Fd}(O:OkB n m fs):okD 5 (batN n m fs):=okD.tuple (n:=4) (by simp) fun d hd=>by
 have o1:=O.1
 have o2:=O.2
 simp only[zcw8,zcx9,or_false] at hd
 rcases hd with rfl|rfl|rfl
 ·exact okI _ _
 ·exact okI _ _
 ·exact okD.list (n:=3) (by rw[zcv8];omega) fun d hd=>by
   obtain⟨f,_,rfl⟩:=zcx0.mp hd
   exact fdN_ok (by rfl') (by rfl') f
theorem zcp0{d e:PyData}{n:Nat}(hd:okD n d)(he:okD n e):okD (n+1) (.list [d,e]):=okD.list (by simp) fun x hx=>by
 simp only[zcw8,zcx9,or_false] at hx
 rcases hx with rfl|rfl
 ·exact hd
 ·exact he
inductive GB(N:Nat):Nat->PyData->Prop
 | non (n:Nat):GB N n .none
 | bool (n:Nat) (b:Bool):GB N n (.bool b)
 | int (n:Nat) (i:Int):-(10 ^ 82)<=i->i<=10 ^ 82->GB N n (.int i)
 | str (n:Nat) (x:Str):PyData.strOk x=true->GB N n (.str x)
 | list (n:Nat) (ds:List PyData):ds.length<=N->(∀ d∈ds,GB N n d)->GB N (n+1) (.list ds)
 | tuple (n:Nat) (ds:List PyData):ds.length<=N->(∀ d∈ds,GB N n d)->GB N (n+1) (.tuple ds)
theorem GB.up{N N' n:Nat}{d:PyData}(h:GB N n d)(hN:N<=N'):∀ {n':Nat},n<=n'->GB N' n' d:=by
 induction h with
 | non n=>exact fun _=>.non _
 | bool n b=>exact fun _=>.bool _ _
 | int n i h1 h2=>exact fun _=>.int _ _ h1 h2
 | str n x h=>exact fun _=>.str _ _ h
 | list n ds h1 h2 ih=>
  intro n' hn
  obtain⟨k,rfl⟩:∃ k,n'=k+1:=⟨n' - 1,by rfl'⟩
  exact .list _ _ (zda0 h1 hN) fun d hd=>ih d hd (by rfl')
 | tuple n ds h1 h2 ih=>
  intro n' hn
  obtain⟨k,rfl⟩:∃ k,n'=k+1:=⟨n' - 1,by rfl'⟩
  exact .tuple _ _ (zda0 h1 hN) fun d hd=>ih d hd (by rfl')
theorem GB.ok{N n:Nat}{d:PyData}(h:GB N n d)(hN:N<=1000):okD n d:=by
 induction h with
 | non n=>exact⟨rfl,rfl,zcy3 _⟩
 | bool n b=>exact⟨rfl,rfl,zcy3 _⟩
 | int n i h1 h2=>exact⟨rfl,rfl,zcy3 _⟩
 | str n x h=>exact⟨rfl,h,zcy3 _⟩
 | list n ds h1 h2 ih=>exact okD.list (zda0 h1 hN) ih
 | tuple n ds h1 h2 ih=>exact okD.tuple (zda0 h1 hN) ih
theorem GB.items{N n:Nat}{d:PyData}(h:GB N (n+1) d):(zc2 d).length<=N/\∀ x∈zc2 d,GB N n x:=by
 cases h with
 | list _ ds h1 h2=>exact⟨h1,h2⟩
 | tuple _ ds h1 h2=>exact⟨zcy3 _,fun x hx=>by cases (show x∈([]:List PyData) from hx)⟩
 | _=>exact⟨zcy3 _,fun x hx=>by cases (show x∈([]:List PyData) from hx)⟩
theorem GB.tri{N n:Nat}{z:Int×Int×Int}(h:GB N (n+1) (zu1 z)):z.2.2<=10 ^ 82:=by
 unfold zu1 at h
 cases h with
 | tuple _ ds h1 h2=>
  have:=h2 (.int z.2.2) (by simp)
  cases this with
  | int _ _ _ h=>exact h
theorem GB.intB{N n:Nat}{d:PyData}(h:GB N n d):-(10 ^ 82)<=intD d/\intD d<=10 ^ 82:=by
 cases h with
 | int _ _ h1 h2=>exact⟨h1,h2⟩
 | _=>exact⟨by show -(10 ^ 82)<=(0:Int);decide,by show (0:Int)<=10 ^ 82;decide⟩
theorem zby7{N n:Nat}(h:∀ d∈ds,GB N n d)(i:Nat):GB N n (ds.getD i .none):=by
 rw[zcw1]
 cases e:ds[i]? with
 | none=>exact .non _
 | some x=>exact h x (zcw3 e)
theorem sum_B:∀ {xs:List Int},(∀ x∈xs,0<=x/\x<=10 ^ 82)->0<=xs.sum/\xs.sum<=xs.length*10 ^ 82
 | [],_=>⟨by simp,by simp⟩
 | x :: xs,h=>by
  have h1:=h x (.head _)
  have h2:=sum_B (xs:=xs) fun y hy=>h y (.tail _ hy)
  rw[zdc0,zcx5]
  push_cast
  constructor
  ·omega
  ·rw[Int.add_mul];omega
theorem zci0{h nn:Nat}{a:PyData}(e1:zd4 h F a=true)(ga:GB 18 (nn+3) a):∀ xs∈(zc2 a).map rowF,zx3 h xs/\xs.length<=18:=fun xs hx=>by
 have d4:=(zbc8 e1).2.2
 obtain⟨x,hx',rfl⟩:=zcx0.mp hx
 have gx:=ga.items.2 x hx'
 have dx:=d4 _ hx
 have rl:(rowF x).length<=18:=by unfold rowF;rw[zcv8];exact gx.items.1
 refine⟨⟨by rfl',fun z hz=>?_⟩,rl⟩
 have dz:=dx.2 z hz
 refine⟨⟨dz.1.1,by rfl'⟩,by rfl',?_⟩
 obtain⟨y,hy,rfl⟩:=zcx0.mp (show z∈(zc2 x).map triD from hz)
 have gy:=gx.items.2 y hy
 have fy:zm3 y=true:=by
  have ea:a=.list (zc2 a):=by
   cases a with
   | list _=>rfl
   | _=>cases (show false=true from e1)
  have e1':=e1
  rw[ea] at e1'
  obtain⟨i,ei⟩:=zcx8 hx'
  have:=(zm9 e1').2.2.1 i (zcv9.mp ei).1
  rw[getD_some ei] at this
  obtain⟨es,rfl,_,hr,_⟩:=zt3 this
  have hr:(es.all zm3&&incD es)=true:=hr
  rw[zcx4] at hr
  exact zcx2.mp hr.1 y hy
 rw[(zao8 fy).1] at gy
 exact gy.tri
theorem zbh5{n nn:Nat}{d:PyData}(e:zp8 (ownH sd n m) F (othH sd n m+1:Nat) d=none)(g:GB 18 (nn+4) d):d=papN (xsD d) F (othH sd n m+1) (tbD d)/\zd4 (ownH sd n m) F (stmD (xsD d))=true/\(xsD d).length=F/\(∀ xs∈xsD d,zx3 (ownH sd n m) xs)/\(∀ k c,-(10 ^ 82)<=tbD d k c/\tbD d k c<=10 ^ 82)/\(0<=(((xsD d).getD 0 []).map fun z=>z.2.2).sum/\(((xsD d).getD 0 []).map fun z=>z.2.2).sum<=18*10 ^ 82):=by
 obtain⟨a,b,rfl,e1,e2⟩:=zbt2 e
 cases g with
 | tuple _ ds g1 g2=>
  have ga:=g2 a (by simp)
  have gb:=g2 b (by simp)
  have ex:xsD (.tuple [a,b])=(zc2 a).map rowF:=rfl
  have et:tbD (.tuple [a,b])=tabT b:=rfl
  rw[ex,et]
  obtain⟨d1,⟨d2,d3⟩,d4⟩:=zbc8 e1
  have ok:=zci0 e1 ga
  refine⟨?_,?_,by rw[zcv8];omega,fun xs hx=>(ok xs hx).1,fun k c=>?_,?_⟩
  ·show PyData.tuple [a,b]=.tuple [stmD ((zc2 a).map rowF),zaa0 F (othH sd n m+1) (tabT b)]
   rw[← d1]
   exact congrArg (fun t=>PyData.tuple [a,t]) (zbx9 e2)
  ·rw[← d1];exact e1
  ·exact (zby7 (zby7 gb.items.2 k).items.2 c).intB
  ·obtain⟨x0,ex0⟩:∃ x,((zc2 a).map rowF)[0]?=some x:=⟨_,zcv7 (by rw[zcv8];exact d3)⟩
   rw[show ((zc2 a).map rowF).getD 0 []=x0 by rw[zcw1,ex0];rfl]
   have o0:=ok x0 (zcw3 ex0)
   have sb:=sum_B (xs:=x0.map fun z=>z.2.2) fun x hx=>by
    obtain⟨z,hz,rfl⟩:=zcx0.mp hx
    exact (o0.1.2 z hz).2
   rw[zcv8] at sb
   refine⟨sb.1,Int.le_trans sb.2 ?_⟩
   exact zda8 (by rfl') (by decide)
noncomputable def zl8(sd:Bool)(n m:Nat)(fs:List Fd)(w0 w1:Int)(d res:PyData):Prop:=
 match zp8 (ownH sd n m) fs.length (othH sd n m+1:Nat) d with
 | some x=>res=.tuple [.str x]
 | none=>(∃ i c:Nat,zw4 sd n m fs (xsD d) (tbD d) i c/\res=.tuple [.str "number",.int i,.int c])∨(zs1 sd n m fs (xsD d) (tbD d)/\res=if zk1 sd (w0*(((xsD d).getD 0 []).map fun z=>z.2.2).sum) (tbD d 0 (othH sd n m)*w1)=true then .none else .tuple [.str "worth"])
theorem zw4.notAll{n:Nat}{fs:List Fd}(h:zw4 sd n m fs xss T i c):¬ zs1 sd n m fs xss T:=fun k=>h.2.2.2.2 (k i c h.1 h.2.1)
theorem zl8.one{sd:Bool}{n m:Nat}{fs:List Fd}{w0 w1:Int}{d r r':PyData}(h:zl8 sd n m fs w0 w1 d r)(g:zl8 sd n m fs w0 w1 d r'):r=r':=by
 unfold zl8 at h g
 cases e:zp8 (ownH sd n m) fs.length (othH sd n m+1:Nat) d with
 | some x=>
  rw[e] at h g
  exact h.trans g.symm
 | none=>
  rw[e] at h g
  rcases h with ⟨i,c,hb,rfl⟩|⟨ha,rfl⟩<;>rcases g with ⟨i',c',gb,rfl⟩|⟨ga,rfl⟩
  ·obtain⟨rfl,rfl⟩:=hb.one gb
   rfl
  ·exact absurd ga hb.notAll
  ·exact absurd ha gb.notAll
  ·rfl
theorem zca8{F W:Int}{d:PyData}{x:Str}(e:zp8 h F W d=some x):PyData.strOk x=true:=by
 unfold zp8 at e
 cases ep:zbn5 d with
 | none=>rw[ep] at e;cases e;decide +kernel
 | some ab=>
  obtain⟨a,b⟩:=ab
  rw[ep] at e
  have e:(if zd4 h F a=true then (if tabD F W b=true then none else some ("table":Str)) else some "stream")=some x:=e
  by_cases c1:zd4 h F a=true
  ·rw[if_pos c1] at e
   by_cases c2:tabD F W b=true
   ·rw[if_pos c2] at e;cases e
   ·rw[if_neg c2] at e;cases e;decide +kernel
  ·rw[if_neg c1] at e;cases e;decide +kernel
theorem zcg2{x:Str}(h:PyData.strOk x=true):okD 1 (.tuple [.str x]):=okD.tuple (n:=0) (by simp) fun d hd=>by
 rw[zcz6.mp hd];exact⟨rfl,h,zcy3 _⟩
theorem zl8.ok{n:Nat}{fs:List Fd}{w1:Int}{d r:PyData}(h:zl8 sd n m fs w0 w1 d r):okD 1 r:=by
 unfold zl8 at h
 cases e:zp8 (ownH sd n m) fs.length (othH sd n m+1:Nat) d with
 | some x=>
  rw[e] at h
  have h:r=.tuple [.str x]:=h
  rw[h]
  exact zcg2 (zca8 e)
 | none=>
  rw[e] at h
  rcases h with ⟨i,c,hb,rfl⟩|⟨ha,rfl⟩
  ·refine okD.tuple (n:=0) (by simp) fun d hd=>?_
   simp only[zcw8,zcx9,or_false] at hd
   rcases hd with rfl|rfl|rfl
   ·exact⟨rfl,by decide +kernel,zcy3 _⟩
   ·exact okI _ _
   ·exact okI _ _
  ·split
   ·exact⟨rfl,rfl,zcy3 _⟩
   ·exact zcg2 (by decide +kernel)
theorem zaa6{n:Nat}{fs:List Fd}{w1:Int}{d:PyData}{x:Str}(e:zp8 (ownH sd n m) fs.length (othH sd n m+1:Nat) d=some x):zl8 sd n m fs w0 w1 d (.tuple [.str x]):=by
 unfold zl8;rw[e]
theorem zbx8{n:Nat}{fs:List Fd}{w1:Int}{d:PyData}(e:zp8 (ownH sd n m) fs.length (othH sd n m+1:Nat) d=none)(h:zw4 sd n m fs (xsD d) (tbD d) i c):zl8 sd n m fs w0 w1 d (.tuple [.str "number",.int i,.int c]):=by
 unfold zl8;rw[e];exact .inl ⟨i,c,h,rfl⟩
theorem zbe5{n:Nat}{fs:List Fd}{w1:Int}{d:PyData}(e:zp8 (ownH sd n m) fs.length (othH sd n m+1:Nat) d=none)(h:zs1 sd n m fs (xsD d) (tbD d)):zl8 sd n m fs w0 w1 d (if zk1 sd (w0*(((xsD d).getD 0 []).map fun z=>z.2.2).sum) (tbD d 0 (othH sd n m)*w1)=true then .none else .tuple [.str "worth"]):=by
 unfold zl8;rw[e];exact .inr ⟨h,rfl⟩
@[irreducible] noncomputable def zp2:Sp:=fun vs H Q _=>∃ (b w l:Addr) (ps:List Addr) (n m:Nat) (sd:Bool) (fs:List Fd) (w0 w1:Int) (v:V) (d:PyData),vs=[.ref b,.str (wd sd),.ref w,v]/\zj2 H b l ps n m fs/\OkB n m fs/\(∀ f∈fs,f.Bd n m)/\H w=some (.tup [.int w0,.int w1])/\(-(10 ^ 200)<w0/\w0<10 ^ 200)/\(-(10 ^ 200)<w1/\w1<10 ^ 200)/\ShV H v d/\GB 18 8 d/\∀ rv res H',Same H H'->ShV H' rv res->zl8 sd n m fs w0 w1 d res->Q rv H'
theorem zai1{b w:Addr}{n:Nat}{fs:List Fd}{w1:Int}{v:V}{d:PyData}(B:zj2 H b l ps n m fs)(O:OkB n m fs)(D:∀ f∈fs,f.Bd n m)(hw:H w=some (.tup [.int w0,.int w1]))(b0:-(10 ^ 200)<w0/\w0<10 ^ 200)(b1:-(10 ^ 200)<w1/\w1<10 ^ 200)(hv:ShV H v d)(g:GB 18 8 d)(q:∀ rv res H',Same H H'->ShV H' rv res->zl8 sd n m fs w0 w1 d res->Q rv H'):zp2 [.ref b,.str (wd sd),.ref w,v] H Q E:=by
 unfold zp2;exact⟨b,w,l,ps,n,m,sd,fs,w0,w1,v,d,rfl,B,O,D,hw,b0,b1,hv,g,q⟩
theorem zby1(F:Fun K "judged" "judged" zar8 f fd)(N:Nm mg)(zcs4:Def P w K mg base CX0 6 "look_battle" ["battle"] zh8)(zct8:Def P w K mg base CX0 1 "look_side" ["side"] zl3)(zcs9:Def P w K mg base CX0 8 "wrong_form" ["battle","side","paper"] zj6)(zcs1:Def P w K mg base CX0 5 "wrong_number" ["battle","side","paper"] zg6)(zcs5:Def P w K mg base CX0 2 "wrong_worth" ["battle","side","worth","paper"] zi1):FnOk P w K mg base CX0 9 f fd ["battle","side","worth","paper"] zp2:=by
 refine F.ok zab5 (fun vs H Q E h=>by unfold zp2 at h;obtain⟨_,_,_,_,_,_,_,_,_,_,_,_,rfl,_⟩:=h;rfl) fun _ _ _ s H vs Q E hr h=>?_
 unfold zp2 at h
 obtain⟨b,w,l,ps,n,m,sd,fs,w0,w1,v,d,rfl,B,O,D,hw,b0,b1,hv,g,q⟩:=h
 have hu:=hu40 hr
 have o2:=O.2
 refine⟨_,(za3 (zz2 (pD zcs4 hr zb3 (za0 (pq 0) za1)))
   (za3 (zz2 (pD zct8 hr zb3 (za0 (pq 1) za1)))
   (za3 (psS (i:=4) zab5.nd (pD zcs9 hr zb3 (za0 (pq 0) (za0 (pq 1) (za0 (pq 3) za1)))))
   (za3 (psCut (psIf (ptC oIsX (pq 4) zv0) (za4 (psS (i:=4) zab5.nd (pD zcs1 hr zb3 (za0 (pq 0) (za0 (pq 1) (za0 (pq 3) za1)))))) zb2))
   (za3 (psCut (psIf (ptC oIsX (pq 4) zv0) (za4 (psS (i:=4) zab5.nd (pD zcs5 hr zb3 (za0 (pq 0) (za0 (pq 1) (za0 (pq 2) (za0 (pq 3) za1))))))) zb2))
   (za4 (za9 (pq 4)))))))),?_⟩
 refine zal4 B O (fun H1 s1=>?_)
 refine zay6 (fun H2 s2=>?_)
 have s02:=s1.trans s2
 have skip:∀ (r:Addr) (J:Hp),Q (.ref r) J->True:=fun _ _ _=>trivial
 refine zap3 (B.same s02) O (hv.same s02) (g.ok (by decide)).1 (fun ef H3 s3=>?_) (fun x ef r H3 f3 s3 h3=>?_)
 rotate_left
 ·have q:=q (.ref r) _ H3 (s02.trans s3) (.tup h3 (.cons (.str _) .nil)) (zaa6 ef)
  refine zak4 (fun σ J=>σ=[some (.ref b),some (.str (wd sd)),some (.ref w),some v,some (.ref r)]/\Q (.ref r) J) ?_ ?_
  ·ac_nf
   first|refine br_F ?_|refine zl7 (by decide) ?_|refine zl7 (fun z=>by cases z) ?_
   ac_nf
   exact⟨rfl,q⟩
  rintro σ H5 ⟨rfl,q⟩
  refine zak4 (fun σ J=>σ=[some (.ref b),some (.str (wd sd)),some (.ref w),some v,some (.ref r)]/\Q (.ref r) J) ?_ ?_
  ·ac_nf
   first|refine br_F ?_|refine zl7 (by decide) ?_|refine zl7 (fun z=>by cases z) ?_
   ac_nf
   exact⟨rfl,q⟩
  rintro σ H5 ⟨rfl,q⟩
  ac_nf
  exact q
 have s03:=s02.trans s3
 obtain⟨ed,hs,hl,ok,tb,sb⟩:=zbh5 (nn:=4) ef g
 have hv':=hv
 rw[ed] at hv'
 obtain⟨p,st,tbl,rs,qs,rfl,PA⟩:=zbn9 hv'
 clear hv'
 have vn:∀ {i c:Nat},zw4 sd n m fs (xsD d) (tbD d) i c->zl8 sd n m fs w0 w1 d (.tuple [.str "number",.int i,.int c]):=fun h=>zbx8 ef h
 have va:zs1 sd n m fs (xsD d) (tbD d)->zl8 sd n m fs w0 w1 d (if zk1 sd (w0*(((xsD d).getD 0 []).map fun z=>z.2.2).sum) (tbD d 0 (othH sd n m)*w1)=true then .none else .tuple [.str "worth"]):=fun h=>zbe5 ef h
 clear ed hs ef hv g
 generalize xsD d=xss at hl ok sb PA vn va
 generalize tbD d=T at tb PA vn va
 refine zak4 (fun σ J=>(σ=[some (.ref b),some (.str (wd sd)),some (.ref w),some (.ref p),some .non]/\Same H J/\zs1 sd n m fs xss T)∨∃ r,σ=[some (.ref b),some (.str (wd sd)),some (.ref w),some (.ref p),some (.ref r)]/\Q (.ref r) J) ?_ ?_
 ·ac_nf
  first|refine br_T ?_|refine zk2 rfl ?_
  refine zai0 (B.same s03) O D (PA.same s03) hl ok (fun ka H4 s4=>?_) (fun i c kb r H4 f4 s4 h4=>?_)
  ·ac_nf
   exact .inl ⟨rfl,s03.trans s4,ka⟩
  ·ac_nf
   exact .inr ⟨r,rfl,q (.ref r) _ H4 (s03.trans s4) (.tup h4 (.cons (.str _) (.cons (.int _) (.cons (.int _) .nil)))) (vn kb)⟩
 rintro σ H4 (⟨rfl,s04,ka⟩|⟨r,rfl,qr⟩)
 ·have va:=va ka
  have t0:=tb 0 (othH sd n m)
  refine zak4 (fun σ J=>(σ=[some (.ref b),some (.str (wd sd)),some (.ref w),some (.ref p),some .non]/\Q .non J)∨∃ r,σ=[some (.ref b),some (.str (wd sd)),some (.ref w),some (.ref p),some (.ref r)]/\Q (.ref r) J) ?_ ?_
  ·ac_nf
   first|refine br_T ?_|refine zk2 rfl ?_
   refine zal0 (B.same s04) O (PA.same s04) hl (by
    obtain⟨x0,ex0⟩:∃ x,xss[0]?=some x:=⟨_,zcv7 (by rfl')⟩
    rw[show xss.getD 0 []=x0 by rw[zcw1,ex0];rfl]
    exact (ok x0 (zcw3 ex0)).1) (s04 _ _ hw) b0 b1 ⟨by rfl',by rfl'⟩ ⟨by rfl',by rfl'⟩ (fun ek H5 s5=>?_) (fun ek r H5 f5 s5 h5=>?_)
   ·rw[ek,if_pos rfl] at va
    ac_nf
    exact .inl ⟨rfl,q .non _ H5 (s04.trans s5) .non va⟩
   ·rw[ek,if_neg zcw5] at va
    ac_nf
    exact .inr ⟨r,rfl,q (.ref r) _ H5 (s04.trans s5) (.tup h5 (.cons (.str _) .nil)) va⟩
  rintro σ H5 (⟨rfl,q⟩|⟨r,rfl,q⟩)
  ·ac_nf
   exact q
  ·ac_nf
   exact q
 ·ac_nf
  refine zak4 (fun σ J=>σ=[some (.ref b),some (.str (wd sd)),some (.ref w),some (.ref p),some (.ref r)]/\Q (.ref r) J) ?_ ?_
  ·ac_nf
   first|refine br_F ?_|refine zl7 (by decide) ?_|refine zl7 (fun z=>by cases z) ?_
   ac_nf
   exact⟨rfl,qr⟩
  rintro σ H5 ⟨rfl,q⟩
  ac_nf
  exact q
noncomputable def lg(t b:Int):Int:=if b<0 then 0 - (t.gcd b:Int) else (t.gcd b:Int)
def lowT(t b:Int):Int:=t.fdiv (lg t b)
def lowB(t b:Int):Int:=b.fdiv (lg t b)
theorem zbs0{t b:Int}(h:b≠0):0<(t.gcd b:Int):=by
 have:0<t.gcd b:=Int.gcd_pos_of_ne_zero_right _ h
 omega
theorem gcd_le{t b:Int}(h:b≠0):(t.gcd b:Int)<=b.natAbs:=by
 have:=Int.gcd_le_natAbs_right t h
 omega
theorem zbi5(t b:Int):lg t b∣t:=by
 unfold lg;split
 ·rw[Int.zero_sub];exact Int.neg_dvd.mpr (Int.gcd_dvd_left _ _)
 ·exact Int.gcd_dvd_left _ _
theorem zbi4(t b:Int):lg t b∣b:=by
 unfold lg;split
 ·rw[Int.zero_sub];exact Int.neg_dvd.mpr (Int.gcd_dvd_right _ _)
 ·exact Int.gcd_dvd_right _ _
theorem zbt0(t b:Int):lowT t b=t / lg t b:=Int.fdiv_eq_ediv_of_dvd (zbi5 t b)
theorem zbw7(t b:Int):lowB t b=b / lg t b:=Int.fdiv_eq_ediv_of_dvd (zbi4 t b)
theorem zbr8(t b:Int):(lowT t b).natAbs<=t.natAbs:=by rw[zbt0];exact Int.natAbs_ediv_le_natAbs _ _
theorem zby5(t b:Int):(lowB t b).natAbs<=b.natAbs:=by rw[zbw7];exact Int.natAbs_ediv_le_natAbs _ _
theorem zbf8(t b:Int):b=lg t b*lowB t b:=by rw[zbw7];exact (Int.mul_ediv_cancel' (zbi4 t b)).symm
theorem zcc0(t b:Int):t=lg t b*lowT t b:=by rw[zbt0];exact (Int.mul_ediv_cancel' (zbi5 t b)).symm
theorem zcc4{t b:Int}(h:b≠0):0<lowB t b:=by
 have e:=zbf8 t b
 have g:=zbs0 (t:=t) h
 by_cases hb:b<0
 ·have hl:lg t b<0:=by unfold lg;rw[if_pos hb];omega
  by_cases hk:0<lowB t b
  ·exact hk
  ·have:=Int.mul_nonneg_of_nonpos_of_nonpos (Int.le_of_lt hl) (show lowB t b<=0 by rfl')
   omega
 ·have hl:0<lg t b:=by unfold lg;rw[if_neg hb];omega
  by_cases hk:0<lowB t b
  ·exact hk
  ·have:=Int.mul_nonpos_of_nonneg_of_nonpos (Int.le_of_lt hl) (show lowB t b<=0 by rfl')
   omega
theorem zce8{x y:Int}(hx:0<=x)(hy:0<y):y.gcd (x % y)=x.gcd y:=by
 rw[Int.gcd_eq_natAbs_gcd_natAbs,Int.gcd_eq_natAbs_gcd_natAbs,Int.natAbs_emod_of_nonneg hx]
 exact (Nat.gcd_comm _ _).trans ((Nat.gcd_rec _ _).symm.trans (Nat.gcd_comm _ _))
theorem zcp8{x y:Int}(hx:0<=x)(hy:y=0):((x.gcd y:Nat):Int)=x:=by
 subst hy;rw[Int.gcd_zero_right];omega
@[irreducible] noncomputable def zg4:Sp:=fun vs H Q _=>∃ t b:Int,vs=[.int t,.int b]/\0<b/\b<10 ^ 100/\∀ p H',H p=none->Same H H'->H' p=some (.tup [.int (lowT t b),.int (lowB t b)])->Q (.ref p) H'
theorem zat6{t b:Int}(h0:0<b)(h2:b<10 ^ 100)(q:∀ p H',H p=none->Same H H'->H' p=some (.tup [.int (lowT t b),.int (lowB t b)])->Q (.ref p) H'):zg4 [.int t,.int b] H Q E:=by
 unfold zg4;exact⟨t,b,rfl,h0,h2,q⟩
theorem zcl4(t b:Int):b.gcd (t % b)=t.gcd b:=by
 have e:t % b=t+b*(-(t / b)):=by
  rw[Int.emod_def,Int.mul_neg];rfl
 rw[e,Int.gcd_add_mul_left_right,Int.gcd_comm]
theorem zal6(F:Fun K "_law_lowest" "_law_lowest" zs7 f fd)(N:Nm mg):FnOk P w K mg base CX0 1 f fd ["_law_top","_law_bottom"] zg4:=by
 refine F.ok zn2 (fun vs H Q E h=>by unfold zg4 at h;obtain⟨n,k,rfl,_⟩:=h;rfl) fun _ _ _ s H vs Q E hr h=>?_
 unfold zg4 at h
 obtain⟨t,b,rfl,hb,hb2,q⟩:=h
 refine⟨_,(za3 (psS (i:=2) zn2.nd (pq 1))
   (za3 (psS (i:=3) zn2.nd (zb4 oMod (pq 0) (pq 1)))
   (za3 (zcp7 PassesOwn.never (ptC oGt (pq 3) za2) (za4 (psPar (i:=2) (j:=3) rfl zn2.nd rfl rfl (by decide) rfl rfl (za0 (pq 3) (za0 (zb4 oMod (pq 2) (pq 3)) za1)) rfl)))
   (za4 (za9 (zf2 (za0 (zb4 oDiv (pq 0) (pq 2)) (za0 (zb4 oDiv (pq 1) (pq 2)) za1)))))))),?_⟩
 refine zbt5 (by rfl') ?_
 refine zcb4 (fun σ H2=>∃ x y:Int,σ=[some (.int t),some (.int b),some (.int x),some (.int y)]/\H2=H/\0<=x/\0<=y/\x.gcd y=t.gcd b) (fun σ _=>match σ with | [_,_,_,some (.int y)]=>y.toNat|_=>0) ?_ ?_
 ·exact⟨_,_,rfl,rfl,by rfl',Int.emod_nonneg t (by rfl'),zcl4 t b⟩
 ·rintro σ H2 ⟨x,y,rfl,rfl,hx,hy,hg⟩
  ac_nf
  refine zck5 (fun h=>?_) (fun h=>?_)
  ·ac_nf
   refine zbt5 (by rfl') ?_
   ac_nf
   have h1:=Int.emod_nonneg x (show y≠0 by rfl')
   have h2:=Int.emod_lt_of_pos x h
   refine⟨⟨_,_,rfl,rfl,hy,h1,?_⟩,?_⟩
   ·rw[zce8 hx h];exact hg
   ·show (x % y).toNat<y.toNat
    omega
  ·have hy0:y=0:=by rfl'
   have e:x=(t.gcd b:Int):=by rw[← hg];exact (zcp8 hx hy0).symm
   have g1:=zbs0 (t:=t) (b:=b) (by rfl')
   have g2:=gcd_le (t:=t) (b:=b) (by rfl')
   have el:x=lg t b:=by unfold lg;rw[if_neg (by rfl'),e]
   refine zbt9 (by rfl') (by rfl') (by rfl') ?_
   refine zbt9 (by rfl') (by rfl') (by rfl') ?_
   refine zb6 (fun p H' hf hs ha=>?_)
   rw[el] at ha
   exact q _ _ hf hs ha
def sdI(sd:Bool):Int:=if sd then 1 else 0
@[irreducible] noncomputable def zi9:Sp:=fun vs H Q _=>∃ (b l st:Addr) (ps:List Addr) (n m:Nat) (sd:Bool) (fs:List Fd) (rs:List (Addr×List Addr)) (xss:List (List (Int×Int×Int))),vs=[.ref b,.int (sdI sd),.ref st]/\zj2 H b l ps n m fs/\OkB n m fs/\(∀ f∈fs,f.Bd n m)/\StW H st rs xss/\xss.length=fs.length/\(∀ xs∈xss,zx3 (ownH sd n m) xs)/\∀ (r:Addr) (qs:List Addr) (H':Hp),H r=none->Same H H'->zf0 H' r qs fs.length (othH sd n m+1) (fun k=>dueS sd (fs.getD k (.more 0 0)) (xss.getD k []))->Q (.ref r) H'
theorem zbf2{b:Addr}{n:Nat}{fs:List Fd}(B:zj2 H b l ps n m fs)(O:OkB n m fs)(D:∀ f∈fs,f.Bd n m)(S:StW H st rs xss)(hl:xss.length=fs.length)(ok:∀ xs∈xss,zx3 (ownH sd n m) xs)(q:∀ (r:Addr) (qs:List Addr) (H':Hp),H r=none->Same H H'->zf0 H' r qs fs.length (othH sd n m+1) (fun k=>dueS sd (fs.getD k (.more 0 0)) (xss.getD k []))->Q (.ref r) H'):zi9 [.ref b,.int (sdI sd),.ref st] H Q E:=by
 unfold zi9;exact⟨b,l,st,ps,n,m,sd,fs,rs,xss,rfl,B,O,D,S,hl,ok,q⟩
theorem zaw6{f:Fd}{z:Int×Int×Int}(e:xs[i]?=some z):dueS sd f (xs.take (i+1)) c=dueS sd f (xs.take i) c+z.2.2*wonS sd f z.2.1.toNat c:=by
 unfold dueS
 rw[zdf2,e,zcy6,List.sum_append]
 simp
theorem zav9(F:Fun K "_law_dues" "_law_dues" zz1 f fd)(N:Nm mg)(zct9:Def P w K mg base CX0 1 "_law_paid" ["_law_field","_law_x","_law_y"] zl5):FnOk P w K mg base CX0 2 f fd ["_law_battle_here","_law_side","_law_stream"] zi9:=by
 refine F.ok zd7 (fun vs H Q E h=>by unfold zi9 at h;obtain⟨_,_,_,_,_,_,_,_,_,_,rfl,_⟩:=h;rfl) fun _ _ _ s H vs Q E hr h=>?_
 unfold zi9 at h
 obtain⟨b,l,st,ps,n,m,sd,fs,rs,xss,rfl,B,O,D,S,hl,ok,q⟩:=h
 have hu:=hu40 hr
 have bl:=B.len
 have sl:=S.len
 have o1:=O.1
 have o2:=O.2
 obtain⟨ho,hw⟩:=zai7 O sd
 refine⟨_,(za3 (psS (i:=3) zd7.nd (zg3 za1))
   (za3 (zp5 PassesOwn.never rfl (zl6 N.range_ (za0 (pB (zf7 (K:=K) rfl) N.len_ zd2 (za0 (za7 (K:=K) rfl (pq 0) za2) za1)) za1)) (za5 (i:=4) zd7.nd rfl (by eq_refl)) (za3 (psS (i:=5) zd7.nd (zg3 za1))
   (za3 (zp5 PassesOwn.never rfl (zl6 N.range_ (za0 (zb4 oAdd (za7 (K:=K) rfl (zg3 (za0 (za7 (K:=K) rfl (pq 0) za2) (za0 (za7 (K:=K) rfl (pq 0) za2) za1))) (pq 1)) za2) za1)) (za5 (i:=6) zd7.nd rfl (by eq_refl)) (za3 (psS (i:=7) zd7.nd za2)
   (za3 (zp5 PassesOwn.never rfl (ze4 (K:=K) rfl (za7 (K:=K) rfl (pq 2) (pq 4))) (zi6 (K:=K) (n:=3) rfl rfl (zb7 (za5 (i:=8) zd7.nd rfl (by eq_refl)) (zb7 (za5 (i:=9) zd7.nd rfl (by eq_refl)) (zb7 (za5 (i:=10) zd7.nd rfl (by eq_refl)) zj0)))) (za3 (zu9 (za7 (K:=K) rfl (zg3 (za0 (zf2 (za0 (pq 9) (za0 (pq 6) za1))) (za0 (zf2 (za0 (pq 6) (za0 (pq 9) za1))) za1))) (pq 1)) (zi6 (K:=K) (n:=2) rfl rfl (zb7 (za5 (i:=11) zd7.nd rfl (by eq_refl)) (zb7 (za5 (i:=12) zd7.nd rfl (by eq_refl)) zj0))))
   (za4 (psS (i:=7) zd7.nd (zb4 oAdd (pq 7) (zb4 oMul (pq 10) (pD zct9 hr zb3 (za0 (za7 (K:=K) rfl (za7 (K:=K) rfl (pq 0) za2) (pq 4)) (za0 (pq 11) (za0 (pq 12) za1))))))))))
   (za4 (zz2 (zr5 (pq 5) (za0 (pq 7) za1)))))))
   (za4 (zz2 (zr5 (pq 3) (za0 (pq 5) za1)))))))
   (za4 (za9 (pq 3))))),?_⟩
 refine zc3 (fun fo H1 f1 s1 h1=>?_)
 refine zb1 (v:=.ref l) (s1 _ _ B.out) rfl ?_
 refine zc5 (s1 _ _ B.lst) ?_
 rw[zcv8,bl]
 refine ze2 (by decide) (by decide) (by rfl') (by rfl') ?_
 rw[show ((fs.length:Int) - 0).toNat=fs.length by rfl']
 refine zf5 (fun k σ I=>∃ (y5 y6 y7 y8 y9 y10 y11 y12 y13:Option V) (qs:List Addr),σ=[some (.ref b),some (.int (sdI sd)),some (.ref st),some (.ref fo),y5,y6,y7,y8,y9,y10,y11,y12,y13]/\Same H I/\I fo=some (.lst (qs.map V.ref))/\qs.length=k/\∀ (i:Nat) q',qs[i]?=some q'->q'≠fo/\I q'=some (.lst (rowV (othH sd n m+1) (dueS sd (fs.getD i (.more 0 0)) (xss.getD i []))))) ?_ ?_ ?_
 ·exact⟨_,_,_,_,_,_,_,_,_,[],rfl,s1,h1,rfl,fun i q' e=>by simp at e⟩
 ·rintro k σ I hk ⟨y5,y6,y7,y8,y9,y10,y11,y12,y13,qs,rfl,sI,hfo,ql,qr⟩
  have hk:k<fs.length:=hk
  obtain⟨f,ef⟩:∃ f,fs[k]?=some f:=⟨_,zcv7 hk⟩
  obtain⟨p,ep⟩:∃ p,ps[k]?=some p:=⟨_,zcv7 (by rfl')⟩
  obtain⟨r,er⟩:∃ r,rs[k]?=some r:=⟨_,zcv7 (by rfl')⟩
  obtain⟨xs,ex⟩:∃ r,xss[k]?=some r:=⟨_,zcv7 (by rfl')⟩
  obtain⟨fdk,fok⟩:=B.fld k p f ep ef
  have fbd:=D f (zcw3 ef)
  have okx:=ok xs (zcw3 ex)
  have R:=S.row k r xs er ex
  have rl:=R.len
  have gk:fs.getD k (.more 0 0)=f:=by rw[zcw1,ef];rfl
  have gx:xss.getD k []=xs:=by rw[zcw1,ex];rfl
  refine zc3 (fun so H2 f2 s2 h2=>?_)
  have s02:=sI.trans s2
  have nso:so≠fo:=Ne.symm (za6 hfo f2)
  refine zb1 (v:=.int m) (s02 _ _ B.out) rfl ?_
  refine zb1 (v:=.int n) (s02 _ _ B.out) rfl ?_
  refine zc3 (fun p3 H3 f3 s3 h3=>?_)
  have s03:=s02.trans s3
  refine zb0 (v:=.int (othH sd n m)) h3 (by cases sd<;>rfl) ?_
  refine ze2 (by decide) (by decide) (by rfl') (by rfl') ?_
  rw[show ((othH sd n m:Int)+1 - 0).toNat=othH sd n m+1 by rfl']
  refine zf5 (fun c σ J=>∃ (y7 y8 y9 y10 y11 y12 y13:Option V),σ=[some (.ref b),some (.int (sdI sd)),some (.ref st),some (.ref fo),some (.int (0+(k:Int))),some (.ref so),y7,y8,y9,y10,y11,y12,y13]/\Same I J/\J so=some (.lst (rowV c (dueS sd f xs)))) ?_ ?_ ?_
  ·exact⟨_,_,_,_,_,_,_,rfl,s2.trans s3,s3 _ _ h2⟩
  ·rintro c σ J hc ⟨z7,z8,z9,z10,z11,z12,z13,rfl,sJ,hso⟩
   have hc:c<othH sd n m+1:=hc
   have s0J:=sI.trans sJ
   refine zb0 (v:=.ref r.1) (s0J _ _ S.out) (by rw[zdc3];exact zc1 (by rw[zcw0,er];rfl)) ?_
   refine zc4 (s0J _ _ R.out) ?_
   refine zn7 (xs:=r.2.map V.ref) (fun i σ L=>∃ (y9 y10 y11 y12 y13:Option V),σ=[some (.ref b),some (.int (sdI sd)),some (.ref st),some (.ref fo),some (.int (0+(k:Int))),some (.ref so),some (.int (0+(c:Int))),some (.int (dueS sd f (xs.take i) c)),y9,y10,y11,y12,y13]/\Same J L) ?_ ?_ ?_ ?_
   ·exact⟨_,_,_,_,_,rfl,Same.refl _⟩
   ·rintro i σ L _ ⟨_,_,_,_,_,_,sL⟩
    exact SqL.of (sL _ _ (s0J _ _ R.out))
   ·rintro i v σ L hi ⟨w9,w10,w11,w12,w13,rfl,sL⟩
    rw[zcw0] at hi
    obtain⟨t,et,rfl⟩:=zcw4.mp hi
    obtain⟨z,ez⟩:∃ z,xs[i]?=some z:=⟨_,zcv7 (by have:=(zcv9.mp et).1;omega)⟩
    obtain⟨zb,zf⟩:=okx.2 z (zcw3 ez)
    have s0L:=s0J.trans sL
    refine zd8 (s0L _ _ (R.row i t z et ez)) ?_
    refine zb6 (fun p4 L4 f4 s4 h4=>?_)
    refine zb6 (fun p5 L5 f5 s5 h5=>?_)
    refine zc3 (fun p6 L6 f6 s6 h6=>?_)
    have s46:=(s4.trans s5).trans s6
    have BL:=B.same (s0L.trans s46)
    have FL:=fdk.same (s0L.trans s46)
    rw[zdc3] at h4 h5
    cases sd
    ·have zb:0<=z.2.1/\z.2.1<=(n:Int):=zb
     have hc:c<m+1:=hc
     have wb:=Fd.won_bd fok fbd (x:=z.2.1.toNat) (y:=c) (by rfl') (by rfl')
     have h4:L4 p4=some (.tup [.int ((z.2.1.toNat:Nat):Int),.int ((c:Nat):Int)]):=by rw[h4,show ((z.2.1.toNat:Nat):Int)=z.2.1 by rfl']
     refine zb0 (v:=.ref p4) h6 rfl ?_
     refine zd8 ((s5.trans s6) _ _ h4) ?_
     refine zb1 (v:=.ref l) BL.out rfl ?_
     refine zb0 (v:=.ref p) BL.lst (by rw[zdc3];exact zc1 (by rw[zcw0,ep];rfl)) ?_
     refine zbu9 FL (by rfl') (by rfl') (fun L7 s7=>?_)
     refine zu2 (zn1 (by rfl') (by rfl') (by rfl') (by rfl')) ?_
     ac_nf
     refine⟨some (.int z.1),some (.int z.2.1),some (.int z.2.2),some (.int ((z.2.1.toNat:Nat):Int)),some (.int (c:Int)),?_,(sL.trans s46).trans s7⟩
     rw[zaw6 ez]
     rfl
    ·have zb:0<=z.2.1/\z.2.1<=(m:Int):=zb
     have hc:c<n+1:=hc
     have wb:=Fd.won_bd fok fbd (x:=c) (y:=z.2.1.toNat) (by rfl') (by rfl')
     have h5:L5 p5=some (.tup [.int ((c:Nat):Int),.int ((z.2.1.toNat:Nat):Int)]):=by rw[h5,show ((z.2.1.toNat:Nat):Int)=z.2.1 by rfl']
     refine zb0 (v:=.ref p5) h6 rfl ?_
     refine zd8 (s6 _ _ h5) ?_
     refine zb1 (v:=.ref l) BL.out rfl ?_
     refine zb0 (v:=.ref p) BL.lst (by rw[zdc3];exact zc1 (by rw[zcw0,ep];rfl)) ?_
     refine zbu9 FL (by rfl') (by rfl') (fun L7 s7=>?_)
     refine zu2 (zn1 (by rfl') (by rfl') (by rfl') (by rfl')) ?_
     ac_nf
     refine⟨some (.int z.1),some (.int z.2.1),some (.int z.2.2),some (.int (c:Int)),some (.int ((z.2.1.toNat:Nat):Int)),?_,(sL.trans s46).trans s7⟩
     rw[zaw6 ez]
     rfl
   ·rintro σ L ⟨w9,w10,w11,w12,w13,rfl,sL⟩
    rw[zcv8,rl,zdd2]
    have hso':=sL _ _ hso
    refine zat4 hso' ?_
    refine zax3 hso' (by rw[zd3,zdf5];omega) (fun L2 c2 h2'=>?_)
    ac_nf
    refine⟨_,_,_,_,_,_,_,rfl,(sJ.trans sL).chg f2 c2,?_⟩
    rw[h2']
    unfold rowV
    rw[List.range_succ,zcy6]
    rfl
  ·rintro σ J ⟨z7,z8,z9,z10,z11,z12,z13,rfl,sJ,hso⟩
   have hfo':=sJ _ _ hfo
   refine zat4 hfo' ?_
   refine zax3 hfo' (by rw[zcv8,zdf5];omega) (fun J2 c2 h2'=>?_)
   ac_nf
   refine⟨_,_,_,_,_,_,_,_,_,qs++[so],rfl,(sI.trans sJ).chg f1 c2,by rw[h2',zcy6];rfl,by rw[zcw7,ql];rfl,fun i q' e=>?_⟩
   rcases zf8 e with ⟨e1,e2⟩|⟨e1,rfl⟩
   ·obtain⟨g1,g2⟩:=qr i q' e2
    exact⟨g1,c2 _ _ g1 (sJ _ _ g2)⟩
   ·rw[e1,ql,gk,gx]
    exact⟨nso,c2 _ _ nso hso⟩
 ·rintro σ I ⟨y5,y6,y7,y8,y9,y10,y11,y12,y13,qs,rfl,sI,hfo,ql,qr⟩
  ac_nf
  exact q fo qs I f1 sI ⟨hfo,ql,fun i q' e=>(qr i q' e).2⟩
@[irreducible] noncomputable def zh1:Sp:=fun vs H Q _=>∃ (o t:Addr) (os ts:List Addr) (F w k c:Nat) (D T:Nat->Nat->Int),vs=[.ref o,.ref t,.int k,.int c]/\zf0 H o os F w D/\zf0 H t ts F w T/\k<F/\c<w/\w<=100/\∀ r H',H r=none->Same H H'->H' r=some (.lst ((bndS D T F k c).map V.int))->Q (.ref r) H'
theorem zbi7{o t:Addr}{os ts:List Addr}{w k:Nat}{D:Nat->Nat->Int}(G:zf0 H o os F w D)(G':zf0 H t ts F w T)(hk:k<F)(hc:c<w)(hw:w<=100)(q:∀ r H',H r=none->Same H H'->H' r=some (.lst ((bndS D T F k c).map V.int))->Q (.ref r) H'):zh1 [.ref o,.ref t,.int k,.int c] H Q E:=by
 unfold zh1;exact⟨o,t,os,ts,F,w,k,c,D,T,rfl,G,G',hk,hc,hw,q⟩
theorem zap4(F:Fun K "_law_comes" "_law_comes" zw5 f fd)(N:Nm mg):FnOk P w K mg base CX0 1 f fd ["_law_owed","_law_table_here","_law_k","_law_rest"] zh1:=by
 refine F.ok zar6 (fun vs H Q E h=>by unfold zh1 at h;obtain⟨_,_,_,_,_,_,_,_,_,_,rfl,_⟩:=h;rfl) fun _ _ _ s H vs Q E hr h=>?_
 unfold zh1 at h
 obtain⟨o,t,os,ts,F',w,k,c,D,T,rfl,G,G',hk,hc,hw,q⟩:=h
 have hu:=hu40 hr
 obtain⟨ok,eok,hok⟩:=G.some hk
 refine⟨_,(za3 (psIf (ptC (zn6 (K:=K) rfl (by exact hu)) (pq 2) (zb4 oSub (pB (zf7 (K:=K) rfl) N.len_ zd2 (za0 (pq 0) za1)) za2)) (za4 (za9 (zg3 (za0 (za7 (K:=K) rfl (za7 (K:=K) rfl (pq 0) (pq 2)) (pq 3)) za1)))) zb2)
   (za4 (za9 (ze8 (N:=["_law_sent","_law_owed","_law_k","_law_table_here","_law_rest"]) (ks:=[none,some 0,some 2,some 1,some 3]) (zl6 N.range_ (za0 (zb4 oAdd (pq 3) za2) za1)) (fun _ _ _ _ _=>(za5 (i:=0) nb_24 rfl (by eq_refl))) (fun _ _ _ _ _=>zc7) (fun _ _ _ _ _=>(zb4 oAdd (za7 (K:=K) rfl (za7 (K:=K) rfl (pq 1) (pq 2)) (pq 0)) (za7 (K:=K) rfl (za7 (K:=K) rfl (pq 3) (zb4 oAdd (pq 2) za2)) (zb4 oSub (pq 4) (pq 0))))) (.skip (.take rfl rfl (by eq_refl) (.take rfl rfl (by eq_refl) (.take rfl rfl (by eq_refl) (.take rfl rfl (by eq_refl) .nil))))))))),?_⟩
 refine zc5 G.out ?_
 rw[zcv8,G.len]
 refine zc8 (fun e=>?_) (fun e=>?_)
 ·ac_nf
  refine zb0 (v:=.ref ok) G.out (zc1 (by rw[zcw0,eok];rfl)) ?_
  refine zb0 (v:=.int (D k c)) hok (zc1 (ze5 hc)) ?_
  refine zc3 (fun r H1 f1 s1 h1=>?_)
  ac_nf
  exact q r H1 f1 s1 (by unfold bndS;rw[if_neg (by rfl')];exact h1)
 ·have hk1:k+1<F':=by rfl'
  obtain⟨tk,etk,htk⟩:=G'.some hk1
  refine ze2 (by rfl') (by rfl') (by rfl') (by rfl') ?_
  rw[show ((c:Int)+1 - 0).toNat=c+1 by rfl']
  refine zk0 (n:=c+1) Wk.range (by rw[zdf5];omega) (fun i=>.int (D k i+T (k+1) (c - i))) (fun _=>true) (fun j σ=>∃ x:Option V,σ=[x,some (.ref o),some (.int k),some (.ref t),some (.int c)]) ⟨none,rfl⟩ ?_ ?_
  ·rintro i x σ I R' S hi s1 hx ⟨_,rfl⟩ kk _
   obtain rfl:x=.int i:=by rw[hx,zdc3]
   refine br_T ?_
   refine zb0 (v:=.ref ok) (s1 _ _ G.out) (zc1 (by rw[zcw0,eok];rfl)) ?_
   refine zb0 (v:=.int (D k i)) (s1 _ _ hok) (zc1 (ze5 (by rfl'))) ?_
   refine zb0 (v:=.ref tk) (s1 _ _ G'.out) (by rw[show (k:Int)+1=((k+1:Nat):Int) by rfl'];exact zc1 (by rw[zcw0,etk];rfl)) ?_
   refine zb0 (v:=.int (T (k+1) (c - i))) (s1 _ _ htk) (by rw[show (c:Int) - (i:Int)=((c - i:Nat):Int) by rfl'];exact zc1 (ze5 (by rfl'))) ?_
   ac_nf
   exact kk rfl _ _ (Same.refl _) ⟨_,rfl⟩
  intro acc H1 f1 s1 h1
  rw[ze6] at h1
  ac_nf
  exact q acc H1 f1 s1 (by unfold bndS;rw[if_pos hk1,h1,zcz3];rfl)
theorem zaq2(sd:Bool)(fs:List Fd)(xss:List (List (Int×Int×Int))):(zh5 sd fs xss).length=fs.length:=by unfold zh5;rw[zcv8,zcx6]
theorem zac2{fs:List Fd}{k:Nat}(hk:k<fs.length):(zh5 sd fs xss).drop k=dueS sd (fs.getD k (.more 0 0)) (xss.getD k []) :: (zh5 sd fs xss).drop (k+1):=by
 rw[zdd0 (by rw[zaq2];exact hk)]
 congr 1
 unfold zh5
 rw[zdf1,List.getElem_range]
theorem zbh3{fs:List Fd}{k:Nat}(hk:k<fs.length)(hT:k+1<fs.length->∀ c',T (k+1) c'=tabR sd ((zh5 sd fs xss).drop (k+1)) c'):bndS (fun k=>dueS sd (fs.getD k (.more 0 0)) (xss.getD k [])) T fs.length k c=zav0 sd ((zh5 sd fs xss).drop k) c:=by
 unfold bndS
 rw[zac2 hk]
 by_cases h:k+1<fs.length
 ·rw[if_pos h]
  have e:∀ s,T (k+1) (c - s)=tabR sd (dueS sd (fs.getD (k+1) (.more 0 0)) (xss.getD (k+1) []) :: (zh5 sd fs xss).drop (k+1+1)) (c - s):=fun s=>by rw[hT h,zac2 h]
  rw[zac2 h]
  exact zcy9 fun s _=>by rw[e]
 ·rw[if_neg h,zdc8 (by rw[zaq2];omega)]
  rfl
theorem zbr1{fs:List Fd}{k:Nat}(hk:k<fs.length):(zh5 sd fs xss).drop k≠[]:=by rw[zac2 hk];simp
theorem zbi6(k:Nat):(List.replicate k [V.int 0]).flatten=rowV k fun _=>0:=by
 induction k with
 | zero=>rfl
 | succ k ih=>rw[List.replicate_succ',List.flatten_append,ih,zby9];simp
noncomputable def tbN(sd:Bool)(fs:List Fd)(xss:List (List (Int×Int×Int)))(k c:Nat):Nat->Nat->Int:=fun i d=>if k<i∨i=k/\d<c then tabR sd ((zh5 sd fs xss).drop i) d else 0
@[irreducible] noncomputable def zj5:Sp:=fun vs H Q _=>∃ (b l st:Addr) (ps:List Addr) (n m:Nat) (sd:Bool) (fs:List Fd) (rs:List (Addr×List Addr)) (xss:List (List (Int×Int×Int))),vs=[.ref b,.int (sdI sd),.ref st]/\zj2 H b l ps n m fs/\OkB n m fs/\(∀ f∈fs,f.Bd n m)/\StW H st rs xss/\xss.length=fs.length/\(∀ xs∈xss,zx3 (ownH sd n m) xs)/\∀ (r:Addr) (qs:List Addr) (H':Hp),Same H H'->zf0 (nw H H') r qs fs.length (othH sd n m+1) (fun k=>tabR sd ((zh5 sd fs xss).drop k))->Q (.ref r) H'
theorem zce5{b:Addr}{n:Nat}{fs:List Fd}(B:zj2 H b l ps n m fs)(O:OkB n m fs)(D:∀ f∈fs,f.Bd n m)(S:StW H st rs xss)(hl:xss.length=fs.length)(ok:∀ xs∈xss,zx3 (ownH sd n m) xs)(q:∀ (r:Addr) (qs:List Addr) (H':Hp),Same H H'->zf0 (nw H H') r qs fs.length (othH sd n m+1) (fun k=>tabR sd ((zh5 sd fs xss).drop k))->Q (.ref r) H'):zj5 [.ref b,.int (sdI sd),.ref st] H Q E:=by
 unfold zj5;exact⟨b,l,st,ps,n,m,sd,fs,rs,xss,rfl,B,O,D,S,hl,ok,q⟩
theorem zaq9(F:Fun K "_law_table" "_law_table" zv4 f fd)(N:Nm mg)(zcr2:Def P w K mg base CX0 1 "_law_comes" ["_law_owed","_law_table_here","_law_k","_law_rest"] zh1)(zcr4:Def P w K mg base CX0 2 "_law_dues" ["_law_battle_here","_law_side","_law_stream"] zi9):FnOk P w K mg base CX0 3 f fd ["_law_battle_here","_law_side","_law_stream"] zj5:=by
 refine F.ok zj4 (fun vs H Q E h=>by unfold zj5 at h;obtain⟨_,_,_,_,_,_,_,_,_,_,rfl,_⟩:=h;rfl) fun _ _ _ s H vs Q E hr h=>?_
 unfold zj5 at h
 obtain⟨b,l,st,ps,n,m,sd,fs,rs,xss,rfl,B,O,D,S,hl,ok,q⟩:=h
 have hu:=hu40 hr
 have o1:=O.1
 have o2:=O.2
 obtain⟨ho,hw⟩:=zai7 O sd
 refine⟨_,(za3 (psS (i:=3) zj4.nd (pD zcr4 hr zb3 (za0 (pq 0) (za0 (pq 1) (za0 (pq 2) za1)))))
   (za3 (psC (i:=4) (N:=["_law_row"]) (ks:=[none]) zj4.nd (ze4 (K:=K) rfl (pq 3)) (fun _ _ _ _ _=>(za5 (i:=0) nb_25 rfl (by eq_refl))) (fun _ _ _ _ _=>zc7) (fun _ _ _ _ _=>(zb4 oMul (zg3 (za0 za2 za1)) (pB (zf7 (K:=K) rfl) N.len_ zd2 (za0 (pq 0) za1)))) (.skip .nil))
   (za3 (zp5 PassesOwn.never rfl (piRevR N.reversed_ N.range_ (za0 (pB (zf7 (K:=K) rfl) N.len_ zd2 (za0 (pq 3) za1)) za1)) (za5 (i:=5) zj4.nd rfl (by eq_refl)) (za4 (zp5 PassesOwn.never rfl (zl6 N.range_ (za0 (pB (zf7 (K:=K) rfl) N.len_ zd2 (za0 (za7 (K:=K) rfl (pq 3) (pq 5)) za1)) za1)) (za5 (i:=6) zj4.nd rfl (by eq_refl)) (za3 (psS (i:=7) zj4.nd (pD zcr2 hr zb3 (za0 (pq 3) (za0 (pq 4) (za0 (pq 5) (za0 (pq 6) za1))))))
   (za4 (zu9 (za7 (K:=K) rfl (zg3 (za0 (pB (cMinK (K:=K) rfl rfl) N.min_ zcg7 (za0 (pq 7) za1)) (za0 (pB (cMaxK (K:=K) rfl rfl) N.max_ zci6 (za0 (pq 7) za1)) za1))) (pq 1)) (zam1 (za7 (K:=K) rfl (pq 4) (pq 5)) (pq 6) setM)))))))
   (za4 (za9 (pq 4)))))),?_⟩
 refine zbf2 B O D S hl ok (fun o os H1 f1 s1 G=>?_)
 have ol:=G.len
 refine zc4 G.out ?_
 refine zaf2 (n:=(os.map V.ref).length) (Wk.list (SqL.of G.out)) (by rw[zcv8,zdf5];omega) (fun _=>.lst (rowV (othH sd n m+1) fun _=>0)) (fun j σ=>∃ t:Option V,σ=[t]) ⟨none,rfl⟩ ?_ ?_
 ·rintro i x σ I R' S' hi sI hx ⟨_,rfl⟩ kk
  rw[zcw0] at hx
  obtain⟨y,ey,rfl⟩:=zcw4.mp hx
  refine br_T ?_
  refine zc3 (fun p2 I2 f2 s2 h2=>?_)
  refine zc5 ((sI.trans s2) _ _ (G.row i y ey)) ?_
  rw[zd3]
  refine zci5 h2 (by rfl') (by rfl') (by rw[zdf5];simp only[zcx5,zcz1];omega) (fun p3 I3 f3 s3 h3=>?_)
  rw[zbi6,zdd7] at h3
  ac_nf
  exact kk _ p3 I3 (s2.free f3) (s2.trans s3) h3 ⟨_,rfl⟩
 intro t ts H2 FL
 rw[zcv8,ol] at FL
 refine zc5 (FL.same _ _ G.out) ?_
 rw[zcv8,ol]
 refine zck3 (by rfl') (by rfl') ?_
 rw[zdd7]
 have tbl:∀ {I:Hp}{T:Nat->Nat->Int},I t=some (.lst (ts.map V.ref))->(∀ (i:Nat) p,ts[i]?=some p->I p=some (.lst (rowV (othH sd n m+1) (T i))))->zf0 I t ts fs.length (othH sd n m+1) T:=fun h1 h2=>⟨h1,FL.len,h2⟩
 refine zbe1 (fun j σ I=>∃ (y6 y7 y8:Option V),σ=[some (.ref b),some (.int (sdI sd)),some (.ref st),some (.ref o),some (.ref t),y6,y7,y8]/\Same H1 I/\zf0 I t ts fs.length (othH sd n m+1) (fun i d=>if fs.length<=i+j then tabR sd ((zh5 sd fs xss).drop i) d else 0)) ?_ ?_ ?_
 ·refine⟨_,_,_,rfl,FL.same,tbl FL.out fun i p e=>?_⟩
  rw[(FL.row i p e).2]
  have:=(zcv9.mp e).1
  have tl:=FL.len
  exact congrArg some (congrArg HO.lst (zag3 fun c _=>by rw[if_neg (by rfl')]))
 ·rintro j σ I hj ⟨y6,y7,y8,rfl,sI,GI⟩
  have hj:j<fs.length:=hj
  obtain⟨k,ek⟩:∃ k:Nat,k+j+1=fs.length:=⟨fs.length - 1 - j,by rfl'⟩
  have hk:k<fs.length:=by rfl'
  rw[show ((fs.length:Int) - 1 - (j:Int))=(k:Int) by rfl']
  obtain⟨ok',eok,hok⟩:=G.some hk
  obtain⟨tk,etk,_⟩:=GI.some hk
  have ntk:t≠tk:=fun e=>FL.nin (e▸zcw3 etk)
  have ftk:H1 tk=none:=(FL.row k tk etk).1
  refine zb0 (v:=.ref ok') (sI _ _ G.out) (zc1 (by rw[zcw0,eok];rfl)) ?_
  refine zc5 (sI _ _ hok) ?_
  rw[zd3]
  refine ze2 (by decide) (by decide) (by rfl') (by rfl') ?_
  rw[show (((othH sd n m+1:Nat):Int) - 0).toNat=othH sd n m+1 by rfl']
  refine zf5 (fun c σ J=>∃ (y7 y8:Option V),σ=[some (.ref b),some (.int (sdI sd)),some (.ref st),some (.ref o),some (.ref t),some (.int k),y7,y8]/\Same H1 J/\zf0 J t ts fs.length (othH sd n m+1) (tbN sd fs xss k c)) ?_ ?_ ?_
  ·refine⟨_,_,rfl,sI,GI.ext fun i d hi hd=>?_⟩
   unfold tbN
   by_cases h:k<i
   ·rw[if_pos (by rfl'),if_pos (.inl h)]
   ·rw[if_neg (by rfl'),if_neg (by rfl')]
  ·rintro c σ J hc ⟨z7,z8,rfl,sJ,GJ⟩
   have hc:c<othH sd n m+1:=hc
   rw[zdc3]
   refine zbi7 (G.same sJ) GJ hk hc (by rfl') (fun r3 J3 f3 s3 h3=>?_)
   have ce:=zbh3 (sd:=sd) (xss:=xss) (c:=c) (T:=tbN sd fs xss k c) hk (fun _ c'=>by unfold tbN;rw[if_pos (.inl (by rfl'))])
   rw[ce] at h3
   obtain⟨te,tn⟩:=zbu7 sd (zbr1 (sd:=sd) (xss:=xss) hk) c
   refine zbt8 (SqL.of h3) (List.length_pos_iff.mpr tn) (fun M1 hM1 hm1=>?_)
   refine zbo1 (SqL.of h3) (List.length_pos_iff.mpr tn) (fun M2 hM2 hm2=>?_)
   refine zc3 (fun p4 J4 f4 s4 h4=>?_)
   ac_nf
   have em:tabR sd ((zh5 sd fs xss).drop k) c=if sd then M2 else M1:=by
    rw[te]
    cases sd
    ·exact (zbp0 (sd:=false) hM1 hm1).symm
    ·exact (zbp0 (sd:=true) hM2 hm2).symm
   refine zb0 (v:=.int (tabR sd ((zh5 sd fs xss).drop k) c)) h4 (by rw[em];cases sd<;>rfl) ?_
   have s34:=s3.trans s4
   have G4:=GJ.same s34
   refine zb0 (v:=.ref tk) G4.out (zc1 (by rw[zcw0,etk];rfl)) ?_
   refine zan3 (j:=c) (G4.row k tk etk) (by unfold ixN;rw[zd3,if_pos (by rfl'),if_pos (by rfl'),zdd7]) (fun J5 c5 h5=>?_)
   rw[zcc3] at h5
   ac_nf
   refine⟨_,_,rfl,(sJ.trans s34).chg ftk c5,tbl (c5 _ _ ntk G4.out) fun i p e=>?_⟩
   by_cases hik:i=k
   ·subst hik
    have:p=tk:=by rw[etk] at e;exact (Option.some.inj e).symm
    subst this
    rw[h5]
    refine congrArg some (congrArg HO.lst (zag3 fun d _=>?_))
    unfold tbN
    by_cases hd:d=c
    ·rw[if_pos hd,if_pos (.inr ⟨rfl,by rfl'⟩),hd]
    ·rw[if_neg hd]
     by_cases hd2:d<c
     ·rw[if_pos (.inr ⟨rfl,hd2⟩),if_pos (.inr ⟨rfl,by rfl'⟩)]
     ·rw[if_neg (by rfl'),if_neg (by rfl')]
   ·have np:p≠tk:=fun e2=>by
     subst e2
     have l1:=(zcv9.mp e)
     have l2:=(zcv9.mp etk)
     exact hik ((List.getElem_inj FL.nd).mp (l1.2.trans l2.2.symm))
    rw[c5 _ _ np (G4.row i p e)]
    refine congrArg some (congrArg HO.lst (zag3 fun d _=>?_))
    unfold tbN
    by_cases h:k<i
    ·rw[if_pos (.inl h),if_pos (.inl h)]
    ·rw[if_neg (by rfl'),if_neg (by rfl')]
  ·rintro σ J ⟨z7,z8,rfl,sJ,GJ⟩
   ac_nf
   refine⟨_,_,_,rfl,sJ,GJ.ext fun i d hi hd=>?_⟩
   unfold tbN
   by_cases h:k<=i
   ·rw[if_pos (by rfl'),if_pos (by rfl')]
   ·rw[if_neg (by rfl'),if_neg (by rfl')]
 ·rintro σ I ⟨y6,y7,y8,rfl,sI,GI⟩
  ac_nf
  have GN:zf0 (nw H I) t ts fs.length (othH sd n m+1) (fun i d=>if fs.length<=i+fs.length then tabR sd ((zh5 sd fs xss).drop i) d else 0):=⟨zn9 (s1.free FL.facc) GI.out,GI.len,fun i p e=>zn9 (s1.free (FL.row i p e).1) (GI.row i p e)⟩
  exact q t ts I (s1.trans sI) (GN.ext fun i d _ _=>by rw[if_pos (by rfl')])
@[irreducible] noncomputable def zg2:Sp:=fun vs H Q _=>∃ (b w l:Addr) (ps:List Addr) (n m:Nat) (sd:Bool) (fs:List Fd) (w0 w1:Int) (v:V) (d:PyData),vs=[.ref b,.int (sdI sd),.ref w,v]/\zj2 H b l ps n m fs/\OkB n m fs/\(∀ f∈fs,f.Bd n m)/\H w=some (.tup [.int w0,.int w1])/\(-(10 ^ 200)<w0/\w0<10 ^ 200)/\(-(10 ^ 200)<w1/\w1<10 ^ 200)/\ShV H v d/\GB 18 8 d/\∀ rv res H',Same H H'->ShV H' rv res->zl8 sd n m fs w0 w1 d res->Q rv H'
theorem zam4{b w:Addr}{n:Nat}{fs:List Fd}{w1:Int}{v:V}{d:PyData}(B:zj2 H b l ps n m fs)(O:OkB n m fs)(D:∀ f∈fs,f.Bd n m)(hw:H w=some (.tup [.int w0,.int w1]))(b0:-(10 ^ 200)<w0/\w0<10 ^ 200)(b1:-(10 ^ 200)<w1/\w1<10 ^ 200)(hv:ShV H v d)(g:GB 18 8 d)(q:∀ rv res H',Same H H'->ShV H' rv res->zl8 sd n m fs w0 w1 d res->Q rv H'):zg2 [.ref b,.int (sdI sd),.ref w,v] H Q E:=by
 unfold zg2;exact⟨b,w,l,ps,n,m,sd,fs,w0,w1,v,d,rfl,B,O,D,hw,b0,b1,hv,g,q⟩
theorem tab_no{es:List PyData}{k:Nat}(hk:k<es.length)(h:zj8 W (es.getD k .none)=false):tabD F W (.list es)=false:=by
 cases e:tabD F W (.list es)
 ·rfl
 ·have e:(decide ((es.length:Int)=F)&&es.all (zj8 W))=true:=e
  rw[zcx4] at e
  have:=zcx2.mp e.2 (es.getD k .none) (by rw[zcw1,zcv7 hk];exact zdb0 _)
  rw[h] at this
  cases this
theorem zcp2{es:List PyData}(hl:es.length=F)(h:∀ i,i<F->zj8 W (es.getD i .none)=true):tabD F W (.list es)=true:=by
 show (decide ((es.length:Int)=F)&&es.all (zj8 W))=true
 rw[decide_eq_true (by rfl'),zcz7,zcx2]
 intro x hx
 obtain⟨i,ei⟩:=zcx8 hx
 have:=h i (by rw[← hl];exact (zcv9.mp ei).1)
 rwa [getD_some ei] at this
theorem zbh0{es:List PyData}:(((List.range es.length).filter fun i=>!isW (es.getD i .none)).length:Int)>0↔es.all isW=false:=by
 constructor
 ·intro h
  cases e:es.all isW
  ·rfl
  ·obtain⟨i,hi⟩:=List.exists_mem_of_length_pos (l:=(List.range es.length).filter fun i=>!isW (es.getD i .none)) (by rfl')
   rw[zdd8,zcy0] at hi
   have:=zcx2.mp e (es.getD i .none) (by rw[zcw1,zcv7 hi.1];exact zdb0 _)
   rw[this] at hi
   cases hi.2
 ·intro h
  obtain⟨x,hx,hw⟩:=List.all_eq_false.mp h
  obtain⟨i,ei⟩:=zcx8 hx
  have:i∈(List.range es.length).filter fun i=>!isW (es.getD i .none):=by
   rw[zdd8,zcy0,getD_some ei]
   refine⟨(zcv9.mp ei).1,?_⟩
   cases ew:isW x
   ·rfl
   ·exact absurd ew hw
  have:=zde6 this
  omega
theorem bnd_ne(D T:Nat->Nat->Int)(F k c:Nat):0<(bndS D T F k c).length:=by
 unfold bndS
 split
 ·rw[zcv8,zcx6];omega
 ·exact Nat.zero_lt_one
theorem zal1(F:Fun K "_law_judged" "_law_judged" zt0 f fd)(N:Nm mg)(zcr2:Def P w K mg base CX0 1 "_law_comes" ["_law_owed","_law_table_here","_law_k","_law_rest"] zh1)(zcr4:Def P w K mg base CX0 2 "_law_dues" ["_law_battle_here","_law_side","_law_stream"] zi9)(zcr6:Def P w K mg base CX0 3 "_law_is_stream" ["_law_hosts","_law_many","_law_stream"] zf3)(zcr1:Def P w K mg base CX0 1 "_law_whole" ["_law_thing"] zh3):FnOk P w K mg base CX0 4 f fd ["_law_battle_here","_law_side","_law_worth","_law_paper"] zg2:=by
 refine F.ok zd6 (fun vs H Q E h=>by unfold zg2 at h;obtain⟨_,_,_,_,_,_,_,_,_,_,_,_,rfl,_⟩:=h;rfl) fun _ _ _ s H vs Q E hr h=>?_
 unfold zg2 at h
 obtain⟨b,w,l,ps,n,m,sd,fs,w0,w1,v,d,rfl,B,O,D,hw,b0,b1,hv,g,q⟩:=h
 have hu:=hu40 hr
 have o2:=O.2
 have bl:=B.len
 obtain⟨ho,hown⟩:=zai7 O sd
 refine⟨_,(za3 (psIf (ptW (pwOr (zh6 (ptV (pB (zq2 (K:=K) rfl) N.isinstance_ zb8 (za0 (pq 3) (za0 (pTy N.tuple_ zp9) za1))))) (zo4 (ptC (zac6 (K:=K) rfl (by exact hu)) (pB (zf7 (K:=K) rfl) N.len_ zd2 (za0 (pq 3) za1)) za2)))) (za4 (za9 (zf2 (za0 ze1 za1)))) zb2)
   (za3 (zu9 (pq 3) (zi6 (K:=K) (n:=2) rfl rfl (zb7 (za5 (i:=4) zd6.nd rfl (by eq_refl)) (zb7 (za5 (i:=5) zd6.nd rfl (by eq_refl)) zj0))))
   (za3 (psIf (zh6 (ptV (pD zcr6 hr zb3 (za0 (za7 (K:=K) rfl (pq 0) (pq 1)) (za0 (pB (zf7 (K:=K) rfl) N.len_ zd2 (za0 (za7 (K:=K) rfl (pq 0) za2) za1)) (za0 (pq 4) za1)))))) (za4 (za9 (zf2 (za0 ze1 za1)))) zb2)
   (za3 (psS (i:=6) zd6.nd (pD zcr4 hr zb3 (za0 (pq 0) (za0 (pq 1) (za0 (pq 4) za1)))))
   (za3 (psIf (ptW (pwOr (zh6 (ptV (pB (zq2 (K:=K) rfl) N.isinstance_ zb8 (za0 (pq 5) (za0 (pTy N.list_ zp7) za1))))) (zo4 (ptC (zac6 (K:=K) rfl (by exact hu)) (pB (zf7 (K:=K) rfl) N.len_ zd2 (za0 (pq 5) za1)) (pB (zf7 (K:=K) rfl) N.len_ zd2 (za0 (pq 6) za1)))))) (za4 (za9 (zf2 (za0 ze1 za1)))) zb2)
   (za3 (zp5 PassesOwn.never rfl (zl6 N.range_ (za0 (pB (zf7 (K:=K) rfl) N.len_ zd2 (za0 (pq 6) za1)) za1)) (za5 (i:=7) zd6.nd rfl (by eq_refl)) (za3 (psIf (ptW (pwOr (zh6 (ptV (pB (zq2 (K:=K) rfl) N.isinstance_ zb8 (za0 (za7 (K:=K) rfl (pq 5) (pq 7)) (za0 (pTy N.list_ zp7) za1))))) (zo4 (ptC (zac6 (K:=K) rfl (by exact hu)) (pB (zf7 (K:=K) rfl) N.len_ zd2 (za0 (za7 (K:=K) rfl (pq 5) (pq 7)) za1)) (pB (zf7 (K:=K) rfl) N.len_ zd2 (za0 (za7 (K:=K) rfl (pq 6) (pq 7)) za1)))))) (za4 (za9 (zf2 (za0 ze1 za1)))) zb2)
   (za4 (psIf (ptC oGt (pB (zf7 (K:=K) rfl) N.len_ zd2 (za0 (ze8 (N:=["_law_one"]) (ks:=[none]) (ze4 (K:=K) rfl (za7 (K:=K) rfl (pq 5) (pq 7))) (fun _ _ _ _ _=>(za5 (i:=0) nb_26 rfl (by eq_refl))) (fun _ _ _ _ _=>(zbz9 (zh6 (ptV (pD zcr1 hr zb3 (za0 (pq 0) za1)))))) (fun _ _ _ _ _=>(pq 0)) (.skip .nil)) za1)) za2) (za4 (za9 (zf2 (za0 ze1 za1)))) zb2))))
   (za3 (zp5 PassesOwn.never rfl (zl6 N.range_ (za0 (pB (zf7 (K:=K) rfl) N.len_ zd2 (za0 (pq 6) za1)) za1)) (za5 (i:=7) zd6.nd rfl (by eq_refl)) (za4 (zp5 PassesOwn.never rfl (zl6 N.range_ (za0 (pB (zf7 (K:=K) rfl) N.len_ zd2 (za0 (za7 (K:=K) rfl (pq 6) (pq 7)) za1)) za1)) (za5 (i:=8) zd6.nd rfl (by eq_refl)) (za3 (psS (i:=9) zd6.nd (pD zcr2 hr zb3 (za0 (pq 6) (za0 (pq 5) (za0 (pq 7) (za0 (pq 8) za1))))))
   (za4 (psIf (ptW (pwOr (ptW (zaf6 (ptC (zn6 (K:=K) rfl (by exact hu)) (pq 1) za2) (zo1 (ptC oGt (za7 (K:=K) rfl (za7 (K:=K) rfl (pq 5) (pq 7)) (pq 8)) (pB (cMinK (K:=K) rfl rfl) N.min_ zcg7 (za0 (pq 9) za1)))))) (zo4 (ptW (zaf6 (ptC (zn6 (K:=K) rfl (by exact hu)) (pq 1) za2) (zo1 (ptC (oLtX (by exact hu)) (za7 (K:=K) rfl (za7 (K:=K) rfl (pq 5) (pq 7)) (pq 8)) (pB (cMaxK (K:=K) rfl rfl) N.max_ zci6 (za0 (pq 9) za1))))))))) (za4 (za9 (zf2 (za0 ze1 (za0 (pq 7) (za0 (pq 8) za1)))))) zb2))))))
   (za3 (psS (i:=10) zd6.nd (zb4 oMul (za7 (K:=K) rfl (za7 (K:=K) rfl (pq 5) za2) (zv6 uNeg za2)) (za7 (K:=K) rfl (pq 2) za2)))
   (za3 (psS (i:=11) zd6.nd (zb4 oMul (za7 (K:=K) rfl (pq 2) za2) (pB (zbm4 (K:=K) rfl rfl) N.sum_ zan1 (za0 (ze8 (N:=["_law_part"]) (ks:=[none]) (ze4 (K:=K) rfl (za7 (K:=K) rfl (pq 4) za2)) (fun _ _ _ _ _=>(za5 (i:=0) nb_27 rfl (by eq_refl))) (fun _ _ _ _ _=>zc7) (fun _ _ _ _ _=>(za7 (K:=K) rfl (pq 0) za2)) (.skip .nil)) za1))))
   (za3 (psIf (ptW (pwOr (ptW (zaf6 (ptC (zn6 (K:=K) rfl (by exact hu)) (pq 1) za2) (zo1 (ptC (oLtX (by exact hu)) (pq 10) (pq 11))))) (zo4 (ptW (zaf6 (ptC (zn6 (K:=K) rfl (by exact hu)) (pq 1) za2) (zo1 (ptC oGt (pq 10) (pq 11)))))))) (za4 (za9 (zf2 (za0 ze1 za1)))) zb2)
   (za4 (za9 zv0)))))))))))),?_⟩
 refine zf9 hv (.inr (.inr (.inr rfl))) ?_
 rcases hv.tupOr with ⟨a,xs,ds,rfl,rfl,e,l'⟩|e0
 case inl=>
  have ll:=l'.len
  refine zb9 (br_T ?_)
  refine zp6 e ?_
  rw[ll]
  refine zb9 (zc8 (fun h0=>?_) (fun h0=>?_))
  rotate_left
  ·ac_nf
   refine zb6 (fun r H1 f1 s1 h1=>?_)
   ac_nf
   refine q (.ref r) _ H1 s1 (.tup h1 (.cons (.str _) .nil)) (zaa6 (x:="paper") ?_)
   unfold zp8
   rw[zav1 (by rfl')]
  obtain⟨x,y,dx,dy,rfl,rfl,hx,hy⟩:=zbc4 l' (by rfl')
  have fe:zp8 (ownH sd n m) fs.length (othH sd n m+1:Nat) (.tuple [dx,dy])=(if zd4 (ownH sd n m) fs.length dx=true then (if tabD fs.length (othH sd n m+1:Nat) dy=true then none else some ("table":Str)) else some ("stream":Str)):=rfl
  obtain⟨ga,gb⟩:GB 18 7 dx/\GB 18 7 dy:=by
   cases g with
   | tuple _ _ g1 g2=>exact⟨g2 dx (by simp),g2 dy (by simp)⟩
  refine zd8 e ?_
  refine zb1 (v:=.int (ownH sd n m)) B.out (by cases sd<;>rfl) ?_
  refine zb1 (v:=.ref l) B.out rfl ?_
  refine zc5 B.lst ?_
  rw[zcv8,bl]
  refine zcc8 hx (by rfl') (by rfl') (fun z hz=>(ga.items.2 z hz).items.1) (fun H1 s1=>?_)
  cases es:zd4 (ownH sd n m) fs.length dx
  ·ac_nf
   refine zb9 (br_F ?_)
   refine zb6 (fun r H2 f2 s2 h2=>?_)
   ac_nf
   refine q (.ref r) _ H2 (s1.trans s2) (.tup h2 (.cons (.str _) .nil)) (zaa6 (x:="stream") ?_)
   rw[fe,es,if_neg zcw5]
  rw[es,if_pos rfl] at fe
  obtain⟨d1,⟨d2,d3⟩,d4⟩:=zbc8 es
  have okr:=zci0 es ga
  have ex:xsD (.tuple [dx,dy])=(zc2 dx).map rowF:=rfl
  have hx':=hx
  rw[d1] at hx'
  obtain⟨st,rs,rfl,S⟩:=zcg1 hx'
  have xl:((zc2 dx).map rowF).length=fs.length:=by rw[zcv8];omega
  clear hx hx' d1 d4
  rw[← ex] at S okr xl
  refine zb9 (br_T ?_)
  refine zbf2 (B.same s1) O D (S.same s1) xl (fun xs hx=>(okr xs hx).1) (fun ow gs H2 f2 s2 G2=>?_)
  have s02:=s1.trans s2
  have gl:=G2.len
  refine zf9 (hy.same s02) (.inr (.inr (.inl rfl))) ?_
  have noT:tabD fs.length (othH sd n m+1:Nat) dy=false->∀ (r:Addr) (J:Hp),Same H J->J r=some (.tup [.str "table"])->Q (.ref r) J:=fun et r J sJ hJ=>by
   refine q (.ref r) _ J sJ (.tup hJ (.cons (.str _) .nil)) (zaa6 (x:="table") ?_)
   rw[fe,et,if_neg zcw5]
  rcases hy.lstOr with ⟨tb,ys,ts,rfl,rfl,e2,l2⟩|e0
  case inl=>
   have l2l:=l2.len
   have e2':∀ {J},Same H J->J tb=some (.lst ys):=fun {J} s=>s _ _ e2
   refine zb9 (br_T ?_)
   refine zc5 (e2' s02) ?_
   rw[l2l]
   refine zc5 G2.out ?_
   rw[zcv8,gl]
   refine zb9 (zc8 (fun h1=>?_) (fun h1=>?_))
   rotate_left
   ·ac_nf
    refine zb6 (fun r H3 f3 s3 h3=>?_)
    ac_nf
    refine noT ?_ r H3 (s02.trans s3) h3
    show (decide ((ts.length:Int)=fs.length)&&ts.all (zj8 _))=false
    rw[decide_eq_false (by rfl'),zde9]
   have tl:ts.length=fs.length:=by rfl'
   refine zc5 G2.out ?_
   rw[zcv8,gl]
   refine ze2 (by rfl') (by rfl') (by rfl') (by rfl') ?_
   rw[show ((fs.length:Int) - 0).toNat=fs.length by rfl']
   obtain⟨V1,hV1⟩:∃ W:Nat->St->Hp->Prop,W=(fun k σ I=>∃ y7 y8 y9 y10 y11:Option V,σ=[some (.ref b),some (.int (sdI sd)),some (.ref w),some (.ref a),some (.ref st),some (.ref tb),some (.ref ow),y7,y8,y9,y10,y11]/\Same H2 I/\∀ i,i<k->zj8 (othH sd n m+1:Nat) (ts.getD i .none)=true):=⟨_,rfl⟩
   refine zf5 V1 ?_ ?_ ?_
   ·rw[hV1];exact⟨_,_,_,_,_,rfl,Same.refl _,fun i hi=>absurd hi (zde0 i)⟩
   ·rintro k σ I hk hI
    rw[hV1] at hI
    obtain⟨y7,y8,y9,y10,y11,rfl,sI,hrow⟩:=hI
    have hk:k<fs.length:=hk
    rw[zdc3]
    have s0I:=s02.trans sI
    obtain⟨x,ex⟩:∃ x,ys[k]?=some x:=⟨_,zcv7 (by rfl')⟩
    obtain⟨dk,edk,hdk⟩:=l2.get k x ex
    have gk:ts.getD k .none=dk:=getD_some edk
    have atk:atI ys (k:Int)=some x:=zc1 ex
    obtain⟨o,eo,hoo⟩:=(G2.same sI).some hk
    have bad:zj8 (othH sd n m+1:Nat) dk=false->∀ (r:Addr) (J:Hp),Same I J->J r=some (.tup [.str "table"])->Q (.ref r) J:=fun z r J sJ hJ=>noT (tab_no (k:=k) (show k<ts.length by rfl') (by rw[gk];exact z)) r J (s0I.trans sJ) hJ
    have hdkI:=hdk.same s0I
    refine zb0 (v:=x) (e2' s0I) atk ?_
    refine zf9 hdkI (.inr (.inr (.inl rfl))) ?_
    rcases hdkI.lstOr with ⟨tk,zs,es',rfl,rfl,e3,l3⟩|e0
    case inl=>
     have l3l:=l3.len
     refine zb9 (br_T ?_)
     refine zb0 (v:=.ref tk) (e2' s0I) atk ?_
     refine zc5 e3 ?_
     rw[l3l]
     refine zb0 (v:=.ref o) (sI _ _ G2.out) (zc1 (by rw[zcw0,eo];rfl)) ?_
     refine zc5 hoo ?_
     rw[zd3]
     refine zb9 (zc8 (fun h2=>?_) (fun h2=>?_))
     rotate_left
     ·ac_nf
      refine zb6 (fun r I1 f1' s1' h1'=>?_)
      ac_nf
      refine bad ?_ r I1 s1' h1'
      show (decide ((es'.length:Int)=(othH sd n m+1:Nat))&&es'.all isW)=false
      rw[decide_eq_false h2,zde9]
     have el:es'.length<=18:=by rfl'
     refine zb0 (v:=.ref tk) (e2' s0I) atk ?_
     refine zc4 e3 ?_
     refine zk0 (Wk.list (SqL.of e3)) (by rw[zdf5];omega) (fun i=>zs.getD i .non) (fun i=>!isW (es'.getD i .none)) (fun j σ=>∃ t:Option V,σ=[t]) ⟨none,rfl⟩ ?_ ?_
     ·rintro i z σ I1 R S' hi s2' hz ⟨_,rfl⟩ kk kf
      obtain⟨dz,edz,hdz⟩:=l3.get i z hz
      rw[getD_some edz,zcl6 hz] at kk
      rw[getD_some edz] at kf
      refine zan5 (hdz.same s2') ?_
      cases ew:isW dz
      ·ac_nf
       refine br_T ?_
       ac_nf
       exact kk (by rw[ew];rfl) _ _ (Same.refl _) ⟨_,rfl⟩
      ·ac_nf
       refine br_F ?_
       ac_nf
       exact kf (by rw[ew];rfl) _ _ (Same.refl _) ⟨_,rfl⟩
     intro ac I1 f1' s1' h1'
     refine zc5 h1' ?_
     rw[zcv8,l3l]
     refine zc8 (fun h3=>?_) (fun h3=>?_)
     ·ac_nf
      refine zb6 (fun r I2 f2' s2' h2'=>?_)
      ac_nf
      refine bad ?_ r I2 (s1'.trans s2') h2'
      show (decide ((es'.length:Int)=(othH sd n m+1:Nat))&&es'.all isW)=false
      rw[zbh0.mp h3,zdf0]
     ·ac_nf
      rw[hV1]
      refine⟨_,_,_,_,_,rfl,sI.trans s1',fun i hi=>?_⟩
      rcases (show i<k∨i=k by rfl') with z|rfl
      ·exact hrow i z
      ·rw[gk]
       show (decide ((es'.length:Int)=(othH sd n m+1:Nat))&&es'.all isW)=true
       rw[decide_eq_true h2,zcz7]
       cases ea:es'.all isW
       ·exact absurd (zbh0.mpr ea) h3
       ·rfl
    rw[e0]
    refine zb9 (br_F ?_)
    refine br_T ?_
    refine zb6 (fun r I1 f1' s1' h1'=>?_)
    ac_nf
    exact bad (by cases dk<;>first|rfl|exact zde7 (show true=false from e0)) r I1 s1' h1'
   rintro σ I hI
   rw[hV1] at hI
   obtain⟨y7,y8,y9,y10,y11,rfl,sI,hrow⟩:=hI
   have et:=zcp2 tl hrow
   rw[et,if_pos rfl] at fe
   have s0I:=s02.trans sI
   have hyI:ShV I (.ref tb) (.list ts):=ShV.same (.lst e2 l2) s0I
   rw[zbx9 et] at hyI
   obtain⟨tb',qs,e4,GT⟩:=zaq5 (n:=fs.length) (m:=othH sd n m+1) hyI
   cases e4
   clear hyI
   have vn:∀ {i c:Nat},zw4 sd n m fs (xsD (.tuple [dx,.list ts])) (tabT (.list ts)) i c->zl8 sd n m fs w0 w1 (.tuple [dx,.list ts]) (.tuple [.str "number",.int i,.int c]):=fun h=>zbx8 fe h
   have va:zs1 sd n m fs (xsD (.tuple [dx,.list ts])) (tabT (.list ts))->zl8 sd n m fs w0 w1 (.tuple [dx,.list ts]) (if zk1 sd (w0*(((xsD (.tuple [dx,.list ts])).getD 0 []).map fun z=>z.2.2).sum) (tabT (.list ts) 0 (othH sd n m)*w1)=true then .none else .tuple [.str "worth"]):=fun h=>zbe5 fe h
   obtain⟨_,_,_,_,tbd,sbd⟩:=zbh5 (nn:=4) fe g
   have tbd:∀ k c,-(10 ^ 82)<=tabT (.list ts) k c/\tabT (.list ts) k c<=10 ^ 82:=tbd
   have q:∀ rv res H',Same H H'->ShV H' rv res->zl8 sd n m fs w0 w1 (.tuple [dx,.list ts]) res->Q rv H':=q
   have SI:=S.same s0I
   clear noT fe et hrow g ga gb es
   generalize tabT (.list ts)=T at GT vn va tbd
   generalize xsD (.tuple [dx,.list ts])=xss at S SI okr xl vn va sbd G2
   have GO:=G2.same sI
   have TL:=GT.len
   refine zc5 GO.out ?_
   rw[zcv8,gl]
   refine ze2 (by rfl') (by rfl') (by rfl') (by rfl') ?_
   rw[show ((fs.length:Int) - 0).toNat=fs.length by rfl']
   obtain⟨V2,hV2⟩:∃ W:Nat->St->Hp->Prop,W=(fun k σ J=>∃ y7 y8 y9 y10 y11:Option V,σ=[some (.ref b),some (.int (sdI sd)),some (.ref w),some (.ref a),some (.ref st),some (.ref tb),some (.ref ow),y7,y8,y9,y10,y11]/\Same I J/\∀ k' c,k'<k->c<=othH sd n m->Kept sd fs xss T k' c):=⟨_,rfl⟩
   refine zf5 V2 ?_ ?_ ?_
   ·rw[hV2];exact⟨_,_,_,_,_,rfl,Same.refl _,fun k' c hk=>absurd hk (zde0 k')⟩
   ·rintro k σ J hk hI
    rw[hV2] at hI
    obtain⟨z7,z8,z9,z10,z11,rfl,sJ,kp⟩:=hI
    have hk:k<fs.length:=hk
    rw[zdc3]
    obtain⟨o,eo,hoo⟩:=(GO.same sJ).some hk
    obtain⟨tk,etk,htk⟩:=(GT.same sJ).some hk
    refine zb0 (v:=.ref o) (sJ _ _ GO.out) (zc1 (by rw[zcw0,eo];rfl)) ?_
    refine zc5 hoo ?_
    rw[zd3]
    refine ze2 (by rfl') (by rfl') (by rfl') (by rfl') ?_
    rw[show (((othH sd n m+1:Nat):Int) - 0).toNat=othH sd n m+1 by rfl']
    obtain⟨V3,hV3⟩:∃ W:Nat->St->Hp->Prop,W=(fun c σ J'=>∃ y8 y9 y10 y11:Option V,σ=[some (.ref b),some (.int (sdI sd)),some (.ref w),some (.ref a),some (.ref st),some (.ref tb),some (.ref ow),some (.int k),y8,y9,y10,y11]/\Same J J'/\∀ c',c'<c->Kept sd fs xss T k c'):=⟨_,rfl⟩
    refine zf5 V3 ?_ ?_ ?_
    ·rw[hV3];exact⟨_,_,_,_,rfl,Same.refl _,fun c' hc=>absurd hc (zde0 c')⟩
    ·rintro c σ J' hc hI
     rw[hV3] at hI
     obtain⟨u8,u9,u10,u11,rfl,sJ',kq⟩:=hI
     have hc:c<othH sd n m+1:=hc
     rw[zdc3]
     have sIJ:=sJ.trans sJ'
     refine zbi7 (GO.same sIJ) (GT.same sIJ) hk hc (by rfl') (fun so J3 f3 s3 h3=>?_)
     have bn:=bnd_ne (fun k=>dueS sd (fs.getD k (.more 0 0)) (xss.getD k [])) T fs.length k c
     have out:∀ (r:Addr) (J4:Hp),¬ Kept sd fs xss T k c->Same J3 J4->J4 r=some (.tup [.str "number",.int k,.int c])->Q (.ref r) J4:=fun r J4 nk s4 h4=>q (.ref r) _ J4 (((s0I.trans sIJ).trans s3).trans s4) (.tup h4 (.cons (.str _) (.cons (.int _) (.cons (.int _) .nil)))) (vn ⟨hk,by rfl',kp,kq,nk⟩)
     have on:Kept sd fs xss T k c->∀ c',c'<c+1->Kept sd fs xss T k c':=fun kk c' hc'=>by
      rcases (show c'<c∨c'=c by rfl') with z|rfl
      ·exact kq c' z
      ·exact kk
     have tb3:=s3 _ _ (sIJ _ _ GT.out)
     have tk3:=s3 _ _ (sJ' _ _ htk)
     have attb:atI (qs.map V.ref) (k:Int)=some (.ref tk):=zc1 (by rw[zcw0,etk];rfl)
     have attk:atI (rowV (othH sd n m+1) (T k)) (c:Int)=some (.int (T k c)):=zc1 (ze5 hc)
     cases sd
     ·ac_nf
      refine zk2 rfl ?_
      refine zb0 (v:=.ref tk) tb3 attb ?_
      refine zb0 (v:=.int (T k c)) tk3 attk ?_
      refine zbt8 (SqL.of h3) bn (fun M hM hm=>?_)
      refine zc8 (fun h4=>?_) (fun h4=>?_)
      ·ac_nf
       refine br_T ?_
       refine zb6 (fun r J4 f4 s4 h4'=>?_)
       ac_nf
       exact out r J4 (fun kk=>by have:=of_decide_eq_true (show decide (T k c<=M)=true from kk M hM);omega) s4 h4'
      ·ac_nf
       first|refine zl7 (by decide) ?_|refine br_F ?_
       ac_nf
       first|refine zl7 (by decide) ?_|refine br_F ?_|skip
       first|(ac_nf)|skip
       rw[hV3]
       exact⟨_,_,_,_,rfl,sJ'.trans s3,on fun x hx=>by
        have:=hm x hx
        show decide (T k c<=x)=true
        exact decide_eq_true (by rfl')⟩
     ·ac_nf
      refine zl7 (by decide) ?_
      ac_nf
      first|refine br_F ?_|skip
      first|(ac_nf)|skip
      refine zk2 rfl ?_
      refine zb0 (v:=.ref tk) tb3 attb ?_
      refine zb0 (v:=.int (T k c)) tk3 attk ?_
      refine zbo1 (SqL.of h3) bn (fun M hM hm=>?_)
      refine zc8 (fun h4=>?_) (fun h4=>?_)
      ·ac_nf
       refine zb6 (fun r J4 f4 s4 h4'=>?_)
       ac_nf
       exact out r J4 (fun kk=>by have:=of_decide_eq_true (show decide (M<=T k c)=true from kk M hM);omega) s4 h4'
      ·ac_nf
       rw[hV3]
       exact⟨_,_,_,_,rfl,sJ'.trans s3,on fun x hx=>by
        have:=hm x hx
        show decide (x<=T k c)=true
        exact decide_eq_true (by rfl')⟩
    ·rintro σ J' hI
     rw[hV3] at hI
     obtain⟨u8,u9,u10,u11,rfl,sJ',kq⟩:=hI
     ac_nf
     rw[hV2]
     exact⟨_,_,_,_,_,rfl,sJ.trans sJ',fun k' c hk' hc=>by
      rcases (show k'<k∨k'=k by rfl') with z|rfl
      ·exact kp k' c z hc
      ·exact kq c (by rfl')⟩
   rintro σ J hI
   rw[hV2] at hI
   obtain⟨z7,z8,z9,z10,z11,rfl,sJ,kp⟩:=hI
   have va:=va kp
   have GJ:=GT.same sJ
   have SJ:=SI.same sJ
   obtain⟨t0,et0,ht0⟩:=GJ.some (i:=0) (by rfl')
   have s0J:=s0I.trans sJ
   have sl:=SJ.len
   obtain⟨r,er⟩:∃ r,rs[0]?=some r:=⟨_,zcv7 (by rfl')⟩
   obtain⟨xs,ex'⟩:∃ r,xss[0]?=some r:=⟨_,zcv7 (by rfl')⟩
   have ex0:xss.getD 0 []=xs:=by rw[zcw1,ex'];rfl
   rw[ex0] at va sbd
   have R:=SJ.row 0 r xs er ex'
   have rl:=R.len
   have xs18:=(okr xs (zcw3 ex')).2
   have t00:=tbd 0 (othH sd n m)
   refine zb0 (v:=.ref t0) GJ.out (zc1 (j:=0) (by rw[zcw0,et0];rfl)) ?_
   refine zb0 (v:=.int (T 0 (othH sd n m))) ht0 (zar1 (n:=othH sd n m) (zd3 _ _) (ze5 (by rfl'))) ?_
   refine zb1 (v:=.int w1) (s0J _ _ hw) rfl ?_
   refine zu2 (zn1 (by rfl') (by rfl') (by rfl') (by rfl')) ?_
   refine zb1 (v:=.int w0) (s0J _ _ hw) rfl ?_
   refine zb0 (v:=.ref r.1) SJ.out (zc1 (j:=0) (by rw[zcw0,er];rfl)) ?_
   refine zc4 R.out ?_
   refine zk0 (n:=(r.2.map V.ref).length) (Wk.list (SqL.of R.out)) (by rw[zcv8,zdf5];omega) (fun j=>.int (xs.getD j (0,0,0)).2.2) (fun _=>true) (fun j σ=>∃ t:Option V,σ=[t]) ⟨none,rfl⟩ ?_ ?_
   ·rintro j x σ J1 R' S' hj s1' hx ⟨_,rfl⟩ kk _
    rw[zcw0] at hx
    obtain⟨b',eb,rfl⟩:=zcw4.mp hx
    obtain⟨y,ey⟩:∃ y,xs[j]?=some y:=⟨_,zcv7 (by have:=(zcv9.mp eb).1;omega)⟩
    rw[show xs.getD j (0,0,0)=y by rw[zcw1,ey];rfl] at kk
    refine br_T ?_
    refine zb1 (v:=.int y.2.2) (s1' _ _ (R.row j b' y eb ey)) rfl ?_
    ac_nf
    exact kk rfl _ _ (Same.refl _) ⟨_,rfl⟩
   intro acc J5 f5 s5 h5
   rw[ze6,zah0 (by rw[zcv8,rl])] at h5
   refine zam7 h5 ?_
   refine zu2 (zn1 (by rfl') (by rfl') (by rfl') (by rfl')) ?_
   have s05:=s0J.trans s5
   generalize hS:(xs.map fun z=>z.2.2).sum=S0 at va
   generalize hP:w0*S0=P1 at va
   generalize hR:T 0 (othH sd n m)*w1=P2 at va
   cases sd
   ·ac_nf
    refine zk2 rfl ?_
    refine zc8 (fun h6=>?_) (fun h6=>?_)
    ·rw[show zk1 false P1 P2=false from decide_eq_false (show ¬ P1<=P2 by rfl'),if_neg zcw5] at va
     refine br_T ?_
     refine zb6 (fun r J6 f6 s6 h6'=>?_)
     ac_nf
     exact q (.ref r) _ J6 (s05.trans s6) (.tup h6' (.cons (.str _) .nil)) va
    ·rw[show zk1 false P1 P2=true from decide_eq_true (show P1<=P2 by rfl'),if_pos rfl] at va
     ac_nf
     first|refine zl7 (by decide) ?_|refine br_F ?_
     ac_nf
     first|refine zl7 (by decide) ?_|refine br_F ?_|skip
     first|(ac_nf)|skip
     exact q .non _ _ s05 .non va
   ·ac_nf
    refine zl7 (by decide) ?_
    ac_nf
    first|refine br_F ?_|skip
    first|(ac_nf)|skip
    refine zk2 rfl ?_
    refine zc8 (fun h6=>?_) (fun h6=>?_)
    ·rw[show zk1 true P1 P2=false from decide_eq_false (show ¬ P2<=P1 by rfl'),if_neg zcw5] at va
     refine zb6 (fun r J6 f6 s6 h6'=>?_)
     ac_nf
     exact q (.ref r) _ J6 (s05.trans s6) (.tup h6' (.cons (.str _) .nil)) va
    ·rw[show zk1 true P1 P2=true from decide_eq_true (show P2<=P1 by rfl'),if_pos rfl] at va
     ac_nf
     exact q .non _ _ s05 .non va
  rw[e0]
  refine zb9 (br_F ?_)
  refine br_T ?_
  refine zb6 (fun r H3 f3 s3 h3=>?_)
  ac_nf
  exact noT (by cases dy<;>first|rfl|exact zde7 (show true=false from e0)) r H3 (s02.trans s3) h3
 rw[e0]
 refine zb9 (br_F ?_)
 refine br_T ?_
 refine zb6 (fun r H1 f1 s1 h1=>?_)
 ac_nf
 exact q (.ref r) _ H1 s1 (.tup h1 (.cons (.str _) .nil)) (zaa6 (x:="paper") (zbj8 e0))
noncomputable def Gd(H:Hp)(n:Nat)(v:V):Prop:=∃ d,ShV H v d/\GB 18 n d
theorem Gd.same{H H':Hp}{n:Nat}{v:V}(h:Gd H n v)(s:Same H H'):Gd H' n v:=by obtain⟨d,h1,h2⟩:=h;exact⟨d,h1.same s,h2⟩
theorem Gd.up{H:Hp}{n n':Nat}{v:V}(h:Gd H n v)(l:n<=n'):Gd H n' v:=by obtain⟨d,h1,h2⟩:=h;exact⟨d,h1,h2.up (zcx3 _) l⟩
theorem Gd.int(H:Hp)(n:Nat){i:Int}(h1:-(10 ^ 82)<=i)(h2:i<=10 ^ 82):Gd H n (.int i):=⟨.int i,.int i,.int _ _ h1 h2⟩
theorem Gd.non(H:Hp)(n:Nat):Gd H n .non:=⟨.none,.non,.non _⟩
theorem Gd.bl(H:Hp)(n:Nat)(b:Bool):Gd H n (.bl b):=⟨.bool b,.bl b,.bool _ _⟩
theorem Gd.str(H:Hp)(n:Nat){x:Str}(h:PyData.strOk x=true):Gd H n (.str x):=⟨.str x,.str x,.str _ _ h⟩
theorem Gd.lst{H:Hp}{a:Addr}{xs:List V}{n:Nat}(e:H a=some (.lst xs))(l:xs.length<=18)(h:∀ x∈xs,Gd H n x):Gd H (n+1) (.ref a):=by
 obtain⟨ds,h1,h2⟩:=ShL.ex (P:=fun d=>GB 18 n d) fun x hx=>h x hx
 exact⟨.list ds,.lst e h1,.list _ _ (by rw[← h1.len];exact l) h2⟩
theorem Gd.tup{H:Hp}{a:Addr}{xs:List V}{n:Nat}(e:H a=some (.tup xs))(l:xs.length<=18)(h:∀ x∈xs,Gd H n x):Gd H (n+1) (.ref a):=by
 obtain⟨ds,h1,h2⟩:=ShL.ex (P:=fun d=>GB 18 n d) fun x hx=>h x hx
 exact⟨.tuple ds,.tup e h1,.tuple _ _ (by rw[← h1.len];exact l) h2⟩
theorem zs8(xs:List V)(lo hi:Option Int):(cutV xs lo hi).length<=xs.length:=by
 unfold cutV
 rw[zda3,zda4]
 omega
theorem Gd.set{q:Addr}{xs ys:List V}(e:H q=some (.lst xs))(c:Chg q H H')(e':H' q=some (.lst ys))(hl:ys.length<=18)(hy:∀ y∈ys,Gd H' 0 y){n:Nat}{d:PyData}(g:GB 18 n d):∀ {v:V},ShV H v d->Gd H' n v:=by
 have go:∀ {n:Nat}{a:Addr}{xs':List V}{ds:List PyData},ShL H xs' ds->(∀ d∈ds,∀ {v:V},ShV H v d->Gd H' n v)->∀ x∈xs',Gd H' n x:=fun l ih x hx=>by
  obtain⟨i,ei⟩:=zcx8 hx
  obtain⟨d,ed,hd⟩:=l.get i x ei
  exact ih d (zcw3 ed) hd
 induction g with
 | non n=>intro v h;cases h;exact Gd.non _ _
 | bool n b=>intro v h;cases h;exact Gd.bl _ _ _
 | int n i h1 h2=>intro v h;cases h;exact Gd.int _ _ h1 h2
 | str n x h1=>intro v h;cases h;exact Gd.str _ _ h1
 | list n ds h1 h2 ih=>
  intro v h
  cases h with
  | @lst a zs _ e1 l=>
   by_cases ea:a=q
   ·subst ea
    exact Gd.lst e' hl fun y hy'=>(hy y hy').up (zcy3 _)
   ·exact Gd.lst (c _ _ ea e1) (by rw[l.len];exact h1) (go (a:=a) l ih)
 | tuple n ds h1 h2 ih=>
  intro v h
  cases h with
  | @tup a zs _ e1 l=>
   have ea:a≠q:=fun z=>by rw[z,e] at e1;cases e1
   exact Gd.tup (c _ _ ea e1) (by rw[l.len];exact h1) (go (a:=a) l ih)
theorem GB.gd{n:Nat}{d:PyData}{v:V}(g:GB 18 n d)(h:ShV H v d):Gd H n v:=⟨d,h,g⟩
@[irreducible] noncomputable def zm2:Sp:=fun vs H Q _=>∃ (a:Addr) (b:Int) (h f:Nat),vs=[.ref a,.int h,.int f]/\zc0 H a b/\b<=50000/\h<=40/\(1<=f/\f<=8)/\∀ l ts ms H',H l=none->Chg a H H'->zc0 H' a (b+200)->l≠a->zl9 H' l ts ms->Off a ts->Off l ts->OkS ms h f->ms.length<=5->(∀ x∈ms,x.2<=10 ^ 40)->Q (.ref l) H'
theorem lot_rd{a:Addr}{b:Int}{h f:Nat}(hL:zc0 H a b)(hb:b<=50000)(h1:h<=40)(h2:1<=f)(h3:f<=8)(q:∀ l ts ms H',H l=none->Chg a H H'->zc0 H' a (b+200)->l≠a->zl9 H' l ts ms->Off a ts->Off l ts->OkS ms h f->ms.length<=5->(∀ x∈ms,x.2<=10 ^ 40)->Q (.ref l) H'):zm2 [.ref a,.int h,.int f] H Q E:=by
 unfold zm2;exact⟨a,b,h,f,rfl,hL,hb,h1,⟨h2,h3⟩,q⟩
theorem zbb5(F:Fun K "_law_lot" "_law_lot" zad0 f fd)(N:Nm mg)(zcq2:Def P w K mg base CX0 2 "_law_draw" ["_law_left_here","_law_base"] zc9)(zcu0:Def P w K mg base CX0 3 "_law_plan" ["_law_left_here","_law_hosts","_law_many"] zl0):FnOk P w K mg base CX0 4 f fd ["_law_left_here","_law_hosts","_law_many"] zm2:=by
 refine F.ok zy1 (fun vs H Q E h=>by unfold zm2 at h;obtain⟨_,_,_,_,rfl,_⟩:=h;rfl) fun _ _ _ s H vs Q E hr h=>?_
 unfold zm2 at h
 obtain⟨a,b,h,f,rfl,hL,hb,hh,⟨hf1,hf2⟩,q⟩:=h
 have hu:=hu40 hr
 refine⟨_,(za3 (psS (i:=3) zy1.nd (zg3 za1))
   (za3 (zp5 PassesOwn.never rfl (zl6 N.range_ (za0 (zb4 oAdd za2 (pD zcq2 hr zb3 (za0 (pq 0) (za0 za2 za1)))) za1)) (za5 (i:=4) zy1.nd rfl (by eq_refl)) (za4 (zz2 (zr5 (pq 3) (za0 (zf2 (za0 (pD zcu0 hr zb3 (za0 (pq 0) (za0 (pq 1) (za0 (pq 2) za1)))) (za0 (zb4 oAdd za2 (pD zcq2 hr zb3 (za0 (pq 0) (za0 (za7 (K:=K) rfl (zg3 (za0 za2 (za0 za2 (za0 (zb4 oPow za2 za2) za1)))) (pD zcq2 hr zb3 (za0 (pq 0) (za0 za2 za1)))) za1)))) za1))) za1)))))
   (za4 (za9 (pq 3))))),?_⟩
 refine zc3 (fun l H3 f3 s3 h3=>?_)
 have n1:l≠a:=hL.ne f3
 refine zc6 (hL.same s3) (by rfl') (by rfl') (by rfl') (fun dn H4 dn0 dn1 c4 L4=>?_)
 refine ze2 (by decide) (by decide) (by rfl') (by rfl') ?_
 obtain⟨n,en⟩:∃ n:Nat,(1+dn - 0).toNat=n:=⟨_,rfl⟩
 rw[en]
 have hn1:1<=n/\n<=5:=by rfl'
 refine zf5 (fun i σ I=>∃ (x:Option V) (ts:List (Addr×Addr)) (ms:List (List Int×Int)),σ=[some (.ref a),some (.int h),some (.int f),some (.ref l),x]/\Chg a H I/\zc0 I a (b+4+20*i)/\zl9 I l ts ms/\Off a ts/\Off l ts/\ms.length=i/\∀ x∈ms,((∀ n∈x.1,0<=n)/\x.1.length=f/\x.1.sum=h/\1<=x.2)/\x.2<=10 ^ 40) ?_ ?_ ?_
 ·refine⟨_,[],[],rfl,s3.toChg.trans c4,L4.up (by rfl'),⟨c4 _ _ n1 h3,rfl,fun i t x e=>by simp at e⟩,?_,?_,rfl,?_⟩
  ·intro t ht;cases ht
  ·intro t ht;cases ht
  ·intro x hx;cases hx
 ·rintro i σ I hi ⟨x0,ts,ms,rfl,cI,LI,M,O1,O2,ml,ok⟩
  have hi:i<8:=by rfl'
  refine zat4 M.out ?_
  refine zco1 LI (by rfl') hh hf1 hf2 (fun pa Ha ns fa ca La na ha k1 k2 k3=>?_)
  have Ma:=M.chg ca n1 O1
  have nal:pa≠l:=Ne.symm (za6 M.out fa)
  walk_at "st"
  refine zc3 (fun p5 H5 f5 s5 h5=>?_)
  refine zc6 (La.same s5) (by rfl') (by rfl') (by rfl') (fun d6 H6 d60 d61 c6 L6=>?_)
  have h56:=c6 _ _ (La.ne f5) h5
  refine zi3 h56 (by rfl') (by simp only[zcx5,zcz1];omega) ?_
  intro v hv
  obtain⟨wm,rfl,wm0,wm1⟩:∃ m:Int,v=.int m/\1<=m/\m<=10 ^ 40:=by
   simp only[zcw8,zcx9,or_false] at hv
   rcases hv with rfl|rfl|rfl<;>exact⟨_,rfl,by rfl',by rfl'⟩
  clear hv h56 h5
  refine zc6 L6 (by rfl') (by rfl') (by rfl') (fun d7 H7 d70 d71 c7 L7=>?_)
  have ca7:Chg a Ha H7:=(s5.toChg.trans c6).trans c7
  have M7:=Ma.chg ca7 n1 O1
  have ha7:=ca7 _ _ na ha
  have wt:1<=1+d7/\1+d7<=10 ^ 40:=by rfl'
  ac_nf
  generalize 1+d7=wt_ at wt ⊢
  refine zb6 (fun pb Hb fb sb hb=>?_)
  have nbl:pb≠l:=Ne.symm (za6 M7.out fb)
  have Mb:=M7.same sb
  refine zax3 Mb.out (by rw[zcv8,zdf5,Mb.len];omega) (fun Hc cc hc=>?_)
  ac_nf
  have Mc:=Mb.push cc O2 hc (x:=(ns,wt_)) (cc _ _ nbl hb) (cc _ _ nal (sb _ _ ha7))
  have c0b:Chg a H Hb:=((cI.trans ca).trans ca7).same sb
  exact⟨_,_,_,rfl,fun b o z e=>cc _ _ (za6 e f3) (c0b _ _ z e),((L7.same sb).chg cc (Ne.symm n1)).up (by rfl'),Mc,O1.push (L7.ne fb) na,O2.push nbl nal,by rw[zcw7,ml];rfl,zcf6 ok ⟨⟨k3,k1,k2,wt.1⟩,wt.2⟩⟩
 ·rintro σ I ⟨x0,ts,ms,rfl,cI,LI,M,O1,O2,ml,ok⟩
  ac_nf
  exact q l ts ms I f3 cI (LI.up (by rfl')) n1 M O1 O2 ⟨by rfl',hf1,fun x hx=>(ok x hx).1⟩ (by rfl') (fun x hx=>(ok x hx).2)
@[irreducible] noncomputable def zh7:Sp:=fun vs H Q _=>∃ (a m:Addr) (b:Int) (f:Nat) (ts:List (Addr×Addr)) (ms:List (List Int×Int)),vs=[.ref a,.ref m]/\zc0 H a b/\b<=90000/\zl9 H m ts ms/\m≠a/\Off a ts/\(1<=ms.length/\ms.length<=5)/\(1<=f/\f<=8)/\(∀ x∈ms,x.1.length=f/\(∀ n∈x.1,0<=n/\n<=40)/\1<=x.2/\x.2<=10 ^ 40)/\∀ v H',Chg a H H'->zc0 H' a (b+6)->Gd (rm a H') 3 v->Q v H'
theorem zbt4{a m:Addr}{b:Int}{f:Nat}(hL:zc0 H a b)(hb:b<=90000)(M:zl9 H m ts ms)(n:m≠a)(O:Off a ts)(h1:1<=ms.length/\ms.length<=5)(h2:1<=f/\f<=8)(h3:∀ x∈ms,x.1.length=f/\(∀ n∈x.1,0<=n/\n<=40)/\1<=x.2/\x.2<=10 ^ 40)(q:∀ v H',Chg a H H'->zc0 H' a (b+6)->Gd (rm a H') 3 v->Q v H'):zh7 [.ref a,.ref m] H Q E:=by
 unfold zh7;exact⟨a,m,b,f,ts,ms,rfl,hL,hb,M,n,O,h1,h2,h3,q⟩
theorem zbz1{B:Int}(hB:0<=B):∀ {xs:List Int},(∀ x∈xs,-B<=x/\x<=B)->-((xs.length:Int)*B)<=xs.sum/\xs.sum<=(xs.length:Int)*B
 | [],_=>⟨by simp,by simp⟩
 | x :: xs,h=>by
  have h1:=h x (.head _)
  have h2:=zbz1 hB (xs:=xs) fun y hy=>h y (.tail _ hy)
  rw[zdc0,zcx5]
  push_cast
  rw[Int.add_mul,Int.one_mul]
  constructor<;>omega
theorem zco9{B:Int}(hB:0<=B){xs:List Int}(h:∀ x∈xs,-B<=x/\x<=B)(i:Nat):-B<=xs.getD i 0/\xs.getD i 0<=B:=by
 rw[zcw1]
 cases e:xs[i]? with
 | none=>exact⟨by show -B<=0;omega,hB⟩
 | some x=>exact h x (zcw3 e)
theorem row_gb{f:Nat}(R:zy9 ms i xs)(hl:ms.length<=18)(hx:xs.length<=ms.length)(hf:f<=8)(ok:∀ x∈ms,x.1.length=f/\(∀ n∈x.1,-50<=n/\n<=50)/\-(10 ^ 40)<=x.2/\x.2<=10 ^ 40):GB 18 2 (zg8 xs):=by
 refine .list _ _ (by rw[zcv8];omega) fun d hd=>?_
 obtain⟨z,hz,rfl⟩:=zcx0.mp hd
 obtain⟨x,hx,e1,e2⟩:=zah2 R hz
 obtain⟨xl,xb,_⟩:=ok x hx
 have s1:=zbz1 (B:=50) (by decide) (xs:=x.1.drop i) fun y hy=>xb y (zdc2 hy)
 have s2:=zco9 (B:=50) (by decide) xb i
 have l1:((x.1.drop i).length:Int)<=8:=by rw[zda4];omega
 have v:=R.2.2 z hz
 rw[zw2] at v
 have km:keyT z∈(flw ms i).map (·.1):=(zh2 _).2 _ |>.mp ((R.2.1 _).mp (zcx0.mpr ⟨z,hz,rfl⟩))
 rw[if_pos km] at v
 have v:=Option.some.inj v
 have s3:=zbz1 (B:=10 ^ 40) (by decide) (xs:=((flw ms i).filter fun y=>decide (y.1=keyT z)).map (·.2)) fun y hy=>by
  obtain⟨u,hu,rfl⟩:=zcx0.mp hy
  have hu:=(zdd8.mp hu).1
  unfold flw at hu
  obtain⟨x',hx',rfl⟩:=zcx0.mp hu
  exact (ok x' hx').2.2
 have l3:((((flw ms i).filter fun y=>decide (y.1=keyT z)).map (·.2)).length:Int)<=18:=by
  have:=List.length_filter_le (fun y:(Int×Int)×Int=>decide (y.1=keyT z)) (flw ms i)
  unfold flw at this ⊢
  rw[zcv8] at this ⊢
  omega
 have e3:atG (flw ms i) (keyT z)=(((flw ms i).filter fun y=>decide (y.1=keyT z)).map (·.2)).sum:=rfl
 rw[← e3,v] at s3
 generalize ((((flw ms i).filter fun y=>decide (y.1=keyT z)).map (·.2)).length:Int)=L at s3 l3
 generalize ((x.1.drop i).length:Int)=L1 at s1 l1
 have p1:=zda8 l3 (show (0:Int)<=10 ^ 40 by decide)
 have p2:=zda8 l1 (show (0:Int)<=50 by decide)
 generalize L*10 ^ 40=L2 at s3 p1
 rw[← e1] at s1
 rw[← e2] at s2
 refine .tuple _ _ (by show 3<=18;decide) fun d hd=>?_
 simp only[zcw8,zcx9,or_false] at hd
 rcases hd with rfl|rfl|rfl
 ·exact .int _ _ (by rfl') (by rfl')
 ·exact .int _ _ (by rfl') (by rfl')
 ·exact .int _ _ (by rfl') (by rfl')
theorem stm_gb{f:Nat}(S:zbc7 ms f xss)(hl:ms.length<=18)(hf:f<=8)(ok:∀ x∈ms,x.1.length=f/\(∀ n∈x.1,-50<=n/\n<=50)/\-(10 ^ 40)<=x.2/\x.2<=10 ^ 40):GB 18 3 (stmD xss):=by
 refine .list _ _ (by rw[zcv8,S.1];omega) fun d hd=>?_
 obtain⟨xs,hx,rfl⟩:=zcx0.mp hd
 obtain⟨i,ei⟩:=zcx8 hx
 obtain⟨R,l⟩:=S.2 i xs ei
 exact row_gb R hl l hf ok
theorem zl9.snoc{m m' p t:Addr}{ns:List Int}{w:Int}(M:zl9 H m ts ms)(h:H m'=some (.lst ((ts.map fun t=>V.ref t.1)++[.ref t])))(ht:H t=some (.tup [.ref p,.int w]))(hp:H p=some (.lst (ns.map V.int))):zl9 H m' (ts++[(t,p)]) (ms++[(ns,w)]):=by
 have l:=M.len
 refine⟨by rw[h,zcy6];rfl,by rw[zcw7,zcw7,l];rfl,fun i t' x h1 h2=>?_⟩
 rcases zf8 h1 with ⟨c,e⟩|⟨c,e⟩
 ·rcases zf8 h2 with ⟨c2,e2⟩|⟨c2,e2⟩
  ·exact M.part i t' x e e2
  ·omega
 ·rcases zf8 h2 with ⟨c2,e2⟩|⟨c2,e2⟩
  ·omega
  ·rw[e,e2];exact⟨ht,hp⟩
theorem zal8(F:Fun K "_law_beside" "_law_beside" zs6 f fd)(N:Nm mg)(zcq2:Def P w K mg base CX0 2 "_law_draw" ["_law_left_here","_law_base"] zc9)(zcr3:Def P w K mg base CX0 1 "_law_flows" ["_law_mix_here"] zh0):FnOk P w K mg base CX0 3 f fd ["_law_left_here","_law_mix_here"] zh7:=by
 refine F.ok zn0 (fun vs H Q E h=>by unfold zh7 at h;obtain⟨_,_,_,_,_,_,rfl,_⟩:=h;rfl) fun _ _ _ s H vs Q E hr h=>?_
 unfold zh7 at h
 obtain⟨a,m,b,f,ts,ms,rfl,hL,hb,M,nm,O,⟨l1,l2⟩,⟨f1,f2⟩,xl',q⟩:=h
 have xl:∀ x∈ms,x.1.length=f:=fun x hx=>(xl' x hx).1
 have hu:=hu40 hr
 refine⟨_,(za3 (psS (i:=2) zn0.nd (pT (zch4 (K:=K) rfl) N.list_ zp7 (za0 (za7 (K:=K) rfl (za7 (K:=K) rfl (pq 1) (pD zcq2 hr zb3 (za0 (pq 0) (za0 (pB (zf7 (K:=K) rfl) N.len_ zd2 (za0 (pq 1) za1)) za1)))) za2) za1)))
   (za3 (zp5 PassesOwn.never rfl (ze4 (K:=K) rfl (zg3 (za0 za2 (za0 (zv6 uNeg za2) za1)))) (za5 (i:=3) zn0.nd rfl (by eq_refl)) (za3 (psS (i:=4) zn0.nd (pD zcq2 hr zb3 (za0 (pq 0) (za0 (pB (zf7 (K:=K) rfl) N.len_ zd2 (za0 (pq 2) za1)) za1))))
   (za4 (zu9 (zb4 oAdd (za7 (K:=K) rfl (pq 2) (pq 4)) (pq 3)) (zam1 (pq 2) (pq 4) setM)))))
   (za4 (za9 (pD zcr3 hr zb3 (za0 (zb4 oAdd (pq 1) (zg3 (za0 (zf2 (za0 (pq 2) (za0 (za7 (K:=K) rfl (zg3 (za0 za2 (za0 za2 (za0 (zv6 uNeg za2) (za0 (zv6 uNeg za2) za1))))) (pD zcq2 hr zb3 (za0 (pq 0) (za0 za2 za1)))) za1))) za1))) za1)))))),?_⟩
 refine zc5 M.out ?_
 rw[zcv8,M.len]
 refine zc6 hL (by rfl') (by rfl') (by rfl') (fun at_ H1 a0 a1 c1 L1=>?_)
 obtain⟨i,rfl⟩:∃ i:Nat,at_=i:=⟨at_.toNat,by rfl'⟩
 have M1:=M.chg c1 nm O
 obtain⟨x,ex⟩:∃ x,ms[i]?=some x:=⟨_,zcv7 (by rfl')⟩
 obtain⟨t,et,at0,ht,hp⟩:=M1.ix ex
 have xf:=xl x (zcw3 ex)
 refine zb0 (v:=.ref t.1) M1.out at0 ?_
 refine zb1 (v:=.ref t.2) ht rfl ?_
 refine zbh2 (SqL.of hp) (fun p H2 g2 s2 h2=>?_)
 have np:p≠a:=L1.ne g2
 refine zc3 (fun st H3 g3 s3 h3=>?_)
 have nst:st≠a:=(L1.same s2).ne g3
 have nsp:st≠p:=Ne.symm (za6 h2 g3)
 have s13:=s2.trans s3
 refine zc4 h3 ?_
 refine zn7 (xs:=[V.int 1,V.int (-1)]) (fun j σ J=>∃ (y4 y5:Option V) (ns:List Int),σ=[some (.ref a),some (.ref m),some (.ref p),y4,y5]/\Chg a H1 J/\zc0 J a (b+1+j)/\J st=some (.lst [V.int 1,V.int (-1)])/\J p=some (.lst (ns.map V.int))/\ns.length=f/\∀ n∈ns,-(40+(j:Int))<=n/\n<=40+j) ?_ ?_ ?_ ?_
 ·exact⟨_,_,x.1,rfl,s13.toChg,(L1.same s13).up (by rfl'),h3,s3 _ _ h2,xf,fun n hn=>by have:=(xl' x (zcw3 ex)).2.1 n hn;omega⟩
 ·rintro j σ J _ ⟨_,_,_,_,_,_,h,_⟩
  exact SqL.of h
 ·rintro j v σ J hj ⟨y4,y5,ns,rfl,cJ,LJ,hst,hpJ,nl,nb⟩
  obtain⟨w,rfl,w0,w1⟩:∃ w:Int,v=.int w/\-1<=w/\w<=1:=by
   have:=zcw3 hj
   simp only[zcw8,zcx9,or_false] at this
   rcases this with rfl|rfl
   ·exact⟨_,rfl,by decide,by decide⟩
   ·exact⟨_,rfl,by decide,by decide⟩
  have jl:j<2:=(zcv9.mp hj).1
  refine zc5 hpJ ?_
  rw[zcv8,nl]
  refine zc6 LJ (by rfl') (by rfl') (by rfl') (fun kd J1 k0 k1 c2 L2=>?_)
  obtain⟨k,rfl⟩:∃ i:Nat,kd=i:=⟨kd.toNat,by rfl'⟩
  have hp1:=c2 _ _ np hpJ
  obtain⟨y,ey⟩:∃ y,ns[k]?=some y:=⟨_,zcv7 (by rfl')⟩
  refine zb0 (v:=.int y) hp1 (zc1 (by rw[zcw0,ey];rfl)) ?_
  refine zan3 hp1 (zbq0 (by rfl') (by rw[zcv8];omega)) (fun J2 c3 h3'=>?_)
  have cJ1:Chg a H1 J1:=cJ.trans c2
  ac_nf
  refine⟨_,_,ns.set k (y+w),rfl,fun b o g e=>c3 _ _ (za6 e g2) (cJ1 _ _ g e),(L2.chg c3 (Ne.symm np)).up (by rfl'),c3 _ _ nsp (c2 _ _ nst hst),by rw[h3',List.map_set];rfl,by rw[List.length_set];exact nl,fun n hn=>?_⟩
  have yb:=nb y (zcw3 ey)
  rcases List.mem_or_eq_of_mem_set hn with hn|rfl
  ·have:=nb n hn;omega
  ·omega
 ·rintro σ J ⟨y4,y5,ns,rfl,cJ,LJ,hst,hpJ,nl,nb⟩
  have MJ:=M1.chg cJ nm O
  refine zc3 (fun l1' J1 g1 s1 k1=>?_)
  refine zc6 (LJ.same s1) (by simp only[zcx5,zcz1];omega) (by rfl') (by rfl') (fun d J2 d0 d1 c2 L2=>?_)
  have n1:=LJ.ne g1
  refine zi3 (c2 _ _ n1 k1) (by rfl') (by simp only[zcx5,zcz1];omega) (fun v hv=>?_)
  obtain⟨w,rfl,w0,w1⟩:∃ w:Int,v=.int w/\-2<=w/\w<=1:=by
   simp only[zcw8,zcx9,or_false] at hv
   rcases hv with rfl|rfl|rfl|rfl<;>exact⟨_,rfl,by decide,by decide⟩
  have M2:=(MJ.same s1).chg c2 nm O
  have hp2:=c2 _ _ np (s1 _ _ hpJ)
  refine zb6 (fun tu J3 g3' s3' k3=>?_)
  refine zc3 (fun li J4 g4 s4 k4=>?_)
  have s34:=s3'.trans s4
  refine zx5 (M2.same s34).out k4 (by rw[zcv8,M2.len,zdf5,zcy4];omega) (fun mm J5 g5 s5 k5=>?_)
  have M5:=((M2.same s34).same s5).snoc k5 ((s4.trans s5) _ _ k3) ((s34.trans s5) _ _ hp2)
  have s25:=s34.trans s5
  have L5:=L2.same s25
  obtain⟨oa,ea⟩:=L5.some
  refine zbf9 (f:=f) M5 (by rw[zcw7];omega) (by rw[zcw7,zcy4];omega) (by rfl') (fun x hx=>?_) (fun r rs xss J6 s6 S6 SI=>?_)
  ·rcases zcy1.mp hx with hx|hx
   ·exact xl x hx
   ·rw[zcz6.mp hx];exact nl
  have W:=(S6.same (nw_rm ea)).toW
  have c26:Chg a H J6:=((((c1.trans cJ).same s1).trans c2).same s25).same s6
  ac_nf
  refine q _ J6 c26 ((L5.same s6).up (by simp only[zcx5,zcz1];omega)) (GB.gd (stm_gb SI (by rw[zcw7,zcy4];omega) f2 fun x hx=>?_) W.sh)
  rcases zcy1.mp hx with hx|hx
  ·obtain⟨u1,u2,u3,u4⟩:=xl' x hx
   exact⟨u1,fun n hn=>by have:=u2 n hn;omega,by rfl',u4⟩
  ·rw[zcz6.mp hx]
   exact⟨nl,fun n hn=>by have:=nb n hn;simp only[zcx5,zcz1] at this;omega,by rfl',by rfl'⟩
@[irreducible] noncomputable def ze3:Sp:=fun vs H Q _=>∃ (a tb:Addr) (b:Int) (qs:List Addr) (F W:Nat) (T:Nat->Nat->Int),vs=[.ref a,.ref tb]/\zc0 H a b/\b<=90000/\zf0 H tb qs F W T/\(1<=F/\F<=17)/\(1<=W/\W<=17)/\(∀ k c,k<F->c<W->-(10 ^ 80)<=T k c/\T k c<=10 ^ 80)/\∀ v H',Chg a H H'->zc0 H' a (b+8)->Gd (rm a H') 2 v->Q v H'
theorem zao5{a tb:Addr}{b:Int}(hL:zc0 H a b)(hb:b<=90000)(G:zf0 H tb qs F W T)(h1:1<=F/\F<=17)(h2:1<=W/\W<=17)(h3:∀ k c,k<F->c<W->-(10 ^ 80)<=T k c/\T k c<=10 ^ 80)(q:∀ v H',Chg a H H'->zc0 H' a (b+8)->Gd (rm a H') 2 v->Q v H'):ze3 [.ref a,.ref tb] H Q E:=by
 unfold ze3;exact⟨a,tb,b,qs,F,W,T,rfl,hL,hb,G,h1,h2,h3,q⟩
theorem zab8(F:Fun K "_law_bent_table" "_law_bent_table" zm8 f fd)(N:Nm mg)(zcq2:Def P w K mg base CX0 2 "_law_draw" ["_law_left_here","_law_base"] zc9):FnOk P w K mg base CX0 3 f fd ["_law_left_here","_law_table_here"] ze3:=by
 refine F.ok zf6 (fun vs H Q E h=>by unfold ze3 at h;obtain⟨_,_,_,_,_,_,_,rfl,_⟩:=h;rfl) fun _ _ _ s H vs Q E hr h=>?_
 unfold ze3 at h
 obtain⟨a,tb,b,qs,F,W,T,rfl,hL,hb,G,⟨f1,f2⟩,⟨w1,w2⟩,bd,q⟩:=h
 have hu:=hu40 hr
 have gl:=G.len
 refine⟨_,(za3 (psC (i:=1) (N:=["_law_row"]) (ks:=[none]) zf6.nd (ze4 (K:=K) rfl (pq 1)) (fun _ _ _ _ _=>(za5 (i:=0) nb_28 rfl (by eq_refl))) (fun _ _ _ _ _=>zc7) (fun _ _ _ _ _=>(pT (zch4 (K:=K) rfl) N.list_ zp7 (za0 (pq 0) za1))) (.skip .nil))
   (za3 (zp5 PassesOwn.never rfl (zl6 N.range_ (za0 (zb4 oAdd za2 (pD zcq2 hr zb3 (za0 (pq 0) (za0 za2 za1)))) za1)) (za5 (i:=2) zf6.nd rfl (by eq_refl)) (za3 (psS (i:=3) zf6.nd (pD zcq2 hr zb3 (za0 (pq 0) (za0 (pB (zf7 (K:=K) rfl) N.len_ zd2 (za0 (pq 1) za1)) za1))))
   (za3 (psS (i:=4) zf6.nd (pD zcq2 hr zb3 (za0 (pq 0) (za0 (pB (zf7 (K:=K) rfl) N.len_ zd2 (za0 (za7 (K:=K) rfl (pq 1) (pq 3)) za1)) za1))))
   (za4 (zu9 (zb4 oAdd (za7 (K:=K) rfl (za7 (K:=K) rfl (pq 1) (pq 3)) (pq 4)) (za7 (K:=K) rfl (zg3 (za0 za2 (za0 (zv6 uNeg za2) (za0 (zb4 oPow za2 za2) (za0 (zb4 oSub za2 (zb4 oPow za2 za2)) za1))))) (pD zcq2 hr zb3 (za0 (pq 0) (za0 za2 za1))))) (zam1 (za7 (K:=K) rfl (pq 1) (pq 3)) (pq 4) setM))))))
   (za4 (za9 (pq 1))))),?_⟩
 refine zc4 G.out ?_
 refine zaf2 (n:=(qs.map V.ref).length) (Wk.list (SqL.of G.out)) (by rw[zcv8,zdf5];omega) (fun i=>.lst (rowV W (T i))) (fun j σ=>∃ t:Option V,σ=[t]) ⟨none,rfl⟩ ?_ ?_
 ·rintro i x σ I R' S' hi sI hx ⟨_,rfl⟩ kk
  rw[zcw0] at hx
  obtain⟨y,ey,rfl⟩:=zcw4.mp hx
  refine br_T ?_
  refine zbh2 (SqL.of (sI _ _ (G.row i y ey))) (fun p2 I2 g2 s2 h2=>?_)
  ac_nf
  exact kk _ p2 I2 g2 s2 h2 ⟨_,rfl⟩
 intro t ts H2 FL
 rw[zcv8,gl] at FL
 have tl:=FL.len
 have L2:=hL.same FL.same
 have nta:t≠a:=hL.ne FL.facc
 have npa:∀ p∈ts,p≠a:=fun p hp=>hL.ne (FL.free hp)
 refine zc6 L2 (by rfl') (by rfl') (by rfl') (fun dn H3 dn0 dn1 c3 L3=>?_)
 refine ze2 (by decide) (by decide) (by rfl') (by rfl') ?_
 obtain⟨n,en⟩:∃ n:Nat,(1+dn - 0).toNat=n:=⟨_,rfl⟩
 rw[en]
 have hn:n<=2:=by rfl'
 refine zf5 (fun j σ J=>∃ (y2 y3 y4:Option V),σ=[some (.ref a),some (.ref t),y2,y3,y4]/\Chg a H J/\zc0 J a (b+1+3*j)/\J t=some (.lst (ts.map V.ref))/\∀ p∈ts,∃ ns:List Int,J p=some (.lst (ns.map V.int))/\ns.length=W/\∀ x∈ns,-(10 ^ 80+j*10 ^ 25)<=x/\x<=10 ^ 80+j*10 ^ 25) ?_ ?_ ?_
 ·refine⟨_,_,_,rfl,FL.same.toChg.trans c3,L3.up (by rfl'),c3 _ _ nta FL.out,fun p hp=>?_⟩
  obtain⟨i,ei⟩:=zcx8 hp
  have hi:i<F:=by rw[← tl];exact (zcv9.mp ei).1
  refine⟨(List.range W).map (T i),?_,by rw[zcv8,zcx6],fun x hx=>?_⟩
  ·rw[c3 _ _ (npa p hp) (FL.row i p ei).2]
   unfold rowV
   rw[zcz3]
   rfl
  ·obtain⟨c,hc,rfl⟩:=zcx0.mp hx
   have:=bd i c hi (zcy0.mp hc)
   omega
 ·rintro j σ J hj ⟨y2,y3,y4,rfl,cJ,LJ,hJ,rows⟩
  have hj:j<2:=by rfl'
  refine zc5 hJ ?_
  rw[zcv8,tl]
  refine zc6 LJ (by rfl') (by rfl') (by rfl') (fun kd J1 k0 k1 c1 L1=>?_)
  obtain⟨k,rfl⟩:∃ i:Nat,kd=i:=⟨kd.toNat,by rfl'⟩
  obtain⟨p,ep⟩:∃ p,ts[k]?=some p:=⟨_,zcv7 (by rfl')⟩
  have hp:=zcw3 ep
  obtain⟨ns,hns,nl,nb⟩:=rows p hp
  have atk:atI (ts.map V.ref) (k:Int)=some (.ref p):=zc1 (by rw[zcw0,ep];rfl)
  have hJ1:=c1 _ _ nta hJ
  have hns1:=c1 _ _ (npa p hp) hns
  refine zb0 (v:=.ref p) hJ1 atk ?_
  refine zc5 hns1 ?_
  rw[zcv8,nl]
  refine zc6 L1 (by rfl') (by rfl') (by rfl') (fun cd J2 c0 c1' c2 L2'=>?_)
  obtain⟨c,rfl⟩:∃ i:Nat,cd=i:=⟨cd.toNat,by rfl'⟩
  obtain⟨y,ey⟩:∃ y,ns[c]?=some y:=⟨_,zcv7 (by rfl')⟩
  have hJ2:=c2 _ _ nta hJ1
  have hns2:=c2 _ _ (npa p hp) hns1
  refine zb0 (v:=.ref p) hJ2 atk ?_
  refine zb0 (v:=.int y) hns2 (zc1 (by rw[zcw0,ey];rfl)) ?_
  walk_at "st"
  walk_at "st"
  refine zc3 (fun l1 J3 g3 s3 k3=>?_)
  refine zc6 (L2'.same s3) (by rfl') (by rfl') (by rfl') (fun d J4 d0 d1 c4 L4=>?_)
  refine zi3 (c4 _ _ (L2'.ne g3) k3) (by rfl') (by simp only[zcx5,zcz1];omega) (fun v hv=>?_)
  obtain⟨w,rfl,w0,w1'⟩:∃ w:Int,v=.int w/\-(10 ^ 25)<=w/\w<=10 ^ 25:=by
   simp only[zcw8,zcx9,or_false] at hv
   rcases hv with rfl|rfl|rfl|rfl<;>exact⟨_,rfl,by decide,by decide⟩
  have hJ4:=c4 _ _ nta (s3 _ _ hJ2)
  have hns4:=c4 _ _ (npa p hp) (s3 _ _ hns2)
  refine zb0 (v:=.ref p) hJ4 atk ?_
  refine zan3 hns4 (zbq0 (by rfl') (by rw[zcv8];omega)) (fun J5 c5 h5=>?_)
  have npt:t≠p:=fun e=>FL.nin (e▸hp)
  have c24:Chg a J J4:=((c1.trans c2).same s3).trans c4
  have c04:Chg a H J4:=cJ.trans c24
  ac_nf
  refine⟨_,_,_,rfl,fun b o g e=>c5 _ _ (za6 e (FL.free hp)) (c04 _ _ g e),(L4.chg c5 (Ne.symm (npa p hp))).up (by rfl'),c5 _ _ npt hJ4,fun p' hp'=>?_⟩
  by_cases e:p'=p
  ·subst e
   refine⟨ns.set c (y+w),by rw[h5,List.map_set];rfl,by rw[List.length_set];exact nl,fun x hx=>?_⟩
   have yb:=nb y (zcw3 ey)
   rcases List.mem_or_eq_of_mem_set hx with hx|rfl
   ·have:=nb x hx;omega
   ·omega
  ·obtain⟨ms,hms,ml,mb⟩:=rows p' hp'
   exact⟨ms,c5 _ _ e (c24 _ _ (npa p' hp') hms),ml,fun x hx=>by have:=mb x hx;omega⟩
 ·rintro σ J ⟨y2,y3,y4,rfl,cJ,LJ,hJ,rows⟩
  ac_nf
  refine q _ J cJ (LJ.up (by rfl')) (Gd.lst (zi2 nta hJ) (by rw[zcv8];omega) fun x hx=>?_)
  obtain⟨p,hp,rfl⟩:=zcx0.mp hx
  obtain⟨ns,hns,nl,nb⟩:=rows p hp
  refine Gd.lst (zi2 (npa p hp) hns) (by rw[zcv8];omega) fun x hx=>?_
  obtain⟨i,hi,rfl⟩:=zcx0.mp hx
  have:=nb i hi
  exact Gd.int _ _ (by rfl') (by rfl')
theorem zaj1{α:Type}(c:Int):∀ xs:List α,(xs.map fun _=>c).sum=(xs.length:Int)*c
 | []=>by simp
 | x :: xs=>by
  rw[zcz4,zdc0,zaj1 c xs,zcx5]
  push_cast
  rw[Int.add_mul,Int.one_mul,Int.add_comm]
theorem zaq0{f:Nat}(O:OkS ms h f)(hl:ms.length<=5)(hw:∀ x∈ms,x.2<=10 ^ 40):1<=zo3 ms/\zo3 ms<=5*10 ^ 40:=by
 have ne:=O.ne
 have h1:=zax5 (f:=fun _:List Int×Int=>(1:Int)) (g:=fun x=>x.2) (xs:=ms) fun x hx=>(O.all x hx).2.2.2
 have h2:=zax5 (f:=fun x:List Int×Int=>x.2) (g:=fun _=>(10:Int) ^ 40) (xs:=ms) hw
 rw[zaj1] at h1 h2
 unfold zo3
 exact⟨by rfl',by rfl'⟩
theorem zab6{f:Nat}(O:OkS ms h f)(hi:i<f)(R:zy9 ms i xs):(xs.map fun z=>z.2.2).sum=zo3 ms:=by
 have e1:(xs.map fun z=>z.2.2)=(xs.map keyT).map fun k=>atG (flw ms i) k*(fun _=>(1:Int)) k:=by
  rw[zcz3]
  exact zcy9 fun z hz=>by
   show z.2.2=atG (flw ms i) (keyT z)*1
   rw[← (zs5 O hi R hz).2.2.1,Int.mul_one]
 rw[e1,zap5 R.1.1 (fun _=>(1:Int)) fun z hz=>(R.2.1 _).mpr ((zh2 _).2 _ |>.mpr (zcx0.mpr ⟨z,hz,rfl⟩))]
 unfold flw zo3
 rw[zcz3]
 exact congrArg List.sum (zcy9 fun x _=>Int.mul_one _)
theorem zcb0{h:Nat}{f:Nat}(O:OkS ms h f)(hl:ms.length<=5)(hw:∀ x∈ms,x.2<=10 ^ 40)(hi:i<f)(R:zy9 ms i xs)(hx:xs.length<=ms.length):zx3 h xs:=by
 refine⟨by rfl',fun z hz=>?_⟩
 obtain⟨x,hx,e1,e2⟩:=zah2 R hz
 obtain⟨nn,xl,xs',_⟩:=O.all x hx
 obtain⟨a,b,c,d⟩:=zs5 O hi R hz
 have m1:=(zk3 nn).1 (x.1.getD i 0) (by
  rw[zcw1,zcv7 (by rfl')]
  exact zdb0 _)
 have m2:z.2.2<=zo3 ms:=by
  rw[← zab6 O hi R]
  exact (zk3 (ns:=xs.map fun z=>z.2.2) (fun y hy=>by
   obtain⟨z',hz',rfl⟩:=zcx0.mp hy
   have:=(zs5 O hi R hz').2.2.2
   omega)).1 _ (zcx0.mpr ⟨z,hz,rfl⟩)
 have:=zaq0 O hl hw
 exact⟨⟨a,by rfl'⟩,by rfl',by rfl'⟩
theorem zcb7{h:Nat}{f:Nat}(O:OkS ms h f)(hl:ms.length<=5)(hw:∀ x∈ms,x.2<=10 ^ 40)(S:zbc7 ms f xss):∀ xs∈xss,zx3 h xs/\xs.length<64:=fun xs hx=>by
 obtain⟨i,ei⟩:=zcx8 hx
 have:=(zcv9.mp ei).1
 have sl:=S.1
 obtain⟨R,l⟩:=S.2 i xs ei
 exact⟨zcb0 O hl hw (by rfl') R l,by rfl'⟩
theorem due_bd{n:Nat}{f:Nat}{fd:Fd}(O:OkS ms (ownH sd n m:Nat) f)(hl:ms.length<=5)(hw:∀ x∈ms,x.2<=10 ^ 40)(ok:fd.Ok)(bd:fd.Bd n m)(hi:i<f)(R:zy9 ms i xs)(hc:c<=othH sd n m):-(10 ^ 70)<=dueS sd fd xs c/\dueS sd fd xs c<=10 ^ 70:=by
 rw[due_eq O hi R]
 have each:∀ x∈ms,-(2*10 ^ 68)<=x.2*wonS sd fd (x.1.getD i 0).toNat c/\x.2*wonS sd fd (x.1.getD i 0).toNat c<=2*10 ^ 68:=fun x hx=>by
  obtain⟨nn,xl,xs',x1⟩:=O.all x hx
  have x2:=hw x hx
  have m1:=(zk3 nn).1 (x.1.getD i 0) (by
   rw[zcw1,zcv7 (by rfl')]
   exact zdb0 _)
  have wb:-(2*10 ^ 28)<=wonS sd fd (x.1.getD i 0).toNat c/\wonS sd fd (x.1.getD i 0).toNat c<=2*10 ^ 28:=by
   cases sd
   ·have xs':x.1.sum=(n:Int):=xs'
    have hc:c<=m:=hc
    exact Fd.won_bd ok bd (by rfl') hc
   ·have xs':x.1.sum=(m:Int):=xs'
    have hc:c<=n:=hc
    exact Fd.won_bd ok bd hc (by rfl')
  generalize wonS sd fd (x.1.getD i 0).toNat c=y at wb ⊢
  have p1:=zde2 wb.2 (show 0<=x.2 by rfl')
  have p2:=zde2 wb.1 (show 0<=x.2 by rfl')
  generalize x.2*y=z at p1 p2 ⊢
  exact⟨by rfl',by rfl'⟩
 have h1:=zax5 (f:=fun _:List Int×Int=>-(2*(10:Int) ^ 68)) (xs:=ms) fun x hx=>(each x hx).1
 have h2:=zax5 (g:=fun _:List Int×Int=>2*(10:Int) ^ 68) (xs:=ms) fun x hx=>(each x hx).2
 rw[zaj1] at h1 h2
 exact⟨by rfl',by rfl'⟩
theorem zch6{sd:Bool}{C:Nat}{B:Int}(hB:0<=B):∀ {ds:List (Nat->Int)},(∀ d∈ds,∀ c,c<=C->-B<=d c/\d c<=B)->∀ r,r<=C->-((ds.length:Int)*B)<=tabR sd ds r/\tabR sd ds r<=(ds.length:Int)*B
 | [],_,r,_=>by
  show -(((0:Nat):Int)*B)<=0/\0<=((0:Nat):Int)*B
  simp
 | [d],h,r,hr=>by
  have:=h d (.head _) r hr
  show -(((1:Nat):Int)*B)<=d r/\d r<=((1:Nat):Int)*B
  simpa using this
 | d :: e :: ds,h,r,hr=>by
  have ih:=zch6 (sd:=sd) hB (ds:=e :: ds) (fun x hx=>h x (.tail _ hx))
  obtain⟨s,hs,es⟩:=zcx0.mp (zas2 sd (xs:=(List.range (r+1)).map fun s=>d s+tabR sd (e :: ds) (r - s)) (by simp))
  have hs:=zcy0.mp hs
  show -(((d :: e :: ds).length:Int)*B)<=optL sd ((List.range (r+1)).map fun s=>d s+tabR sd (e :: ds) (r - s))/\optL sd ((List.range (r+1)).map fun s=>d s+tabR sd (e :: ds) (r - s))<=((d :: e :: ds).length:Int)*B
  rw[← es]
  have a1:=h d (.head _) s (by rfl')
  have a2:=ih (r - s) (by rfl')
  have e3:((d :: e :: ds).length:Int)*B=((e :: ds).length:Int)*B+B:=by
   rw[zcx5]
   push_cast
   rw[Int.add_mul,Int.one_mul]
  rw[e3]
  exact⟨by rfl',by rfl'⟩
theorem zbt1(t b:Int):lowT t b*b=t*lowB t b:=by
 have e1:=zcc0 t b
 have e2:=zbf8 t b
 have e3:lowT t b*(lg t b*lowB t b)=(lg t b*lowT t b)*lowB t b:=by
  rw[← Int.mul_assoc,Int.mul_comm (lowT t b)]
 rw[← e1,← e2] at e3
 exact e3
theorem zcf0(xs:List V):cutV xs (some (-1)) none=xs.drop (xs.length - 1):=by
 show List.take (xs.length - (if (-1:Int)<0 then ((-1:Int)+xs.length).toNat else min (-1:Int).toNat xs.length)) (List.drop (if (-1:Int)<0 then ((-1:Int)+xs.length).toNat else min (-1:Int).toNat xs.length) xs)=_
 rw[if_pos (by decide),show ((-1:Int)+xs.length).toNat=xs.length - 1 by rfl']
 exact zdb5 (by rw[zda4];omega)
theorem zax8(xs:List V):(cutV xs (some (-1)) none).length<=1:=by rw[zcf0,zda4];omega
structure PB(xss:List (List (Int×Int×Int)))(F W:Nat)(T:Nat->Nat->Int):Prop where
 xl:xss.length=F
 f1:1<=F/\F<=5
 w1:1<=W/\W<=11
 rows:∀ xs∈xss,(1<=xs.length/\xs.length<=5)/\∀ z∈xs,(0<=z.1/\z.1<=10 ^ 50)/\(0<=z.2.1/\z.2.1<=10 ^ 50)/\0<=z.2.2/\z.2.2<=10 ^ 50
 tb:∀ k c,k<F->c<W->-(10 ^ 80)<=T k c/\T k c<=10 ^ 80
theorem Gd.tri{R:Hp}{p:Addr}{x y z:Int}(h:R p=some (.tup [.int x,.int y,.int z]))(h1:0<=x/\x<=10 ^ 60)(h2:0<=y/\y<=10 ^ 60)(h3:0<=z/\z<=10 ^ 60):Gd R 1 (.ref p):=Gd.tup h (by show 3<=18;decide) fun v hv=>by
 simp only[zcw8,zcx9,or_false] at hv
 rcases hv with rfl|rfl|rfl
 ·exact Gd.int _ _ (by rfl') (by rfl')
 ·exact Gd.int _ _ (by rfl') (by rfl')
 ·exact Gd.int _ _ (by rfl') (by rfl')
theorem Gd.two{R:Hp}{p:Addr}{u v:V}{n:Nat}(h:R p=some (.tup [u,v]))(h1:Gd R n u)(h2:Gd R n v):Gd R (n+1) (.ref p):=Gd.tup h (by show 2<=18;decide) fun x hx=>by
 simp only[zcw8,zcx9,or_false] at hx
 rcases hx with rfl|rfl
 ·exact h1
 ·exact h2
section
variable {R:Hp}{xss:List (List (Int×Int×Int))}{F W:Nat}{T:Nat->Nat->Int}(BD:PB xss F W T)
include BD
theorem PB.rowint{k:Nat}(hk:k<F):∀ v∈rowV W (T k),Gd R 0 v:=fun v hv=>by
 unfold rowV at hv
 obtain⟨c,hc,rfl⟩:=zcx0.mp hv
 have:=BD.tb k c hk (zcy0.mp hc)
 exact Gd.int _ _ (by rfl') (by rfl')
theorem PB.tabrow{tb:Addr}(G:zf0 R tb qs F W T):∀ v∈qs.map V.ref,Gd R 1 v:=fun v hv=>by
 have gl:=G.len
 have:=BD.w1
 obtain⟨q,hq,rfl⟩:=zcx0.mp hv
 obtain⟨i,ei⟩:=zcx8 hq
 exact Gd.lst (G.row i q ei) (by rw[zd3];omega) (BD.rowint (by have:=(zcv9.mp ei).1;omega))
theorem PB.tabv{tb:Addr}(G:zf0 R tb qs F W T):Gd R 2 (.ref tb):=Gd.lst G.out (by rw[zcv8,G.len];have:=BD.f1;omega) (BD.tabrow G)
theorem PB.row{p:Addr}{bs:List Addr}{xs:List (Int×Int×Int)}(hx:xs∈xss)(r:RwAt R p bs xs):∀ v∈bs.map V.ref,Gd R 1 v:=fun v hv=>by
 obtain⟨b,hb,rfl⟩:=zcx0.mp hv
 obtain⟨i,ei⟩:=zcx8 hb
 have rl:=r.len
 obtain⟨z,ez⟩:∃ z,xs[i]?=some z:=⟨_,zcv7 (by have:=(zcv9.mp ei).1;omega)⟩
 obtain⟨z1,z2,z3⟩:=(BD.rows xs hx).2 z (zcw3 ez)
 exact Gd.tri (r.row i b z ei ez) (by rfl') (by rfl') (by rfl')
theorem PB.rowsv(S:StW R st rs xss):∀ v∈(rs.map fun r=>V.ref r.1),Gd R 2 v:=fun v hv=>by
 obtain⟨r,hr,rfl⟩:=zcx0.mp hv
 obtain⟨i,ei⟩:=zcx8 hr
 have rl:=S.len
 obtain⟨z,ez⟩:∃ z,xss[i]?=some z:=⟨_,zcv7 (by have:=(zcv9.mp ei).1;omega)⟩
 have hz:=zcw3 ez
 have:=(BD.rows z hz).1
 have rr:=S.row i r z ei ez
 exact Gd.lst rr.out (by rw[zcv8,rr.len];omega) (BD.row hz rr)
theorem PB.stmv(S:StW R st rs xss):Gd R 3 (.ref st):=Gd.lst S.out (by rw[zcv8,S.len,BD.xl];have:=BD.f1;omega) (BD.rowsv S)
theorem PB.papv{p tb:Addr}(A:PapS R p st tb rs xss qs F W T):Gd R 4 (.ref p):=Gd.two A.out (BD.stmv A.stm) ((BD.tabv A.tab).up (by decide))
end
theorem zch2{x y B C:Int}(hx:-B<=x/\x<=B)(hy:0<=y/\y<=C)(hB:0<=B):-(B*C)<=x*y/\x*y<=B*C:=by
 have a1:=zda8 hx.2 hy.1
 have a2:=zda8 hx.1 hy.1
 have a3:=zde2 hy.2 hB
 rw[Int.neg_mul] at a2
 constructor<;>omega
noncomputable abbrev MixB(a:Addr)(H:Hp)(m:Addr)(f:Nat)(ts:List (Addr×Addr))(ms:List (List Int×Int)):Prop:=zl9 H m ts ms/\m≠a/\Off a ts/\(1<=ms.length/\ms.length<=5)/\(1<=f/\f<=8)/\∀ x∈ms,x.1.length=f/\(∀ n∈x.1,0<=n/\n<=40)/\1<=x.2/\x.2<=10 ^ 40
abbrev WorB(a:Addr)(H:Hp)(w:Addr)(w0 w1:Int):Prop:=H w=some (.tup [.int w0,.int w1])/\w≠a/\(-(10 ^ 90)<=w0/\w0<=10 ^ 90)/\1<=w1/\w1<=10 ^ 50
@[irreducible] noncomputable def zk9:Sp:=fun vs H Q _=>∃ (a w m p st tb:Addr) (b w0 w1:Int) (f:Nat) (ts:List (Addr×Addr)) (ms:List (List Int×Int)) (rs:List (Addr×List Addr)) (xss:List (List (Int×Int×Int))) (qs:List Addr) (F W:Nat) (T:Nat->Nat->Int),vs=[.ref a,.ref w,.ref m,.ref p]/\zc0 H a b/\b<=50000/\WorB a H w w0 w1/\MixB a H m f ts ms/\PapS (rm a H) p st tb rs xss qs F W T/\PB xss F W T/\∀ r cw pv c0 c1 H',Chg a H H'->zc0 H' a (b+20)->H' r=some (.tup [.ref cw,pv])->H' cw=some (.tup [.int c0,.int c1])->cw≠a->(-(10 ^ 200)<c0/\c0<10 ^ 200)->(-(10 ^ 200)<c1/\c1<10 ^ 200)->Gd (rm a H') 4 pv->Q (.ref r) H'
theorem zcn7{a w m p tb:Addr}{b w1:Int}{f:Nat}(hL:zc0 H a b)(hb:b<=50000)(hw:WorB a H w w0 w1)(hm:MixB a H m f ts ms)(hp:PapS (rm a H) p st tb rs xss qs F W T)(P:PB xss F W T)(q:∀ r cw pv c0 c1 H',Chg a H H'->zc0 H' a (b+20)->H' r=some (.tup [.ref cw,pv])->H' cw=some (.tup [.int c0,.int c1])->cw≠a->(-(10 ^ 200)<c0/\c0<10 ^ 200)->(-(10 ^ 200)<c1/\c1<10 ^ 200)->Gd (rm a H') 4 pv->Q (.ref r) H'):zk9 [.ref a,.ref w,.ref m,.ref p] H Q E:=by
 unfold zk9;exact⟨a,w,m,p,st,tb,b,w0,w1,f,ts,ms,rs,xss,qs,F,W,T,rfl,hL,hb,hw,hm,hp,P,q⟩
theorem zr2{t u:TS}{D:Ends}{σ:St}(h:∀ T:TS,T=u->tSeq t T D σ H):tSeq t u D σ H:=h u rfl
theorem zav4(F:Fun K "_law_bent" "_law_bent" zz6 f fd)(N:Nm mg)(zcr5:Def P w K mg base CX0 3 "_law_bent_table" ["_law_left_here","_law_table_here"] ze3)(zcs6:Def P w K mg base CX0 3 "_law_beside" ["_law_left_here","_law_mix_here"] zh7)(zcq2:Def P w K mg base CX0 2 "_law_draw" ["_law_left_here","_law_base"] zc9)(zcq8:Def P w K mg base CX0 1 "_law_lowest" ["_law_top","_law_bottom"] zg4):FnOk P w K mg base CX0 4 f fd ["_law_left_here","_law_worth","_law_mix_here","_law_paper"] zk9:=by
 refine F.ok ze0 (fun vs H Q E h=>by unfold zk9 at h;obtain⟨_,_,_,_,_,_,_,_,_,_,_,_,_,_,_,_,_,_,rfl,_⟩:=h;rfl) fun _ _ _ s H vs Q E hr h=>?_
 unfold zk9 at h
 obtain⟨a,w,m,p,st,tb,b,w0,w1,f,ts,ms,rs,xss,qs,F,W,T,rfl,hL,hb,⟨hw,nwa,wb0,wb1⟩,⟨M,nm,O,ml,fl,mk⟩,PA,PP,q⟩:=h
 have hu:=hu40 hr
 have off:=zt4 a
 have pf:=PP.f1
 have pw:=PP.w1
 have pl:=PP.xl
 have rsl:=PA.stm.len
 have qsl:=PA.tab.len
 refine⟨_,(za3 (zu9 (pq 3) (zi6 (K:=K) (n:=2) rfl rfl (zb7 (za5 (i:=4) ze0.nd rfl (by eq_refl)) (zb7 (za5 (i:=5) ze0.nd rfl (by eq_refl)) zj0))))
   (za3 (psS (i:=6) ze0.nd (pD zcq2 hr zb3 (za0 (pq 0) (za0 za2 za1))))
   (za3 (psS (i:=7) ze0.nd (za7 (K:=K) rfl (zg3 (za0 za2 (za0 (zb4 oPow za2 za2) za1))) (pD zcq2 hr zb3 (za0 (pq 0) (za0 za2 za1)))))
   (za3 (psIf (ptC (oLtX (by exact hu)) (pq 6) za2) (za4 (za9 (zf2 (za0 (pq 1) (za0 (zf2 (za0 (pq 4) (za0 (pD zcr5 hr zb3 (za0 (pq 0) (za0 (pq 5) za1))) za1))) za1))))) zb2)
   (za3 (psIf (ptC (oLtX (by exact hu)) (pq 6) za2) (za4 (za9 (zf2 (za0 (pD zcq8 hr zb3 (za0 (zb4 oAdd (zb4 oMul (za7 (K:=K) rfl (pq 1) za2) (pq 7)) (za7 (K:=K) rfl (zg3 (za0 za2 (za0 (zv6 uNeg za2) za1))) (zb4 oMod (pq 6) za2))) (za0 (zb4 oMul (za7 (K:=K) rfl (pq 1) za2) (pq 7)) za1))) (za0 (pq 3) za1))))) zb2)
   (za3 (psIf (ptC (zn6 (K:=K) rfl (by exact hu)) (pq 6) za2) (za3 (psS (i:=8) ze0.nd (pD zcq2 hr zb3 (za0 (pq 0) (za0 (pB (zf7 (K:=K) rfl) N.len_ zd2 (za0 (pq 4) za1)) za1))))
   (za3 (zu9 (za7 (K:=K) rfl (za7 (K:=K) rfl (pq 4) (pq 8)) za2) (zi6 (K:=K) (n:=3) rfl rfl (zb7 (za5 (i:=9) ze0.nd rfl (by eq_refl)) (zb7 (za5 (i:=10) ze0.nd rfl (by eq_refl)) (zb7 (za5 (i:=11) ze0.nd rfl (by eq_refl)) zj0)))))
   (za3 (psS (i:=12) ze0.nd (zg3 (za0 (zf2 (za0 (pq 9) (za0 (pq 10) (za0 (zb4 oAdd (pq 11) za2) za1)))) (za0 (zf2 (za0 (zb4 oAdd (pq 9) za2) (za0 (pq 10) (za0 (pq 11) za1)))) (za0 (zf2 (za0 (pq 9) (za0 (zb4 oAdd (pq 10) za2) (za0 (pq 11) za1)))) za1)))))
   (za4 (za9 (zf2 (za0 (pq 1) (za0 (zf2 (za0 (zb4 oAdd (zb4 oAdd (zg1 (slXK (K:=K) rfl) (pq 4) zi8 (zn5 (pq 8))) (zg3 (za0 (zb4 oAdd (zg3 (za0 (za7 (K:=K) rfl (pq 12) (pD zcq2 hr zb3 (za0 (pq 0) (za0 za2 za1)))) za1)) (zg1 (slXK (K:=K) rfl) (za7 (K:=K) rfl (pq 4) (pq 8)) (zn5 za2) zi8)) za1))) (zg1 (slXK (K:=K) rfl) (pq 4) (zn5 (zb4 oAdd (pq 8) za2)) zi8)) (za0 (pq 5) za1))) za1)))))))) zb2)
   (za3 (psIf (ptC (zn6 (K:=K) rfl (by exact hu)) (pq 6) za2) (za4 (za9 (zf2 (za0 (pq 1) (za0 (zf2 (za0 (pq 4) (za0 (za7 (K:=K) rfl (zg3 (za0 (zb4 oAdd (zg1 (slXK (K:=K) rfl) (pq 5) (zn5 za2) zi8) (zg3 (za0 (zb4 oMul (zg3 (za0 za2 za1)) (pB (zf7 (K:=K) rfl) N.len_ zd2 (za0 (za7 (K:=K) rfl (pq 5) za2) za1))) za1))) (za0 (zb4 oAdd (pq 5) (zg1 (slXK (K:=K) rfl) (pq 5) (zn5 (zv6 uNeg za2)) zi8)) za1))) (pD zcq2 hr zb3 (za0 (pq 0) (za0 za2 za1)))) za1))) za1))))) zb2)
   (za3 (psIf (ptC (zn6 (K:=K) rfl (by exact hu)) (pq 6) za2) (za3 (psS (i:=13) ze0.nd (pD zcq2 hr zb3 (za0 (pq 0) (za0 za2 za1))))
   (za4 (za9 (zf2 (za0 (pq 1) (za0 (zf2 (za0 (pq 4) (za0 (ze8 (N:=["_law_row","_law_which"]) (ks:=[none,some 13]) (ze4 (K:=K) rfl (pq 5)) (fun _ _ _ _ _=>(za5 (i:=0) nb_29 rfl (by eq_refl))) (fun _ _ _ _ _=>zc7) (fun _ _ _ _ _=>(za7 (K:=K) rfl (zg3 (za0 (zg1 (slXK (K:=K) rfl) (pq 0) zi8 (zn5 (zv6 uNeg za2))) (za0 (zb4 oAdd (pq 0) (zg1 (slXK (K:=K) rfl) (pq 0) (zn5 (zv6 uNeg za2)) zi8)) za1))) (pq 1))) (.skip (.take rfl rfl (by eq_refl) .nil))) za1))) za1)))))) zb2)
   (za3 (psIf (ptC (zn6 (K:=K) rfl (by exact hu)) (pq 6) za2) (za4 (za9 (zf2 (za0 (pq 1) (za0 (za7 (K:=K) rfl (zg3 (za0 (zf2 (za0 (pq 4) (za0 (pq 5) (za0 (pq 5) za1)))) (za0 (zf2 (za0 (zb4 oAdd (pq 4) (zg1 (slXK (K:=K) rfl) (pq 4) (zn5 (zv6 uNeg za2)) zi8)) (za0 (pq 5) za1))) za1))) (pD zcq2 hr zb3 (za0 (pq 0) (za0 za2 za1)))) za1))))) zb2)
   (za3 (psIf (ptC (zn6 (K:=K) rfl (by exact hu)) (pq 6) za2) (za4 (za9 (zf2 (za0 (pq 1) (za0 (zf2 (za0 (pD zcs6 hr zb3 (za0 (pq 0) (za0 (pq 2) za1))) (za0 (pq 5) za1))) za1))))) zb2)
   (za4 (za9 (zf2 (za0 (pq 1) (za0 (pq 3) za1))))))))))))))),zr2 (fun T1 hT=>?_)⟩
 refine zd8 (off H _ _ PA.out) ?_
 ac_nf
 subst hT
 refine zr2 (fun T1 hT=>?_)
 refine zc6 hL (by rfl') (by rfl') (by rfl') (fun ch H1 ch0 ch1 c1 L1=>?_)
 ac_nf
 subst hT
 refine zr2 (fun T1 hT=>?_)
 walk_at "st"
 refine zc3 (fun l2 H2 g2 s2 k2=>?_)
 refine zc6 (L1.same s2) (by rfl') (by rfl') (by rfl') (fun d3 H3 d30 d31 c3 L3=>?_)
 have k3:=c3 _ _ (L1.ne g2) k2
 refine zi3 k3 (by rfl') (by simp only[zcx5,zcz1];omega) ?_
 intro v hv
 obtain⟨far,rfl,far0,far1⟩:∃ x:Int,v=.int x/\0<x/\x<=10 ^ 30:=by
  simp only[zcw8,zcx9,or_false] at hv
  rcases hv with rfl|rfl<;>exact⟨_,rfl,by decide,by decide⟩
 clear hv k3 k2
 have c13:Chg a H H3:=(c1.same s2).trans c3
 replace PA:=PA.same (Chg.rm c13)
 replace hw:=c13 _ _ nwa hw
 replace M:=M.chg c13 nm O
 replace q:∀ r cw pv c0 c1 H',Chg a H3 H'->zc0 H' a (b+20)->H' r=some (.tup [.ref cw,pv])->H' cw=some (.tup [.int c0,.int c1])->cw≠a->(-(10 ^ 200)<c0/\c0<10 ^ 200)->(-(10 ^ 200)<c1/\c1<10 ^ 200)->Gd (rm a H') 4 pv->Q (.ref r) H':=fun r cw pv c0 c1' H' c=>q r cw pv c0 c1' H' (c13.trans c)
 clear c13 c1 c3 s2 L1 hL g2
 generalize hb3:b+1+1=b3 at L3
 have big:(10:Int) ^ 130<10 ^ 200:=by decide
 have fin:∀ (pv:V) (H':Hp) (r:Addr),Chg a H3 H'->zc0 H' a (b+20)->Gd (rm a H') 4 pv->H' r=some (.tup [.ref w,pv])->Q (.ref r) H':=fun pv H' r c L g e=>q r w pv w0 w1 H' c L e (c _ _ nwa hw) nwa (by generalize (10:Int) ^ 200=N at *;omega) (by generalize (10:Int) ^ 200=N at *;omega) g
 have PT:=PA.tab.same (off H3)
 have PS:=PA.stm.same (off H3)
 ac_nf
 subst hT
 refine zr2 (fun T1 hT=>?_)
 refine zc8 (fun h5=>?_) (fun h5=>?_)
 ·ac_nf
  refine zao5 L3 (by rfl') PT (by rfl') (by rfl') PP.tb (fun tv H4 c4 L4 g4=>?_)
  refine zb6 (fun p5 H5 g5 s5 k5=>?_)
  refine zb6 (fun p6 H6 g6 s6 k6=>?_)
  ac_nf
  have s46:=s5.trans s6
  exact fin (.ref p5) H6 p6 (c4.same s46) ((L4.same s46).up (by rfl')) (Gd.two (zi2 (L4.ne g5) (s6 _ _ k5)) (PP.stmv (PA.stm.same ((Chg.rm c4).trans (Same.rm s46)))) ((g4.same (Same.rm s46)).up (by decide))) k6
 ac_nf
 subst hT
 refine zr2 (fun T1 hT=>?_)
 refine zc8 (fun h8=>?_) (fun h8=>?_)
 ·have m0:=zch2 wb0 (show 0<=far/\far<=10 ^ 30 by rfl') (by decide)
  have m1:=zch2 (B:=10 ^ 50) (show -(10 ^ 50)<=w1/\w1<=10 ^ 50 by rfl') (show 0<=far/\far<=10 ^ 30 by rfl') (by decide)
  have m2:0<w1*far:=Int.mul_pos (by rfl') far0
  have ok0:IntMulOk w0 far:=zn1 (by rfl') (by rfl') (by rfl') (by rfl')
  have ok1:IntMulOk w1 far:=zn1 (by rfl') (by rfl') (by rfl') (by rfl')
  refine zb1 (v:=.int w0) hw rfl ?_
  refine zu2 ok0 ?_
  refine zc3 (fun l4 H4 g4 s4 k4=>?_)
  refine zac4 (by rfl') (fun r r0 r1=>?_)
  refine zi3 k4 r0 (by simp only[zcx5,zcz1];omega) ?_
  intro v hv
  obtain⟨e,rfl,e0,e1⟩:∃ x:Int,v=.int x/\-1<=x/\x<=1:=by
   simp only[zcw8,zcx9,or_false] at hv
   rcases hv with rfl|rfl<;>exact⟨_,rfl,by decide,by decide⟩
  refine zb1 (v:=.int w1) (s4 _ _ hw) rfl ?_
  refine zu2 ok1 ?_
  generalize w0*far=x0 at m0 ⊢
  generalize w1*far=x1 at m1 m2 ⊢
  have lb0:=zbr8 (x0+e) x1
  have lb1:=zby5 (x0+e) x1
  refine zat6 m2 (by rfl') (fun w' H5 g5 s5 k5=>?_)
  refine zb6 (fun p6 H6 g6 s6 k6=>?_)
  ac_nf
  have s36:=(s4.trans s5).trans s6
  generalize lowT (x0+e) x1=y0 at lb0 k5
  generalize lowB (x0+e) x1=y1 at lb1 k5
  have b0:-(10 ^ 130)<y0/\y0<10 ^ 130:=by rfl'
  have b1:-(10 ^ 130)<y1/\y1<10 ^ 130:=by rfl'
  clear lb0 lb1 m0 m1 m2
  exact q p6 w' (.ref p) y0 y1 H6 s36.toChg ((L3.same s36).up (by rfl')) k6 (s6 _ _ k5) ((L3.same s4).ne g5) (by generalize (10:Int) ^ 200=N at *;omega) (by generalize (10:Int) ^ 200=N at *;omega) (PP.papv (PA.same (Same.rm s36)))
 ac_nf
 subst hT
 refine zr2 (fun T1 hT=>?_)
 refine zc8 (fun h9=>?_) (fun h9=>?_)
 ·ac_nf
  refine zc5 PS.out ?_
  rw[zcv8,rsl,pl]
  refine zc6 L3 (by rfl') (by rfl') (by rfl') (fun kd H4 kd0 kd1 c4 L4=>?_)
  obtain⟨k,rfl⟩:∃ i:Nat,kd=i:=⟨kd.toNat,by rfl'⟩
  have PA4:=PA.same (Chg.rm c4)
  have PS4:=PA4.stm.same (off H4)
  obtain⟨r,er⟩:∃ r,rs[k]?=some r:=⟨_,zcv7 (by rfl')⟩
  obtain⟨xs,ex⟩:∃ r,xss[k]?=some r:=⟨_,zcv7 (by rfl')⟩
  have hxs:=zcw3 ex
  have R:=PA4.stm.row k r xs er ex
  have rl:=R.len
  have xb:=PP.rows xs hxs
  obtain⟨b0,eb⟩:∃ r',r.2[0]?=some r':=⟨_,zcv7 (by rfl')⟩
  obtain⟨z,ez⟩:∃ r,xs[0]?=some r:=⟨_,zcv7 (by rfl')⟩
  obtain⟨z1,z2,z3⟩:=xb.2 z (zcw3 ez)
  have atk:atI (rs.map fun r=>V.ref r.1) (k:Int)=some (.ref r.1):=zc1 (by rw[zcw0,er];rfl)
  refine zb0 (v:=.ref r.1) PS4.out atk ?_
  refine zb0 (v:=.ref b0) (off _ _ _ R.out) (zc1 (j:=0) (by rw[zcw0,eb];rfl)) ?_
  refine zd8 (off _ _ _ (R.row 0 b0 z eb ez)) ?_
  refine zb6 (fun t1 H5 g5 s5 k5=>?_)
  refine zb6 (fun t2 H6 g6 s6 k6=>?_)
  refine zb6 (fun t3 H7 g7 s7 k7=>?_)
  refine zc3 (fun lp H8 g8 s8 k8=>?_)
  have s47:=(s5.trans s6).trans s7
  have s48:=s47.trans s8
  refine zq1 (SqL.of (s48 _ _ PS4.out)) (fun sa H9 g9 s9 k9=>?_)
  have s49:=s48.trans s9
  have L9:=L4.same s49
  refine zc6 L9 (by rfl') (by rfl') (by rfl') (fun d10 H10 d0 d1 c10 L10=>?_)
  have nlp:lp≠a:=(L4.same s47).ne g8
  refine zi3 (c10 _ _ nlp (s9 _ _ k8)) (by rfl') (by simp only[zcx5,zcz1];omega) ?_
  intro v hv
  have gv:Gd (rm a H10) 1 v:=by
   have u1:=c10 _ _ ((L4).ne g5) ((((s6.trans s7).trans s8).trans s9) _ _ k5)
   have u2:=c10 _ _ ((L4.same s5).ne g6) (((s7.trans s8).trans s9) _ _ k6)
   have u3:=c10 _ _ ((L4.same (s5.trans s6)).ne g7) ((s8.trans s9) _ _ k7)
   simp only[zcw8,zcx9,or_false] at hv
   rcases hv with rfl|rfl|rfl
   ·exact Gd.tri (zi2 (L4.ne g5) u1) (by rfl') (by rfl') (by rfl')
   ·exact Gd.tri (zi2 ((L4.same s5).ne g6) u2) (by rfl') (by rfl') (by rfl')
   ·exact Gd.tri (zi2 ((L4.same (s5.trans s6)).ne g7) u3) (by rfl') (by rfl') (by rfl')
  clear hv
  have k410:Same (rm a H4) (rm a H10):=(Same.rm s49).trans (Chg.rm c10)
  have nsa:sa≠a:=(L4.same s48).ne g9
  refine zc3 (fun p11 H11 g11 s11 k11=>?_)
  refine zb0 (v:=.ref r.1) (s11 _ _ (off _ _ _ (PA4.same k410).stm.out)) atk ?_
  refine zq1 (SqL.of (s11 _ _ (off _ _ _ (R.same k410).out))) (fun p12 H12 g12 s12 k12=>?_)
  have cl12:=zs8 (r.2.map V.ref) (some 1) none
  rw[zcv8] at cl12
  refine zx5 (s12 _ _ k11) k12 (by rw[zdf5,zcy4];omega) (fun p13 H13 g13 s13 k13=>?_)
  refine zc3 (fun p14 H14 g14 s14 k14=>?_)
  have s1014:=((s11.trans s12).trans s13).trans s14
  have cl9:=zs8 (rs.map fun r=>V.ref r.1) none (some (k:Int))
  rw[zcv8] at cl9
  refine zx5 (s1014 _ _ (c10 _ _ nsa k9)) k14 (by rw[zdf5,zcy4];omega) (fun p15 H15 g15 s15 k15=>?_)
  have s1015:=s1014.trans s15
  refine zq1 (SqL.of (s1015 _ _ (off _ _ _ (PA4.same k410).stm.out))) (fun p16 H16 g16 s16 k16=>?_)
  have cl16:=zs8 (rs.map fun r=>V.ref r.1) (some ((k:Int)+1)) none
  rw[zcv8] at cl16
  refine zx5 (s16 _ _ k15) k16 (by rw[zdf5,zcw7,zcy4];omega) (fun p17 H17 g17 s17 k17=>?_)
  refine zb6 (fun p18 H18 g18 s18 k18=>?_)
  refine zb6 (fun p19 H19 g19 s19 k19=>?_)
  ac_nf
  have s1016:=s1015.trans s16
  have s1017:=s1016.trans s17
  have s1719:=s18.trans s19
  have s1019:=s1017.trans s1719
  have kz:Same (rm a H4) (rm a H19):=k410.trans (Same.rm s1019)
  have PZ:=PA4.same kz
  have L10':=L10
  refine fin (.ref p18) H19 p19 ((c4.same s49).trans c10 |>.same s1019) ((L10.same s1019).up (by rfl')) (Gd.two (zi2 ((L10.same s1017).ne g18) (s19 _ _ k18)) ?_ ((PP.tabv PZ.tab).up (by decide))) k19
  refine Gd.lst (zi2 ((L10.same s1016).ne g17) (s1719 _ _ k17)) (by rw[zcw7,zcw7,zcy4];omega) fun x hx=>?_
  rcases zcy1.mp hx with hx|hx
  ·rcases zcy1.mp hx with hx|hx
   ·exact PP.rowsv PZ.stm x (zu7 hx)
   ·rw[zcz6.mp hx]
    have n13:p13≠a:=((L10.same s11).same s12).ne g13
    refine Gd.lst (zi2 n13 ((((s14.trans s15).trans s16).trans s17).trans s1719 _ _ k13)) (by rw[zcw7,zcy4];omega) fun y hy=>?_
    rcases zcy1.mp hy with hy|hy
    ·rw[zcz6.mp hy]
     exact gv.same (Same.rm s1019)
    ·exact PP.row hxs (R.same kz) y (zu7 hy)
  ·exact PP.rowsv PZ.stm x (zu7 hx)
 ac_nf
 subst hT
 refine zr2 (fun T1 hT=>?_)
 refine zc8 (fun h10=>?_) (fun h10=>?_)
 ·obtain⟨q0,eq0,hq0⟩:=PT.some (i:=0) (by rfl')
  refine zq1 (SqL.of PT.out) (fun p4 H4 g4 s4 k4=>?_)
  refine zc3 (fun p5 H5 g5 s5 k5=>?_)
  have s35:=s4.trans s5
  refine zb0 (v:=.ref q0) (s35 _ _ PT.out) (zc1 (j:=0) (by rw[zcw0,eq0];rfl)) ?_
  refine zc5 (s35 _ _ hq0) ?_
  rw[zd3]
  refine zci5 k5 (by rfl') (by rfl') (by rw[zdf5];simp only[zcx5,zcz1];omega) (fun p6 H6 g6 s6 k6=>?_)
  rw[zbi6,zdd7] at k6
  refine zc3 (fun p7 H7 g7 s7 k7=>?_)
  have cl4:=zs8 (qs.map V.ref) (some 1) none
  rw[zcv8] at cl4
  refine zx5 (((s5.trans s6).trans s7) _ _ k4) k7 (by rw[zdf5,zcy4];omega) (fun p8 H8 g8 s8 k8=>?_)
  have s37:=(s35.trans s6).trans s7
  have s38:=s37.trans s8
  refine zq1 (SqL.of (s38 _ _ PT.out)) (fun p9 H9 g9 s9 k9=>?_)
  have cl9:=zs8 (qs.map V.ref) (some (-1)) none
  rw[zcv8] at cl9
  have s39:=s38.trans s9
  refine zx5 (s39 _ _ PT.out) k9 (by rw[zdf5,zcv8];omega) (fun p10 H10 g10 s10 k10=>?_)
  refine zc3 (fun p11 H11 g11 s11 k11=>?_)
  have s310:=s39.trans s10
  have s311:=s310.trans s11
  have n8:p8≠a:=(L3.same s37).ne g8
  have n10:p10≠a:=(L3.same s39).ne g10
  have n11:p11≠a:=(L3.same s310).ne g11
  refine zc6 (L3.same s311) (by rfl') (by rfl') (by rfl') (fun d12 H12 d0 d1 c12 L12=>?_)
  have kz:Same (rm a H3) (rm a H12):=(Same.rm s311).trans (Chg.rm c12)
  have PZ:=PA.same kz
  refine zi3 (c12 _ _ n11 k11) (by rfl') (by simp only[zcx5,zcz1];omega) ?_
  intro v hv
  have gv:Gd (rm a H12) 2 v:=by
   have n6:p6≠a:=((L3.same s4).same s5).ne g6
   have u6:=zi2 n6 (c12 _ _ n6 (((((s7.trans s8).trans s9).trans s10).trans s11) _ _ k6))
   have u8:=zi2 n8 (c12 _ _ n8 (((s9.trans s10).trans s11) _ _ k8))
   have u10:=zi2 n10 (c12 _ _ n10 (s11 _ _ k10))
   simp only[zcw8,zcx9,or_false] at hv
   rcases hv with rfl|rfl
   ·refine Gd.lst u8 (by rw[zcw7,zcy4];omega) fun x hx=>?_
    rcases zcy1.mp hx with hx|hx
    ·exact PP.tabrow PZ.tab x (zu7 hx)
    ·rw[zcz6.mp hx]
     refine Gd.lst u6 (by rw[zd3];omega) fun y hy=>?_
     unfold rowV at hy
     obtain⟨_,_,rfl⟩:=zcx0.mp hy
     exact Gd.int _ _ (by show -(10 ^ 82)<=(0:Int);decide) (by show (0:Int)<=10 ^ 82;decide)
   ·refine Gd.lst u10 (by rw[zcw7,zcv8];omega) fun x hx=>?_
    rcases zcy1.mp hx with hx|hx
    ·exact PP.tabrow PZ.tab x hx
    ·exact PP.tabrow PZ.tab x (zu7 hx)
  refine zb6 (fun p13 H13 g13 s13 k13=>?_)
  refine zb6 (fun p14 H14 g14 s14 k14=>?_)
  ac_nf
  have sz:=s13.trans s14
  exact fin (.ref p13) H14 p14 ((s311.toChg.trans c12).same sz) ((L12.same sz).up (by rfl')) (Gd.two (zi2 (L12.ne g13) (s14 _ _ k13)) (PP.stmv (PZ.stm.same (Same.rm sz))) ((gv.same (Same.rm sz)).up (by decide))) k14
 ac_nf
 subst hT
 refine zr2 (fun T1 hT=>?_)
 refine zc8 (fun h11=>?_) (fun h11=>?_)
 ·ac_nf
  refine zc6 L3 (by rfl') (by rfl') (by rfl') (fun wh H4 wh0 wh1 c4 L4=>?_)
  have PA4:=PA.same (Chg.rm c4)
  have PT4:=PA4.tab.same (off H4)
  obtain⟨o4,e4⟩:=L4.some
  refine zc4 PT4.out ?_
  refine zbi1 (Wk.list (SqL.of PT4.out)) (by rw[zcv8,zdf5];omega) (fun acc j ys σ I=>∃ t:Option V,σ=[t,some (.int wh)]/\ys.length<=j/\∀ y∈ys,Gd (rm acc (nw H4 I)) 1 y) ?_ ?_ ?_ ?_
  ·intro acc I f1 s2 h1
   exact⟨none,rfl,zcx3 _,fun y hy=>by cases hy⟩
  ·rintro acc j ys σ I I' s' ⟨t,r1,r2,r3⟩
   exact⟨t,r1,r2,fun y hy=>(r3 y hy).same (Same.rm (zaz8 s'))⟩
  ·rintro acc j x ys σ I R S hj facc s1 hacc hx ⟨t,rfl,yl,yg⟩ kR _
   rw[zcw0] at hx
   obtain⟨y,ey,rfl⟩:=zcw4.mp hx
   have hj:j<F:=by rw[zcv8] at hj;omega
   have hy:=s1 _ _ (PT4.row j y ey)
   have rowg:∀ {J:Hp},∀ v∈rowV W (T j),Gd J 0 v:=fun v hv=>PP.rowint hj v hv
   refine br_T ?_
   refine zq1 (SqL.of hy) (fun q1 I1 f1 t1 h1=>?_)
   refine zq1 (SqL.of (t1 _ _ hy)) (fun q2 I2 f2 t2 h2=>?_)
   have l1:=zs8 (rowV W (T j)) none (some (-1))
   have l2:=zax8 (rowV W (T j))
   rw[zd3] at l1
   refine zx5 ((t1.trans t2) _ _ hy) h2 (by rw[zdf5,zd3];omega) (fun q3 I3 f3 t3 h3=>?_)
   refine zc3 (fun q4 I4 f4 t4 h4=>?_)
   refine zi3 h4 (by rfl') (by simp only[zcx5,zcz1];omega) ?_
   intro v hv
   have t14:=((t1.trans t2).trans t3).trans t4
   have n1:q1≠acc:=Ne.symm (za6 hacc f1)
   have n3:q3≠acc:=Ne.symm (za6 ((t1.trans t2) _ _ hacc) f3)
   have w1:H4 q1=none:=s1.free f1
   have w3:H4 q3=none:=(s1.trans (t1.trans t2)).free f3
   ac_nf
   refine kR _ _ _ t14 (fun I5 c5=>⟨_,rfl,by rw[zcw7,zcy4];omega,fun y' hy'=>?_⟩)
   rcases zcy1.mp hy' with hy' | hy'
   ·refine (yg y' hy').same fun b o z=>?_
    obtain⟨z1,z2⟩:=zae0 z
    obtain⟨z3,z4⟩:=zu3 z2
    exact zi2 z1 (zn9 z3 (c5 _ _ z1 (t14 _ _ z4)))
   ·rw[zcz6.mp hy']
    simp only[zcw8,zcx9,or_false] at hv
    rcases hv with rfl|rfl
    ·exact Gd.lst (zi2 n1 (zn9 w1 (c5 _ _ n1 (((t2.trans t3).trans t4) _ _ h1)))) (by rfl') fun x hx=>rowg x (zu7 hx)
    ·refine Gd.lst (zi2 n3 (zn9 w3 (c5 _ _ n3 (t4 _ _ h3)))) (by rw[zcw7,zd3];omega) fun x hx=>?_
     rcases zcy1.mp hx with hx|hx
     ·exact rowg x hx
     ·exact rowg x (zu7 hx)
  ·rintro acc ys σ I facc s1 hacc ⟨t,rfl,yl,yg⟩
   rw[zcv8] at yl
   have na:acc≠a:=L4.ne facc
   refine zb6 (fun p5 H5 g5 s5 k5=>?_)
   refine zb6 (fun p6 H6 g6 s6 k6=>?_)
   ac_nf
   have sz:=s5.trans s6
   have s4z:=s1.trans sz
   refine fin (.ref p5) H6 p6 (c4.same s4z) ((L4.same s4z).up (by rfl')) (Gd.two (zi2 ((L4.same s1).ne g5) (s6 _ _ k5)) (PP.stmv (PA4.stm.same (Same.rm s4z))) (Gd.up (n:=2) (Gd.lst (zi2 na (sz _ _ hacc)) (by rfl') fun x hx=>?_) (by decide))) k6
   exact ((yg x hx).same (zt4 _ _)).same ((nw_rm e4).trans (Same.rm sz))
 ac_nf
 subst hT
 refine zr2 (fun T1 hT=>?_)
 refine zc8 (fun h12=>?_) (fun h12=>?_)
 ·ac_nf
  refine zb6 (fun p4 H4 g4 s4 k4=>?_)
  refine zq1 (SqL.of (s4 _ _ PS.out)) (fun p5 H5 g5 s5 k5=>?_)
  have cl5:=zs8 (rs.map fun r=>V.ref r.1) (some (-1)) none
  rw[zcv8] at cl5
  have s35:=s4.trans s5
  refine zx5 (s35 _ _ PS.out) k5 (by rw[zdf5,zcv8];omega) (fun p6 H6 g6 s6 k6=>?_)
  have s36:=s35.trans s6
  refine zb6 (fun p7 H7 g7 s7 k7=>?_)
  have s37:=s36.trans s7
  refine zc3 (fun p8 H8 g8 s8 k8=>?_)
  have s38:=s37.trans s8
  have n4:p4≠a:=L3.ne g4
  have n6:p6≠a:=(L3.same s35).ne g6
  have n7:p7≠a:=(L3.same s36).ne g7
  have n8:p8≠a:=(L3.same s37).ne g8
  refine zc6 (L3.same s38) (by rfl') (by rfl') (by rfl') (fun d9 H9 d0 d1 c9 L9=>?_)
  have kz:Same (rm a H3) (rm a H9):=(Same.rm s38).trans (Chg.rm c9)
  have PZ:=PA.same kz
  refine zi3 (c9 _ _ n8 k8) (by rfl') (by simp only[zcx5,zcz1];omega) ?_
  intro v hv
  have gv:Gd (rm a H9) 4 v:=by
   have u4:=zi2 n4 (c9 _ _ n4 ((((s5.trans s6).trans s7).trans s8) _ _ k4))
   have u6:=zi2 n6 (c9 _ _ n6 ((s7.trans s8) _ _ k6))
   have u7:=zi2 n7 (c9 _ _ n7 (s8 _ _ k7))
   simp only[zcw8,zcx9,or_false] at hv
   rcases hv with rfl|rfl
   ·refine Gd.tup u4 (by show 3<=18;decide) fun x hx=>?_
    simp only[zcw8,zcx9,or_false] at hx
    rcases hx with rfl|rfl|rfl
    ·exact PP.stmv PZ.stm
    ·exact (PP.tabv PZ.tab).up (by decide)
    ·exact (PP.tabv PZ.tab).up (by decide)
   ·refine Gd.two u7 ?_ ((PP.tabv PZ.tab).up (by decide))
    refine Gd.lst u6 (by rw[zcw7,zcv8];omega) fun x hx=>?_
    rcases zcy1.mp hx with hx|hx
    ·exact PP.rowsv PZ.stm x hx
    ·exact PP.rowsv PZ.stm x (zu7 hx)
  refine zb6 (fun p10 H10 g10 s10 k10=>?_)
  ac_nf
  exact fin v H10 p10 ((s38.toChg.trans c9).same s10) ((L9.same s10).up (by rfl')) (gv.same (Same.rm s10)) k10
 ac_nf
 subst hT
 refine zr2 (fun T1 hT=>?_)
 refine zc8 (fun h13=>?_) (fun h13=>?_)
 ·ac_nf
  refine zbt4 L3 (by rfl') M nm O ml fl mk (fun v H4 c4 L4 g4=>?_)
  refine zb6 (fun p5 H5 g5 s5 k5=>?_)
  refine zb6 (fun p6 H6 g6 s6 k6=>?_)
  ac_nf
  have sz:=s5.trans s6
  exact fin (.ref p5) H6 p6 (c4.same sz) ((L4.same sz).up (by rfl')) (Gd.two (zi2 (L4.ne g5) (s6 _ _ k5)) (g4.same (Same.rm sz)) ((PP.tabv (PA.tab.same ((Chg.rm c4).trans (Same.rm sz)))).up (by decide))) k6
 ·ac_nf
  subst hT
  refine zb6 (fun p4 H4 g4 s4 k4=>?_)
  ac_nf
  exact fin (.ref p) H4 p4 s4.toChg ((L3.same s4).up (by rfl')) (PP.papv (PA.same (Same.rm s4))) k4
theorem zcm4{K:zcw2}{n:Nat}{x y:V}{d:PyData}(hx:ShV H x d)(hy:ShV H y d)(o:okD n d)(hn:n<=40)(q:Q (.bl true) H):zay7 K x y H Q:=by
 have gen:rEqX K x y H Q:=zci7 hx hy o.2.1 o.2.1 (zda0 o.2.2 hn) (by rw[o.eqv];exact q)
 unfold zay7
 cases hx<;>cases hy
 case int i=>show Q (.bl (decide (i=i))) H;rw[decide_eq_true rfl];exact q
 case bl i=>show Q (.bl (decide (i=i))) H;rw[decide_eq_true rfl];exact q
 case str i=>show Q (.bl (decide (i=i))) H;rw[decide_eq_true rfl];exact q
 all_goals exact gen
theorem PB.gb(B:PB xss F W T):GB 18 4 (papN xss F W T):=by
 have f1:=B.f1
 have w1:=B.w1
 have xl:=B.xl
 refine .tuple _ _ (by show 2<=18;decide) fun d hd=>?_
 simp only[zcw8,zcx9,or_false] at hd
 rcases hd with rfl|rfl
 ·refine .list _ _ (by rw[zcv8];omega) fun d hd=>?_
  obtain⟨xs,hx,rfl⟩:=zcx0.mp hd
  have xb:=B.rows xs hx
  refine .list _ _ (by rw[zcv8];omega) fun d hd=>?_
  obtain⟨z,hz,rfl⟩:=zcx0.mp hd
  obtain⟨z1,z2,z3⟩:=xb.2 z hz
  refine .tuple _ _ (by show 3<=18;decide) fun d hd=>?_
  simp only[zcw8,zcx9,or_false] at hd
  rcases hd with rfl|rfl|rfl
  ·exact .int _ _ (by rfl') (by rfl')
  ·exact .int _ _ (by rfl') (by rfl')
  ·exact .int _ _ (by rfl') (by rfl')
 ·refine .list _ _ (by rw[zcv8,zcx6];omega) fun d hd=>?_
  obtain⟨k,hk,rfl⟩:=zcx0.mp hd
  refine .list _ _ (by rw[zcv8,zcx6];omega) fun d hd=>?_
  obtain⟨c,hc,rfl⟩:=zcx0.mp hd
  have:=B.tb k c (zcy0.mp hk) (zcy0.mp hc)
  exact .int _ _ (by rfl') (by rfl')
@[irreducible] noncomputable def zd5:Sp:=fun vs H Q _=>∃ (H0:Hp) (a bt l w p st tb:Addr) (ps:List Addr) (b:Int) (n m:Nat) (sd:Bool) (fs:List Fd) (w0 w1:Int) (rs:List (Addr×List Addr)) (xss:List (List (Int×Int×Int))) (qs:List Addr) (T:Nat->Nat->Int),vs=[.ref a,.ref bt,.int (sdI sd),.ref w,.ref p]/\Same H0 H/\zc0 H0 a b/\b<=80000/\zj2 (rm a H0) bt l ps n m fs/\OkB n m fs/\(∀ f∈fs,f.Bd n m)/\(H0 w=some (.tup [.int w0,.int w1])/\w≠a)/\(-(10 ^ 200)<w0/\w0<10 ^ 200)/\(-(10 ^ 200)<w1/\w1<10 ^ 200)/\PapS (nw H0 H) p st tb rs xss qs fs.length (othH sd n m+1) T/\PB xss fs.length (othH sd n m+1) T/\zl8 sd n m fs w0 w1 (papN xss fs.length (othH sd n m+1) T) .none/\∀ H',Chg a H0 H'->Q (.bl true) H'
theorem zce9{H0:Hp}{a bt w p tb:Addr}{b:Int}{n:Nat}{fs:List Fd}{w1:Int}(s0:Same H0 H)(hL:zc0 H0 a b)(hb:b<=80000)(B:zj2 (rm a H0) bt l ps n m fs)(O:OkB n m fs)(D:∀ f∈fs,f.Bd n m)(hw:H0 w=some (.tup [.int w0,.int w1])/\w≠a)(b0:-(10 ^ 200)<w0/\w0<10 ^ 200)(b1:-(10 ^ 200)<w1/\w1<10 ^ 200)(PA:PapS (nw H0 H) p st tb rs xss qs fs.length (othH sd n m+1) T)(PP:PB xss fs.length (othH sd n m+1) T)(VN:zl8 sd n m fs w0 w1 (papN xss fs.length (othH sd n m+1) T) .none)(q:∀ H',Chg a H0 H'->Q (.bl true) H'):zd5 [.ref a,.ref bt,.int (sdI sd),.ref w,.ref p] H Q E:=by
 unfold zd5;exact⟨H0,a,bt,l,w,p,st,tb,ps,b,n,m,sd,fs,w0,w1,rs,xss,qs,T,rfl,s0,hL,hb,B,O,D,hw,b0,b1,PA,PP,VN,q⟩
theorem zw7(F:Fun K "_law_asked_changed" "_law_asked_changed" zj9 f fd)(N:Nm mg)(zcq5:Def P w K mg base CX0 10 "_law_deep" ["_law_thing"] zk4)(zcq2:Def P w K mg base CX0 2 "_law_draw" ["_law_left_here","_law_base"] zc9)(zcq9:Def P w K mg base CX0 4 "_law_judged" ["_law_battle_here","_law_side","_law_worth","_law_paper"] zg2)(zcs7:Def P w K mg base CX0 9 "judged" ["battle","side","worth","paper"] zp2):FnOk P w K mg base CX0 11 f fd ["_law_left_here","_law_battle_here","_law_side","_law_worth","_law_paper"] zd5:=by
 refine F.ok zg0 (fun vs H Q E h=>by unfold zd5 at h;obtain⟨_,_,_,_,_,_,_,_,_,_,_,_,_,_,_,_,_,_,_,_,rfl,_⟩:=h;rfl) fun _ _ _ s H vs Q E hr h=>?_
 unfold zd5 at h
 obtain⟨H0,a,bt,l,w,p,st,tb,ps,b,n,m,sd,fs,w0,w1,rs,xss,qs,T,rfl,s0,hL,hb,B,O,D,⟨hw,nwa⟩,b0,b1,PA,PP,VN,q⟩:=h
 have hu:=hu40 hr
 have gb:=PP.gb
 have f1:=PP.f1
 have w1':=PP.w1
 have qsl:=PA.tab.len
 obtain⟨oa,ea⟩:=hL.some
 have PN:=PA.same (zu6 _ _)
 have LH:=hL.same s0
 refine⟨_,(za3 (psIf (ptC zaz4 (pD zcs7 hr zb3 (za0 (pq 1) (za0 (za7 (K:=K) rfl (zg3 (za0 ze1 (za0 ze1 za1))) (pq 2)) (za0 (pq 3) (za0 (pq 4) za1))))) zv0) (za4 (za9 zs9)) zb2)
   (za3 (psS (i:=5) zg0.nd (pD zcq2 hr zb3 (za0 (pq 0) (za0 (pB (zf7 (K:=K) rfl) N.len_ zd2 (za0 (za7 (K:=K) rfl (pq 4) za2) za1)) za1))))
   (za3 (psS (i:=6) zg0.nd (pD zcq2 hr zb3 (za0 (pq 0) (za0 (pB (zf7 (K:=K) rfl) N.len_ zd2 (za0 (za7 (K:=K) rfl (za7 (K:=K) rfl (pq 4) za2) (pq 5)) za1)) za1))))
   (za3 (zu9 (zb4 oAdd (za7 (K:=K) rfl (za7 (K:=K) rfl (za7 (K:=K) rfl (pq 4) za2) (pq 5)) (pq 6)) (za7 (K:=K) rfl (zg3 (za0 za2 (za0 (zv6 uNeg za2) za1))) (pD zcq2 hr zb3 (za0 (pq 0) (za0 za2 za1))))) (zam1 (za7 (K:=K) rfl (za7 (K:=K) rfl (pq 4) za2) (pq 5)) (pq 6) setM))
   (za3 (psS (i:=7) zg0.nd (pD zcq9 hr zb3 (za0 (pq 1) (za0 (pq 2) (za0 (pq 3) (za0 (pD zcq5 hr zb3 (za0 (pq 4) za1)) za1))))))
   (za4 (za9 (peC (zn6 (K:=K) rfl (by exact hu)) (pD zcs7 hr zb3 (za0 (pq 1) (za0 (za7 (K:=K) rfl (zg3 (za0 ze1 (za0 ze1 za1))) (pq 2)) (za0 (pq 3) (za0 (pq 4) za1))))) (pq 7))))))))),?_⟩
 refine zc3 (fun l1 H1 g1 s1 k1=>?_)
 refine zb0 (v:=.str (wd sd)) k1 (by cases sd<;>rfl) ?_
 have s01:=s0.trans s1
 refine zai1 ((B.same (zt4 a H0)).same s01) O D (s01 _ _ hw) b0 b1 (zaz5 (PN.same s1)) (gb.up (zcx3 _) (by decide)) (fun rv res H2 s2 R2 V2=>?_)
 obtain rfl:=V2.one VN
 cases R2
 ac_nf
 first|refine zb9 (br_T ?_)|refine zb9 (zk2 rfl ?_)|refine br_F ?_
 have s12:=s1.trans s2
 have PN2:=PN.same s12
 refine zb1 (v:=.ref tb) PN2.out rfl ?_
 refine zc5 PN2.tab.out ?_
 rw[zcv8,qsl]
 refine zc6 (LH.same s12) (by rfl') (by rfl') (by rfl') (fun kd H3 kd0 kd1 c3 L3=>?_)
 obtain⟨k,rfl⟩:∃ i:Nat,kd=i:=⟨kd.toNat,by rfl'⟩
 obtain⟨qk,eqk⟩:∃ r,qs[k]?=some r:=⟨_,zcv7 (by rfl')⟩
 have atk:atI (qs.map V.ref) (k:Int)=some (.ref qk):=zc1 (by rw[zcw0,eqk];rfl)
 have hqk:H0 qk=none:=(zu3 (PA.tab.row k qk eqk)).1
 have k3:Same (nw H0 H) (nw H0 H3):=(zaz8 s12).trans (zbv6 ea c3)
 have PN3:=(PA.same k3).same (zu6 _ _)
 have c03:Chg a H0 H3:=((s0.trans s12).toChg).trans c3
 refine zb1 (v:=.ref tb) PN3.out rfl ?_
 refine zb0 (v:=.ref qk) PN3.tab.out atk ?_
 refine zc5 (PN3.tab.row k qk eqk) ?_
 rw[zd3]
 refine zc6 L3 (by rfl') (by rfl') (by rfl') (fun cd H4 cd0 cd1 c4 L4=>?_)
 obtain⟨c,rfl⟩:∃ i:Nat,cd=i:=⟨cd.toNat,by rfl'⟩
 have k4:=k3.trans (zbv6 ea c4)
 have PN4:=(PA.same k4).same (zu6 _ _)
 have tkc:=PP.tb k c (by rfl') (by rfl')
 refine zb1 (v:=.ref tb) PN4.out rfl ?_
 refine zb0 (v:=.ref qk) PN4.tab.out atk ?_
 refine zb0 (v:=.int (T k c)) (PN4.tab.row k qk eqk) (zc1 (ze5 (by rfl'))) ?_
 refine zc3 (fun l5 H5 g5 s5 k5=>?_)
 refine zc6 (L4.same s5) (by rfl') (by rfl') (by rfl') (fun d6 H6 d60 d61 c6 L6=>?_)
 refine zi3 (c6 _ _ (L4.ne g5) k5) (by rfl') (by simp only[zcx5,zcz1];omega) ?_
 intro v hv
 obtain⟨e,rfl,e0,e1⟩:∃ x:Int,v=.int x/\-1<=x/\x<=1:=by
  simp only[zcw8,zcx9,or_false] at hv
  rcases hv with rfl|rfl<;>exact⟨_,rfl,by decide,by decide⟩
 clear hv
 have k6:=(k4.trans (zaz8 s5)).trans (zbv6 ea c6)
 have PN6:=(PA.same k6).same (zu6 _ _)
 have c06:Chg a H0 H6:=((c03.trans c4).same s5).trans c6
 refine zb1 (v:=.ref tb) PN6.out rfl ?_
 refine zb0 (v:=.ref qk) PN6.tab.out atk ?_
 refine zan3 (PN6.tab.row k qk eqk) (zbq0 (by rfl') (by rw[zd3];omega)) (fun H7 c7 h7=>?_)
 have c07:Chg a H0 H7:=fun b o z e=>c7 _ _ (za6 e hqk) (c06 _ _ z e)
 obtain⟨d,hd,gd⟩:Gd H7 4 (.ref p):=Gd.set (PN6.tab.row k qk eqk) c7 h7 (by rw[List.length_set,zd3];omega) (fun y hy=>by
  rcases List.mem_or_eq_of_mem_set hy with hy|rfl
  ·exact PP.rowint (k:=k) (by rfl') y hy
  ·exact Gd.int _ _ (by rfl') (by rfl')) gb (zaz5 PN6)
 have gd8:GB 18 8 d:=gd.up (zcx3 _) (by decide)
 have od:=gd8.ok (by decide)
 have B7:zj2 H7 bt l ps n m fs:=B.same fun b o z=>c07 b o (zae0 z).1 (zae0 z).2
 have hw7:=c07 _ _ nwa hw
 refine zag1 hd od.1 od.2.2 (fun hv H8 s8 N8=>?_)
 refine zam4 (B7.same s8) O D (s8 _ _ hw7) b0 b1 (N8.same (zu6 _ _)) gd8 (fun rv1 res1 H9 s9 R9 V9=>?_)
 refine zc3 (fun l10 H10 g10 s10 k10=>?_)
 refine zb0 (v:=.str (wd sd)) k10 (by cases sd<;>rfl) ?_
 have s710:=(s8.trans s9).trans s10
 refine zai1 (B7.same s710) O D (s710 _ _ hw7) b0 b1 (hd.same s710) gd8 (fun rv2 res2 H11 s11 R11 V11=>?_)
 obtain rfl:=V11.one V9
 refine zcm4 R11 (R9.same (s10.trans s11)) V9.ok (by decide) ?_
 ac_nf
 exact q H11 (c07.same (s710.trans s11))
noncomputable def spLaw(K:zcw2):Sp:=fun vs H Q _=>∃ (a:Addr) (ns:List Int),vs=[.ref a]/\SqL K H a (ns.map V.int)/\ns.length<=63/\∀ H',Q (.bl true) H'
theorem zaz1{ns:List Int}(h:ns.length<=63):[V.int 0].length+(cutV (ns.map V.int) none (some 30)).length<=sizeLine:=by
 rw[zah6 (by decide),zda3,zcv8,zdf5,zcy4];omega
theorem zav7{ns:List Int}{x:V}(h:([V.int 0]++cutV (ns.map V.int) none (some 30))[i]?=some x):∃ z,x=.int z:=by
 rw[zah6 (by decide)] at h
 rcases zcy1.mp (zcw3 h) with h|h
 ·exact⟨0,by simpa using h⟩
 ·obtain⟨z,_,rfl⟩:=zcx0.mp (zdd5 h)
  exact⟨z,rfl⟩
theorem zbw3{fs:List Fd}{k:Nat}(hk:k<fs.length):∀ x∈bndS (fun k=>dueS sd (fs.getD k (.more 0 0)) (xss.getD k [])) (fun k=>tabR sd ((zh5 sd fs xss).drop k)) fs.length k c,zk1 sd (tabR sd ((zh5 sd fs xss).drop k) c) x=true:=fun x hx=>by
 rw[zbh3 hk (fun _ _=>rfl)] at hx
 rw[zau5,(zbu7 sd (zbr1 (sd:=sd) (xss:=xss) hk) c).1]
 exact zak6 sd x hx
theorem zcf3(sd:Bool)(t b:Int):zk1 sd (lowT t b*b) (t*lowB t b)=true:=by
 rw[zau5,zbt1]
 unfold leS
 split<;>exact Int.le_refl _
theorem zbw2(F W:Nat)(T:Nat->Nat->Int):tabD F W (zaa0 F W T)=true:=by
 show (decide ((((List.range F).map fun x=>rowN W (T x)).length:Int)=F)&&((List.range F).map fun x=>rowN W (T x)).all (zj8 W))=true
 rw[decide_eq_true (by rw[zcv8,zcx6]),zcz7,zcx2]
 intro x hx
 obtain⟨k,_,rfl⟩:=zcx0.mp hx
 show (decide ((((List.range W).map fun y=>PyData.int (T k y)).length:Int)=W)&&((List.range W).map fun y=>PyData.int (T k y)).all isW)=true
 rw[decide_eq_true (by rw[zcv8,zcx6]),zcz7,zcx2]
 intro x hx
 obtain⟨c,_,rfl⟩:=zcx0.mp hx
 rfl
theorem zae7{k:Nat}(hk:k<F)(hc:c<W):tabT (zaa0 F W T) k c=T k c:=by
 unfold tabT zaa0
 show intD ((zc2 (((List.range F).map fun x=>rowN W (T x)).getD k .none)).getD c .none)=_
 have e1:((List.range F).map fun x=>rowN W (T x)).getD k .none=rowN W (T k):=getD_some (by rw[zcw0,zda5 hk];rfl)
 have e2:((List.range W).map fun y=>PyData.int (T k y)).getD c .none=.int (T k c):=getD_some (by rw[zcw0,zda5 hc];rfl)
 rw[e1]
 show intD (((List.range W).map fun y=>PyData.int (T k y)).getD c .none)=_
 rw[e2]
 rfl
theorem zbf1(xss:List (List (Int×Int×Int)))(F W:Nat)(T:Nat->Nat->Int):xsD (papN xss F W T)=xss:=by
 show (xss.map zg8).map rowF=xss
 rw[zcz3]
 exact (zcy9 fun x _=>zw8 x).trans (List.map_id _)
theorem zco4{n:Nat}{fs:List Fd}(h1:1<=fs.length)(O:OkS ms (ownH sd n m:Nat) fs.length)(S:zbc7 ms fs.length xss):zl8 sd n m fs (lowT (tabR sd ((zh5 sd fs xss).drop 0) (othH sd n m)) (zo3 ms)) (lowB (tabR sd ((zh5 sd fs xss).drop 0) (othH sd n m)) (zo3 ms)) (papN xss fs.length (othH sd n m+1) (fun k=>tabR sd ((zh5 sd fs xss).drop k))) .none:=by
 have xl:=S.1
 have fe:zp8 (ownH sd n m) fs.length (othH sd n m+1:Nat) (papN xss fs.length (othH sd n m+1) (fun k=>tabR sd ((zh5 sd fs xss).drop k)))=none:=by
  show (if zd4 (ownH sd n m) fs.length (stmD xss)=true then (if tabD fs.length (othH sd n m+1:Nat) (zaa0 fs.length (othH sd n m+1) (fun k=>tabR sd ((zh5 sd fs xss).drop k)))=true then none else some ("table":Str)) else some ("stream":Str))=none
  rw[if_pos (zcj3 O S),if_pos (zbw2 _ _ _)]
 have ka:zs1 sd n m fs (xsD (papN xss fs.length (othH sd n m+1) (fun k=>tabR sd ((zh5 sd fs xss).drop k)))) (tbD (papN xss fs.length (othH sd n m+1) (fun k=>tabR sd ((zh5 sd fs xss).drop k)))):=by
  rw[zbf1]
  intro k c hk hc
  show ∀ x∈bndS (fun k=>dueS sd (fs.getD k (.more 0 0)) (xss.getD k [])) (tabT (zaa0 fs.length (othH sd n m+1) (fun k=>tabR sd ((zh5 sd fs xss).drop k)))) fs.length k c,zk1 sd (tabT (zaa0 fs.length (othH sd n m+1) (fun k=>tabR sd ((zh5 sd fs xss).drop k))) k c) x=true
  rw[zae7 hk (by rfl')]
  have e:bndS (fun k=>dueS sd (fs.getD k (.more 0 0)) (xss.getD k [])) (tabT (zaa0 fs.length (othH sd n m+1) (fun k=>tabR sd ((zh5 sd fs xss).drop k)))) fs.length k c=bndS (fun k=>dueS sd (fs.getD k (.more 0 0)) (xss.getD k [])) (fun k=>tabR sd ((zh5 sd fs xss).drop k)) fs.length k c:=by
   unfold bndS
   by_cases h:k+1<fs.length
   ·rw[if_pos h,if_pos h]
    exact zcy9 fun s hs=>by rw[zae7 h (by rfl')]
   ·rw[if_neg h,if_neg h]
  rw[e]
  exact zbw3 hk
 have v:=zbe5 (w0:=lowT (tabR sd ((zh5 sd fs xss).drop 0) (othH sd n m)) (zo3 ms)) (w1:=lowB (tabR sd ((zh5 sd fs xss).drop 0) (othH sd n m)) (zo3 ms)) fe ka
 rw[zbf1] at v
 obtain⟨x0,ex0⟩:∃ x,xss[0]?=some x:=⟨_,zcv7 (by rfl')⟩
 rw[show xss.getD 0 []=x0 by rw[zcw1,ex0];rfl,zab6 O (by rfl') (S.2 0 x0 ex0).1] at v
 rw[show tbD (papN xss fs.length (othH sd n m+1) (fun k=>tabR sd ((zh5 sd fs xss).drop k))) 0 (othH sd n m)=tabR sd ((zh5 sd fs xss).drop 0) (othH sd n m) from zae7 (by rfl') (by rfl'),zcf3,if_pos rfl] at v
 exact v
theorem pb_own{n:Nat}{fs:List Fd}(h1:1<=fs.length/\fs.length<=5)(hn:ownH sd n m<=10/\othH sd n m<=10)(O:OkS ms (ownH sd n m:Nat) fs.length)(hl:ms.length<=5)(hw:∀ x∈ms,x.2<=10 ^ 40)(S:zbc7 ms fs.length xss)(ok:∀ f∈fs,f.Ok)(bd:∀ f∈fs,f.Bd n m):PB xss fs.length (othH sd n m+1) (fun k=>tabR sd ((zh5 sd fs xss).drop k)):=by
 have xl:=S.1
 refine⟨xl,h1,⟨by rfl',by rfl'⟩,fun xs hx=>?_,fun k c hk hc=>?_⟩
 ·obtain⟨i,ei⟩:=zcx8 hx
  have hi:=(zcv9.mp ei).1
  obtain⟨R,l⟩:=S.2 i xs ei
  have str:=(zm9 (ds:=xss.map zg8) (zcj3 O S)).2.2.1 i (by rw[zcv8];exact hi)
  rw[zcw1,zcw0,ei] at str
  obtain⟨es,e,h0,rd,hb⟩:=zt3 (d:=zg8 xs) str
  have rd:=(zaz7 rd).2
  rw[zw8] at hb rd
  have el:es.length=xs.length:=by
   have e:PyData.list (xs.map zu1)=.list es:=e
   cases e
   rw[zcv8]
  have rw_:=zab6 O (by rfl') R
  have wb:=zaq0 O hl hw
  refine⟨⟨by rfl',by rfl'⟩,fun z hz=>?_⟩
  have a1:=hb z hz
  have a2:=rd z hz
  have m2:z.2.2<=zo3 ms:=by
   rw[← rw_]
   exact (zk3 (ns:=xs.map fun z=>z.2.2) (fun y hy=>by
    obtain⟨z',hz',rfl⟩:=zcx0.mp hy
    have:=rd z' hz'
    omega)).1 _ (zcx0.mpr ⟨z,hz,rfl⟩)
  exact⟨⟨by rfl',by rfl'⟩,⟨by rfl',by rfl'⟩,by rfl',by rfl'⟩
 ·have t:=zch6 (sd:=sd) (C:=othH sd n m) (B:=10 ^ 70) (by decide) (ds:=(zh5 sd fs xss).drop k) (fun d hd c hc=>by
   have hd:=zdc2 hd
   unfold zh5 at hd
   obtain⟨k,hk,rfl⟩:=zcx0.mp hd
   have hk:=zcy0.mp hk
   have g1:fs.getD k (.more 0 0)∈fs:=by rw[zcw1,zcv7 hk];exact zdb0 _
   have g2:xss[k]?=some (xss.getD k []):=by rw[zcw1,zcv7 (by rfl')];rfl
   exact due_bd O hl hw (ok _ g1) (bd _ g1) hk (S.2 k _ g2).1 hc) c (by rfl')
  rw[zda4,zaq2] at t
  have:((fs.length - k:Nat):Int)*10 ^ 70<=5*10 ^ 70:=zda8 (by rfl') (by decide)
  exact⟨by rfl',by rfl'⟩
theorem zl8.kind{n:Nat}{fs:List Fd}{w1:Int}{d r:PyData}(h:zl8 sd n m fs w0 w1 d r):r=.none∨∃ ds,r=.tuple ds/\ds.length<=3/\∀ x∈ds,isD "bool" x=false:=by
 unfold zl8 at h
 have one:∀ x:Str,∃ ds,PyData.tuple [.str x]=.tuple ds/\ds.length<=3/\∀ x∈ds,isD "bool" x=false:=fun x=>⟨_,rfl,by simp,fun y hy=>by rw[zcz6.mp hy];rfl⟩
 cases e:zp8 (ownH sd n m) fs.length (othH sd n m+1:Nat) d with
 | some x=>
  rw[e] at h
  have h:r=.tuple [.str x]:=h
  rw[h]
  exact .inr (one _)
 | none=>
  rw[e] at h
  rcases h with ⟨i,c,hb,rfl⟩|⟨ha,rfl⟩
  ·refine .inr ⟨_,rfl,by simp,fun y hy=>?_⟩
   simp only[zcw8,zcx9,or_false] at hy
   rcases hy with rfl|rfl|rfl<;>rfl
  ·split
   ·exact .inl rfl
   ·exact .inr (one _)
theorem zaz6:∀ l:List Nat,inV (.bl true) (l.map fun _=>V.bl false)=false/\(l.map fun _=>V.bl false).all zs0=true
 | []=>⟨rfl,rfl⟩
 | _ :: l=>by
  have ih:=zaz6 l
  constructor
  ·show (eqV (.bl false) (.bl true) || inV (.bl true) (l.map fun _=>V.bl false))=false
   rw[ih.1];rfl
  ·show (zs0 (.bl false)&&(l.map fun _=>V.bl false).all zs0)=true
   rw[ih.2];rfl
theorem ok_law(F:Fun K "law" "law" zbe7 f fd)(N:Nm mg)(zcr0:Def P w K mg base CX0 11 "_law_asked_changed" ["_law_left_here","_law_battle_here","_law_side","_law_worth","_law_paper"] zd5)(zcs8:Def P w K mg base CX0 5 "_law_battle" ["_law_left_here","_law_most","_law_fields"] zi0)(zcu1:Def P w K mg base CX0 4 "_law_bent" ["_law_left_here","_law_worth","_law_mix_here","_law_paper"] zk9)(zcq5:Def P w K mg base CX0 10 "_law_deep" ["_law_thing"] zk4)(zcq2:Def P w K mg base CX0 2 "_law_draw" ["_law_left_here","_law_base"] zc9)(zcr3:Def P w K mg base CX0 1 "_law_flows" ["_law_mix_here"] zh0)(zcq9:Def P w K mg base CX0 4 "_law_judged" ["_law_battle_here","_law_side","_law_worth","_law_paper"] zg2)(zcu2:Def P w K mg base CX0 2 "_law_left" ["_law_script","_law_k"] zk7)(zcu8:Def P w K mg base CX0 4 "_law_lot" ["_law_left_here","_law_hosts","_law_many"] zm2)(zcq8:Def P w K mg base CX0 1 "_law_lowest" ["_law_top","_law_bottom"] zg4)(zct0:Def P w K mg base CX0 3 "_law_table" ["_law_battle_here","_law_side","_law_stream"] zj5)(zcs7:Def P w K mg base CX0 9 "judged" ["battle","side","worth","paper"] zp2):FnOk P w K mg base CX0 12 f fd ["_law_script"] (spLaw K):=by
 refine F.ok zn4 (fun vs H Q E h=>by obtain⟨n,k,rfl,_⟩:=h;rfl) fun _ _ _ s H vs Q E hr h=>?_
 obtain⟨a,ns0,rfl,hS,hlen,k⟩:=h
 have hu:=hu40 hr
 refine⟨_,(za3 (zp5 PassesOwn.never rfl (ze4 (K:=K) rfl (zb4 oAdd (zg3 (za0 za2 za1)) (zg1 (slXK (K:=K) rfl) (pq 0) zi8 (zn5 za2)))) (za5 (i:=1) zn4.nd rfl (by eq_refl)) (za3 (psS (i:=2) zn4.nd (pD zcu2 hr zb3 (za0 (zg3 (za0 (pq 1) za1)) (za0 za2 za1))))
   (za3 (psS (i:=3) zn4.nd (pD zcs8 hr zb3 (za0 (pq 2) (za0 (za7 (K:=K) rfl (zg3 (za0 za2 (za0 za2 za1))) (pD zcq2 hr zb3 (za0 (pq 2) (za0 za2 za1)))) (za0 za2 za1)))))
   (za3 (psS (i:=4) zn4.nd (pD zcq2 hr zb3 (za0 (pq 2) (za0 za2 za1))))
   (za3 (psS (i:=5) zn4.nd (pD zcu8 hr zb3 (za0 (pq 2) (za0 (za7 (K:=K) rfl (pq 3) (pq 4)) (za0 (pB (zf7 (K:=K) rfl) N.len_ zd2 (za0 (za7 (K:=K) rfl (pq 3) za2) za1)) za1)))))
   (za3 (psS (i:=6) zn4.nd (pD zcr3 hr zb3 (za0 (pq 5) za1)))
   (za3 (psS (i:=7) zn4.nd (pD zct0 hr zb3 (za0 (pq 3) (za0 (pq 4) (za0 (pq 6) za1)))))
   (za3 (psS (i:=8) zn4.nd (pD zcq8 hr zb3 (za0 (za7 (K:=K) rfl (za7 (K:=K) rfl (pq 7) za2) (zv6 uNeg za2)) (za0 (pB (zbm4 (K:=K) rfl rfl) N.sum_ zan1 (za0 (ze8 (N:=["_law_part"]) (ks:=[none]) (ze4 (K:=K) rfl (za7 (K:=K) rfl (pq 6) za2)) (fun _ _ _ _ _=>(za5 (i:=0) nb_30 rfl (by eq_refl))) (fun _ _ _ _ _=>zc7) (fun _ _ _ _ _=>(za7 (K:=K) rfl (pq 0) za2)) (.skip .nil)) za1)) za1))))
   (za3 (zp5 PassesOwn.never rfl (zl6 N.range_ (za0 za2 za1)) (za5 (i:=9) zn4.nd rfl (by eq_refl)) (za3 (psPar (i:=10) (j:=11) rfl zn4.nd rfl rfl (by decide) rfl rfl (za0 (pq 8) (za0 (zf2 (za0 (pq 6) (za0 (pq 7) za1))) za1)) rfl)
   (za3 (psCut (psIf (ptC oGt (pq 9) za2) (za4 (zu9 (pD zcu1 hr zb3 (za0 (pq 2) (za0 (pq 8) (za0 (pq 5) (za0 (pq 11) za1))))) (zi6 (K:=K) (n:=2) rfl rfl (zb7 (za5 (i:=10) zn4.nd rfl (by eq_refl)) (zb7 (za5 (i:=11) zn4.nd rfl (by eq_refl)) zj0))))) zb2))
   (za3 (psS (i:=12) zn4.nd (pq 4))
   (za3 (psCut (psIf (ptW (zaf6 (ptC (zn6 (K:=K) rfl (by exact hu)) (pq 9) za2) (zo1 (ptC (zn6 (K:=K) rfl (by exact hu)) (pD zcq2 hr zb3 (za0 (pq 2) (za0 za2 za1))) za2)))) (za4 (psS (i:=12) zn4.nd (zb4 oSub za2 (pq 4)))) zb2))
   (za3 (psS (i:=13) zn4.nd (zg3 (za0 (pD zcq5 hr zb3 (za0 (pq 3) za1)) (za0 (pD zcq5 hr zb3 (za0 (pq 11) za1)) za1))))
   (za3 (psS (i:=14) zn4.nd (pD zcs7 hr zb3 (za0 (za7 (K:=K) rfl (pq 13) za2) (za0 (za7 (K:=K) rfl (zg3 (za0 ze1 (za0 ze1 za1))) (pq 12)) (za0 (pq 10) (za0 (za7 (K:=K) rfl (pq 13) za2) za1))))))
   (za3 (psIf (ptW (pwOr (ptC (zac6 (K:=K) rfl (by exact hu)) (pq 14) (pD zcq9 hr zb3 (za0 (pq 3) (za0 (pq 12) (za0 (pq 10) (za0 (pq 11) za1)))))) (zo4 (ptC (zac6 (K:=K) rfl (by exact hu)) (pq 13) (zg3 (za0 (pq 3) (za0 (pq 11) za1))))))) (za4 (za9 zs9)) zb2)
   (za3 (psIf (ptW (zaf6 (ptC zaz4 (pq 14) zv0) (zo1 (zh6 (ptV (pB (zq2 (K:=K) rfl) N.isinstance_ zb8 (za0 (pq 14) (za0 (pTy N.tuple_ zp9) za1)))))))) (za4 (za9 zs9)) zb2)
   (za4 (psIf (ptW (zaf6 (ptC zaz4 (pq 14) zv0) (zo1 (ptC (oInK (K:=K) rfl) zs9 (ze8 (N:=["_law_one"]) (ks:=[none]) (ze4 (K:=K) rfl (pq 14)) (fun _ _ _ _ _=>(za5 (i:=0) nb_31 rfl (by eq_refl))) (fun _ _ _ _ _=>zc7) (fun _ _ _ _ _=>(pB (zq2 (K:=K) rfl) N.isinstance_ zb8 (za0 (pq 0) (za0 (pTy N.bool_ zba8) za1)))) (.skip .nil)))))) (za4 (za9 zs9)) zb2)))))))))))
   (za4 (psIf (zh6 (ptV (pD zcr0 hr zb3 (za0 (pq 2) (za0 (pq 3) (za0 (pq 4) (za0 (pq 8) (za0 (pD zcq5 hr zb3 (za0 (zf2 (za0 (pq 6) (za0 (pq 7) za1))) za1)) za1)))))))) (za4 (za9 zs9)) zb2)))))))))))
   (za4 (za9 zs9))),?_⟩
 refine zc3 (fun p1 H1 hf1 hs1 ha1=>?_)
 refine zq1 (hs1.seq hS) (fun p2 H2 hf2 hs2 ha2=>?_)
 refine zx5 (hs2 _ _ ha1) ha2 (zaz1 hlen) (fun p3 H3 hf3 hs3 ha3=>?_)
 refine zc4 ha3 ?_
 refine zn7 (xs:=[V.int 0]++cutV (ns0.map V.int) none (some 30)) (fun i σ H4=>∃ x1 x2 x3 x4 x5 x6 x7 x8 x9 x10 x11 x12 x13 x14:Option V,σ=[some (.ref a),x1,x2,x3,x4,x5,x6,x7,x8,x9,x10,x11,x12,x13,x14]/\Same H3 H4) ?_ ?_ ?_ ?_
 ·exact⟨_,_,_,_,_,_,_,_,_,_,_,_,_,_,rfl,Same.refl _⟩
 ·rintro i σ H4 _ ⟨_,_,_,_,_,_,_,_,_,_,_,_,_,_,_,h⟩
  exact SqL.of (h _ _ ha3)
 ·rintro i x σ H4 hi ⟨x1,x2,x3,x4,x5,x6,x7,x8,x9,x10,x11,x12,x13,x14,rfl,s4⟩
  obtain⟨z,rfl⟩:=zav7 hi
  refine zc3 (fun c5 H5 f5 s5 h5=>?_)
  refine zck1 h5 (fun pl H6 f6 s6 L6=>?_)
  have fpl:H3 pl=none:=(s4.trans s5).free f6
  have s36:Same H3 H6:=(s4.trans s5).trans s6
  refine zc3 (fun q7 H7 f7 s7 h7=>?_)
  refine zc6 (L6.same s7) (by rfl') (by rfl') (by rfl') (fun d8 H8 d80 d81 c8 L8=>?_)
  have h78:=c8 _ _ (L6.ne f7) h7
  refine zi3 h78 (by rfl') (by simp only[zcx5,zcz1];omega) ?_
  intro v hv
  obtain⟨t,rfl,ht⟩:∃ t:Nat,v=.int t/\t<=10:=by
   simp only[zcw8,zcx9,or_false] at hv
   rcases hv with rfl|rfl
   ·exact⟨4,rfl,by rfl'⟩
   ·exact⟨10,rfl,by rfl'⟩
  clear hv h78 h7
  have s38:Same H3 H8:=(s36.trans s7).chg fpl c8
  refine zas1 ht L8 (by rfl') (fun bt l ps n m fs H9 c9 L9 B9 O D=>?_)
  have s39:=s38.chg fpl c9
  have bl:=B9.len
  have o1:=O.1
  have o2:=O.2
  have oks:∀ f∈fs,f.Ok:=B9.oks
  refine zc6 L9 (by rfl') (by rfl') (by rfl') (fun d10 H10 d0 d1 c10 L10=>?_)
  obtain⟨sd,rfl⟩:∃ sd,d10=sdI sd:=by
   rcases (show d10=0∨d10=1 by rfl') with rfl|rfl
   ·exact⟨false,rfl⟩
   ·exact⟨true,rfl⟩
  have s310:=s39.chg fpl c10
  have B10:=B9.same (Chg.rm c10)
  have off:=zt4 pl
  obtain⟨ho,hown⟩:=zai7 O sd
  refine zb1 (v:=.int (ownH sd n m)) (off _ _ _ B10.out) (by cases sd<;>rfl) ?_
  refine zb1 (v:=.ref l) (off _ _ _ B10.out) rfl ?_
  refine zc5 (off _ _ _ B10.lst) ?_
  rw[zcv8,bl]
  refine lot_rd L10 (by rfl') (by rfl') (by rfl') (by rfl') (fun mx ts ms I1 fmx c1 L1 nmx M1 OF1 OF2 OS ml mw=>?_)
  have B1:=B10.same (Chg.rm c1)
  have s31:=s310.chg fpl c1
  obtain⟨o1',epl1⟩:=L1.some
  refine zbf9 (f:=fs.length) M1 OS.ne (by rfl') (by rfl') (fun x hx=>(OS.all x hx).2.1) (fun st rs xss I2 s2 S2 SI=>?_)
  have S2:StW (rm pl I2) st rs xss:=(S2.same (nw_rm epl1)).toW
  have B2:=B1.same (Same.rm (p:=pl) s2)
  have L2:=L1.same s2
  obtain⟨o2',epl2⟩:=L2.some
  have rowsOk:=zcb7 OS ml mw SI
  have xl:=SI.1
  have whb:=zaq0 OS ml mw
  refine zce5 (B2.same (off I2)) O D (S2.same (off I2)) xl (fun xs hx=>(rowsOk xs hx).1) (fun tb qs I3 s3 G3=>?_)
  have G3:=G3.same (nw_rm epl2)
  have S3:=S2.same (Same.rm (p:=pl) s3)
  have L3:=L2.same s3
  have PB0:=pb_own ⟨by rfl',by rfl'⟩ ⟨hown,ho⟩ OS ml mw SI oks D
  have VN:=zco4 (by rfl') OS SI
  generalize hT:(fun k=>tabR sd ((zh5 sd fs xss).drop k))=T at G3 PB0 VN
  rw[show tabR sd ((zh5 sd fs xss).drop 0) (othH sd n m)=T 0 (othH sd n m) by rw[← hT]] at VN
  clear hT
  have t0:=PB0.tb 0 (othH sd n m) (by rfl') (by rfl')
  obtain⟨q0,eq0,hq0⟩:=(G3.same (off I3)).some (i:=0) (by rfl')
  have sl:=S3.len
  obtain⟨r,er⟩:∃ r,rs[0]?=some r:=⟨_,zcv7 (by rfl')⟩
  obtain⟨xs,ex⟩:∃ r,xss[0]?=some r:=⟨_,zcv7 (by rfl')⟩
  have R:=(S3.row 0 r xs er ex).same (off I3)
  have rl:=R.len
  have xs64:=(PB0.rows xs (zcw3 ex)).1
  refine zb0 (v:=.ref q0) (off I3 _ _ G3.out) (zc1 (j:=0) (by rw[zcw0,eq0];rfl)) ?_
  refine zb0 (v:=.int (T 0 (othH sd n m))) hq0 (zar1 (n:=othH sd n m) (zd3 _ _) (ze5 (by rfl'))) ?_
  refine zb0 (v:=.ref r.1) (off I3 _ _ S3.out) (zc1 (j:=0) (by rw[zcw0,er];rfl)) ?_
  refine zc4 R.out ?_
  refine zk0 (n:=(r.2.map V.ref).length) (Wk.list (SqL.of R.out)) (by rw[zcv8,zdf5];omega) (fun j=>.int (xs.getD j (0,0,0)).2.2) (fun _=>true) (fun j σ=>∃ t:Option V,σ=[t]) ⟨none,rfl⟩ ?_ ?_
  ·rintro j x σ J R' S' hj sJ hx ⟨_,rfl⟩ kk _
   rw[zcw0] at hx
   obtain⟨b,eb,rfl⟩:=zcw4.mp hx
   obtain⟨y,ey⟩:∃ y,xs[j]?=some y:=⟨_,zcv7 (by have:=(zcv9.mp eb).1;omega)⟩
   rw[show xs.getD j (0,0,0)=y by rw[zcw1,ey];rfl] at kk
   refine br_T ?_
   refine zb1 (v:=.int y.2.2) (sJ _ _ (R.row j b y eb ey)) rfl ?_
   ac_nf
   exact kk rfl _ _ (Same.refl _) ⟨_,rfl⟩
  intro acc I5 f5' s5' h5'
  rw[ze6,zah0 (by rw[zcv8,rl])] at h5'
  refine zam7 h5' ?_
  rw[zab6 OS (by rfl') (SI.2 0 xs ex).1]
  refine zat6 (by rfl') (by rfl') (fun w I6 f6' s6' h6'=>?_)
  have wpos:0<lowB (T 0 (othH sd n m)) (zo3 ms):=zcc4 (by rfl')
  have lb0:=zbr8 (T 0 (othH sd n m)) (zo3 ms)
  have lb1:=zby5 (T 0 (othH sd n m)) (zo3 ms)
  generalize lowT (T 0 (othH sd n m)) (zo3 ms)=w0 at h6' lb0 VN
  generalize lowB (T 0 (othH sd n m)) (zo3 ms)=w1 at h6' lb1 wpos VN
  have wb0:-(10 ^ 90)<=w0/\w0<=10 ^ 90:=by rfl'
  have wb1:1<=w1/\w1<=10 ^ 50:=by rfl'
  have big:(10:Int) ^ 130<10 ^ 200:=by decide
  have W0:-(10 ^ 200)<w0/\w0<10 ^ 200:=by generalize (10:Int) ^ 200=N at big ⊢;omega
  have W1:-(10 ^ 200)<w1/\w1<10 ^ 200:=by generalize (10:Int) ^ 200=N at big ⊢;omega
  clear big lb0 lb1
  have s36':=s5'.trans s6'
  have s26:=s3.trans s36'
  have nwp:w≠pl:=(L3.same s5').ne f6'
  have B6:=B2.same (Same.rm (p:=pl) s26)
  have S6:=S3.same (Same.rm (p:=pl) s36')
  have G6:=G3.same (Same.rm (p:=pl) s36')
  have L6':=L3.same s36'
  have M6:=(M1.same s2).same s26
  have s3z:=(s31.trans s2).trans s26
  have mk:∀ x∈ms,x.1.length=fs.length/\(∀ n∈x.1,0<=n/\n<=40)/\1<=x.2/\x.2<=10 ^ 40:=fun x hx=>by
   obtain⟨nn,xl',xs',x1'⟩:=OS.all x hx
   exact⟨xl',fun y hy=>⟨nn y hy,by have:=(zk3 nn).1 y hy;omega⟩,x1',mw x hx⟩
  have mlen:1<=ms.length/\ms.length<=5:=⟨OS.ne,ml⟩
  clear h5' R rl hq0 L1 L2 L3 L8 L9 L10 c1 c9 c10 c8 s31 S2 S3 G3 B1 B2 B10 B9 SI OS ml mw rowsOk whb t0 s310 s39 s38 s36 h5 L6 M1 s2 s3 s26 s36' s5' s6' s4 s5 s6 s7
  generalize hb1:(0:Int)+1+10000+1+200=b1 at L6'
  have hb1:b1<=20000:=by rfl'
  refine ze2 (by decide) (by decide) (by decide) (by decide) ?_
  refine zf5 (fun j σ I=>∃ y9 y10 y11 y12 y13 y14:Option V,σ=[some (.ref a),some (.int z),some (.ref pl),some (.ref bt),some (.int (sdI sd)),some (.ref mx),some (.ref st),some (.ref tb),some (.ref w),y9,y10,y11,y12,y13,y14]/\Chg pl I6 I/\zc0 I pl (b1+30*j)) ?_ ?_ ?_
  ·exact⟨_,_,_,_,_,_,rfl,Chg.refl _ _,L6'.up (by rfl')⟩
  ·rintro j σ I hj ⟨y9,y10,y11,y12,y13,y14,rfl,cI,LI⟩
   have hj:j<4:=hj
   have kI:Same (rm pl I6) (rm pl I):=Chg.rm cI
   refine zb6 (fun pp J1 g1 y1 k1=>?_)
   have k61:Same (rm pl I6) (rm pl J1):=kI.trans (Same.rm y1)
   have c61:Chg pl I6 J1:=cI.same y1
   have PA:PapS (rm pl J1) pp st tb rs xss qs fs.length (othH sd n m+1) T:=⟨zi2 (LI.ne g1) k1,S6.same k61,G6.same k61⟩
   have LJ1:=LI.same y1
   refine zak4 (fun σ J=>∃ (cw:Addr) (pv:V) (c0 c1:Int),σ=[some (.ref a),some (.int z),some (.ref pl),some (.ref bt),some (.int (sdI sd)),some (.ref mx),some (.ref st),some (.ref tb),some (.ref w),some (.int (0+(j:Int))),some (.ref cw),some pv,y12,y13,y14]/\Chg pl I6 J/\zc0 J pl (b1+30*j+20)/\J cw=some (.tup [.int c0,.int c1])/\cw≠pl/\(-(10 ^ 200)<c0/\c0<10 ^ 200)/\(-(10 ^ 200)<c1/\c1<10 ^ 200)/\Gd (rm pl J) 4 pv) ?_ ?_
   ·ac_nf
    refine zc8 (fun h0=>?_) (fun h0=>?_)
    ·ac_nf
     refine zcn7 (f:=fs.length) LJ1 (by rfl') ⟨c61 _ _ nwp h6',nwp,wb0,wb1⟩ ⟨M6.chg c61 nmx OF1,nmx,OF1,mlen,⟨by rfl',by rfl'⟩,mk⟩ PA PB0 (fun rt cw pv c0 c1 J2 c2 L2 k2 kw ncw cb0 cb1 gp=>?_)
     refine zd8 k2 ?_
     ac_nf
     exact⟨cw,pv,c0,c1,rfl,c61.trans c2,L2,kw,ncw,cb0,cb1,gp⟩
    ·ac_nf
     exact⟨w,.ref pp,w0,w1,rfl,c61,LJ1.up (by rfl'),c61 _ _ nwp h6',nwp,W0,W1,PB0.papv PA⟩
   rintro σ J ⟨cw,pv,c0,c1,rfl,cJ,LJ,kw,ncw,cb0,cb1,gp⟩
   refine zak4 (fun σ J=>∃ (sa:Bool),σ=[some (.ref a),some (.int z),some (.ref pl),some (.ref bt),some (.int (sdI sd)),some (.ref mx),some (.ref st),some (.ref tb),some (.ref w),some (.int (0+(j:Int))),some (.ref cw),some pv,some (.int (sdI sa)),y13,y14]/\Chg pl I6 J/\zc0 J pl (b1+30*j+21)/\J cw=some (.tup [.int c0,.int c1])/\Gd (rm pl J) 4 pv) ?_ ?_
   ·ac_nf
    refine zc8 (fun h3=>?_) (fun h3=>?_)
    ·ac_nf
     refine zc6 LJ (by rfl') (by rfl') (by rfl') (fun d2 J2 d20 d21 c2 L2=>?_)
     refine zc8 (fun h4=>?_) (fun h4=>?_)
     ·ac_nf
      exact⟨!sd,by cases sd<;>rfl,cJ.trans c2,L2.up (by rfl'),c2 _ _ ncw kw,gp.same (Chg.rm c2)⟩
     ·ac_nf
      exact⟨sd,rfl,cJ.trans c2,L2.up (by rfl'),c2 _ _ ncw kw,gp.same (Chg.rm c2)⟩
    ·ac_nf
     refine br_F ?_
     ac_nf
     exact⟨sd,rfl,cJ,LJ.up (by rfl'),kw,gp⟩
   rintro σ J2 ⟨sa,rfl,cJ2,LJ2,kw2,d,hd,gd⟩
   have gd8:GB 18 8 d:=gd.up (zcx3 _) (by decide)
   have od:=gd8.ok (by decide)
   have hd2:=hd.same (off J2)
   have BJ:=(B6.same (Chg.rm cJ2)).same (off J2)
   have bok:=zcl8 O
   refine zag1 (zbc9 BJ) bok.1 (zda0 bok.2.2 (by decide)) (fun v3 J3 t3 N3=>?_)
   obtain⟨b',l',ps',rfl,B'⟩:=zco5 (N3.same (zu6 _ _)) oks
   refine zag1 (hd2.same t3) od.1 od.2.2 (fun v4 J4 t4 N4=>?_)
   have N4':=N4.same (zu6 _ _)
   refine zc3 (fun hn J5 g5 t5 k5=>?_)
   refine zb0 (v:=.ref b') k5 rfl ?_
   refine zc3 (fun ls J6 g6 t6 k6=>?_)
   refine zb0 (v:=.str (wd sa)) k6 (by cases sa<;>rfl) ?_
   have t24:=t3.trans t4
   have t46:=t5.trans t6
   have t26:=t24.trans t46
   refine zb0 (v:=v4) (t6 _ _ k5) rfl ?_
   refine zai1 ((B'.same t4).same t46) O D (t26 _ _ kw2) cb0 cb1 (N4'.same t46) gd8 (fun rv res J7 t7 R7 V7=>?_)
   have t27:=t26.trans t7
   refine zam4 (BJ.same t27) O D (t27 _ _ kw2) cb0 cb1 (hd2.same t27) gd8 (fun rv' res' J8 t8 R8 V8=>?_)
   obtain rfl:=V7.one V8
   have t28:=t27.trans t8
   refine zcg9 (R7.same t8) R8 V7.ok (by decide) ?_
   refine br_F ?_
   refine zc3 (fun hl J9 g9 t9 k9=>?_)
   have t29:=t28.trans t9
   have t49:=((t46.trans t7).trans t8).trans t9
   refine zcg9 (n:=9) (d:=.list [batN n m fs,d]) (.lst ((((t6.trans t7).trans t8).trans t9) _ _ k5) (.cons (zbc9 ((B'.same t4).same t49)) (.cons (N4'.same t49) .nil))) (.lst k9 (.cons (zbc9 (BJ.same t29)) (.cons (hd2.same t29) .nil))) (zcp0 (bok.up (by decide)) od) (by decide) ?_
   refine br_F ?_
   have RZ:=(R7.same t8).same t9
   have cZ:Chg pl I6 J9:=cJ2.same t29
   have LZ:=LJ2.same t29
   have vk:=V7.kind
   clear V7 V8 R7 R8 hd hd2 N4 N4' B' BJ
   rcases vk with rfl|⟨ds,rfl,dl,db⟩
   ·cases RZ
    ac_nf
    first|refine zb9 (br_T ?_)|refine zb9 (zk2 rfl ?_)|refine br_F ?_
    ac_nf
    first|refine br_F ?_|skip
    ac_nf
    first|refine zb9 (br_T ?_)|refine zb9 (zk2 rfl ?_)|refine br_F ?_
    ac_nf
    first|refine br_F ?_|skip
    ac_nf
    exact⟨_,_,_,_,_,_,rfl,cZ,LZ.up (by rfl')⟩
   ·cases RZ
    case tup tr xs' e' l'=>
    have ll:=l'.len
    ac_nf
    first|refine zb9 (zl7 (fun z=>by cases z) ?_)|refine zb9 (br_F ?_)
    refine zae5 e' ?_
    refine zb9 (br_T ?_)
    ac_nf
    first|refine zb9 (zl7 (fun z=>by cases z) ?_)|refine zb9 (br_F ?_)
    refine zas4 e' ?_
    refine zk0 (Wk.tup e') (by rw[zdf5];omega) (fun _=>.bl false) (fun _=>true) (fun j σ=>∃ t:Option V,σ=[t]) ⟨none,rfl⟩ ?_ ?_
    ·rintro j x σ J R' S' hj sJ hx ⟨_,rfl⟩ kk _
     obtain⟨dx,edx,hdx⟩:=l'.get j x hx
     refine br_T ?_
     refine zf9 (hdx.same sJ) (.inr (.inl rfl)) ?_
     rw[db dx (zcw3 edx)]
     ac_nf
     exact kk rfl _ _ (Same.refl _) ⟨_,rfl⟩
    intro acc J10 g10 t10 k10
    rw[ze6] at k10
    refine inL_rd (SqL.of k10) rfl (zaz6 _).2 ?_
    rw[(zaz6 _).1]
    refine br_F ?_
    ac_nf
    exact⟨_,_,_,_,_,_,rfl,cZ.same t10,(LZ.same t10).up (by rfl')⟩
  ·rintro σ I ⟨y9,y10,y11,y12,y13,y14,rfl,cI,LI⟩
   have kI:Same (rm pl I6) (rm pl I):=Chg.rm cI
   refine zb6 (fun pp J1 g1 y1 k1=>?_)
   have k61:Same (rm pl I6) (rm pl J1):=kI.trans (Same.rm y1)
   have c61:Chg pl I6 J1:=cI.same y1
   have PA:PapS (rm pl J1) pp st tb rs xss qs fs.length (othH sd n m+1) T:=⟨zi2 (LI.ne g1) k1,S6.same k61,G6.same k61⟩
   have pok:=PB0.gb.ok (by decide)
   refine zag1 (zaz5 (PA.same (off _))) pok.1 (zda0 pok.2.2 (by decide)) (fun v2 J2 y2 N2=>?_)
   obtain⟨p',st',tb',rs',qs',rfl,P'⟩:=zbn9 N2
   refine zce9 y2 (LI.same y1) (by rfl') (B6.same k61) O D ⟨c61 _ _ nwp h6',nwp⟩ W0 W1 P' PB0 VN (fun J3 c3=>?_)
   refine zb9 (br_T ?_)
   ac_nf
   exact⟨_,_,_,_,_,_,_,_,_,_,_,_,_,_,rfl,(s3z.chg fpl c61).chg fpl c3⟩
 ·rintro σ H4 ⟨_,_,_,_,_,_,_,_,_,_,_,_,_,_,rfl,_⟩
  exact k H4
end
abbrev FA(K:zcw2)(x:Str)(st:Stmt):Prop:=∃ (f:Addr) (od an:Option Addr) (sl:Array (Option Value)) (oc kV dc pm cd ct:Value),zda7 K zdf9 x=some (some (.ref f))/\K.lookup f=some ⟨oc,od,.func (zdc9 x x (zt9 st) (zr0 st) (za8 st) .none kV dc pm an cd ct),sl⟩/\PySem.W.codeIn K cd x=true/\zdd4 K (.ref f)=true
theorem FA.of{K:zcw2}{x:Str}{st:Stmt}{od an:Option Addr}{sl:Array (Option Value)}{oc kV dc pm cd ct:Value}(a:zda7 K zdf9 x=some (some (.ref f)))(l:K.lookup f=some ⟨oc,od,.func (zdc9 x x (zt9 st) (zr0 st) (za8 st) .none kV dc pm an cd ct),sl⟩)(c:PySem.W.codeIn K cd x=true)(k:zdd4 K (.ref f)=true):FA K x st:=⟨_,_,_,_,_,_,_,_,_,_,a,l,c,k⟩
structure Ev(P:Program)(w:World)(K:zcw2)(mg:Str->Option Value)(base h:Heap):Prop where
 x:K.In h
 g:h.Ns zdf9 mg
local macro_rules | `(tactic| walk_at "bd")=>`(tactic| (intro _ _ _ _ _ _ us hl;rcases us with _|⟨_,_|⟨_,_|⟨_,_|⟨_,_|⟨_,_|⟨_,_|⟨_,_⟩⟩⟩⟩⟩⟩⟩<;>first|rfl|exact Nat.noConfusion hl|cases hl))
section
variable {P:Program}{w:World}{K:zcw2}{mg:Str->Option Value}{base h:Heap}{CX:CXT}{k:Nat}{x:Str}{ps:List Str}{sp:Sp}{st:Stmt}
theorem Ev.r(E:Ev P w K mg base h)(A:FA K x st)(ok:∀ {f:Addr}{fd:FuncData},Fun K x x st f fd->mg x=some (.ref f)->zdd4 K (.ref f)=true->zau1 K fd ps []->FnOk P w K mg base CX k f fd ps sp)(b:∀ (kV doc pm:Value) (an:Option Addr) (cdv ct:Value) (us:List Value),us.length=ps.length->bindArgs (zdc9 x x (zt9 st) (zr0 st) (za8 st) .none kV doc pm an cdv ct) ⟨us,[]⟩=pure (ps.zip us):=by walk_at "bd"):Def P w K mg base CX k x ps sp:=by
 obtain⟨f,od,an,sl,oc,kV,dc,pm,cd,ct,a,l,c,k⟩:=A
 have F:=zci9 (st:=st) l c k
 have a:=PySem.W.mg_of E.x E.g a
 exact⟨⟨_,_,ok F a k (F.binds b),a,k,F.binds b⟩⟩
theorem Ev.d(E:Ev P w K mg base h)(A:FA K x st)(ok:∀ {f:Addr}{fd:FuncData},Fun K x x st f fd->FnOk P w K mg base CX k f fd ps sp)(b:∀ (kV doc pm:Value) (an:Option Addr) (cdv ct:Value) (us:List Value),us.length=ps.length->bindArgs (zdc9 x x (zt9 st) (zr0 st) (za8 st) .none kV doc pm an cdv ct) ⟨us,[]⟩=pure (ps.zip us):=by walk_at "bd"):Def P w K mg base CX k x ps sp:=E.r A (fun F _ _ _=>ok F) b
end
theorem all_mk{l:PySem.W.OpenLaw}{w:World}{K:zcw2}{h:Heap}{mg:Str->Option Value}{fa:Addr}(X:K.In h)(G:h.Ns zdf9 mg)(hfa:mg "law"=some (.ref fa)){zcs2:Tok}{zcr9:Tok}(e_MOST_HOSTS:zda7 K zdf9 "MOST_HOSTS"=some (some (.int 10 zcs2)))(e_MOST_FIELDS:zda7 K zdf9 "MOST_FIELDS"=some (some (.int 5 zcr9)))(A_0:FA K "is_whole" zae4)(A_1:FA K "is_from" zai8)(A_2:FA K "is_between" zv2)(A_3:FA K "are_hosts" zy4)(A_4:FA K "has_size" zad7)(A_5:FA K "is_table_row" zq7)(A_6:FA K "is_table" zae2)(A_7:FA K "is_field" zad8)(A_8:FA K "look_battle" zs3)(A_9:FA K "won" s_won)(A_10:FA K "is_flow" zaj4)(A_11:FA K "is_row" zas7)(A_12:FA K "begins" zaq4)(A_13:FA K "summed" zar5)(A_14:FA K "meets" zbd7)(A_15:FA K "is_stream" zz9)(A_16:FA K "whole_in" zad5)(A_17:FA K "look_side" zx9)(A_18:FA K "own_hosts" zy2)(A_19:FA K "other_hosts" zt1)(A_20:FA K "due" s_due)(A_21:FA K "row_dues" zae3)(A_22:FA K "dues" zbz8)(A_23:FA K "bounds" zao4)(A_24:FA K "keeps" zba1)(A_25:FA K "wrong_form" zw3)(A_26:FA K "wrong_number" zr3)(A_27:FA K "wrong_worth" zt5)(A_28:FA K "judged" zar8)(A_29:FA K "_law_mix" zac5)(A_30:FA K "_law_cell_at" zq6)(A_31:FA K "_law_left" zy8)(A_32:FA K "_law_draw" zz7)(A_33:FA K "_law_some" zy6)(A_34:FA K "_law_rule" zz0)(A_35:FA K "_law_battle" zt6)(A_36:FA K "_law_deep" zy3)(A_37:FA K "_law_paid" zy0)(A_38:FA K "_law_plan" zy5)(A_39:FA K "_law_flows" zw6)(A_40:FA K "_law_lot" zad0)(A_41:FA K "_law_beside" zs6)(A_42:FA K "_law_lowest" zs7)(A_43:FA K "_law_whole" zv7)(A_44:FA K "_law_is_row" zs4)(A_45:FA K "_law_is_stream" zo2)(A_46:FA K "_law_dues" zz1)(A_47:FA K "_law_comes" zw5)(A_48:FA K "_law_table" zv4)(A_49:FA K "_law_judged" zt0)(A_50:FA K "_law_bent_table" zm8)(A_51:FA K "_law_bent" zz6)(A_52:FA K "_law_asked_changed" zj9)(A_53:FA K "law" zbe7)(z_all:zda7 K zdf9 "all"=some none)(z_bool:zda7 K zdf9 "bool"=some none)(z_enumerate:zda7 K zdf9 "enumerate"=some none)(z_int:zda7 K zdf9 "int"=some none)(z_isinstance:zda7 K zdf9 "isinstance"=some none)(z_len:zda7 K zdf9 "len"=some none)(z_list:zda7 K zdf9 "list"=some none)(z_max:zda7 K zdf9 "max"=some none)(z_min:zda7 K zdf9 "min"=some none)(z_range:zda7 K zdf9 "range"=some none)(z_reversed:zda7 K zdf9 "reversed"=some none)(z_set:zda7 K zdf9 "set"=some none)(z_sorted:zda7 K zdf9 "sorted"=some none)(z_sum:zda7 K zdf9 "sum"=some none)(z_tuple:zda7 K zdf9 "tuple"=some none)(z_zip:zda7 K zdf9 "zip"=some none) :
  ∃ fd:FuncData,(∀ (s:Shared) (v:Value),BindsTo s fd ⟨[v],[]⟩ [("_law_script",v)])/\∀ base:Heap,K.In base->base.Ns zdf9 mg->FnOk l.prog w K mg base CX0 12 fa fd ["_law_script"] (spLaw K):=by
 obtain⟨_,_,an,_,_,kV,dc,pm,cd,ct,aL,lL,cL,kL⟩:=A_53
 have e:=hfa.symm.trans (PySem.W.mg_of X G aL)
 cases e
 have N:Nm mg:=⟨zda2 X G z_all,zda2 X G z_bool,zda2 X G z_enumerate,zda2 X G z_int,zda2 X G z_isinstance,zda2 X G z_len,zda2 X G z_list,zda2 X G z_max,zda2 X G z_min,zda2 X G z_range,zda2 X G z_reversed,zda2 X G z_set,zda2 X G z_sorted,zda2 X G z_sum,zda2 X G z_tuple,zda2 X G z_zip⟩
 have zcv4:=PySem.W.mg_of X G e_MOST_HOSTS
 have zcv3:=PySem.W.mg_of X G e_MOST_FIELDS
 refine⟨zdc9 "law" "law" (zt9 zbe7) (zr0 zbe7) (za8 zbe7) .none kV dc pm an cd ct,fun s v=>.of_eq rfl,fun base XB GB=>?_⟩
 have E:Ev l.prog w K mg base h:=⟨X,G⟩
 have zcq7:=E.d A_0 fun F=>zbe4 F N
 have zcq6:=E.d A_1 fun F=>zbk6 F N zcq7
 have zcq4:=E.d A_2 fun F=>zas8 F N zcq6
 have zct3:=E.d A_3 fun F=>zaw8 F N zcv4 zcq4
 have zcu3:=E.d A_4 fun F=>zaz9 F N zcv3 zct3
 have zcr8:=E.d A_5 fun F=>zak0 F N zcq7
 have zcr7:=E.d A_6 fun F=>zbb0 F N zcr8
 have zcu4:=E.d A_7 fun F=>zba6 F N zcq4 zcq6 zcr7 zcq7
 have zcs4:=E.d A_8 fun F=>zam0 F N zcu3 zcu4
 have D_won:=E.d A_9 fun F=>ok_won F N
 have zcv0:=E.d A_10 fun F=>zbl9 F N zcq4 zcq6
 have zct1:=E.d A_11 fun F=>zbz4 F N zcv0
 have zcv1:=E.d A_12 fun F=>zbq6 F N zct1
 have zcu9:=E.d A_13 fun F=>zbx5 F N
 have zcv5:=E.d A_14 fun F=>zca4 F N zcu9
 have zct6:=E.d A_15 fun F=>zaw7 F N zcv1 zct1 zcv5
 have zcu7:=E.d A_16 fun F=>zbe3 F N
 have zct8:=E.d A_17 fun F=>zat9 F N
 have zct7:=E.d A_18 fun F=>zav3 F N
 have zcq3:=E.d A_19 fun F=>zal2 F N
 have D_due:=E.d A_20 fun F=>ok_due F N D_won
 have zcu5:=E.d A_21 fun F=>zba7 F N D_due
 have zcv6:=E.d A_22 fun F=>zcp4 F N zcq3 zcu5
 have zcv2:=E.d A_23 fun F=>zbv1 F N
 have zcu6:=E.d A_24 fun F=>zce6 F N
 have zcs9:=E.d A_25 fun F=>zao9 F N zct6 zcr7 zcq3 zct7
 have zcs1:=E.d A_26 fun F=>zah4 F N zcv2 zcv6 zcu6
 have zcs5:=E.d A_27 fun F=>zal9 F N zcu6 zcq3 zcu7
 have zcs7:=E.d A_28 fun F=>zby1 F N zcs4 zct8 zcs9 zcs1 zcs5
 have zct2:=E.d A_29 fun F=>zbc1 F N
 have zcs0:=E.d A_30 fun F=>zak2 F N
 have zcu2:=E.d A_31 fun F=>zay4 F N zcs0
 have zcq2:=E.d A_32 fun F=>zat5 F N zct2
 have zct4:=E.d A_33 fun F=>zaw5 F N zcq2
 have zct5:=E.d A_34 fun F=>zau9 F N zcq2 zct4
 have zcs8:=E.d A_35 fun F=>zak8 F N zcq2 zct5
 have zcq5:=E.r A_36 fun F a b c=>zay9 F N a b c
 have zct9:=E.d A_37 fun F=>zau7 F N
 have zcu0:=E.d A_38 fun F=>zaw0 F N zcq2
 have zcr3:=E.d A_39 fun F=>zaq1 F N
 have zcu8:=E.d A_40 fun F=>zbb5 F N zcq2 zcu0
 have zcs6:=E.d A_41 fun F=>zal8 F N zcq2 zcr3
 have zcq8:=E.d A_42 fun F=>zal6 F N
 have zcr1:=E.d A_43 fun F=>zao2 F N
 have zcs3:=E.d A_44 fun F=>zal5 F N zcr1
 have zcr6:=E.d A_45 fun F=>zae1 F N zcs3
 have zcr4:=E.d A_46 fun F=>zav9 F N zct9
 have zcr2:=E.d A_47 fun F=>zap4 F N
 have zct0:=E.d A_48 fun F=>zaq9 F N zcr2 zcr4
 have zcq9:=E.d A_49 fun F=>zal1 F N zcr2 zcr4 zcr6 zcr1
 have zcr5:=E.d A_50 fun F=>zab8 F N zcq2
 have zcu1:=E.d A_51 fun F=>zav4 F N zcr5 zcs6 zcq2 zcq8
 have zcr0:=E.d A_52 fun F=>zw7 F N zcq5 zcq2 zcq9 zcs7
 exact ok_law (P:=l.prog) (w:=w) (base:=base) (zci9 (st:=zbe7) lL cL kL) N zcr0 zcs8 zcu1 zcq5 zcq2 zcr3 zcq9 zcu2 zcu8 zcq8 zct0 zcs7
theorem walk{l:PySem.W.OpenLaw}{q:Program}{loose:List Str}{XP:(Str->Option Value)->Heap->Prop}{YP:World->Heap->Prop}{d:DefRec}{K:Params->zcw2}(hn:l.most=some 63)(hdf:d.params.defaults=[])(hY:∀ (w:World) (h:Heap),YP w h->(K w.params).In h)(F:∀ (w:World) (mg:Str->Option Value) (fa:Addr) (h:Heap),(K w.params).In h->h.Ns zdf9 mg->mg d.name=some (.ref fa) ->
   ∃ fd:FuncData,(∀ (s:Shared) (u:Value),BindsTo s fd ⟨[u],[]⟩ [("_law_script",u)])/\∀ base:Heap,(K w.params).In base->base.Ns zdf9 mg->FnOk l.prog w (K w.params) mg base CX0 12 fa fd ["_law_script"] (spLaw (K w.params))) :
  PySem.W.WalkO q loose XP YP l.row.toRowW d [] (fun f vs=>PySem.call f vs):=
 L2.walk_of (n:=63) (k:=12) (x:="_law_script") (CX:=fun _=>CX0) (sp:=fun w=>spLaw (K w.params)) hn (by decide) hdf ⟨rfl,by decide,by decide,rfl⟩ hY F (fun _ _ a ns hl _ hS=>⟨a,ns,rfl,hS,hl,fun _=>rfl⟩) fun _ _ _ _ _ z=>z
end G
namespace PySem.W.Fast
theorem tw13529080846569640056:True:=⟨⟩
theorem tw11324492406546910384:True:=⟨⟩
theorem tw6889567609148151106:True:=⟨⟩
theorem tw7353819351830301369:True:=⟨⟩
theorem tw2865692058524538596:True:=⟨⟩
theorem tw10707488965790277258:True:=⟨⟩
theorem tw17883857289616101979:True:=⟨⟩
theorem tw7059908693921275187:True:=⟨⟩
theorem tw546018201518686432:True:=⟨⟩
theorem tw15018253118693323369:True:=⟨⟩
theorem tw18035305268735416584:True:=⟨⟩
theorem tw11849765699661593067:True:=⟨⟩
theorem tw15326979679026973641:True:=⟨⟩
theorem tw1939022240801470559:True:=⟨⟩
theorem tw17681013052770016520:True:=⟨⟩
theorem tw13510740518752377829:True:=⟨⟩
theorem tw4120287224310237147:True:=⟨⟩
theorem tw12577806304766141562:True:=⟨⟩
theorem tw4925636758915861852:True:=⟨⟩
theorem tw9835258194444706254:True:=⟨⟩
theorem tw3087218471670394175:True:=⟨⟩
theorem tw8767280387320271288:True:=⟨⟩
theorem tw16417445686227634806:True:=⟨⟩
theorem tw6279883589627239291:True:=⟨⟩
theorem tw11862128713108228152:True:=⟨⟩
theorem tw15679702959259446074:True:=⟨⟩
theorem tw2014070543307483838:True:=⟨⟩
theorem tw12720436380126237246:True:=⟨⟩
theorem tw17463666098487466915:True:=⟨⟩
theorem tw18229006685582576850:True:=⟨⟩
theorem tw3022245157200652117:True:=⟨⟩
theorem tw1526373692351106288:True:=⟨⟩
theorem tw3217673766153366386:True:=⟨⟩
theorem tw16757796270149286115:True:=⟨⟩
theorem tw3175183220732063356:True:=⟨⟩
theorem tw12162385823892839387:True:=⟨⟩
theorem tw2346545390861070138:True:=⟨⟩
theorem tw8747545706382296902:True:=⟨⟩
theorem tw7134978128196866759:True:=⟨⟩
theorem tw10800665533746865101:True:=⟨⟩
theorem tw13406592858710115456:True:=⟨⟩
theorem tw12746457680677261847:True:=⟨⟩
theorem tw6931471010145667353:True:=⟨⟩
theorem tw14178492633514474829:True:=⟨⟩
theorem tw9392684644452893723:True:=⟨⟩
theorem tw15697709035381423434:True:=⟨⟩
theorem tw17363598138231303880:True:=⟨⟩
theorem tw1179665857304508711:True:=⟨⟩
theorem tw2791314238131870307:True:=⟨⟩
theorem tw12557815528475199755:True:=⟨⟩
theorem tw15225616966618807466:True:=⟨⟩
theorem tw8143420079833680901:True:=⟨⟩
theorem tw16925437737027467174:True:=⟨⟩
theorem tw6340906833901629774:True:=⟨⟩
theorem tw9585456785904154290:True:=⟨⟩
theorem tw7880705605561565210:True:=⟨⟩
theorem tw3805426019138036496:True:=⟨⟩
theorem tw7412756866346481727:True:=⟨⟩
theorem tw12640462311863819590:True:=⟨⟩
theorem tw12381531468851767677:True:=⟨⟩
theorem tw5829366078886770530:True:=⟨⟩
theorem tw4564191507634797529:True:=⟨⟩
theorem tw4317876661234260300:True:=⟨⟩
theorem tw15857966996383241848:True:=⟨⟩
theorem tw541829871809403599:True:=⟨⟩
theorem tw10584183440387483474:True:=⟨⟩
theorem tw8807550562799034515:True:=⟨⟩
theorem tw7093165270684442795:True:=⟨⟩
theorem tw16494803209021397797:True:=⟨⟩
theorem tw13625707208058797753:True:=⟨⟩
theorem tw8484187640778109075:True:=⟨⟩
theorem tw10229683175981094012:True:=⟨⟩
theorem tw17185868403744628080:True:=⟨⟩
theorem tw4451703942044695488:True:=⟨⟩
theorem tw15786235839165031423:True:=⟨⟩
theorem tw13780953352518146945:True:=⟨⟩
theorem tw10490683122158483183:True:=⟨⟩
theorem tw6420596561375928537:True:=⟨⟩
theorem tw3420577873884572001:True:=⟨⟩
theorem tw3267242874602434914:True:=⟨⟩
theorem tw14361111490911751390:True:=⟨⟩
theorem tw3345854835661200352:True:=⟨⟩
theorem tw10081789067158748337:True:=⟨⟩
theorem tw17881439985312912529:True:=⟨⟩
theorem tw2895431418114917564:True:=⟨⟩
theorem tw7385017093434781096:True:=⟨⟩
theorem tw2268149427425316030:True:=⟨⟩
theorem tw7226498189541498408:True:=⟨⟩
theorem tw6640026438124941339:True:=⟨⟩
theorem tw11786844467770658136:True:=⟨⟩
theorem tw17715954684674929828:True:=⟨⟩
theorem tw7351961072762369316:True:=⟨⟩
theorem tw8293113153334349825:True:=⟨⟩
theorem tw2614427086195038433:True:=⟨⟩
theorem tw6828758888524695396:True:=⟨⟩
theorem tw3009507930275142369:True:=⟨⟩
theorem tw14680075819194115648:True:=⟨⟩
theorem tw4446857575225125572:True:=⟨⟩
theorem tw2741551114403382895:True:=⟨⟩
theorem tw10021543336912444754:True:=⟨⟩
theorem tw1808597701035021049:True:=⟨⟩
theorem tw11207539283984551426:True:=⟨⟩
theorem tw6256363079338797689:True:=⟨⟩
theorem tw17364917631819340480:True:=⟨⟩
theorem tw12356716942816003855:True:=⟨⟩
theorem tw16743583876550317669:True:=⟨⟩
theorem tw1887964245927739144:True:=⟨⟩
theorem tw17814073444919469341:True:=⟨⟩
theorem tw5877878001975301512:True:=⟨⟩
theorem tw5751044830234479678:True:=⟨⟩
theorem tw7787790090749322906:True:=⟨⟩
theorem tw14378489239997124713:True:=⟨⟩
theorem tw8403357004696951170:True:=⟨⟩
theorem tw2203829791288871287:True:=⟨⟩
theorem tw279996907583231068:True:=⟨⟩
theorem tw2865976482795739088:True:=⟨⟩
theorem tw3317231817945199248:True:=⟨⟩
theorem tw9300097491839507744:True:=⟨⟩
theorem tw10072290977860613375:True:=⟨⟩
theorem tw3337333897054595685:True:=⟨⟩
theorem tw10835772830393554603:True:=⟨⟩
theorem tw12523845567020571005:True:=⟨⟩
theorem tw7261157653874664145:True:=⟨⟩
theorem tw3823324997901652393:True:=⟨⟩
theorem tw5229871871002792226:True:=⟨⟩
theorem tw13993672933847597824:True:=⟨⟩
theorem tw9388577303775846301:True:=⟨⟩
theorem tw13293403759715226014:True:=⟨⟩
theorem tw489891678589484983:True:=⟨⟩
theorem tw15864231408765396729:True:=⟨⟩
theorem tw5225814060344821622:True:=⟨⟩
theorem tw3895638803339251019:True:=⟨⟩
theorem tw12753733216088140945:True:=⟨⟩
theorem tw13271685517179627137:True:=⟨⟩
theorem tw615853135647877154:True:=⟨⟩
theorem tw353254792211093049:True:=⟨⟩
theorem tw1491134227972729829:True:=⟨⟩
theorem tw11689963346941536136:True:=⟨⟩
theorem tw1832498517214101196:True:=⟨⟩
theorem tw18397647186193903569:True:=⟨⟩
theorem tw4847668993449888352:True:=⟨⟩
theorem tw4685444266592493681:True:=⟨⟩
theorem tw17189550070650726580:True:=⟨⟩
theorem tw8311133691327073558:True:=⟨⟩
theorem tw5603197643107936343:True:=⟨⟩
theorem tw9284154267549798895:True:=⟨⟩
theorem tw2839218254687573038:True:=⟨⟩
theorem tw13560251994399161123:True:=⟨⟩
theorem tw17417465584698947785:True:=⟨⟩
theorem tw2399876619901664288:True:=⟨⟩
theorem tw18336260331856126726:True:=⟨⟩
theorem tw5278231362708788698:True:=⟨⟩
theorem tw15671211608472091386:True:=⟨⟩
theorem tw9641897380586980159:True:=⟨⟩
theorem tw17030690573951607759:True:=⟨⟩
theorem tw3807031212866416141:True:=⟨⟩
theorem tw5799323216326200224:True:=⟨⟩
theorem tw16108509996280927933:True:=⟨⟩
theorem tw3204265030057861933:True:=⟨⟩
theorem tw7644681247638733439:True:=⟨⟩
theorem tw1899693673652519440:True:=⟨⟩
theorem tw7897009653557599857:True:=⟨⟩
theorem tw10023472399561765788:True:=⟨⟩
theorem tw9382928941239063279:True:=⟨⟩
theorem tw12120055831079214614:True:=⟨⟩
theorem tw6535472760698378684:True:=⟨⟩
theorem tw17073063647826952135:True:=⟨⟩
theorem tw14899351138714650279:True:=⟨⟩
theorem tw13186208843506188543:True:=⟨⟩
theorem tw7163897020885353445:True:=⟨⟩
theorem tw14165141298584173488:True:=⟨⟩
theorem tw11681051228876299142:True:=⟨⟩
theorem tw10850587018118072569:True:=⟨⟩
theorem tw5406477366152091179:True:=⟨⟩
theorem tw5785774204222177541:True:=⟨⟩
theorem tw17481465047050135446:True:=⟨⟩
theorem tw6562613620501254479:True:=⟨⟩
theorem tw11134283341649866207:True:=⟨⟩
theorem tw15461772957033071694:True:=⟨⟩
theorem tw17146023907179260626:True:=⟨⟩
theorem tw4051085650848994654:True:=⟨⟩
theorem tw3031278568124275413:True:=⟨⟩
theorem tw9086717136054757657:True:=⟨⟩
theorem tw7139866555960964187:True:=⟨⟩
theorem tw5742783933408077213:True:=⟨⟩
theorem tw12909339302765380422:True:=⟨⟩
theorem tw10765941285155688872:True:=⟨⟩
theorem tw5770767419720487188:True:=⟨⟩
theorem tw653399012221246053:True:=⟨⟩
theorem tw2561669637369123147:True:=⟨⟩
theorem tw5658730300300952314:True:=⟨⟩
theorem tw5288207459941174742:True:=⟨⟩
theorem tw4091755123502417856:True:=⟨⟩
theorem tw12039631405599880745:True:=⟨⟩
theorem tw9485774606507787757:True:=⟨⟩
theorem tw9255167005676790632:True:=⟨⟩
theorem tw15439952574895151138:True:=⟨⟩
theorem tw1466556408912234010:True:=⟨⟩
theorem tw4587594452190015156:True:=⟨⟩
theorem tw8857024708182869955:True:=⟨⟩
theorem tw1217012516182152603:True:=⟨⟩
theorem tw13754026459984060122:True:=⟨⟩
theorem tw7486611170367700660:True:=⟨⟩
theorem tw2142071424430670680:True:=⟨⟩
theorem tw8065852528470938155:True:=⟨⟩
theorem tw2995955990184317076:True:=⟨⟩
theorem tw15622858115251821005:True:=⟨⟩
theorem tw9957544249259007068:True:=⟨⟩
theorem tw9454245647692118287:True:=⟨⟩
theorem tw18236174238374624324:True:=⟨⟩
theorem tw17903605808130345002:True:=⟨⟩
theorem tw9356165800903325247:True:=⟨⟩
theorem tw13711176123834749262:True:=⟨⟩
theorem tw16023383725887379944:True:=⟨⟩
theorem tw18352690283190960459:True:=⟨⟩
theorem tw6687505894703059416:True:=⟨⟩
theorem tw14140524015272918183:True:=⟨⟩
theorem tw10391938400815220592:True:=⟨⟩
theorem tw7055157574936037375:True:=⟨⟩
theorem tw12058618514102254807:True:=⟨⟩
theorem tw1641573824082829505:True:=⟨⟩
theorem tw2164534371243845703:True:=⟨⟩
theorem tw5418623954103400233:True:=⟨⟩
theorem tw17910520866944339312:True:=⟨⟩
theorem tw14578514660156585342:True:=⟨⟩
theorem tw9764708393140497097:True:=⟨⟩
theorem tw3173457662480104670:True:=⟨⟩
theorem tw12098938873383924633:True:=⟨⟩
theorem tw17741700282620624049:True:=⟨⟩
theorem tw9073996940480103288:True:=⟨⟩
theorem tw3649160400692361444:True:=⟨⟩
theorem tw12818423315549846116:True:=⟨⟩
theorem tw17909063456131700085:True:=⟨⟩
theorem tw2945643995213959997:True:=⟨⟩
theorem tw17582863535819784797:True:=⟨⟩
theorem tw17596896622883868209:True:=⟨⟩
theorem tw4912395024436212227:True:=⟨⟩
theorem tw13968384226364130326:True:=⟨⟩
theorem tw3941781746042161715:True:=⟨⟩
theorem tw12901476747574841191:True:=⟨⟩
theorem tw13774034880435132407:True:=⟨⟩
theorem tw2843859491461826030:True:=⟨⟩
theorem tw4312500096969289471:True:=⟨⟩
theorem tw3047417438741335416:True:=⟨⟩
theorem tw12514737986727886066:True:=⟨⟩
theorem tw14659486219324295609:True:=⟨⟩
theorem tw949292838640078015:True:=⟨⟩
theorem tw4638038475307784353:True:=⟨⟩
theorem tw3003534150039686311:True:=⟨⟩
theorem tw7689349923671848111:True:=⟨⟩
theorem tw13079469650282507379:True:=⟨⟩
theorem tw17892163839942289349:True:=⟨⟩
theorem tw2082691312162333832:True:=⟨⟩
theorem tw14854759898000944721:True:=⟨⟩
theorem tw6510448263822729016:True:=⟨⟩
theorem tw15557782636785693127:True:=⟨⟩
theorem tw3275383869505100497:True:=⟨⟩
theorem tw3730395181898748117:True:=⟨⟩
theorem tw18418013212314630843:True:=⟨⟩
theorem tw13870331809222524357:True:=⟨⟩
theorem tw16319486344615252027:True:=⟨⟩
theorem tw14640123263739843002:True:=⟨⟩
theorem tw14321685079943022704:True:=⟨⟩
theorem tw7902028153973793127:True:=⟨⟩
theorem tw13667932431187853585:True:=⟨⟩
theorem tw10835172848401511089:True:=⟨⟩
theorem tw13652138195989337548:True:=⟨⟩
theorem tw8031566052666868404:True:=⟨⟩
theorem tw15623280185252036726:True:=⟨⟩
theorem tw11590290892873301011:True:=⟨⟩
theorem tw9694092301881128654:True:=⟨⟩
theorem tw3963701250620687984:True:=⟨⟩
theorem tw5892483663063784231:True:=⟨⟩
theorem tw9127960222087956232:True:=⟨⟩
theorem tw14783741882093699943:True:=⟨⟩
theorem tw4957010556365776971:True:=⟨⟩
theorem tw6062156361513322249:True:=⟨⟩
theorem tw5144971378668516889:True:=⟨⟩
theorem tw3497402737808035589:True:=⟨⟩
theorem tw8737166188392085108:True:=⟨⟩
theorem tw3278635238553725062:True:=⟨⟩
theorem tw10113494424532024364:True:=⟨⟩
theorem tw14072490736386795674:True:=⟨⟩
theorem tw6595905413944729271:True:=⟨⟩
theorem tw3649330930834394564:True:=⟨⟩
theorem tw13695912459803716749:True:=⟨⟩
theorem tw5378361207812465317:True:=⟨⟩
theorem tw8852161651901039808:True:=⟨⟩
theorem tw362378108257469308:True:=⟨⟩
theorem tw7994353386855431329:True:=⟨⟩
theorem tw6601618294875952272:True:=⟨⟩
theorem tw2485318594994969986:True:=⟨⟩
theorem tw3385756748732579600:True:=⟨⟩
theorem tw6636102813047695434:True:=⟨⟩
theorem tw8296894496824933396:True:=⟨⟩
theorem tw1633196945921736341:True:=⟨⟩
theorem tw11656116621096464761:True:=⟨⟩
theorem tw7887353086254028514:True:=⟨⟩
theorem tw1302731412054019724:True:=⟨⟩
theorem tw16726722141027830788:True:=⟨⟩
theorem tw12169556921318883895:True:=⟨⟩
theorem tw13622627188744765202:True:=⟨⟩
theorem tw6102120933701630437:True:=⟨⟩
theorem tw11143633684493471494:True:=⟨⟩
theorem tw12898324463212169464:True:=⟨⟩
theorem tw8074598862106676852:True:=⟨⟩
theorem tw14030465972336165984:True:=⟨⟩
theorem tw11642593434923781382:True:=⟨⟩
theorem tw17194422221047385478:True:=⟨⟩
theorem tw9789499406038641382:True:=⟨⟩
theorem tw18307938014289282911:True:=⟨⟩
theorem tw2078634000569431241:True:=⟨⟩
theorem tw6718217499847480110:True:=⟨⟩
theorem tw11747781439962357366:True:=⟨⟩
theorem tw15665954742187768769:True:=⟨⟩
theorem tw13556646829205655225:True:=⟨⟩
theorem tw4618498698386524499:True:=⟨⟩
theorem tw2062152128694360609:True:=⟨⟩
theorem tw2546837578818404359:True:=⟨⟩
theorem tw2859616549669206612:True:=⟨⟩
theorem tw5118132474154965562:True:=⟨⟩
theorem tw519858272369279701:True:=⟨⟩
theorem tw7794907744610898266:True:=⟨⟩
theorem tw4792557454864412629:True:=⟨⟩
theorem tw10310240025219252089:True:=⟨⟩
theorem tw2812749965571069940:True:=⟨⟩
theorem tw17893204138857549690:True:=⟨⟩
theorem tw9738490145896223489:True:=⟨⟩
theorem tw6277367149336849285:True:=⟨⟩
theorem tw17498731025208775116:True:=⟨⟩
theorem tw2793589208719273982:True:=⟨⟩
theorem tw1499184975224793196:True:=⟨⟩
theorem tw7896283698976767076:True:=⟨⟩
theorem tw9515304558543605076:True:=⟨⟩
theorem tw2718562179199999947:True:=⟨⟩
theorem tw15932603125296899608:True:=⟨⟩
theorem tw1502563531310404270:True:=⟨⟩
theorem tw17612041295545316660:True:=⟨⟩
theorem tw16642709294685926203:True:=⟨⟩
theorem tw6240049204658301687:True:=⟨⟩
theorem tw18000725485292313260:True:=⟨⟩
theorem tw947673147065385981:True:=⟨⟩
theorem tw821452453456434691:True:=⟨⟩
theorem tw6173611432208150459:True:=⟨⟩
theorem tw858580004770273435:True:=⟨⟩
theorem tw2647654571500254149:True:=⟨⟩
theorem tw179663543914456828:True:=⟨⟩
theorem tw2755008891737167788:True:=⟨⟩
theorem tw17388474168350661823:True:=⟨⟩
theorem tw7164628845952624601:True:=⟨⟩
theorem tw1111752138043534969:True:=⟨⟩
theorem tw5544715939157420735:True:=⟨⟩
theorem tw7690914522585190650:True:=⟨⟩
theorem tw14108794588310685055:True:=⟨⟩
end PySem.W.Fast
open PySem PySem.W PyProof.Rows
set_option maxRecDepth 100000 in
theorem PySem.Challenge.cw_hostfields_k30_whole_each_condition_holds : PySem.Challenge.rw_hostfields_k30_whole_each_condition.Holds := by
 w_on;o_law;k_head;(case hw=>w_witness2)
 k_fill
 first|refine G.walk (l:=PySem.Challenge.rw_hostfields_k30_whole_each_condition) rfl rfl (fun w h Y=>PySem.W.kIn_of Y) ?F|refine G.walk (l:=PySem.Challenge.rw_hostfields_k30_whole_each_condition) rfl rfl (fun w h Y=>PySem.W.km_in_of Y) ?F
 case F=>
  intro w mg fa h KX GG hmg
  refine' G.all_mk KX GG hmg ?e_MOST_HOSTS ?e_MOST_FIELDS ?_ ?_ ?_ ?_ ?_ ?_ ?_ ?_ ?_ ?_ ?_ ?_ ?_ ?_ ?_ ?_ ?_ ?_ ?_ ?_ ?_ ?_ ?_ ?_ ?_ ?_ ?_ ?_ ?_ ?_ ?_ ?_ ?_ ?_ ?_ ?_ ?_ ?_ ?_ ?_ ?_ ?_ ?_ ?_ ?_ ?_ ?_ ?_ ?_ ?_ ?_ ?_ ?_ ?_ ?z_all ?z_bool ?z_enumerate ?z_int ?z_isinstance ?z_len ?z_list ?z_max ?z_min ?z_range ?z_reversed ?z_set ?z_sorted ?z_sum ?z_tuple ?z_zip
  (case e_MOST_HOSTS=>k_is)
  (case e_MOST_FIELDS=>k_is)
  (case z_all=>k_is)
  (case z_bool=>k_is)
  (case z_enumerate=>k_is)
  (case z_int=>k_is)
  (case z_isinstance=>k_is)
  (case z_len=>k_is)
  (case z_list=>k_is)
  (case z_max=>k_is)
  (case z_min=>k_is)
  (case z_range=>k_is)
  (case z_reversed=>k_is)
  (case z_set=>k_is)
  (case z_sorted=>k_is)
  (case z_sum=>k_is)
  (case z_tuple=>k_is)
  (case z_zip=>k_is)
  all_goals (apply G.FA.of;k_is;k_is;k_is;k_is)
