import PyProof.Rows.All
import Wide.All
import OpenK.AllK
import Wide.FinOn
import Lean
import PyProof.EqAt
import PyProof.EqKinds
import PyProof.TupleCall
import PyProof.NeKinds
import PyProof.CompFree
import PyProof.EnumMake
import KE.KTryMore
import PyProof.ExcArgsOwn
import PyProof.ZipIter
import PyProof.ListRange
import KE.KIsAll
import PyProof.InstStoreFacts
import PyProof.ExcInit
import PyProof.ReprRoads
import PyProof.CallStr
import KE.KEqDict
import PyProof.EqLayable
import KE.KRevIter
import PyProof.CollectIter
import PyProof.Rows.SetFrom
import PyProof.TupleKey
import PyProof.SetScanFacts
import KE.KSortKey
import PyProof.StrBlock2
import KE.KLam
import PyProof.StrLawsRepr
import PySem.Challenge.RW_hostfields_k72_whole_played_as_often
open List renaming length_map->zbz4,getElem?_eq_getElem->zbz5,getElem?_eq_some_iff->zbz6,getD_eq_getElem?_getD->zbz8,getElem?_map->zbz9,mem_of_getElem?->zca0,size_toArray->zca2,mem_cons->zca6,length_append->zca8,mem_map->zca9,map_cons->zcb1,all_eq_true->zcb2,map_congr_left->zcb3,map_map->zcb4,map_append->zcb7,mem_append_right->zcb9,getElem?_append_right->zcc0,lookup_cons->zcc2,getElem?_append_left->zcc3,length_cons->zcc6,sum_cons->zcc8,mem_cons_of_mem->zcd2,getElem?_of_mem->zcd3,getElem?_eq_none->zcd4,pairwise_cons->zcd6,mem_append->zcd8,take_of_length_le->zce0,length_range->zce1,mem_cons_self->zce2,not_mem_nil->zce4,mem_range->zce6,find?_cons->zce7,filter_cons->zce9,drop_eq_getElem_cons->zcf0,length_singleton->zcf1,length_replicate->zcf4,length_take->zcf6,length_drop->zcf7,pairwise_iff_getElem->zcg0,all_map->zcg2,nodup_cons->zcg3,replicate_succ->zcg4,getElem?_range->zcg5,drop_eq_nil_of_le->zcg7,mem_singleton->zch0,ext_getElem?->zch2,mem_append_left->zch3,getElem_mem->zch9,ext_getElem->zci0,map_nil->zci1
open PySem.W renaming Frag->zbz7,kitOne->zcb6,subIn->zcc7,nsIn->zcd5,mg_none_of->zcd7,findIn->zce3,kia_one->zce5,fnOf->zcf2,mg_of->zcg1,keepIn->zcg8,tabIn->zch7,clsIn->zch8
open PySem.Heap renaming get?_push_of_some->zca1,lt_size->zca7,get?_push_size->zcb8,get?_update_other->zcc5,get?_update_self->zcf5
open Option renaming map_eq_some_iff->zca3
open Bool renaming false_ne_true->zca4,and_eq_true->zca5,true_and->zcd1,false_eq_true->zcf8
open Nat renaming le_refl->zcb0,lt_of_lt_of_le->zcb5,ne_of_lt->zcc9,zero_le->zcd0,le_trans->zcd9,lt_irrefl->zce8,le_add_right->zcg6,le_succ->zcg9,ne_of_gt->zch4
open Array renaming length_toList->zcc1,getElem?_toList->zcc4,getElem?_eq_some_iff->zcf3,getElem?_eq_getElem->zcf9,getD_eq_getD_getElem?->zch1,mem_toList_iff->zch5
open Int renaming zero_add->zch6
open PySem renaming wpAny_bind->zci2,wpAny_pure->zci3,sizeLine_eq->zci4,wpAny_ite_false->zci5,tupleKeyHash->zci6,wpAny_holding->zci7,mainGlobals->zci8
set_option Elab.async false
set_option linter.all false
set_option maxRecDepth 100000
namespace L2
open PySem PySem.Spec PyProof.Rows
abbrev Key:=Sum Int Str
variable {h:Heap}{i:Nat}{E:Value->Shared->Prop}{u:Value}{s:Shared}{pins:List (Addr×Obj)}{tg:Expr}{us:List Value}
def zaw9:Key->Value->Bool
 | .inl k,v=>Value.isInt k v
 | .inr x,v=>Value.isStrOf x v
def keyH(w:World):Key->Int
 | .inl k=>hashInt k
 | .inr x=>hashStr w x
theorem ze1:∀ {k:Key}{v:Value},zaw9 k v=true->(∃ i t,k=Sum.inl i/\v=Value.int i t)∨(∃ x t,k=Sum.inr x/\v=Value.str x t)
 | .inl i,v,h=>by
  obtain⟨t,e⟩:=Value.isInt_shape (k:=i) (v:=v) h
  exact .inl ⟨i,t,rfl,e⟩
 | .inr x,v,h=>by
  obtain⟨t,e⟩:=Value.isStrOf_shape (x:=x) (v:=v) h
  exact .inr ⟨x,t,rfl,e⟩
theorem zbe6(i:Int)(t:Tok):zaw9 (.inl i) (.int i t)=true:=by simp[zaw9,Value.isInt]
theorem zbe3(x:Str)(t:Tok):zaw9 (.inr x) (.str x t)=true:=by simp[zaw9,Value.isStrOf]
theorem key_ll(a b:Int):decide ((Sum.inl a:Key)=Sum.inl b)=(a==b):=by
 by_cases e:a=b
 ·subst e;simp
 ·have h:¬ (Sum.inl a:Key)=Sum.inl b:=fun q=>e (Sum.inl.inj q)
  rw[decide_eq_false h]
  exact (beq_eq_false_iff_ne.mpr e).symm
theorem key_rr(a b:Str):decide ((Sum.inr a:Key)=Sum.inr b)=decide (a=b):=by
 by_cases e:a=b
 ·subst e;simp
 ·have h:¬ (Sum.inr a:Key)=Sum.inr b:=fun q=>e (Sum.inr.inj q)
  rw[decide_eq_false h,decide_eq_false e]
theorem key_lr(a:Int)(b:Str):decide ((Sum.inl a:Key)=Sum.inr b)=false:=decide_eq_false (fun q=>nomatch q)
theorem key_rl(a:Str)(b:Int):decide ((Sum.inr a:Key)=Sum.inl b)=false:=decide_eq_false (fun q=>nomatch q)
def zf9(prog:Program)(w:World):PySem.KeyKind prog w Key where
 is:=zaw9
 hash:=keyH w
 inj:=fun v a b ha hb=>by
  rcases ze1 ha with ⟨i,t,rfl,rfl⟩|⟨x,t,rfl,rfl⟩
  ·rcases ze1 hb with ⟨j,u,rfl,e⟩|⟨y,u,rfl,e⟩
   ·injection e with e1 _;rw[e1]
   ·exact nomatch e
  ·rcases ze1 hb with ⟨j,u,rfl,e⟩|⟨y,u,rfl,e⟩
   ·exact nomatch e
   ·injection e with e1 _;rw[e1]
 byValue:=fun k v h=>by
  rcases ze1 h with ⟨i,t,rfl,rfl⟩|⟨x,t,rfl,rfl⟩<;>rfl
 pyHash:=fun hv h=>by
  rcases ze1 hv with ⟨i,t,rfl,rfl⟩|⟨x,t,rfl,rfl⟩
  ·exact wpAny_pyHash_int h
  ·exact wpAny_pyHash_str h
 eqBool:=fun hu hv h=>by
  rcases ze1 hu with ⟨i,t,rfl,rfl⟩|⟨x,t,rfl,rfl⟩
  ·rcases ze1 hv with ⟨j,u,rfl,rfl⟩|⟨y,u,rfl,rfl⟩
   ·rw[key_ll] at h;exact wpAny_eqBool_int h
   ·rw[key_lr] at h;exact SeqAt.EqAt.int_str i t y u _ _ _ _ h
  ·rcases ze1 hv with ⟨j,u,rfl,rfl⟩|⟨y,u,rfl,rfl⟩
   ·rw[key_rl] at h;exact SeqAt.EqAt.str_int x t j u _ _ _ _ h
   ·rw[key_rr] at h;exact wpAny_eqBool_str h
 «strs»:=fun k x t v h=>by
  rcases ze1 h with ⟨i,u,rfl,e⟩|⟨y,u,rfl,e⟩
  ·exact nomatch e
  ·injection e with e1 _
   subst e1
   cases v<;>rfl
theorem zaq3(prog:Program)(w:World)(i:Int)(t:Tok):(zf9 prog w).is (.inl i) (.int i t)=true:=zbe6 i t
theorem zan5(prog:Program)(w:World)(x:Str)(t:Tok):(zf9 prog w).is (.inr x) (.str x t)=true:=zbe3 x t
inductive V where
 | non | bl (b:Bool) | int (i:Int) | str (x:Str) | byt (b:Array UInt8) | flt (b:UInt64) | ref (a:Addr) | ty (n:String)
 deriving DecidableEq
def RelV:V->Value->Prop
 | .non,u=>u=Value.none
 | .bl b,u=>u=Value.bool b
 | .int i,u=>∃ t,u=Value.int i t
 | .str x,u=>∃ t,u=Value.str x t
 | .byt b,u=>∃ t,u=Value.bytes b t
 | .flt b,u=>∃ t,u=Value.float b t
 | .ref a,u=>u=Value.ref a
 | .ty n,u=>u=Value.type n
abbrev Vals:List V->List Value->Prop:=Paired RelV
theorem Vals.length{xs:List V}{us:List Value}(r:Vals xs us):xs.length=us.length:=Paired.length r
theorem Vals.get:∀ {xs:List V}{us:List Value}{i:Nat}{x:V},Vals xs us->xs[i]?=some x->∃ u,us[i]?=some u/\RelV x u
 | _,_,_,_,.nil,e=>by simp at e
 | _,_,0,_,.cons r _,e=>by simp at e;subst e;exact⟨_,rfl,r⟩
 | _,_,i+1,x,.cons _ t,e=>by
  obtain⟨u,h1,h2⟩:=Vals.get (i:=i) (x:=x) t (by simpa using e)
  exact⟨u,by simpa using h1,h2⟩
theorem Vals.set{x:V}{u:Value}(r:RelV x u):∀ {xs:List V}{us:List Value}(i:Nat),Vals xs us->Vals (xs.set i x) (us.set i u)
 | _,_,_,.nil=>.nil
 | _,_,0,.cons _ t=>.cons r t
 | _,_,i+1,.cons q t=>.cons q (Vals.set r i t)
theorem Vals.append:∀ {xs ys:List V}{us ws:List Value},Vals xs us->Vals ys ws->Vals (xs++ys) (us++ws)
 | _,_,_,_,.nil,s=>s
 | _,_,_,_,.cons r t,s=>.cons r (Vals.append t s)
theorem Vals.take:∀ {xs:List V}{us:List Value}(n:Nat),Vals xs us->Vals (xs.take n) (us.take n)
 | _,_,0,_=>.nil
 | _,_,_+1,.nil=>.nil
 | _,_,n+1,.cons r t=>.cons r (Vals.take n t)
theorem Vals.drop:∀ {xs:List V}{us:List Value}(n:Nat),Vals xs us->Vals (xs.drop n) (us.drop n)
 | _,_,0,r=>r
 | _,_,_+1,.nil=>.nil
 | _,_,n+1,.cons _ t=>Vals.drop n t
def RelO:Option V->Option Value->Prop
 | some v,some u=>RelV v u
 | none,none=>True
 | _,_=>False
def KV{κ:Type}:List (κ×V)->List (κ×Value)->Prop:=Paired fun (p:κ×V) (q:κ×Value)=>p.1=q.1/\RelV p.2 q.2
def kV:Key->V
 | .inl i=>.int i
 | .inr x=>.str x
inductive HO where
 | lst (xs:List V)
 | tup (xs:List V)
 | dK (kvs:List (Key×V)) | dT (kvs:List (List Key×V))
 | set (S:Int->Bool) (n:Nat)
 | ins (C dx:Addr) (fs:List (Str×V))
 | own (x:Addr)
 | xd (fs:List (Str×V))
 | met (f x:Addr)
 | rng (lo hi:Int)
 | frz (o:Obj) (u:HO)
 | tbl (ps:Array Value)
 | ext (φ:Heap->Prop)
variable {o:HO}
abbrev Hp:=Addr->Option HO
variable {H:Hp}
def upd(H:Hp)(a:Addr)(o:HO):Hp:=fun b=>if b=a then some o else H b
theorem zb1{a:Addr}:upd H a o a=some o:=by unfold upd;rw[if_pos rfl]
theorem zb3{a b:Addr}(h:b≠a):upd H a o b=H b:=by unfold upd;rw[if_neg h]
theorem ne_of{a b:Addr}{u:HO}(h:H a=some o)(h':H b=some u)(d:o≠u):a≠b:=by
 intro e;subst e;rw[h] at h';exact d (Option.some.inj h')
theorem za5{a b:Addr}(h:H a=some o)(h':H b=none):a≠b:=by
 intro e;subst e;rw[h] at h';cases h'
section
variable (P:Program) (w:World)
def zf3(H:Hp)(h:Heap)(a:Addr):HO->Prop
 | .lst xs=>xs.length<=sizeLine/\∃ (its:List Value) (n:Nat),Vals xs its/\h.get? a=some { cls:=.type "list",data:=.seq its.toArray n }
 | .tup xs=>xs.length<=sizeLine/\∃ its:List Value,Vals xs its/\IsTup h a its.toArray
 | .dK kvs=>kvs.length<=sizeLine/\(a==sysModules)=false/\∃ vs,KV kvs vs/\h.DictOf (zf9 P w) a vs
 | .dT kvs=>kvs.length<=sizeLine/\(a==sysModules)=false/\∃ xs:List (List Key×Addr×Value),
   Paired (fun (p:List Key×V) (q:List Key×Addr×Value)=>p.1=q.1/\H q.2.1=some (.tup (p.1.map kV))/\RelV p.2 q.2.2) kvs xs /\
   ∃ o es ep,h.get? a=some o/\o.ExactDict/\o.data=.dict es ep/\es.toList=xs.map (entryOfKey (tupleKind (zf9 P w)))/\(xs.map (·.1)).Nodup
 | .set S n=>h.SetOf (intKind P w) a S n
 | .ins C dx fs=>H dx=some (.own a)/\fs.length<=1000/\dx≠a/\h.get? a=some (PySem.W.instObj C dx) /\
   ∃ mA,h.Ns1 dx mA/\(∀ f,RelO (fs.lookup f) (mA f))/\PySem.Within mA (fs.map (·.1))
 | .own _=>∃ o,h.get? a=some o
 | .xd fs=>∃ mA,h.Ns1 a mA/\∀ f,RelO (fs.lookup f) (mA f)
 | .rng lo hi=>∃ t u v,h.get? a=some { cls:=.type "range",data:=.fields #[.int lo t,.int hi u,.int 1 v] }
 | .frz o u=>h.get? a=some o/\zf3 H h a u
 | .tbl ps=>h.get? a=some { cls:=.none,data:=.fields ps }
 | .met f x=>h.get? a=some (PySem.W.methodObj (.ref f) (.ref x))
 | .ext φ=>φ h/\(∃ o,h.get? a=some o)/\∀ h1 h2:Heap,φ h1->(∀ o,h1.get? a=some o->h2.get? a=some o)->φ h2
def HOk(H:Hp)(h:Heap):Prop:=∀ a o,H a=some o->zf3 P w H h a o
end
section
variable {P:Program}{w:World}{H H':Hp}{h h':Heap}{a:Addr}{o:HO}
theorem zf3.lt(x:zf3 P w H h a o):a<h.objs.size:=by
 cases o with
 | lst xs=>obtain⟨_,_,_,_,e⟩:=x;exact zca7 e
 | tup xs=>obtain⟨_,_,_,p⟩:=x;exact p.lt
 | dK kvs=>obtain⟨_,_,_,_,o,_,_,e,_⟩:=x;exact zca7 e
 | dT kvs=>obtain⟨_,_,_,_,o,_,_,e,_⟩:=x;exact zca7 e
 | set S n=>obtain⟨o,_,_,_,e,_⟩:=x;exact zca7 e
 | ins C dx fs=>obtain⟨_,_,_,e,_⟩:=x;exact zca7 e
 | own y=>obtain⟨_,e⟩:=x;exact zca7 e
 | xd fs=>obtain⟨_,⟨_,_,_,e,_⟩,_⟩:=x;exact zca7 e
 | rng lo hi=>obtain⟨_,_,_,e⟩:=x;exact zca7 e
 | frz ob u=>obtain⟨e,_⟩:=x;exact zca7 e
 | tbl ps=>exact zca7 (show h.get? a=some _ from x)
 | met f y=>exact zca7 (show h.get? a=some _ from x)
 | ext φ=>obtain⟨_,⟨_,e⟩,_⟩:=x;exact zca7 e
theorem Paired.mapP{α β:Type}{F G:α->β->Prop}:∀ {l₁:List α}{l₂:List β},Paired F l₁ l₂->(∀ a b,F a b->G a b)->Paired G l₁ l₂
 | _,_,.nil,_=>.nil
 | _,_,.cons r t,f=>.cons (f _ _ r) (Paired.mapP t f)
theorem zf3.stay(x:zf3 P w H h a o)(k:∀ b u,(b=a∨H b=some (.own a))->h.get? b=some u->h'.get? b=some u)(ho:∀ b,H b=some (.own a)->H' b=some (.own a))(ht:∀ b xs,H b=some (.tup xs)->H' b=some (.tup xs)):zf3 P w H' h' a o:=by
 induction o with
 | lst xs=>obtain⟨z,its,n,r,e⟩:=x;exact⟨z,its,n,r,k _ _ (.inl rfl) e⟩
 | tup xs=>obtain⟨z,its,r,ob,e,c⟩:=x;exact⟨z,its,r,ob,k _ _ (.inl rfl) e,c⟩
 | dK kvs=>obtain⟨z,y,vs,r,ob,es,ep,e,c⟩:=x;exact⟨z,y,vs,r,ob,es,ep,k _ _ (.inl rfl) e,c⟩
 | dT kvs=>
  obtain⟨z,y,xs,r,ob,es,ep,e,c⟩:=x
  exact⟨z,y,xs,Paired.mapP r fun p q z=>⟨z.1,ht _ _ z.2.1,z.2.2⟩,ob,es,ep,k _ _ (.inl rfl) e,c⟩
 | set S n=>obtain⟨ob,es,ep,t,e,c⟩:=x;exact⟨ob,es,ep,t,k _ _ (.inl rfl) e,c⟩
 | ins C dx fs=>
  obtain⟨d,z,ne,e,mA,⟨od,es,ep,e2,c⟩,r⟩:=x
  exact⟨ho _ d,z,ne,k _ _ (.inl rfl) e,mA,⟨od,es,ep,k _ _ (.inr d) e2,c⟩,r⟩
 | own y=>obtain⟨ob,e⟩:=x;exact⟨ob,k _ _ (.inl rfl) e⟩
 | xd fs=>obtain⟨mA,⟨od,es,ep,e,c⟩,r⟩:=x;exact⟨mA,⟨od,es,ep,k _ _ (.inl rfl) e,c⟩,r⟩
 | rng lo hi=>obtain⟨t,u,v,e⟩:=x;exact⟨t,u,v,k _ _ (.inl rfl) e⟩
 | frz ob u ih=>obtain⟨e,q⟩:=x;exact⟨k _ _ (.inl rfl) e,ih q⟩
 | tbl ps=>
  have e:h.get? a=some { cls:=.none,data:=.fields ps }:=x
  show h'.get? a=some { cls:=.none,data:=.fields ps }
  exact k a _ (.inl rfl) e
 | met f y=>
  have e:h.get? a=some (PySem.W.methodObj (.ref f) (.ref y)):=x
  show h'.get? a=some (PySem.W.methodObj (.ref f) (.ref y))
  exact k a _ (.inl rfl) e
 | ext φ=>obtain⟨p,⟨o,e⟩,st⟩:=x;exact⟨st _ _ p fun o q=>k _ _ (.inl rfl) q,⟨o,k _ _ (.inl rfl) e⟩,st⟩
theorem HOk.lt(x:HOk P w H h)(e:H a=some o):a<h.objs.size:=(x a o e).lt
theorem HOk.fresh(x:HOk P w H h)(e:h.objs.size<=a):H a=none:=by
 cases q:H a with
 | none=>rfl
 | some u=>exact absurd (zcb5 (x.lt q) e) (zce8 _)
theorem HOk.kept(x:HOk P w H h)(k:∀ b u,h.get? b=some u->h'.get? b=some u):HOk P w H h':=fun a o e=>
 (x a o e).stay (fun b u _ q=>k b u q) (fun _ q=>q) fun _ _ q=>q
theorem HOk.laid(x:HOk P w H h)(k:∀ b u,h.get? b=some u->h'.get? b=some u)(hp:h.objs.size<=a)(new:zf3 P w (upd H a o) h' a o):HOk P w (upd H a o) h':=fun b u e=>by
 have hn:=x.fresh hp
 by_cases hb:b=a
 ·subst hb;rw[zb1] at e;cases e;exact new
 ·rw[zb3 hb] at e
  exact (x b u e).stay (fun c v _ q=>k c v q) (fun c q=>by rw[zb3 (za5 q hn)];exact q) fun c xs q=>by rw[zb3 (za5 q hn)];exact q
end
def Rd(H:Hp)(a:Addr)(u:HO):Prop:=H a=some u∨∃ o,H a=some (.frz o u)
theorem Rd.of{a:Addr}{u:HO}(h:H a=some u):Rd H a u:=.inl h
theorem Rd.ok{P:Program}{w:World}{a:Addr}{u:HO}(r:Rd H a u)(x:HOk P w H h):zf3 P w H h a u:=by
 rcases r with r|⟨o,r⟩
 ·exact x a u r
 ·obtain⟨_,q⟩:=x a _ r
  exact q
def Mut:Option HO->Prop
 | some (.lst _)=>True
 | some (.dK _)=>True
 | some (.dT _)=>True
 | some (.set _ _)=>True
 | some (.ins _ _ _)=>True
 | some (.ext _)=>True
 | _=>False
section
variable {P:Program}{w:World}{H:Hp}{h h':Heap}{x e:Addr}{o':HO}
theorem HOk.write(ok:HOk P w H h)(mu:Mut (H x))(he:e=x∨H e=some (.own x))(k:∀ b u,b≠e->h.get? b=some u->h'.get? b=some u)(heo:∃ u,h'.get? e=some u)(new:zf3 P w (upd H x o') h' x o'):HOk P w (upd H x o') h':=fun b u q=>by
 have nown:∀ c y,H c=some (.own y)->c≠x:=fun c y r z=>by subst z;rw[r] at mu;exact mu
 have ntup:∀ c xs,H c=some (.tup xs)->c≠x:=fun c xs r z=>by subst z;rw[r] at mu;exact mu
 by_cases hb:b=x
 ·subst hb;rw[zb1] at q;cases q;exact new
 ·rw[zb3 hb] at q
  by_cases hbe:b=e
  ·have q':H b=some (.own x):=by
    rcases he with z|z
    ·exact absurd (hbe.trans z) hb
    ·rw[hbe];exact z
   rw[q] at q';cases q'
   obtain⟨v,hv⟩:=heo
   exact⟨v,by rw[hbe];exact hv⟩
  ·refine (ok b u q).stay (fun c v hc r=>k c v ?_ r) (fun c r=>by rw[zb3 (nown c b r)];exact r) fun c xs r=>by rw[zb3 (ntup c xs r)];exact r
   rcases hc with rfl|hc
   ·exact hbe
   ·rintro rfl
    rcases he with z|z
    ·exact nown c b hc z
    ·rw[hc] at z;cases z;exact hb rfl
end
structure Un(fs ex:List Addr)(H H':Hp)(h h':Heap):Prop where
 keep:∀ b o,h.get? b=some o->H b=none->b ∉ fs->b ∉ ex->h'.get? b=some o
 slot:∀ b o,h.get? b=some o->H b=none->b∈fs->b ∉ ex->∃ sl,h'.get? b=some { o with slots:=sl }
 free:∀ b o,h.get? b=some o->H b=none->b ∉ ex->H' b=none
 there:∀ b o,h.get? b=some o->b ∉ ex->∃ o',h'.get? b=some o'
 tups:∀ b xs,H b=some (.tup xs)->H' b=some (.tup xs)
 frzs:∀ b o u,H b=some (.frz o u)->H' b=some (.frz o u)
 tbls:∀ b ps,H b=some (.tbl ps)->∃ more,H' b=some (.tbl (ps++more))
section
variable {fs fs' ex ex':List Addr}{H H1 H2:Hp}{h h1 h2 h':Heap}{a x e:Addr}{o:HO}
theorem Un.any(u:Un fs ex H H1 h h1){b:Addr}{ob:Obj}(q:h.get? b=some ob)(n:H b=none)(hx:b ∉ ex):∃ sl,h1.get? b=some { ob with slots:=sl }:=by
 by_cases hb:b∈fs
 ·exact u.slot b ob q n hb hx
 ·exact⟨ob.slots,u.keep b ob q n hb hx⟩
theorem Un.trans(a:Un fs ex H H1 h h1)(b:Un fs ex H1 H2 h1 h2):Un fs ex H H2 h h2 where
 keep:=fun c ob q n hc hx=>b.keep c ob (a.keep c ob q n hc hx) (a.free c ob q n hx) hc hx
 slot:=fun c ob q n hc hx=>by
  obtain⟨sl,e1⟩:=a.slot c ob q n hc hx
  obtain⟨sl',e2⟩:=b.slot c _ e1 (a.free c ob q n hx) hc hx
  exact⟨sl',e2⟩
 free:=fun c ob q n hx=>by
  obtain⟨o',e1⟩:=a.there c ob q hx
  exact b.free c o' e1 (a.free c ob q n hx) hx
 there:=fun c ob q hx=>by
  obtain⟨o',e1⟩:=a.there c ob q hx
  exact b.there c o' e1 hx
 tups:=fun c xs q=>b.tups c xs (a.tups c xs q)
 frzs:=fun c ob xs q=>b.frzs c ob xs (a.frzs c ob xs q)
 tbls:=fun c ps q=>by
  obtain⟨m1,e1⟩:=a.tbls c ps q
  obtain⟨m2,e2⟩:=b.tbls c _ e1
  exact⟨m1++m2,by rw[e2,Array.append_assoc]⟩
theorem Un.kept(k:∀ b u,h.get? b=some u->h'.get? b=some u):Un fs ex H H h h':=
 ⟨fun b ob q _ _ _=>k b ob q,fun b ob q _ _ _=>⟨ob.slots,k b ob q⟩,fun _ _ _ n _=>n,fun b ob q _=>⟨ob,k b ob q⟩,fun _ _ q=>q,fun _ _ _ q=>q,fun _ ps q=>⟨#[],by rw[q];simp⟩⟩
theorem Un.refl:Un fs ex H H h h:=Un.kept fun _ _ q=>q
theorem Un.laid(k:∀ b u,h.get? b=some u->h'.get? b=some u)(hp:h.objs.size<=a)(hn:H a=none):Un fs ex H (upd H a o) h h' where
 keep:=fun b u q _ _ _=>k b u q
 slot:=fun b u q _ _ _=>⟨u.slots,k b u q⟩
 free:=fun b u q n _=>by rw[zb3 (zcc9 (zcb5 (zca7 q) hp))];exact n
 there:=fun b u q _=>⟨u,k b u q⟩
 tups:=fun b xs q=>by rw[zb3 (za5 q hn)];exact q
 frzs:=fun b u xs q=>by rw[zb3 (za5 q hn)];exact q
 tbls:=fun b ps q=>⟨#[],by rw[zb3 (za5 q hn),q];simp⟩
theorem Un.write(mu:Mut (H x))(he:e=x∨H e=some (.own x))(k:∀ b u,b≠e->h.get? b=some u->h'.get? b=some u)(heo:∃ u,h'.get? e=some u):Un fs ex H (upd H x o) h h':=by
 have hx:∀ b,H b=none->b≠x:=fun b n z=>by subst z;rw[n] at mu;exact mu
 have hb:∀ b,H b=none->b≠e:=fun b n z=>by
  subst z
  rcases he with r|r
  ·exact hx b n r
  ·rw[n] at r;cases r
 have hm:∀ b u,H b=some u->¬ Mut (some u)->b≠x:=fun b u q nm z=>by subst z;rw[q] at mu;exact nm mu
 refine⟨fun b u q n _ _=>k b u (hb b n) q,fun b u q n _ _=>⟨u.slots,k b u (hb b n) q⟩,fun b u q n _=>by rw[zb3 (hx b n)];exact n,fun b u q _=>?_,
  fun b xs q=>by rw[zb3 (hm b _ q fun z=>z)];exact q,fun b u xs q=>by rw[zb3 (hm b _ q fun z=>z)];exact q,fun b ps q=>⟨#[],by rw[zb3 (hm b _ q fun z=>z),q];simp⟩⟩
 by_cases hbe:b=e
 ·subst hbe;exact heo
 ·exact⟨u,k b u hbe q⟩
theorem Un.mono(u:Un fs ex H H1 h h1)(hs:∀ b∈fs,b∈fs')(hx:∀ b∈ex,b∈ex'):Un fs' ex' H H1 h h1:=
 ⟨fun b ob q n hb he=>u.keep b ob q n (fun z=>hb (hs b z)) fun z=>he (hx b z),fun _ _ q n _ he=>u.any q n fun z=>he (hx _ z),fun b ob q n he=>u.free b ob q n fun z=>he (hx b z),fun b ob q he=>u.there b ob q fun z=>he (hx b z),u.tups,u.frzs,u.tbls⟩
end
def trk(h:Heap)(H:Hp):List Addr:=(List.range h.objs.size).filter fun a=>(H a).isSome
def hidT(h:Heap)(H:Hp):Heap:=PySem.W.hideAll h (trk h H)
theorem zbb7(h:Heap)(H:Hp):(hidT h H).objs.size=h.objs.size:=PySem.W.hideAll_size _ _
theorem zbk9{b:Addr}{o:Obj}(e:h.get? b=some o)(n:H b=none):(hidT h H).get? b=some o:=
 PySem.W.hideAll_get _ e fun hm=>by
  have q:(H b).isSome=true:=(List.mem_filter.mp hm).2
  rw[n] at q;simp at q
theorem zbt6{b:Addr}{o:Obj}(e:(hidT h H).get? b=some o):h.get? b=some o/\H b=none:=by
 have e':h.get? b=some o:=PySem.W.of_hideAll (trk h H) e
 refine⟨e',?_⟩
 cases q:H b with
 | none=>rfl
 | some x=>
  have hm:b∈trk h H:=List.mem_filter.mpr ⟨zce6.mpr (zca7 e'),by simp[q]⟩
  have z:(hidT h H).get? b=none:=PySem.W.hideAll_none (trk h H) hm
  rw[z] at e;cases e
def zbq8(g h:Heap)(L:Addr):List (Addr×Obj):=(List.range h.objs.size).filterMap fun a=>if a=L∨(g.get? a).isSome=true then none else (h.get? a).map fun o=>(a,o)
def rest(g h:Heap)(L d:Addr):List (Addr×Obj):=(zbq8 g h L).filter fun p=>decide (p.1≠d)
structure Mod(K:zbz7)(mg:Str->Option Value)(base:Heap):Prop where
 kin:K.In base
 glob:base.Ns zci8 mg
 blt:∃ mb,base.Ns builtinsNs mb/\∀ x:Str,x≠"__name__"->mb x=bootBuiltins x
 nolimit:base.NoLimit
structure Cx where
 prog:Program
 w:World
 K:zbz7
 mg:Str->Option Value
 base:Heap
 A:Around
 N:List Str
 s₀:Shared
 H₀:Hp
 env:Env
 outer:List Env
 stack:List Env
 ex:List Addr
 fn:Str->Bool
 calm:Bool
 pn:List (Addr×Obj)
 xe:Value->Shared->Prop
def frs(l:List Env):List Addr:=l.filterMap (·.frame)
abbrev Cx.fs(X:Cx):List Addr:=frs X.outer
def Vis(sc:Scope)(x:Str):Prop:=sc.names.lookup x=some .local∨sc.names.lookup x=some .cell∨sc.names.lookup x=some .free
def Loc(sc:Scope)(x:Str):Prop:=sc.names.lookup x=some .local∨sc.names.lookup x=some .cell
def Look(env:Env)(h:Heap)(m:Str->Option Value)(x:Str)(u:Value):Prop:=
 (env.kindOf x=some .local/\m x=some u)∨((env.kindOf x=some .cell∨env.kindOf x=some .free)/\∃ c,env.cells.lookup x=some c/\h.IsCell c (some u))
structure Cx.Ok(X:Cx):Prop where
 mod:Mod X.K X.mg X.base
 kind:X.env.scope.kind=.function
 glob:X.env.globals=zci8
 blt:X.env.builtins=builtinsNs
 above:X.s₀.heap.objs.size<=X.env.locals
 inj:∀ x y c,X.env.cells.lookup x=some c->X.env.cells.lookup y=some c->x=y
 has:∀ x,(X.env.kindOf x=some .cell∨X.env.kindOf x=some .free)->∃ c,X.env.cells.lookup x=some c
 cab:∀ x c,X.fn x=true->X.env.cells.lookup x=some c->X.s₀.heap.objs.size<=c
 hd:X.calm=true->X.A.handled=none
 frames:X.A.frames=some X.stack
 stk:X.stack=X.outer∨(X.stack=X.env :: X.outer/\X.env.frame=some X.env.locals)
 exf:∀ b∈X.ex,b≠X.env.locals/\∀ x c,X.env.cells.lookup x=some c->c≠b
 bs:∀ b o,X.base.get? b=some o->X.s₀.heap.get? b=some o/\X.H₀ b=none
 bsz:X.base.objs.size<=X.s₀.heap.objs.size
 noex:∀ b o,X.base.get? b=some o->b ∉ X.ex
 exfs:∀ b∈X.ex,b ∉ X.fs
 funs:X.s₀.heap.FunFrames X.base X.outer
 frf:∀ b∈X.fs,X.H₀ b=none
structure Inv(X:Cx)(pins:List (Addr×Obj))(σ:List (Option V))(H:Hp)(s:Shared):Prop where
 ok:X.Ok
 os:s.os=X.s₀.os
 bare:AllBare s.gens
 base:Un X.fs X.ex X.H₀ H X.s₀.heap s.heap
 loc:∃ m,s.heap.Ns X.env.locals m/\∀ (i:Nat) (x:Str) (v:V),X.N[i]?=some x->σ[i]?=some (some v)->Vis X.env.scope x->∃ u,RelV v u/\Look X.env s.heap m x u
 cell:∀ x c,X.env.cells.lookup x=some c->∃ v,s.heap.IsCell c v
 free:H X.env.locals=none
 freeC:∀ x c,X.env.cells.lookup x=some c->H c=none
 pin:∀ p∈X.pn++pins,s.heap.get? p.1=some p.2/\H p.1=none/\p.1≠X.env.locals/\p.1 ∉ X.fs/\∀ v,p.2.data≠.cell v
 hok:HOk X.prog X.w H s.heap
 len:σ.length=X.N.length
section
variable {X:Cx}{pins:List (Addr×Obj)}{σ:List (Option V)}{H H':Hp}{s:Shared}{h':Heap}
theorem Cx.Ok.nofr(ok:X.Ok){b:Addr}{o:Obj}(e:X.base.get? b=some o):b ∉ X.fs:=fun hb=>by
 have:=(ok.funs.mem hb).1
 rw[e] at this;cases this
theorem Inv.bs(I:Inv X pins σ H s):∀ b o,X.base.get? b=some o->s.heap.get? b=some o/\H b=none:=fun b o e=>
 ⟨I.base.keep b o (I.ok.bs b o e).1 (I.ok.bs b o e).2 (I.ok.nofr e) (I.ok.noex b o e),I.base.free b o (I.ok.bs b o e).1 (I.ok.bs b o e).2 (I.ok.noex b o e)⟩
theorem Inv.bk(I:Inv X pins σ H s):∀ b o,X.base.get? b=some o->s.heap.get? b=some o:=fun b o e=>(I.bs b o e).1
theorem Inv.mod(I:Inv X pins σ H s):Mod X.K X.mg X.base:=I.ok.mod
theorem Inv.kIn(I:Inv X pins σ H s):X.K.In s.heap:=I.ok.mod.kin.keeps I.bk
theorem Inv.lt(I:Inv X pins σ H s):X.env.locals<s.heap.objs.size:=let ⟨_,hn,_⟩:=I.loc;hn.lt
theorem Inv.sz(I:Inv X pins σ H s):X.s₀.heap.objs.size<=s.heap.objs.size:=zcd9 I.ok.above (Nat.le_of_lt I.lt)
theorem Inv.nofs(I:Inv X pins σ H s){a:Addr}(h:s.heap.objs.size<=a):a ∉ X.fs:=fun hb=>by
 obtain⟨_,o,ho,_⟩:=I.ok.funs.mem hb
 exact absurd (zcb5 (zca7 ho) (zcd9 I.sz h)) (zce8 _)
theorem Inv.cne(I:Inv X pins σ H s):∀ x c,X.env.cells.lookup x=some c->c≠X.env.locals:=fun x c e z=>by
 obtain⟨v,o,ho,hd⟩:=I.cell x c e
 obtain⟨m,⟨o',es,ep,ho',hd',_⟩,_⟩:=I.loc
 rw[z,ho'] at ho;cases ho;rw[hd'] at hd;cases hd
theorem Inv.funs(I:Inv X pins σ H s):s.heap.FunFrames X.base X.outer:=by
 have all:∀ (l:List Env),(∀ b∈frs l,b∈X.fs)->X.s₀.heap.FunFrames X.base l->s.heap.FunFrames X.base l:=by
  intro l
  induction l with
  | nil=>intro _ _;trivial
  | cons env r ih=>
   intro hs hl
   obtain⟨hk,⟨L,o,hf,hn,ho,hd⟩,hr⟩:=hl
   have hL:L∈X.fs:=hs L (by unfold frs;rw[List.filterMap_cons,hf];exact zce2)
   obtain⟨sl,e⟩:=I.base.slot L o ho (I.ok.frf L hL) hL fun z=>I.ok.exfs L z hL
   exact⟨hk,⟨L,_,hf,hn,e,hd⟩,ih (fun b hb=>hs b (by unfold frs;rw[List.filterMap_cons,hf];exact zcd2 _ hb)) hr⟩
 exact all X.outer (fun _ hb=>hb) I.ok.funs
theorem Inv.stack(I:Inv X pins σ H s):s.heap.FunFrames X.base X.stack:=by
 rcases I.ok.stk with e|⟨e,hf⟩
 ·rw[e];exact I.funs
 ·rw[e]
  obtain⟨m,hn,_⟩:=I.loc
  refine .cons (by rw[I.ok.kind];decide) hf hn ?_ I.funs
  exact Heap.get?_none_of_le (zcd9 I.ok.bsz I.ok.above)
theorem Inv.stkSub(I:Inv X pins σ H s):∀ b∈frs X.stack,b∈X.env.locals :: X.fs:=fun b hb=>by
 rcases I.ok.stk with e|⟨e,hf⟩
 ·rw[e] at hb;exact zcd2 _ hb
 ·rw[e] at hb
  unfold frs at hb
  rw[List.filterMap_cons,hf] at hb
  exact hb
theorem Inv.stkFree(I:Inv X pins σ H s):∀ b∈frs X.stack,H b=none:=fun b hb=>by
 rcases zca6.mp (I.stkSub b hb) with e|hb
 ·rw[e];exact I.free
 ·obtain⟨_,o,ho,_⟩:=I.ok.funs.mem hb
  exact I.base.free b o ho (I.ok.frf b hb) fun z=>I.ok.exfs b z hb
theorem Inv.step{g':Array GenState}{t':Nat}{d':Drawn}{ch:List Addr}(I:Inv X pins σ H s)(hch:∀ b∈ch,(b∈X.ex∨X.s₀.heap.objs.size<=b)/\b≠X.env.locals/\(∀ x c,X.env.cells.lookup x=some c->c≠b)/\∀ p∈X.pn++pins,p.1≠b)(keep:∀ b o,b≠X.env.locals->b ∉ X.fs->b ∉ ch->s.heap.get? b=some o->H b=none->h'.get? b=some o)(slot:∀ b o,b≠X.env.locals->b∈X.fs->b ∉ ch->s.heap.get? b=some o->H b=none->∃ sl,h'.get? b=some { o with slots:=sl })(free:∀ b o,b ∉ ch->s.heap.get? b=some o->H b=none->H' b=none)(there:∀ b o,b ∉ ch->s.heap.get? b=some o->∃ o',h'.get? b=some o')(tups:∀ b xs,H b=some (.tup xs)->H' b=some (.tup xs))(frzs:∀ b o u,H b=some (.frz o u)->H' b=some (.frz o u))(tbls:∀ b ps,H b=some (.tbl ps)->∃ more,H' b=some (.tbl (ps++more)))(ns:∀ m,s.heap.Ns X.env.locals m->h'.Ns X.env.locals m)(hok:HOk X.prog X.w H' h')(hg:AllBare g') :
  Inv X pins σ H' { s with heap:=h',gens:=g',drawn:=d',toks:=t' }:=by
 have neL:∀ b o,X.s₀.heap.get? b=some o->b≠X.env.locals:=fun b o e=>zcc9 (zcb5 (zca7 e) I.ok.above)
 have neC:∀ b o,X.s₀.heap.get? b=some o->b ∉ X.ex->b ∉ ch:=fun b o e hx hb=>by
  rcases (hch b hb).1 with z|z
  ·exact hx z
  ·exact absurd (zcb5 (zca7 e) z) (zce8 _)
 have cellK:∀ x c,X.env.cells.lookup x=some c->∀ v,s.heap.IsCell c v->h'.IsCell c v:=fun x c e v ⟨o,ho,hd⟩=>by
  have nch:c ∉ ch:=fun z=>(hch c z).2.2.1 x c e rfl
  by_cases hc:c∈X.fs
  ·obtain⟨sl,q⟩:=slot c o (I.cne x c e) hc nch ho (I.freeC x c e)
   exact⟨_,q,hd⟩
  ·exact⟨o,keep c o (I.cne x c e) hc nch ho (I.freeC x c e),hd⟩
 refine⟨I.ok,I.os,hg,⟨fun b o e n hb hx=>?_,fun b o e n hb hx=>?_,fun b o e n hx=>?_,fun b o e hx=>?_,fun b xs e=>tups b xs (I.base.tups b xs e),fun b o xs e=>frzs b o xs (I.base.frzs b o xs e),fun b ps e=>?_⟩,?_,fun x c e=>?_,?_,fun x c e=>?_,fun p hp=>?_,hok,I.len⟩
 ·exact keep b o (neL b o e) hb (neC b o e hx) (I.base.keep b o e n hb hx) (I.base.free b o e n hx)
 ·obtain⟨sl,e1⟩:=I.base.slot b o e n hb hx
  obtain⟨sl',e2⟩:=slot b _ (neL b o e) hb (neC b o e hx) e1 (I.base.free b o e n hx)
  exact⟨sl',e2⟩
 ·obtain⟨o',e1⟩:=I.base.there b o e hx
  exact free b o' (neC b o e hx) e1 (I.base.free b o e n hx)
 ·obtain⟨o',e1⟩:=I.base.there b o e hx
  exact there b o' (neC b o e hx) e1
 ·obtain⟨m1,e1⟩:=I.base.tbls b ps e
  obtain⟨m2,e2⟩:=tbls b _ e1
  exact⟨m1++m2,by rw[e2,Array.append_assoc]⟩
 ·obtain⟨m,hn,hl⟩:=I.loc
  refine⟨m,ns m hn,fun i x v e1 e2 e3=>?_⟩
  obtain⟨u,r,l⟩:=hl i x v e1 e2 e3
  refine⟨u,r,?_⟩
  rcases l with l|⟨k,c,e,z⟩
  ·exact .inl l
  ·exact .inr ⟨k,c,e,cellK x c e _ z⟩
 ·obtain⟨v,z⟩:=I.cell x c e
  exact⟨v,cellK x c e v z⟩
 ·obtain⟨m,⟨o,_,_,ho,_⟩,_⟩:=I.loc
  exact free _ o (fun z=>(hch _ z).2.1 rfl) ho I.free
 ·obtain⟨v,o,ho,hd⟩:=I.cell x c e
  exact free c o (fun z=>(hch c z).2.2.1 x c e rfl) ho (I.freeC x c e)
 ·obtain⟨e,n,ne,nf,d⟩:=I.pin p hp
  have nch:p.1 ∉ ch:=fun z=>(hch p.1 z).2.2.2 p hp rfl
  exact⟨keep p.1 p.2 ne nf nch e n,free p.1 p.2 nch e n,ne,nf,d⟩
theorem Inv.un{t':Nat}(I:Inv X pins σ H s)(u:Un X.fs [] H H' s.heap h')(hok:HOk X.prog X.w H' h'):Inv X pins σ H' { s with heap:=h',toks:=t' }:=by
 obtain⟨m,⟨o,es,ep,ho,r⟩,_⟩:=id I.loc
 obtain⟨sl,hL⟩:=u.any ho I.free (by simp)
 exact I.step (g':=s.gens) (d':=s.drawn) (ch:=[]) (fun _ z=>nomatch z) (fun b o _ hb _ e n=>u.keep b o e n hb (by simp)) (fun b o _ hb _ e n=>u.slot b o e n hb (by simp)) (fun b o _ e n=>u.free b o e n (by simp)) (fun b o _ e=>u.there b o e (by simp)) u.tups u.frzs u.tbls (fun m' hm=>by
  obtain⟨o',es',ep',ho',r'⟩:=hm
  rw[ho] at ho';cases ho'
  exact⟨_,es',ep',hL,r'⟩) hok I.bare
theorem Inv.call{g':Array GenState}{t':Nat}{d':Drawn}{ch:List Addr}(I:Inv X pins σ H s)(u:Un (frs X.stack) ch H H' s.heap h')(hok:HOk X.prog X.w H' h')(hg:AllBare g')(hch:∀ b∈ch,(b∈X.ex∨X.s₀.heap.objs.size<=b)/\b≠X.env.locals/\(∀ x c,X.env.cells.lookup x=some c->c≠b)/\∀ p∈X.pn++pins,p.1≠b) :
  Inv X pins σ H' { s with heap:=h',gens:=g',drawn:=d',toks:=t' }:=by
 obtain⟨m,⟨o,es,ep,ho,r⟩,_⟩:=id I.loc
 obtain⟨sl,hL⟩:=u.any ho I.free fun z=>(hch _ z).2.1 rfl
 exact I.step (ch:=ch) hch (fun b o hL hb hc e n=>u.keep b o e n (fun z=>(zca6.mp (I.stkSub b z)).elim hL hb) hc) (fun b o _ _ hc e n=>u.any e n hc) (fun b o hc e n=>u.free b o e n hc) (fun b o hc e=>u.there b o e hc) u.tups u.frzs u.tbls (fun m' hm=>by
  obtain⟨o',es',ep',ho',r'⟩:=hm
  rw[ho] at ho';cases ho'
  exact⟨_,es',ep',hL,r'⟩) hok hg
theorem Inv.turned{t':Nat}{it:Addr}(I:Inv X pins σ H s)(k:∀ b o,b≠it->s.heap.get? b=some o->h'.get? b=some o)(hn:H it=none)(hL:it≠X.env.locals)(h1:it∈X.ex∨X.s₀.heap.objs.size<=it)(h2:∀ x c,X.env.cells.lookup x=some c->c≠it)(h3:∀ p∈X.pn++pins,p.1≠it):Inv X pins σ H { s with heap:=h',toks:=t' }:=by
 have nit:∀ b u,H b=some u->b≠it:=fun b u e z=>by rw[z,hn] at e;cases e
 refine I.step (g':=s.gens) (d':=s.drawn) (ch:=[it]) (fun b hb=>?_) (fun b o _ _ hc e _=>k b o (fun z=>hc (by simp[z])) e) (fun b o _ _ hc e _=>⟨o.slots,k b o (fun z=>hc (by simp[z])) e⟩) (fun _ _ _ _ n=>n)
  (fun b o hc e=>⟨o,k b o (fun z=>hc (by simp[z])) e⟩) (fun _ _ e=>e) (fun _ _ _ e=>e) (fun b ps e=>⟨#[],by rw[e];simp⟩) (fun m hm=>?_) (fun b u e=>?_) I.bare
 ·have e:b=it:=by simpa using hb
  subst e
  exact⟨h1,hL,h2,h3⟩
 ·obtain⟨o,es,ep,ho,r⟩:=hm
  exact⟨o,es,ep,k _ o (Ne.symm hL) ho,r⟩
 ·refine (I.hok b u e).stay (fun c v hc q=>k c v ?_ q) (fun _ q=>q) fun _ _ q=>q
  rcases hc with z|z
  ·rw[z];exact nit b u e
  ·exact nit c _ z
theorem Inv.tok(I:Inv X pins σ H s)(t:Nat):Inv X pins σ H { s with toks:=t }:=I.un (h':=s.heap) (t':=t) Un.refl I.hok
theorem Inv.kept{t':Nat}(I:Inv X pins σ H s)(k:∀ b u,s.heap.get? b=some u->h'.get? b=some u):Inv X pins σ H { s with heap:=h',toks:=t' }:=I.un (Un.kept k) (I.hok.kept k)
theorem Inv.laid{a:Addr}{o:HO}{t':Nat}(I:Inv X pins σ H s)(k:∀ b u,s.heap.get? b=some u->h'.get? b=some u)(hp:s.heap.objs.size<=a)(new:zf3 X.prog X.w (upd H a o) h' a o) :
  Inv X pins σ (upd H a o) { s with heap:=h',toks:=t' }:=I.un (Un.laid k hp (I.hok.fresh hp)) (I.hok.laid k hp new)
theorem Inv.write{x e:Addr}{o:HO}{t':Nat}(I:Inv X pins σ H s)(mu:Mut (H x))(he:e=x∨H e=some (.own x))(k:∀ b u,b≠e->s.heap.get? b=some u->h'.get? b=some u)(heo:∃ u,h'.get? e=some u)(new:zf3 X.prog X.w (upd H x o) h' x o):Inv X pins σ (upd H x o) { s with heap:=h',toks:=t' }:=I.un (Un.write mu he k heo) (I.hok.write mu he k heo new)
theorem Inv.pins_of{pins':List (Addr×Obj)}(I:Inv X pins σ H s)(h:∀ p∈pins',s.heap.get? p.1=some p.2/\H p.1=none/\p.1≠X.env.locals/\p.1 ∉ X.fs/\∀ v,p.2.data≠.cell v):Inv X pins' σ H s:=
 ⟨I.ok,I.os,I.bare,I.base,I.loc,I.cell,I.free,I.freeC,fun p hp=>(zcd8.mp hp).elim (fun z=>I.pin p (zch3 _ z)) (h p),I.hok,I.len⟩
theorem zat1{N:List Str}(hN:N.Nodup){j:Nat}{x:Str}(a:N[i]?=some x)(b:N[j]?=some x):i=j:=by
 obtain⟨h1,e1⟩:=zbz6.mp a
 obtain⟨h2,e2⟩:=zbz6.mp b
 exact (List.getElem_inj hN).mp (e1.trans e2.symm)
theorem zbg0{M:Model}{A:Around}{x:Str}{v:V}{Q:Unit->Shared->Prop}(I:Inv X pins σ H s)(hN:X.N.Nodup)(hi:X.N[i]?=some x)(hx:Loc X.env.scope x)(r:RelV v u)(h:∀ s',Inv X pins (σ.set i (some v)) H s'->(∃ a,Heap.SameBut a s.heap s'.heap/\(a=X.env.locals∨X.env.cells.lookup x=some a))->Q () s')(hf:X.fn x=true∨X.env.scope.names.lookup x=some .local:=by first|exact .inl rfl|exact .inr rfl|assumption):wpAny M A (storeName X.env x u) Q E s:=by
 obtain⟨m,hn,hl⟩:=id I.loc
 have hcls:(X.env.scope.kind==.class || (X.env.scope.kind==.module&&X.env.locals != X.env.globals))=false:=by rw[I.ok.kind];rfl
 have hiσ:i<σ.length:=by rw[I.len];exact (zbz6.mp hi).1
 have cne:=I.cne
 have tracked:∀ {a:Addr}{h':Heap},(∃ o,s.heap.get? a=some o/\H a=none)->Heap.SameBut a s.heap h'->HOk X.prog X.w H h':=fun {a h'} ha hs b ob e=>by
  obtain⟨_,_,hfree⟩:=ha
  refine (I.hok b ob e).stay (fun c w' hc q=>(hs.2 c ?_).trans q) (fun _ q=>q) fun _ _ q=>q
  rintro rfl
  rcases hc with rfl|hc
  ·rw[hfree] at e;cases e
  ·rw[hfree] at hc;cases hc
 rcases hx with hk|hk
 ·refine wpAny_storeName_local hk hn (fun h' hn' hs=>?_) hcls
  obtain⟨oL,_,_,hoL,_⟩:=id hn
  refine h _ ⟨I.ok,I.os,I.bare,⟨fun b o e n hb hx=>?_,fun b o e n hb hx=>?_,I.base.free,fun b o e hx=>?_,I.base.tups,I.base.frzs,I.base.tbls⟩,⟨_,hn',fun j y v' e1 e2 e3=>?_⟩,fun y c e=>?_,I.free,I.freeC,fun p hp=>?_,tracked ⟨oL,hoL,I.free⟩ hs,by simpa using I.len⟩ ⟨_,hs,.inl rfl⟩
  ·exact (hs.2 b (zcc9 (zcb5 (zca7 e) I.ok.above))).trans (I.base.keep b o e n hb hx)
  ·obtain⟨sl,e1⟩:=I.base.slot b o e n hb hx
   exact⟨sl,(hs.2 b (zcc9 (zcb5 (zca7 e) I.ok.above))).trans e1⟩
  ·obtain⟨o',e1⟩:=I.base.there b o e hx
   exact⟨o',(hs.2 b (zcc9 (zcb5 (zca7 e) I.ok.above))).trans e1⟩
  ·by_cases hj:j=i
   ·subst hj
    rw[hi] at e1;cases e1
    rw[List.getElem?_set_self hiσ] at e2
    cases e2
    exact⟨u,r,.inl ⟨hk,by simp⟩⟩
   ·rw[List.getElem?_set_ne (Ne.symm hj)] at e2
    obtain⟨u',r',q⟩:=hl j y v' e1 e2 e3
    refine⟨u',r',?_⟩
    rcases q with ⟨k,e⟩|⟨k,c,e,z⟩
    ·refine .inl ⟨k,?_⟩
     have:y≠x:=fun e=>hj (zat1 hN e1 (e▸hi))
     simp[this,e]
    ·exact .inr ⟨k,c,e,z.sameBut hs (cne y c e)⟩
  ·obtain⟨w',z⟩:=I.cell y c e
   exact⟨w',z.sameBut hs (cne y c e)⟩
  ·obtain⟨e,n,ne,nf,d⟩:=I.pin p hp
   exact⟨(hs.2 p.1 ne).trans e,n,ne,nf,d⟩
 ·have hfn:X.fn x=true:=by
   rcases hf with z|z
   ·exact z
   ·rw[z] at hk;cases hk
  obtain⟨c,hc⟩:=I.ok.has x (.inl hk)
  obtain⟨w',z⟩:=I.cell x c hc
  refine wpAny_storeName_cell I.ok.kind hk hc z (fun h' hc' hs=>?_)
  obtain⟨oc,hoc,hocd⟩:=id z
  refine h { s with heap:=h' } ⟨I.ok,I.os,I.bare,⟨fun b o e n hb hx=>?_,fun b o e n hb hx=>?_,I.base.free,fun b o e hx=>?_,I.base.tups,I.base.frzs,I.base.tbls⟩,⟨m,hn.sameBut hs (Ne.symm (cne x c hc)),fun j y v' e1 e2 e3=>?_⟩,fun y c' e=>?_,I.free,I.freeC,fun p hp=>?_,tracked ⟨oc,hoc,I.freeC x c hc⟩ hs,by simpa using I.len⟩ ⟨c,hs,.inr hc⟩
  ·exact (hs.2 b (zcc9 (zcb5 (zca7 e) (I.ok.cab x c hfn hc)))).trans (I.base.keep b o e n hb hx)
  ·obtain⟨sl,e1⟩:=I.base.slot b o e n hb hx
   exact⟨sl,(hs.2 b (zcc9 (zcb5 (zca7 e) (I.ok.cab x c hfn hc)))).trans e1⟩
  ·obtain⟨o',e1⟩:=I.base.there b o e hx
   exact⟨o',(hs.2 b (zcc9 (zcb5 (zca7 e) (I.ok.cab x c hfn hc)))).trans e1⟩
  ·by_cases hj:j=i
   ·subst hj
    rw[hi] at e1;cases e1
    rw[List.getElem?_set_self hiσ] at e2
    cases e2
    exact⟨u,r,.inr ⟨.inl hk,c,hc,hc'⟩⟩
   ·rw[List.getElem?_set_ne (Ne.symm hj)] at e2
    obtain⟨u',r',q⟩:=hl j y v' e1 e2 e3
    refine⟨u',r',?_⟩
    rcases q with q|⟨k,c',e,z'⟩
    ·exact .inl q
    ·refine .inr ⟨k,c',e,z'.sameBut hs ?_⟩
     rintro rfl
     exact hj (zat1 hN e1 (I.ok.inj _ _ _ e hc▸hi))
  ·by_cases hcc:c'=c
   ·subst hcc;exact⟨_,hc'⟩
   ·obtain⟨w2,z2⟩:=I.cell y c' e
    exact⟨w2,z2.sameBut hs hcc⟩
  ·obtain⟨e,n,ne,nf,d⟩:=I.pin p hp
   refine⟨(hs.2 p.1 ?_).trans e,n,ne,nf,d⟩
   intro q
   rw[q,hoc] at e
   have q':oc=p.2:=Option.some.inj e
   exact d w' (by rw[← q'];exact hocd)
theorem zae7{M:Model}{A:Around}{x:Str}{v:V}{Q:Unit->Shared->Prop}(I:Inv X pins σ H s)(hN:X.N.Nodup)(hi:X.N[i]?=some x)(hx:Loc X.env.scope x)(r:RelV v u)(h:∀ s',Inv X pins (σ.set i (some v)) H s'->Q () s')(hf:X.fn x=true∨X.env.scope.names.lookup x=some .local:=by first|exact .inl rfl|exact .inr rfl|assumption):wpAny M A (storeName X.env x u) Q E s:=
 zbg0 I hN hi hx r (fun s' I' _=>h s' I') hf
theorem Inv.call'{s':Shared}{ch:List Addr}(I:Inv X pins σ H s)(ho:s'.os=s.os)(u:Un (frs X.stack) ch H H' s.heap s'.heap)(hok:HOk X.prog X.w H' s'.heap)(hg:AllBare s'.gens)(hch:∀ b∈ch,(b∈X.ex∨X.s₀.heap.objs.size<=b)/\b≠X.env.locals/\(∀ x c,X.env.cells.lookup x=some c->c≠b)/\∀ p∈X.pn++pins,p.1≠b):Inv X pins σ H' s':=by
 obtain⟨h',g',d',t',o'⟩:=s'
 have e:o'=s.os:=ho
 subst e
 exact I.call (g':=g') (t':=t') (d':=d') u hok hg hch
end
abbrev XK:=Value->Option Addr->Hp->Prop
abbrev St:=List (Option V)
variable {σ:St}
abbrev VK:=V->Hp->Prop
abbrev TE:=St->Hp->VK->Prop
abbrev TT:=St->Hp->(Bool->Hp->Prop)->Prop
abbrev TA:=St->Hp->(List V->Hp->Prop)->Prop
structure Ends where
 nx:St->Hp->Prop
 rt:VK
 bk:St->Hp->Prop:=fun _ _=>False
 ct:St->Hp->Prop:=fun _ _=>False
abbrev TS:=Ends->St->Hp->Prop
def EP(X:Cx)(pins:List (Addr×Obj))(σ:St)(Q:VK)(u:Value)(s':Shared):Prop:=∃ v H',Inv X pins σ H' s'/\RelV v u/\Q v H'
def TP(X:Cx)(pins:List (Addr×Obj))(σ:St)(Q:Bool->Hp->Prop)(b:Bool)(s':Shared):Prop:=∃ H',Inv X pins σ H' s'/\Q b H'
def AP(X:Cx)(pins:List (Addr×Obj))(σ:St)(Q:List V->Hp->Prop)(us:List Value)(s':Shared):Prop:=∃ vs H',Inv X pins σ H' s'/\Vals vs us/\Q vs H'
def SP(X:Cx)(pins:List (Addr×Obj))(D:Ends)(f:Flow)(s':Shared):Prop:=
 match f with
 | .next=>∃ σ' H',Inv X pins σ' H' s'/\D.nx σ' H'
 | .brk=>∃ σ' H',Inv X pins σ' H' s'/\D.bk σ' H'
 | .cont=>∃ σ' H',Inv X pins σ' H' s'/\D.ct σ' H'
 | .ret u=>∃ v σ' H',Inv X pins σ' H' s'/\RelV v u/\D.rt v H'
def PE(X:Cx)(e:Expr)(t:TE):Prop:=
 ∀ (pins:List (Addr×Obj)) (s:Shared) (σ:St) (H:Hp) (Q:VK),Inv X pins σ H s->t σ H Q->wpAny (model X.prog X.w) X.A (eval e X.env) (EP X pins σ Q) X.xe s
def PT(X:Cx)(e:Expr)(t:TT):Prop:=
 ∀ (pins:List (Addr×Obj)) (s:Shared) (σ:St) (H:Hp) (Q:Bool->Hp->Prop),Inv X pins σ H s->t σ H Q->wpAny (model X.prog X.w) X.A (isTrue e X.env (eval e X.env)) (TP X pins σ Q) X.xe s
def PW(X:Cx)(e:Expr)(t:TT):Prop:=
 ∀ (whole:Sem Value) (pins:List (Addr×Obj)) (s:Shared) (σ:St) (H:Hp) (Q:Bool->Hp->Prop),Inv X pins σ H s->t σ H Q->wpAny (model X.prog X.w) X.A (isTrue e X.env whole) (TP X pins σ Q) X.xe s
theorem PW.pt{X:Cx}{e:Expr}{t:TT}(h:PW X e t):PT X e t:=h _
def PA(X:Cx)(es:List Expr)(t:TA):Prop:=
 ∀ (pos:Pos) (pins:List (Addr×Obj)) (s:Shared) (σ:St) (H:Hp) (Q:List V->Hp->Prop),Inv X pins σ H s->t σ H Q->wpAny (model X.prog X.w) X.A (spliced (backTo pos (starEach es X.env))) (AP X pins σ Q) X.xe s
def PS(X:Cx)(st:Stmt)(t:TS):Prop:=
 ∀ (pins:List (Addr×Obj)) (s:Shared) (σ:St) (H:Hp) (D:Ends),Inv X pins σ H s->t D σ H->wpAny (model X.prog X.w) X.A (exec st X.env) (SP X pins D) X.xe s
def PSs(X:Cx)(st:List Stmt)(t:TS):Prop:=
 ∀ (pins:List (Addr×Obj)) (s:Shared) (σ:St) (H:Hp) (D:Ends),Inv X pins σ H s->t D σ H->wpAny (model X.prog X.w) X.A (execs st X.env) (SP X pins D) X.xe s
theorem thn{α:Type}{t:Sem α}{Q Q':α->Shared->Prop}{M:Model}{A:Around}(h:wpAny M A t Q E s)(hQ:∀ a s,Q a s->Q' a s):wpAny M A t Q' E s:=wpAny_mono h hQ fun _ _ x=>x
section
variable {X:Cx}
theorem bin{a b:Expr}{ta tb:TE}(ha:PE X a ta)(hb:PE X b tb){R:V->V->Hp->Prop}(I:Inv X pins σ H s)(h:ta σ H fun x H1=>tb σ H1 fun y H2=>R x y H2){α:Type}{Q:α->Shared->Prop}{f:Value->Value->Sem α}(hf:∀ v u s2 x y H2,Inv X pins σ H2 s2->RelV x v->RelV y u->R x y H2->wpAny (model X.prog X.w) X.A (f v u) Q X.xe s2) :
  wpAny (model X.prog X.w) X.A (eval a X.env) (fun v s₁=>wpAny (model X.prog X.w) X.A (eval b X.env) (fun u s₂=>wpAny (model X.prog X.w) X.A (f v u) Q X.xe s₂) X.xe s₁) X.xe s:=by
 refine thn (ha pins s σ H _ I h) fun v s1 ⟨x,H1,I1,r1,q1⟩=>?_
 refine thn (hb pins s1 σ H1 _ I1 q1) fun u s2 ⟨y,H2,I2,r2,q2⟩=>?_
 exact hf v u s2 x y H2 I2 r1 r2 q2
def tVar(i:Nat):TE:=fun σ H Q=>∃ v,σ[i]?=some (some v)/\Q v H
def tC(v:V):TE:=fun _ H Q=>Q v H
theorem pe_var{x:Str}{pos:Pos}(hN:X.N[i]?=some x)(hv:Vis X.env.scope x)(hd:(x==("__debug__":Str))=false:=by decide)(hcd:(x==("__classdict__":Str))=false:=by decide):PE X (.Name x pos) (tVar i):=by
 intro pins s σ H Q I h
 obtain⟨v,e,h⟩:=h
 obtain⟨m,hn,hl⟩:=I.loc
 obtain⟨u,r,l⟩:=hl i x v hN e hv
 have fin:EP X pins σ Q u s:=⟨v,H,I,r,h⟩
 rcases l with ⟨hk,hm⟩|⟨hk,c,hc,hcell⟩
 ·exact wpAny_Name (wpAny_loadName_local I.ok.kind hk hn hm fin) hd
 ·rcases hk with hk|hk
  ·exact wpAny_Name (wpAny_loadName_cell I.ok.kind hk hc hcell fin) hd
  ·exact wpAny_Name (wpAny_loadName_free I.ok.kind hk hc hcell fin hcd) hd
theorem za3{i j pos}:PE X (.Constant (.int i) j pos) (tC (.int i)):=fun _ _ _ H _ I h=>wpAny_Constant_int ⟨.int i,H,I.tok _,⟨_,rfl⟩,h⟩
theorem zab2{b j pos}:PE X (.Constant (.bool b) j pos) (tC (.bl b)):=fun _ _ _ H _ I h=>Constant_bool ⟨.bl b,H,I,rfl,h⟩
theorem zbb2{x j pos}:PE X (.Constant (.str x) j pos) (tC (.str x)):=fun _ _ _ H _ I h=>Calls.Constant_str ⟨.str x,H,I.tok _,⟨_,rfl⟩,h⟩
def Gl(X:Cx)(x:Str):Prop:=X.env.kindOf x=some .globalImplicit
theorem zaq6{x:Str}{pos:Pos}{Q:Value->Shared->Prop}(I:Inv X pins σ H s)(hg:Gl X x)(hm:X.mg x=some u)(h:Q u s)(hd:(x==("__debug__":Str))=false:=by decide):wpAny (model X.prog X.w) X.A (eval (.Name x pos) X.env) Q E s:=
 Calls.Name_function_global I.ok.kind hg (Calls.loadGlobal_global (by rw[I.ok.glob];exact I.mod.glob.keeps I.bk) hm h) hd
theorem zac9{x:Str}{pos:Pos}{Q:Value->Shared->Prop}(I:Inv X pins σ H s)(hg:Gl X x)(hm:X.mg x=none)(hv:bootBuiltins x=some u)(h:Q u s)(hn:x≠"__name__":=by decide)(hd:(x==("__debug__":Str))=false:=by decide):wpAny (model X.prog X.w) X.A (eval (.Name x pos) X.env) Q E s:=by
 obtain⟨mb,h1,h2⟩:=I.mod.blt
 exact Calls.Name_function_global I.ok.kind hg (Calls.loadGlobal_builtin (by rw[I.ok.glob];exact I.mod.glob.keeps I.bk) hm (by rw[I.ok.blt];exact h1.keeps I.bk) ((h2 x hn).trans hv) h) hd
theorem zay9{x:Str}{v:V}{pos:Pos}(hg:Gl X x)(hm:X.mg x=some u)(r:RelV v u)(hd:(x==("__debug__":Str))=false:=by decide):PE X (.Name x pos) (tC v):=
 fun _ _ _ H _ I h=>zaq6 I hg hm ⟨v,H,I,r,h⟩ hd
theorem zbp7{x:Str}{v:V}{pos:Pos}(hg:Gl X x)(hm:X.mg x=none)(hv:bootBuiltins x=some u)(r:RelV v u)(hn:x≠"__name__":=by decide)(hd:(x==("__debug__":Str))=false:=by decide):PE X (.Name x pos) (tC v):=
 fun _ _ _ H _ I h=>zac9 I hg hm hv ⟨v,H,I,r,h⟩ hn hd
variable {a b:Expr}{ta tb:TE}{pos:Pos}
variable {tA tB':TT}{rest:List Expr}
def tOr(t u:TT):TT:=fun σ H Q=>t σ H fun c H1=>if c=true then Q true H1 else u σ H1 Q
def tNot(t:TT):TT:=fun σ H Q=>t σ H fun c H1=>Q (!c) H1
theorem zad8(ha:PT X a tA):PW X (.BoolOp .Or [a] pos) tA:=by
 intro wh pins s σ H Q I h
 refine isTrue_or (thn (ha pins s σ H Q I h) fun c s1 e=>?_)
 cases c with
 | false=>exact isTrue_or_nil e
 | true=>exact e
theorem pw_or(ha:PT X a tA)(hb:PW X (.BoolOp .Or (b :: rest) pos) tB'):PW X (.BoolOp .Or (a :: b :: rest) pos) (tOr tA tB'):=by
 intro wh pins s σ H Q I h
 refine isTrue_or (thn (ha pins s σ H _ I h) fun c s1 ⟨H1,I1,q1⟩=>?_)
 cases c with
 | true=>exact⟨H1,I1,q1⟩
 | false=>exact hb wh pins s1 σ H1 Q I1 q1
theorem zo1(ha:PT X a tA):PT X (.UnaryOp .Not a pos) (tNot tA):=by
 intro pins s σ H Q I h
 exact isTrue_not (ha pins s σ H (fun c H1=>Q (!c) H1) I h)
theorem zp2{op}{t:TE}(h:PE X a t):PE X (.BoolOp op [a] pos) t:=fun pins s σ H Q I hw=>BoolOp_one (h pins s σ H Q I hw)
end
def SqL(K:zbz7)(H:Hp)(a:Addr)(xs:List V):Prop:=
 Rd H a (.lst xs) ∨
  ∃ (o:Obj) (its:Array Value) (n:Nat),K.lookup a=some o/\o.cls=.type "list"/\o.dict=none/\o.data=.seq its n/\its.size<=sizeLine/\Vals xs its.toList
def SqT(K:zbz7)(H:Hp)(a:Addr)(xs:List V):Prop:=
 Rd H a (.tup xs) ∨
  ∃ (o:Obj) (its:Array Value) (n:Nat),K.lookup a=some o/\o.cls=.type "tuple"/\o.data=.seq its n/\its.size<=sizeLine/\Vals xs its.toList
def absV:Value->Option V
 | .none=>some .non
 | .bool b=>some (.bl b)
 | .int i _=>some (.int i)
 | .str x _=>some (.str x)
 | .bytes b _=>some (.byt b)
 | .float b _=>some (.flt b)
 | .ref a=>some (.ref a)
 | .type n=>some (.ty n)
 | _=>none
theorem RelV.abs{x:V}(r:RelV x u):absV u=some x:=by
 cases x with
 | non=>cases r;rfl
 | bl _=>cases r;rfl
 | int _=>obtain⟨t,rfl⟩:=r;rfl
 | str _=>obtain⟨t,rfl⟩:=r;rfl
 | byt _=>obtain⟨t,rfl⟩:=r;rfl
 | flt _=>obtain⟨t,rfl⟩:=r;rfl
 | ref _=>cases r;rfl
 | ty _=>cases r;rfl
theorem RelV.inj{x y:V}{u:Value}(r:RelV x u)(q:RelV y u):x=y:=Option.some.inj (r.abs.symm.trans q.abs)
theorem Vals.inj:∀ {xs ys:List V}{us:List Value},Vals xs us->Vals ys us->xs=ys
 | _,_,_,.nil,.nil=>rfl
 | _,_,_,.cons r t,.cons r' t'=>by rw[r.inj r',Vals.inj t t']
section
variable {X:Cx}{pins:List (Addr×Obj)}{σ:St}{H:Hp}{s:Shared}{a:Addr}{xs ys:List V}
theorem SqL.of{K:zbz7}(h:H a=some (.lst xs)):SqL K H a xs:=.inl (.inl h)
theorem SqT.of{K:zbz7}(h:H a=some (.tup xs)):SqT K H a xs:=.inl (.inl h)
theorem Inv.list(I:Inv X pins σ H s)(h:SqL X.K H a xs):∃ its:List Value,Vals xs its/\PlainL s.heap a its.toArray/\xs.length<=sizeLine:=by
 rcases h with h|⟨o,its,n,hk,hc,hd,hs,hz,r⟩
 ·obtain⟨z,its,n,r,e⟩:=h.ok I.hok
  exact⟨its,r,⟨_,n,e,rfl,rfl,rfl⟩,z⟩
 ·refine⟨its.toList,r,⟨o,n,I.kIn a o hk,hc,hd,by simpa using hs⟩,?_⟩
  have e:=r.length
  simp only[zcc1] at e
  omega
theorem Inv.tuple(I:Inv X pins σ H s)(h:SqT X.K H a xs):∃ its:List Value,Vals xs its/\IsTup s.heap a its.toArray/\xs.length<=sizeLine:=by
 rcases h with h|⟨o,its,n,hk,hc,hs,hz,r⟩
 ·obtain⟨z,its,r,p⟩:=h.ok I.hok
  exact⟨its,r,p,z⟩
 ·refine⟨its.toList,r,⟨o,I.kIn a o hk,hc,n,by simpa using hs⟩,?_⟩
  have e:=r.length
  simp only[zcc1] at e
  omega
theorem Inv.list_inj(I:Inv X pins σ H s)(h:SqL X.K H a xs)(h':SqL X.K H a ys):xs=ys:=by
 obtain⟨its,r,⟨o,n,e,_,_,d⟩,_⟩:=I.list h
 obtain⟨its',r',⟨o',n',e',_,_,d'⟩,_⟩:=I.list h'
 rw[e] at e';cases e'
 rw[d] at d'
 injection d' with d1 _
 have:its=its':=by simpa using congrArg Array.toList d1
 subst this
 exact r.inj r'
theorem Inv.tuple_inj(I:Inv X pins σ H s)(h:SqT X.K H a xs)(h':SqT X.K H a ys):xs=ys:=by
 obtain⟨its,r,⟨o,e,_,n,d⟩,_⟩:=I.tuple h
 obtain⟨its',r',⟨o',e',_,n',d'⟩,_⟩:=I.tuple h'
 rw[e] at e';cases e'
 rw[d] at d'
 injection d' with d1 _
 have:its=its':=by simpa using congrArg Array.toList d1
 subst this
 exact r.inj r'
end
abbrev Cx.wish(X:Cx)(E:Value->Shared->Prop):Cx:={ X with xe:=E }
abbrev Cx.nox(X:Cx):Cx:=X.wish fun _ _=>False
theorem Cx.Ok.wish{X:Cx}(ok:X.Ok)(E:Value->Shared->Prop):(X.wish E).Ok:=
 ⟨ok.mod,ok.kind,ok.glob,ok.blt,ok.above,ok.inj,ok.has,ok.cab,ok.hd,ok.frames,ok.stk,ok.exf,ok.bs,ok.bsz,ok.noex,ok.exfs,ok.funs,ok.frf⟩
theorem Cx.Ok.unwish{X:Cx}(ok:(X.wish E).Ok):X.Ok:=
 ⟨ok.mod,ok.kind,ok.glob,ok.blt,ok.above,ok.inj,ok.has,ok.cab,ok.hd,ok.frames,ok.stk,ok.exf,ok.bs,ok.bsz,ok.noex,ok.exfs,ok.funs,ok.frf⟩
section
variable {X:Cx}{pins:List (Addr×Obj)}{σ:St}{H:Hp}{s:Shared}{E:Value->Shared->Prop}
theorem Inv.wish(I:Inv X pins σ H s)(E:Value->Shared->Prop):Inv (X.wish E) pins σ H s:=⟨I.ok.wish E,I.os,I.bare,I.base,I.loc,I.cell,I.free,I.freeC,I.pin,I.hok,I.len⟩
theorem Inv.unwish(I:Inv (X.wish E) pins σ H s):Inv X pins σ H s:=⟨I.ok.unwish,I.os,I.bare,I.base,I.loc,I.cell,I.free,I.freeC,I.pin,I.hok,I.len⟩
theorem SP.unwish{D:Ends}{f:Flow}{s':Shared}(h:SP (X.wish E) pins D f s'):SP X pins D f s':=by
 cases f with
 | next=>obtain⟨σ',H',I,q⟩:=h;exact⟨σ',H',I.unwish,q⟩
 | brk=>obtain⟨σ',H',I,q⟩:=h;exact⟨σ',H',I.unwish,q⟩
 | cont=>obtain⟨σ',H',I,q⟩:=h;exact⟨σ',H',I.unwish,q⟩
 | ret u=>obtain⟨v,σ',H',I,r,q⟩:=h;exact⟨v,σ',H',I.unwish,r,q⟩
theorem PSs.nox{st:List Stmt}{t:TS}(h:PSs X.nox st t):PSs X st t:=fun pins s σ H D I hw=>
 wpAny_mono (h pins s σ H D (I.wish _) hw) (fun _ _ q=>q.unwish) fun _ _ z=>False.elim z
end
section
variable {X:Cx}{st:Stmt}{rest:List Stmt}{t u:TS}{e:Expr}{te:TE}{pos:Pos}
def tNext:TS:=fun D σ H=>D.nx σ H
def tSeq(t u:TS):TS:=fun D σ H=>t { D with nx:=u D } σ H
theorem zf8:PSs X [] tNext:=fun _ _ σ H _ I h=>wpAny_execs_nil ⟨σ,H,I,h⟩
theorem za2(h1:PS X st t)(h2:PSs X rest u):PSs X (st :: rest) (tSeq t u):=by
 intro pins s σ H D I h
 refine wpAny_execs_cons (thn (h1 pins s σ H { D with nx:=u D } I h) fun f s1 q=>?_)
 cases f with
 | next=>
  obtain⟨σ',H',I',q⟩:=q
  exact h2 pins s1 σ' H' D I' q
 | ret v=>exact q
 | brk=>exact q
 | cont=>exact q
theorem za6(h1:PS X st t):PSs X [st] t:=by
 intro pins s σ H D I h
 refine wpAny_execs_cons (thn (h1 pins s σ H D I h) fun f s1 q=>?_)
 cases f with
 | next=>exact wpAny_execs_nil q
 | ret v=>exact q
 | brk=>exact q
 | cont=>exact q
theorem Inv.quiet(I:Inv X pins σ H s):interactive X.env=false:=by simp[interactive,I.ok.kind]
def tDrop(te:TE):TS:=fun D σ H=>te σ H fun _ H1=>D.nx σ H1
theorem zk9(he:PE X e te)(hs:swapsWith e none pos.line X.env=pure false:=by rfl):PS X (.Expr e pos) (tDrop te):=by
 intro pins s σ H D I h
 exact wpAny_Expr_any (thn (he pins s σ H _ I h) fun v s1 ⟨x,H1,I1,r1,q1⟩=>⟨σ,H1,I1,q1⟩) I.quiet hs
def tRet(te:TE):TS:=fun D σ H=>te σ H D.rt
theorem zb2(he:PE X e te):PS X (.Return (some e) pos) (tRet te):=by
 intro pins s σ H D I h
 exact wpAny_Return_some (thn (he pins s σ H _ I h) fun v s1 ⟨x,H1,I1,r1,q1⟩=>⟨x,σ,H1,I1,r1,q1⟩)
def tIfS(c:TT)(t u:TS):TS:=fun D σ H=>c σ H fun b H1=>if b=true then t D σ H1 else u D σ H1
theorem ps_if{c:Expr}{a b:List Stmt}{tc:TT}(hc:PT X c tc)(ha:PSs X a t)(hb:PSs X b u):PS X (.If c a b pos) (tIfS tc t u):=by
 intro pins s σ H D I h
 refine wpAny_If (thn (hc pins s σ H _ I h) fun d s1 ⟨H1,I1,q1⟩=>?_)
 cases d with
 | true=>exact ha pins s1 σ H1 D I1 q1
 | false=>exact hb pins s1 σ H1 D I1 q1
end
abbrev TG:=V->St->Hp->(St->Hp->Prop)->Prop
abbrev TGs:=List V->St->Hp->(St->Hp->Prop)->Prop
def PG(X:Cx)(target:Expr)(t:TG):Prop:=
 ∀ (pins:List (Addr×Obj)) (s:Shared) (σ:St) (H:Hp) (v:V) (u:Value) (Q:St->Hp->Prop),Inv X pins σ H s->RelV v u->t v σ H Q ->
  wpAny (model X.prog X.w) X.A (assign target X.env u) (fun _ s'=>∃ σ' H',Inv X pins σ' H' s'/\Q σ' H') X.xe s
def PGs(X:Cx)(ts:List Expr)(t:TGs):Prop:=
 ∀ (pins:List (Addr×Obj)) (s:Shared) (σ:St) (H:Hp) (vs:List V) (us:List Value) (Q:St->Hp->Prop),Inv X pins σ H s->Vals vs us->t vs σ H Q ->
  wpAny (model X.prog X.w) X.A (assignInOrder ((assignEach ts X.env).map (·.2)) us) (fun _ s'=>∃ σ' H',Inv X pins σ' H' s'/\Q σ' H') X.xe s
abbrev TSet:=V->V->V->Hp->(Hp->Prop)->Prop
def PSet(X:Cx)(t:TSet):Prop:=
 ∀ (pins:List (Addr×Obj)) (s:Shared) (σ:St) (H:Hp) (o i v:V) (ov iv u:Value) (Q:Hp->Prop),Inv X pins σ H s->RelV o ov->RelV i iv->RelV v u->t o i v H Q ->
  wpAny (model X.prog X.w) X.A (setItem ov iv u) (fun _ s'=>∃ H',Inv X pins σ H' s'/\Q H') X.xe s
abbrev TIp:=V->V->Hp->VK->Prop
def PIp(X:Cx)(op:Operator)(t:TIp):Prop:=
 ∀ (pins:List (Addr×Obj)) (s:Shared) (σ:St) (H:Hp) (x y:V) (v u:Value) (Q:VK),Inv X pins σ H s->RelV x v->RelV y u->t x y H Q ->
  wpAny (model X.prog X.w) X.A (inplaceOp op v u) (EP X pins σ Q) X.xe s
section
variable {X:Cx}{pos:Pos}
def gName(i:Nat):TG:=fun v σ H Q=>Q (σ.set i (some v)) H
theorem za7{x:Str}(hN:X.N.Nodup)(hi:X.N[i]?=some x)(hx:Loc X.env.scope x)(hf:X.fn x=true∨X.env.scope.names.lookup x=some .local:=by first|exact .inl rfl|exact .inr rfl|assumption):PG X (.Name x pos) (gName i):=by
 intro pins s σ H v u Q I r h
 exact wpAny_assign_Name (zae7 I hN hi hx r (fun s' I'=>⟨_,H,I',h⟩) hf)
def gNil:TGs:=fun vs σ H Q=>vs=[]/\Q σ H
def gCons(t:TG)(u:TGs):TGs:=fun vs σ H Q=>∃ v r,vs=v :: r/\t v σ H fun σ' H'=>u r σ' H' Q
theorem zbq2:PGs X [] gNil:=by
 intro pins s σ H vs us Q I r h
 obtain⟨e,h⟩:=h
 subst e
 cases r
 exact assignInOrder_nil ⟨σ,H,I,h⟩
theorem zbk2{e:Expr}{es:List Expr}{t:TG}{u:TGs}(h1:PG X e t)(h2:PGs X es u)(hs:(assignEach (e :: es) X.env).map (·.2)=assign e X.env :: (assignEach es X.env).map (·.2):=by rfl):PGs X (e :: es) (gCons t u):=by
 intro pins s σ H vs us Q I r h
 obtain⟨v,vr,e1,h⟩:=h
 subst e1
 cases r with
 | cons r rr=>
  rw[hs]
  refine assignInOrder_cons (thn (h1 pins s σ H _ _ _ I r h) fun _ s1 ⟨σ1,H1,I1,q1⟩=>?_)
  exact h2 pins s1 σ1 H1 _ _ Q I1 rr q1
def gTup(K:zbz7)(n:Nat)(t:TGs):TG:=fun v σ H Q=>∃ a xs,v=.ref a/\SqT K H a xs/\xs.length=n/\t xs σ H Q
theorem pg_tup{es:List Expr}{k:Nat}{t:TGs}{n:Nat}(hc:X.calm=true)(h:PGs X es t)(hn:(assignEach es X.env).length=n:=by rfl)(hst:(assignEach es X.env).findIdx? (·.1)=none:=by rfl):PG X (.Tuple es k pos) (gTup X.K n t):=by
 intro pins s σ H v u Q I r hw
 obtain⟨a,xs,e1,hq,hl,hw⟩:=hw
 subst e1
 cases r
 obtain⟨its,rv,ht,hz⟩:=I.tuple hq
 refine assign_Tuple_tuple (I.ok.hd hc) ht (by simp[hn,← hl,rv.length]) hst fun h' hx=>?_
 have I1:Inv X pins σ H { s with heap:=h' }:=I.kept (t':=s.toks) fun b o e=>hx b o (zcc9 (zca7 e)) e
 exact h pins _ σ H xs _ Q I1 (by simpa using rv) hw
def gSub(to ti:TE)(t:TSet):TG:=fun v σ H Q=>to σ H fun o H1=>ti σ H1 fun i H2=>t o i v H2 fun H3=>Q σ H3
theorem zbm6{o i:Expr}{to ti:TE}{t:TSet}(ho:PE X o to)(hi:PE X i ti)(hs:PSet X t)(ha:∀ v,assign (.Subscript o i pos) X.env v=(do
   let ov ← holding [v] (eval o X.env)
   let iv ← holding [v,ov] (eval i X.env)
   standAt pos
   holding [v,ov,iv] (setItem ov iv v)
   release [v,ov,iv] []):=by intro _;rfl):PG X (.Subscript o i pos) (gSub to ti t):=by
 intro pins s σ H v u Q I r h
 rw[ha]
 refine zci2 (zci7 (thn (ho pins s σ H _ I h) fun ov s1 ⟨x,H1,I1,r1,q1⟩=>?_))
 refine zci2 (zci7 (thn (hi pins s1 σ H1 _ I1 q1) fun iv s2 ⟨y,H2,I2,r2,q2⟩=>?_))
 refine zci2 (wpAny_standAt (zci2 (zci7 (thn (hs pins s2 σ H2 x y v ov iv u _ I2 r1 r2 r q2) fun _ s3 ⟨H3,I3,q3⟩=>?_))))
 exact wpAny_release ⟨σ,H3,I3,q3⟩
def tAsg(te:TE)(g:TG):TS:=fun D σ H=>te σ H fun x H1=>g x σ H1 D.nx
theorem zbn0{e:Expr}{te:TE}{g:TG}(he:PE X e te)(hg:PG X tg g)(hs:swapsWithSole [tg] e pos.line X.env=pure false:=by rfl)(hw:swappedStores [tg] e X.env=pure none:=by rfl)(h1:(assignEach [tg] X.env).map (·.2)=[assign tg X.env]:=by rfl):PS X (.Assign [tg] e pos) (tAsg te g):=by
 intro pins s σ H D I h
 refine wpAny_Assign_stores (thn (he pins s σ H _ I h) fun v s1 ⟨x,H1,I1,r1,q1⟩=>?_) hs hw
 rw[h1]
 exact thn (hg pins s1 σ H1 x v _ I1 r1 q1) fun _ s2 q=>q
theorem ps_set{x:Str}{e:Expr}{te:TE}{pos':Pos}(hN:X.N.Nodup)(hi:X.N[i]?=some x)(hx:Loc X.env.scope x)(he:PE X e te)(hs:swapsWith e (some (.Name x pos')) pos.line X.env=pure false:=by rfl)(hf:X.fn x=true∨X.env.scope.names.lookup x=some .local:=by first|exact .inl rfl|exact .inr rfl|assumption) :
  PS X (.Assign [.Name x pos'] e pos) (tAsg te (gName i)):=by
 intro pins s σ H D I h
 refine wpAny_Assign_Name (thn (he pins s σ H _ I h) fun v s1 ⟨y,H1,I1,r1,q1⟩=>?_) hs
 exact zae7 I1 hN hi hx r1 (fun s2 I2=>⟨_,H1,I2,q1⟩) hf
def tAug(i:Nat)(te:TE)(ti:TIp):TS:=fun D σ H=>∃ x,σ[i]?=some (some x)/\te σ H fun y H1=>ti x y H1 fun z H2=>D.nx (σ.set i (some z)) H2
theorem ps_aug{x:Str}{e:Expr}{te:TE}{op:Operator}{ti:TIp}{pos':Pos}(hN:X.N.Nodup)(hi:X.N[i]?=some x)(hx:Loc X.env.scope x)(he:PE X e te)(ho:PIp X op ti)(hf:X.fn x=true∨X.env.scope.names.lookup x=some .local:=by first|exact .inl rfl|exact .inr rfl|assumption) :
  PS X (.AugAssign (.Name x pos') op e pos) (tAug i te ti):=by
 intro pins s σ H D I h
 obtain⟨v,e1,h⟩:=h
 obtain⟨m,hn,hl⟩:=I.loc
 have vis:Vis X.env.scope x:=by rcases hx with k|k;exact .inl k;exact .inr (.inl k)
 obtain⟨u,r,l⟩:=hl i x v hi e1 vis
 refine wpAny_AugAssign_Name ?_
 have go:wpAny (model X.prog X.w) X.A (eval e X.env) (fun w s₂=>wpAny (model X.prog X.w) X.A (inplaceOp op u w) (fun r s₃=>wpAny (model X.prog X.w) X.A (storeName X.env x r) (fun _=>SP X pins D .next) X.xe s₃) X.xe s₂) X.xe s:=by
  refine thn (he pins s σ H _ I h) fun w s1 ⟨y,H1,I1,r1,q1⟩=>?_
  refine thn (ho pins s1 σ H1 v y u w _ I1 r r1 q1) fun z s2 ⟨zv,H2,I2,r2,q2⟩=>?_
  exact zae7 I2 hN hi hx r2 (fun s3 I3=>⟨_,H2,I3,q2⟩) hf
 rcases l with ⟨hk,hm⟩|⟨hk,c,hc,hcell⟩
 ·exact wpAny_loadName_local I.ok.kind hk hn hm go
 ·rcases hk with hk|hk
  ·exact wpAny_loadName_cell I.ok.kind hk hc hcell go
  ·rcases hx with k|k
   ·have:X.env.scope.names.lookup x=some .free:=hk
    rw[k] at this;cases this
   ·have:X.env.scope.names.lookup x=some .free:=hk
    rw[k] at this;cases this
end
section
variable {X:Cx}{pos:Pos}
def tWhile(c:TT)(tb:TS):TS:=fun D σ H=>∃ W:Nat->St->Hp->Prop,(∃ m,W m σ H)/\∀ m σ H,W m σ H ->
 c σ H fun b H1=>if b=true then ∃ N:St->Hp->Prop,(∀ σ' H',N σ' H'->∃ m',m'<m/\W m' σ' H')/\tb { D with nx:=N,ct:=N,bk:=D.nx } σ H1 else D.nx σ H1
theorem zbj1{c:Expr}{body:List Stmt}{tc:TT}{tb:TS}(hp:PassesOwn (model X.prog X.w) X.A X.env X.xe)(hc:PT X c tc)(hb:PSs X body tb):PS X (.While c body [] pos) (tWhile tc tb):=by
 intro pins s σ H D I h
 obtain⟨W,⟨m0,w0⟩,turn⟩:=h
 refine wpAny_While (codeAny_whileLoop (fun n s'=>∃ σ' H',Inv X pins σ' H' s'/\W n σ' H') ?_ m0 ⟨σ,H,I,w0⟩)
 rintro n s1 ⟨σ1,H1,I1,w1⟩
 refine wpAny_passesOwn hp (thn (hc pins s1 σ1 H1 _ I1 (turn n σ1 H1 w1)) fun b s2 ⟨H2,I2,q2⟩=>?_)
 cases b with
 | true=>
  obtain⟨N,hN,q2⟩:=q2
  rw[if_pos rfl]
  refine wpAny_passesOwn hp (thn (hb pins s2 σ1 H2 _ I2 q2) fun f s3 q3=>?_)
  cases f with
  | next=>
   obtain⟨σ3,H3,I3,n3⟩:=q3
   obtain⟨m',hm,w3⟩:=hN σ3 H3 n3
   exact⟨m',hm,σ3,H3,I3,w3⟩
  | cont=>
   obtain⟨σ3,H3,I3,n3⟩:=q3
   obtain⟨m',hm,w3⟩:=hN σ3 H3 n3
   exact⟨m',hm,σ3,H3,I3,w3⟩
  | brk=>exact q3
  | ret v=>exact q3
 | false=>
  rw[if_neg zca4]
  exact wpAny_execs_nil ⟨σ1,H2,I2,q2⟩
end
structure It where
 go:Nat->Hp->Prop
 yld:Nat->Hp->V->Hp->Prop
 stop:Nat->Hp->Prop
def FpOk(X:Cx)(pins:List (Addr×Obj))(H:Hp)(b:Addr):Prop:=
 H b=none/\b≠X.env.locals/\b ∉ X.fs/\(b∈X.ex∨X.s₀.heap.objs.size<=b)/\(∀ x c,X.env.cells.lookup x=some c->c≠b)/\∀ p∈X.pn++pins,p.1≠b
theorem Inv.fpOk{X:Cx}{H':Hp}{b:Addr}(I:Inv X pins σ H s)(hb:s.heap.objs.size<=b)(hn:H' b=none):FpOk X pins H' b:=by
 refine⟨hn,zch4 (zcb5 I.lt hb),I.nofs hb,.inr (zcd9 I.sz hb),fun x c e z=>?_,fun p hp z=>?_⟩
 ·obtain⟨v,q⟩:=I.cell x c e
  exact absurd (zcb5 q.lt (by rw[z];exact hb)) (zce8 _)
 ·exact absurd (zcb5 (zca7 (I.pin p hp).1) (by rw[z];exact hb)) (zce8 _)
structure Turn(P:Program)(w:World)(K:zbz7)(tg:Expr)(J:It)(fp:List Addr)(it:Addr)(tn:Nat->Heap->Prop):Prop where
 mem:it∈fp
 obj:∀ i h,tn i h->∀ b∈fp,∃ o,h.get? b=some o/\∀ v,o.data≠.cell v
 keep:∀ i h h',tn i h->(∀ b∈fp,∀ o,h.get? b=some o->h'.get? b=some o)->tn i h'
 item:∀ (X:Cx),X.prog=P->X.w=w->X.K=K->X.calm=true->∀ (i:Nat) (pins:List (Addr×Obj)) (s:Shared) (σ:St) (H:Hp) (E:Value->Shared->Prop),Inv X pins σ H s->(∀ b∈fp,FpOk X pins H b)->tn i s.heap->J.go i H ->
  wpAny (model P w) X.A (pyNext (.ref it)) (fun r s1=>∃ u,r=some u /\
   wpAny (model P w) X.A (letOwnedTupleGo tg (.ref it) u) (fun _ s2=>∃ x H',Inv X pins σ H' s2/\RelV x u/\J.yld i H x H'/\tn (i+1) s2.heap/\∀ b∈fp,H' b=none) E s1) E s
 done:∀ (X:Cx),X.prog=P->X.w=w->X.K=K->X.calm=true->∀ (i:Nat) (pins:List (Addr×Obj)) (s:Shared) (σ:St) (H:Hp) (E:Value->Shared->Prop),Inv X pins σ H s->(∀ b∈fp,FpOk X pins H b)->tn i s.heap->J.stop i H ->
  wpAny (model P w) X.A (pyNext (.ref it)) (fun r s1=>r=none/\Inv X pins σ H s1) E s
 self:∀ (A:Around) (i:Nat) (s:Shared) (Q:Value->Shared->Prop) (E:Value->Shared->Prop),tn i s.heap->Q (.ref it) s->wpAny (model P w) A (pyIter (.ref it)) Q E s
abbrev TI:=St->Hp->(It->Hp->Prop)->Prop
def PIE(X:Cx)(pins:List (Addr×Obj))(σ:St)(tg:Expr)(R:It->Hp->Prop)(itv:Value)(s2:Shared):Prop:=
 ∃ (it:Addr) (fp:List Addr) (tn:Nat->Heap->Prop) (J:It) (H':Hp),itv=.ref it/\Inv X pins σ H' s2/\Turn X.prog X.w X.K tg J fp it tn/\tn 0 s2.heap/\(∀ b∈fp,FpOk X pins H' b)/\R J H'
def PI(X:Cx)(tg iter:Expr)(wi:TI):Prop:=
 ∀ (pins:List (Addr×Obj)) (s:Shared) (σ:St) (H:Hp) (R:It->Hp->Prop),Inv X pins σ H s->wi σ H R ->
  wpAny (model X.prog X.w) X.A (eval iter X.env) (fun v s1=>wpAny (model X.prog X.w) X.A (pyIter v) (PIE X pins σ tg R) X.xe s1) X.xe s
theorem go_of{M:Model}{A:Around}{it:Addr}{o:Obj}{n:String}{vs:Array Value}{Q:Unit->Shared->Prop}(ho:s.heap.get? it=some o)(hc:o.cls=.type n)(hd:o.data=.fields vs)(hn:["enumerate","zip","dict_itemiterator","dict_reverseitemiterator","odict_iterator","itertools.zip_longest","itertools.pairwise"].contains n=false)(hQ:Q () s):wpAny M A (letOwnedTupleGo tg (.ref it) u) Q E s:=by
 unfold letOwnedTupleGo
 cases tg<;>first
  | exact zci3 hQ
  | (cases u<;>first
    | exact zci3 hQ
    | (refine zci2 (wpAny_load ho ?_);rw[hc,hd];show wpAny M A (if (["enumerate","zip","dict_itemiterator","dict_reverseitemiterator","odict_iterator","itertools.zip_longest","itertools.pairwise"].contains n&&vs[0]?==some (rawInt _))=true then _ else _) Q E s;rw[if_neg (by intro h;rw[hn,Bool.false_and] at h;cases h)];exact zci3 hQ))
def Itl(K:zbz7)(a:Addr):It:=
 ⟨fun i H=>∃ xs x,SqL K H a xs/\xs[i]?=some x,fun i H x H'=>H'=H/\∀ xs,SqL K H a xs->xs[i]?=some x,fun i H=>∃ xs,SqL K H a xs/\xs.length<=i⟩
def Itt(K:zbz7)(a:Addr):It:=
 ⟨fun i H=>∃ xs x,SqT K H a xs/\xs[i]?=some x,fun i H x H'=>H'=H/\∀ xs,SqT K H a xs->xs[i]?=some x,fun i H=>∃ xs,SqT K H a xs/\xs.length<=i⟩
def Itr(lo:Int)(n:Nat):It:=⟨fun i _=>i<n,fun i H x H'=>H'=H/\x=.int (lo+i),fun i _=>n<=i⟩
theorem zbf8{P:Program}{w:World}{K:zbz7}(a it:Addr):Turn P w K tg (Itl K a) [it] it (fun i h=>h.IsListIter it a i) where
 mem:=by simp
 obj:=fun i h st b hb=>by
  have e:b=it:=by simpa using hb
  subst e
  obtain⟨o,e,c,d⟩:=st
  exact⟨o,e,fun v z=>by rw[d] at z;cases z⟩
 keep:=fun i h h' st k=>st.at fun o e=>k it (by simp) o e
 item:=by
  intro X hP hw hK hc i pins s σ H E I hf st hg
  subst hP hw hK
  obtain⟨xs,x,hq,hx⟩:=hg
  obtain⟨its,rv,p,hz⟩:=I.list hq
  obtain⟨u,hu,ru⟩:=rv.get hx
  obtain⟨f0,f1,f2,f3,f4,f5⟩:=hf it (by simp)
  refine wpAny_pyNext_list_item st p.isList (x:=u) (by simpa using hu) fun h' st' sb=>?_
  have I1:Inv X pins σ H { s with heap:=h' }:=I.turned (t':=s.toks) (fun b o hb e=>(sb.2 b hb).trans e) f0 f1 f3 f4 f5
  obtain⟨o,e,c,d⟩:=id st'
  exact⟨u,rfl,go_of (s:={ s with heap:=h' }) e c d (by decide) ⟨x,H,I1,ru,⟨rfl,fun ys hy=>by rw[I.list_inj hy hq];exact hx⟩,st',fun b hb=>(hf b hb).1⟩⟩
 done:=by
  intro X hP hw hK hc i pins s σ H E I hf st hg
  subst hP hw hK
  obtain⟨xs,hq,hx⟩:=hg
  obtain⟨its,rv,p,hz⟩:=I.list hq
  obtain⟨f0,f1,f2,f3,f4,f5⟩:=hf it (by simp)
  have hl:=rv.length
  exact wpAny_pyNext_list_end (I.ok.hd hc) st p.isList (by simp;omega) fun h' eb=>⟨rfl,I.turned (t':=s.toks) (fun b o hb e=>eb b o hb e) f0 f1 f3 f4 f5⟩
 self:=fun _ _ _ _ _ st h=>wpAny_pyIter_listiter st h
theorem zau9{P:Program}{w:World}{K:zbz7}(a it:Addr):Turn P w K tg (Itt K a) [it] it (fun i h=>h.IsTupleIter it a i) where
 mem:=by simp
 obj:=fun i h st b hb=>by
  have e:b=it:=by simpa using hb
  subst e
  obtain⟨o,e,c,d⟩:=st
  exact⟨o,e,fun v z=>by rw[d] at z;cases z⟩
 keep:=fun i h h' st k=>st.at fun o e=>k it (by simp) o e
 item:=by
  intro X hP hw hK hc i pins s σ H E I hf st hg
  subst hP hw hK
  obtain⟨xs,x,hq,hx⟩:=hg
  obtain⟨its,rv,p,hz⟩:=I.tuple hq
  obtain⟨u,hu,ru⟩:=rv.get hx
  obtain⟨f0,f1,f2,f3,f4,f5⟩:=hf it (by simp)
  refine wpAny_pyNext_tuple_item st (show s.heap.IsTuple a its.toArray from p) (x:=u) (by simpa using hu) fun h' st' sb=>?_
  have I1:Inv X pins σ H { s with heap:=h' }:=I.turned (t':=s.toks) (fun b o hb e=>(sb.2 b hb).trans e) f0 f1 f3 f4 f5
  obtain⟨o,e,c,d⟩:=id st'
  exact⟨u,rfl,go_of (s:={ s with heap:=h' }) e c d (by decide) ⟨x,H,I1,ru,⟨rfl,fun ys hy=>by rw[I.tuple_inj hy hq];exact hx⟩,st',fun b hb=>(hf b hb).1⟩⟩
 done:=by
  intro X hP hw hK hc i pins s σ H E I hf st hg
  subst hP hw hK
  obtain⟨xs,hq,hx⟩:=hg
  obtain⟨its,rv,p,hz⟩:=I.tuple hq
  obtain⟨f0,f1,f2,f3,f4,f5⟩:=hf it (by simp)
  have hl:=rv.length
  exact wpAny_pyNext_tuple_end (I.ok.hd hc) st (show s.heap.IsTuple a its.toArray from p) (by simp;omega) fun h' eb=>⟨rfl,I.turned (t':=s.toks) (fun b o hb e=>eb b o hb e) f0 f1 f3 f4 f5⟩
 self:=fun _ _ _ _ _ st h=>wpAny_pyIter_tupleiter st h
theorem zaw6{P:Program}{w:World}{K:zbz7}(it:Addr)(lo:Int)(n:Nat):Turn P w K tg (Itr lo n) [it] it (fun i h=>IsRangeIter h it (lo+(i:Nat)*1) ((n:Int) - (i:Nat)) 1) where
 mem:=by simp
 obj:=fun i h st b hb=>by
  have e:b=it:=by simpa using hb
  subst e
  exact⟨_,st,fun v z=>by
   have z':Data.fields _=Data.cell v:=z
   cases z'⟩
 keep:=fun i h h' st k=>k it (by simp) _ st
 item:=by
  intro X hP hw hK hc i pins s σ H E I hf st hg
  subst hP hw hK
  obtain⟨f0,f1,f2,f3,f4,f5⟩:=hf it (by simp)
  have W:=Walks.range (prog:=X.prog) (w:=X.w) (I.ok.hd hc) it lo 1 n
  refine W.item i s _ _ hg st fun v h' tk hv st' kk=>?_
  obtain⟨t,rfl⟩:=hv
  have I1:Inv X pins σ H { s with heap:=h',toks:=tk }:=I.turned (fun b o hb e=>kk b o (by simpa using hb) e) f0 f1 f3 f4 f5
  refine⟨_,rfl,go_of (s:={ s with heap:=h',toks:=tk }) (n:="range_iterator") st' rfl rfl (by decide) ⟨.int (lo+i),H,I1,⟨t,?_⟩,⟨rfl,rfl⟩,st',fun b hb=>(hf b hb).1⟩⟩
  rw[Int.mul_one]
 done:=by
  intro X hP hw hK hc i pins s σ H E I hf st hg
  subst hP hw hK
  obtain⟨f0,f1,f2,f3,f4,f5⟩:=hf it (by simp)
  exact wpAny_pyNext_range_end (I.ok.hd hc) st (by have:n<=i:=hg;omega) fun h' eb=>⟨rfl,I.turned (t':=s.toks) (fun b o hb e=>eb b o hb e) f0 f1 f3 f4 f5⟩
 self:=fun _ _ _ _ _ st h=>wpAny_pyIter_rangeiter st h
section
variable {X:Cx}{tg:Expr}
theorem zas5{R:It->Hp->Prop}{lo hi:Int}{t u v:Tok}{tk:Nat}(I:Inv X pins σ H s)(h1:-(2 ^ 62)<=lo)(h2:lo<2 ^ 62)(h3:-(2 ^ 62)<=hi)(h4:hi<2 ^ 62)(q:R (Itr lo (hi - lo).toNat) H):wpAny (model X.prog X.w) X.A (pyIter (.ref s.heap.objs.size)) (PIE X pins σ tg R) E { s with heap:=s.heap.push { cls:=.type "range",data:=.fields #[.int lo t,.int hi u,.int 1 v] },toks:=tk }:=by
 refine wpAny_pyIter_range (IsRange.new ..) (small_one h1 h2 h3 h4) ?_
 have I1:Inv X pins σ H { s with heap:=s.heap.push { cls:=.type "range",data:=.fields #[.int lo t,.int hi u,.int 1 v] },toks:=tk }:=I.kept fun b o e=>zca1 _ e
 refine⟨(s.heap.push { cls:=.type "range",data:=.fields #[.int lo t,.int hi u,.int 1 v] }).objs.size,[(s.heap.push { cls:=.type "range",data:=.fields #[.int lo t,.int hi u,.int 1 v] }).objs.size],_,_,H,rfl,
  I1.kept (t':=tk) fun b o e=>zca1 _ e,zaw6 _ lo (hi - lo).toNat,?_,fun b hb=>?_,q⟩
 ·have e1:lo+((0:Nat):Int)*1=lo:=by simp
  have e2:(((hi - lo).toNat:Nat):Int) - ((0:Nat):Int)=Builtin.Range.rangeSize lo hi 1:=by rw[rangeSize_one];split<;>omega
  show IsRangeIter _ _ (lo+((0:Nat):Int)*1) ((((hi - lo).toNat:Nat):Int) - ((0:Nat):Int)) 1
  rw[e1,e2]
  exact zcb8 _ rfl
 ·have e:b=(s.heap.push { cls:=.type "range",data:=.fields #[.int lo t,.int hi u,.int 1 v] }).objs.size:=by simpa using hb
  subst e
  exact I1.fpOk (zcb0 _) (I1.hok.fresh (zcb0 _))
def tFor(wi:TI)(g:TG)(tb:TS):TS:=fun D σ H=>wi σ H fun J H1=>∃ W:Nat->Nat->St->Hp->Prop,(∃ m,W 0 m σ H1)/\∀ i m σ H,W i m σ H ->
 (J.stop i H/\D.nx σ H)∨(J.go i H/\∃ N:St->Hp->Prop,(∀ σ' H',N σ' H'->∃ m',m'<m/\W (i+1) m' σ' H')/\∀ x H',J.yld i H x H'->g x σ H' fun σ2 H2=>tb { D with nx:=N,ct:=N,bk:=D.nx } σ2 H2)
def zac4(fp:List Addr)(h:Heap):List (Addr×Obj):=fp.filterMap fun b=>(h.get? b).map fun o=>(b,o)
theorem zj7{fp:List Addr}{b:Addr}{o:Obj}(hb:b∈fp)(e:h.get? b=some o):(b,o)∈zac4 fp h:=List.mem_filterMap.mpr ⟨b,hb,by rw[e];rfl⟩
theorem zbf2{fp:List Addr}{p:Addr×Obj}(hp:p∈zac4 fp h):p.1∈fp/\h.get? p.1=some p.2:=by
 obtain⟨b,hb,e⟩:=List.mem_filterMap.mp hp
 cases q:h.get? b with
 | none=>rw[q] at e;cases e
 | some o=>
  rw[q] at e
  have e':(b,o)=p:=Option.some.inj e
  subst e'
  exact⟨hb,q⟩
theorem Inv.pinned{fp:List Addr}(I:Inv X pins σ H s)(hf:∀ b∈fp,FpOk X pins H b)(ho:∀ b∈fp,∃ o,s.heap.get? b=some o/\∀ v,o.data≠.cell v):Inv X (pins++zac4 fp s.heap) σ H s:=
 I.pins_of fun p hp=>(zcd8.mp hp).elim (fun z=>I.pin p (zcb9 _ z)) fun z=>by
  obtain⟨hb,e⟩:=zbf2 z
  obtain⟨f0,f1,f2,_⟩:=hf p.1 hb
  obtain⟨o,e',d⟩:=ho p.1 hb
  rw[e] at e';cases e'
  exact⟨e,f0,f1,f2,d⟩
theorem Inv.unpinned{pl:List (Addr×Obj)}(I:Inv X (pins++pl) σ H s):Inv X pins σ H s:=I.pins_of fun p hp=>I.pin p (zcb9 _ (zch3 _ hp))
theorem ps_for{iter:Expr}{body:List Stmt}{wi:TI}{g:TG}{tb:TS}{pos:Pos}(hp:PassesOwn (model X.prog X.w) X.A X.env X.xe)(hc:X.calm=true)(hi:PI X tg iter wi)(hg:PG X tg g)(hb:PSs X body tb)(hs:∀ x,foldedSetIterable iter X.env x=pure x:=by intro _;rfl):PS X (.For tg iter body [] pos) (tFor wi g tb):=by
 intro pins s σ H D I h
 refine wpAny_For (thn (hi pins s σ H _ I h) fun v s1 h1=>thn h1 fun itv s2 h2=>?_) hs
 obtain⟨it,fp,tn,J,H2,e,I2,T,st2,f2,W,⟨m0,w0⟩,turn⟩:=h2
 subst e
 have stat:∀ {H':Hp},(∀ b∈fp,H' b=none)->∀ b∈fp,FpOk X pins H' b:=fun hn b hb=>⟨hn b hb,(f2 b hb).2⟩
 refine codeAny_forLoop_any (fun n s'=>∃ i σ' H',Inv X pins σ' H' s'/\tn i s'.heap/\(∀ b∈fp,H' b=none)/\W i n σ' H') ?_ m0 ⟨0,σ,H2,I2,st2,fun b hb=>(f2 b hb).1,w0⟩
 rintro n s3 ⟨i,σ3,H3,I3,st3,fr3,w3⟩
 rcases turn i n σ3 H3 w3 with ⟨stop,qn⟩|⟨go,N,hN,step⟩
 ·refine wpAny_passesOwn hp (thn (T.done X rfl rfl rfl hc i pins s3 σ3 H3 X.xe I3 (stat fr3) st3 stop) fun r s4 ⟨hr,I4⟩=>?_)
  subst hr
  exact wpAny_execs_nil ⟨σ3,H3,I4,qn⟩
 ·refine wpAny_passesOwn hp (thn (T.item X rfl rfl rfl hc i pins s3 σ3 H3 X.xe I3 (stat fr3) st3 go) fun r s4 ⟨u,hr,h4⟩=>?_)
  subst hr
  refine wpAny_passesOwn hp (thn h4 fun _ s5 ⟨x,H5,I5,r5,y5,st5,fr5⟩=>?_)
  have I5':=I5.pinned (stat fr5) (T.obj _ _ st5)
  refine wpAny_passesOwn hp (thn (hg _ s5 σ3 H5 x u _ I5' r5 (step x H5 y5)) fun _ s6 ⟨σ6,H6,I6,q6⟩=>?_)
  refine wpAny_passesOwn hp (thn (hb _ s6 σ6 H6 _ I6 q6) fun f s7 q7=>?_)
  have again:∀ {σ7:St}{H7:Hp},Inv X (pins++zac4 fp s5.heap) σ7 H7 s7->N σ7 H7->∃ m,m<n/\∃ i σ' H',Inv X pins σ' H' s7/\tn i s7.heap/\(∀ b∈fp,H' b=none)/\W i m σ' H':=fun {σ7 H7} I7 n7=>by
   obtain⟨m',hm,w7⟩:=hN σ7 H7 n7
   refine⟨m',hm,i+1,σ7,H7,I7.unpinned,T.keep _ _ _ st5 fun b hb o e=>(I7.pin (b,o) (zcb9 _ (zcb9 _ (zj7 hb e)))).1,fun b hb=>?_,w7⟩
   obtain⟨o,e,d⟩:=T.obj _ _ st5 b hb
   exact (I7.pin (b,o) (zcb9 _ (zcb9 _ (zj7 hb e)))).2.1
  cases f with
  | next=>obtain⟨σ7,H7,I7,n7⟩:=q7;exact again I7 n7
  | cont=>obtain⟨σ7,H7,I7,n7⟩:=q7;exact again I7 n7
  | brk=>obtain⟨σ7,H7,I7,q7⟩:=q7;exact⟨σ7,H7,I7.unpinned,q7⟩
  | ret v=>obtain⟨x7,σ7,H7,I7,r7,q7⟩:=q7;exact⟨x7,σ7,H7,I7.unpinned,r7,q7⟩
end
theorem zbi5{K:zbz7}{a:Addr}{xs:List V}{g:TG}{tb:TS}{D:Ends}(Pv:Nat->St->Hp->Prop)(h0:Pv 0 σ H)(hl:∀ i σ H,i<=xs.length->Pv i σ H->SqL K H a xs)(hs:∀ i x σ H,xs[i]?=some x->Pv i σ H->g x σ H fun σ2 H2=>tb { D with nx:=Pv (i+1),ct:=Pv (i+1),bk:=D.nx } σ2 H2)(hd:∀ σ H,Pv xs.length σ H->D.nx σ H) :
  ∃ W:Nat->Nat->St->Hp->Prop,(∃ m,W 0 m σ H)/\∀ i m σ H,W i m σ H ->
   ((Itl K a).stop i H/\D.nx σ H)∨((Itl K a).go i H/\∃ N:St->Hp->Prop,(∀ σ' H',N σ' H'->∃ m',m'<m/\W (i+1) m' σ' H')/\∀ x H',(Itl K a).yld i H x H'->g x σ H' fun σ2 H2=>tb { D with nx:=N,ct:=N,bk:=D.nx } σ2 H2):=by
 refine⟨fun i m σ H=>m=xs.length - i/\i<=xs.length/\Pv i σ H,⟨xs.length,by simp,zcd0 _,h0⟩,?_⟩
 rintro i m σ H ⟨rfl,hi,p⟩
 have q:=hl i σ H hi p
 by_cases hlt:i<xs.length
 ·refine .inr ⟨⟨xs,xs[i],q,by simp[hlt]⟩,Pv (i+1),fun σ' H' p'=>⟨xs.length - (i+1),by omega,rfl,hlt,p'⟩,fun x H' y=>?_⟩
  obtain⟨e,y⟩:=y
  subst e
  exact hs i x σ _ (y xs q) p
 ·have e:i=xs.length:=by omega
  subst e
  exact .inl ⟨⟨xs,q,zcb0 _⟩,hd σ H p⟩
theorem zbg3{lo:Int}{n:Nat}{g:TG}{tb:TS}{D:Ends}(Pv:Nat->St->Hp->Prop)(h0:Pv 0 σ H)(hs:∀ i σ H,i<n->Pv i σ H->g (.int (lo+i)) σ H fun σ2 H2=>tb { D with nx:=Pv (i+1),ct:=Pv (i+1),bk:=D.nx } σ2 H2)(hd:∀ σ H,Pv n σ H->D.nx σ H) :
  ∃ W:Nat->Nat->St->Hp->Prop,(∃ m,W 0 m σ H)/\∀ i m σ H,W i m σ H ->
   ((Itr lo n).stop i H/\D.nx σ H)∨((Itr lo n).go i H/\∃ N:St->Hp->Prop,(∀ σ' H',N σ' H'->∃ m',m'<m/\W (i+1) m' σ' H')/\∀ x H',(Itr lo n).yld i H x H'->g x σ H' fun σ2 H2=>tb { D with nx:=N,ct:=N,bk:=D.nx } σ2 H2):=by
 refine⟨fun i m σ H=>m=n - i/\i<=n/\Pv i σ H,⟨n,by simp,zcd0 _,h0⟩,?_⟩
 rintro i m σ H ⟨rfl,hi,p⟩
 by_cases hlt:i<n
 ·refine .inr ⟨hlt,Pv (i+1),fun σ' H' p'=>⟨n - (i+1),by omega,rfl,hlt,p'⟩,fun x H' y=>?_⟩
  obtain⟨e,y⟩:=y
  subst e y
  exact hs i σ _ hlt p
 ·have e:i=n:=by omega
  subst e
  exact .inl ⟨zcb0 _,hd σ H p⟩
abbrev R2:=V->V->Hp->VK->Prop
def OpR(X:Cx)(f:Value->Value->Sem Value)(r:R2):Prop:=
 ∀ (pins:List (Addr×Obj)) (s:Shared) (σ:St) (H:Hp) (x y:V) (v u:Value) (Q:VK),Inv X pins σ H s->RelV x v->RelV y u->r x y H Q ->
  wpAny (model X.prog X.w) X.A (f v u) (EP X pins σ Q) X.xe s
def UnR(X:Cx)(f:Value->Sem Value)(r:V->Hp->VK->Prop):Prop:=
 ∀ (pins:List (Addr×Obj)) (s:Shared) (σ:St) (H:Hp) (x:V) (v:Value) (Q:VK),Inv X pins σ H s->RelV x v->r x H Q ->
  wpAny (model X.prog X.w) X.A (f v) (EP X pins σ Q) X.xe s
def zk4(X:Cx)(f:Value)(r:List V->Hp->VK->Prop):Prop:=
 ∀ (pins:List (Addr×Obj)) (s:Shared) (σ:St) (H:Hp) (xs:List V) (us:List Value) (Q:VK),Inv X pins σ H s->Vals xs us->r xs H Q ->
  wpAny (model X.prog X.w) X.A (call f us) (EP X pins σ Q) X.xe s
def TruR(X:Cx)(r:V->Hp->(Bool->Hp->Prop)->Prop):Prop:=
 ∀ (pins:List (Addr×Obj)) (s:Shared) (σ:St) (H:Hp) (x:V) (v:Value) (Q:Bool->Hp->Prop),Inv X pins σ H s->RelV x v->r x H Q ->
  wpAny (model X.prog X.w) X.A (truthy v) (TP X pins σ Q) X.xe s
def tOp(r:R2)(ta tb:TE):TE:=fun σ H Q=>ta σ H fun x H1=>tb σ H1 fun y H2=>r x y H2 Q
def tUn(r:V->Hp->VK->Prop)(ta:TE):TE:=fun σ H Q=>ta σ H fun x H1=>r x H1 Q
def rI(C:Int->Int->Prop)(g:Int->Int->V):R2:=fun x y H Q=>∃ i j,x=.int i/\y=.int j/\C i j/\Q (g i j) H
def rI0(g:Int->Int->V):R2:=fun x y H Q=>∃ i j,x=.int i/\y=.int j/\Q (g i j) H
def rU(g:Int->V):V->Hp->VK->Prop:=fun x H Q=>∃ i,x=.int i/\Q (g i) H
section
variable {X:Cx}{a b c:Expr}{ta tb tc:TE}{pos:Pos}
theorem binT(ha:PE X a ta)(hb:PE X b tb){R:V->V->Hp->Prop}(I:Inv X pins σ H s)(h:ta σ H fun x H1=>tb σ H1 fun y H2=>R x y H2){Q:Value->Shared->Prop}{f:Value->Value->Sem Value}(hf:∀ v u s2 x y H2,Inv X pins σ H2 s2->RelV x v->RelV y u->R x y H2->wpAny (model X.prog X.w) X.A (f v u) Q X.xe s2) :
  wpAny (model X.prog X.w) X.A (eval a X.env) (fun v s₁=>wpAny (model X.prog X.w) X.A (eval b X.env) (fun u s₂=>wpAny (model X.prog X.w) X.A (f v u) Q X.xe s₂) X.xe s₁) X.xe s:=by
 refine thn (ha pins s σ H _ I h) fun v s1 ⟨x,H1,I1,r1,q1⟩=>?_
 refine thn (hb pins s1 σ H1 _ I1 q1) fun u s2 ⟨y,H2,I2,r2,q2⟩=>?_
 exact hf v u s2 x y H2 I2 r1 r2 q2
theorem zd8{op:Operator}{r:R2}(ho:OpR X (binaryOp op) r)(ha:PE X a ta)(hb:PE X b tb):PE X (.BinOp a op b pos) (tOp r ta tb):=by
 intro pins s σ H Q I h
 exact wpAny_BinOp (binT ha hb I h fun v u s2 x y H2 I2 rx ry q=>ho pins s2 σ H2 x y v u Q I2 rx ry q)
theorem pe_un{op:UnaryOp}{r:V->Hp->VK->Prop}(ho:UnR X (unaryOp op) r)(ha:PE X a ta):PE X (.UnaryOp op a pos) (tUn r ta):=by
 intro pins s σ H Q I h
 exact UnaryOp_ (thn (ha pins s σ H _ I h) fun v s1 ⟨x,H1,I1,r1,q1⟩=>ho pins s1 σ H1 x v Q I1 r1 q1)
theorem opI{f:Value->Value->Sem Value}{C:Int->Int->Prop}{g:Int->Int->Int}(rule:∀ (i j:Int) (t u:Tok) (s:Shared) (Q:Value->Shared->Prop) (E:Value->Shared->Prop),C i j->Q (.int (g i j) s.toks) { s with toks:=s.toks+1 }->wpAny (model X.prog X.w) X.A (f (.int i t) (.int j u)) Q E s) :
  OpR X f (rI C fun i j=>.int (g i j)):=by
 intro pins s σ H x y v u Q I rx ry h
 obtain⟨i,j,rfl,rfl,hc,q⟩:=h
 obtain⟨t,rfl⟩:=rx
 obtain⟨t',rfl⟩:=ry
 exact rule i j t t' s _ _ hc ⟨.int (g i j),H,I.tok _,⟨_,rfl⟩,q⟩
theorem opI0{f:Value->Value->Sem Value}{g:Int->Int->Int}(rule:∀ (i j:Int) (t u:Tok) (s:Shared) (Q:Value->Shared->Prop) (E:Value->Shared->Prop),Q (.int (g i j) s.toks) { s with toks:=s.toks+1 }->wpAny (model X.prog X.w) X.A (f (.int i t) (.int j u)) Q E s) :
  OpR X f (rI0 fun i j=>.int (g i j)):=by
 intro pins s σ H x y v u Q I rx ry h
 obtain⟨i,j,rfl,rfl,q⟩:=h
 obtain⟨t,rfl⟩:=rx
 obtain⟨t',rfl⟩:=ry
 exact rule i j t t' s _ _ ⟨.int (g i j),H,I.tok _,⟨_,rfl⟩,q⟩
theorem opB0{f:Value->Value->Sem Value}{g:Int->Int->Bool}(rule:∀ (i j:Int) (t u:Tok) (s:Shared) (Q:Value->Shared->Prop) (E:Value->Shared->Prop),Q (.bool (g i j)) s->wpAny (model X.prog X.w) X.A (f (.int i t) (.int j u)) Q E s) :
  OpR X f (rI0 fun i j=>.bl (g i j)):=by
 intro pins s σ H x y v u Q I rx ry h
 obtain⟨i,j,rfl,rfl,q⟩:=h
 obtain⟨t,rfl⟩:=rx
 obtain⟨t',rfl⟩:=ry
 exact rule i j t t' s _ _ ⟨.bl (g i j),H,I,rfl,q⟩
def CPow(i j:Int):Prop:=0<=j/\j<=1000000/\i.natAbs<2 ^ 64
def CMul(i j:Int):Prop:=(-(2 ^ 64)<i/\i<2 ^ 64)∨(-(2 ^ 64)<j/\j<2 ^ 64)
theorem CMul.ok{i j:Int}(h:CMul i j):IntMulOk i j:=by
 rcases h with ⟨h1,h2⟩|⟨h1,h2⟩
 ·exact .of_left (intBits_le_64 h1 h2)
 ·exact .of_right (intBits_le_64 h1 h2)
theorem op_add:OpR X (binaryOp .Add) (rI0 fun i j=>.int (i+j)):=opI0 fun _ _ _ _ _ _ _ q=>add_int q
theorem op_sub:OpR X (binaryOp .Sub) (rI0 fun i j=>.int (i - j)):=opI0 fun _ _ _ _ _ _ _ q=>sub_int q
theorem zbo8:OpR X (binaryOp .Mod) (rI (fun _ j=>j≠0) fun i j=>.int (i.fmod j)):=opI fun _ _ _ _ _ _ _ hc q=>mod_int' hc q
theorem op_pow:OpR X (binaryOp .Pow) (rI CPow fun i j=>.int (i ^ j.toNat)):=opI fun _ _ _ _ _ _ _ hc q=>pow_int_small hc.1 hc.2.1 hc.2.2 q
theorem zbu3:OpR X (inplaceOp .Add) (rI0 fun i j=>.int (i+j)):=opI0 fun _ _ _ _ _ _ _ q=>iadd_int q
theorem zbs2:OpR X (inplaceOp .Sub) (rI0 fun i j=>.int (i - j)):=opI0 fun _ _ _ _ _ _ _ q=>isub_int q
theorem unI{f:Value->Sem Value}{g:Int->Int}(rule:∀ (i:Int) (t:Tok) (s:Shared) (Q:Value->Shared->Prop) (E:Value->Shared->Prop),Q (.int (g i) s.toks) { s with toks:=s.toks+1 }->wpAny (model X.prog X.w) X.A (f (.int i t)) Q E s) :
  UnR X f (rU fun i=>.int (g i)):=by
 intro pins s σ H x v Q I rx h
 obtain⟨i,rfl,q⟩:=h
 obtain⟨t,rfl⟩:=rx
 exact rule i t s _ _ ⟨.int (g i),H,I.tok _,⟨_,rfl⟩,q⟩
theorem un_neg:UnR X (unaryOp .USub) (rU fun i=>.int (-i)):=unI fun _ _ _ _ _ q=>neg_int q
end
def scal:V->V->Bool
 | .non,.non=>true | .non,.int _=>true | .int _,.non=>true | .non,.bl _=>true | .bl _,.non=>true | .non,.str _=>true | .str _,.non=>true
 | .int _,.int _=>true | .bl _,.bl _=>true | .str _,.str _=>true | .byt _,.byt _=>true
 | .int _,.str _=>true | .str _,.int _=>true | .bl _,.str _=>true | .str _,.bl _=>true
 | _,_=>false
def rEq:R2:=fun x y H Q=>scal x y=true/\Q (.bl (decide (x=y))) H
def rNe:R2:=fun x y H Q=>scal x y=true/\Q (.bl (!decide (x=y))) H
theorem zaz8{i j:Int}:decide (V.int i=V.int j)=(i==j):=by
 rw[Bool.eq_iff_iff]
 simp
theorem zbm5{i j:Bool}:decide (V.bl i=V.bl j)=(i==j):=by
 rw[Bool.eq_iff_iff]
 simp
theorem zbd1{i j:Str}:decide (V.str i=V.str j)=(i==j):=by
 rw[Bool.eq_iff_iff]
 simp
theorem zbh2{i j:Array UInt8}:decide (V.byt i=V.byt j)=(i.toList==j.toList):=by
 rw[Bool.eq_iff_iff]
 cases i
 cases j
 simp
section
variable {X:Cx}{a b c:Expr}{ta tb tc:TE}{pos:Pos}
theorem zc4{Q:VK}{k k':Bool}(I:Inv X pins σ H s)(q:Q (.bl k) H)(e:k=k'):EP X pins σ Q (.bool k') s:=by
 subst e
 exact⟨.bl k,H,I,rfl,q⟩
theorem zao8:OpR X (compareOp .Eq) rEq:=by
 intro pins s σ H x y v u Q I rx ry h
 obtain⟨hs,q⟩:=h
 cases x with
 | non=>
  cases rx
  cases y with
  | non=>cases ry;exact PySem.EqNone.eq_none_none (zc4 I q (by simp))
  | bl j=>cases ry;exact PySem.EqNone.eq_none_bool (zc4 I q (by simp))
  | int j=>obtain⟨t',rfl⟩:=ry;exact PySem.EqNone.eq_none_int (zc4 I q (by simp))
  | str j=>obtain⟨t',rfl⟩:=ry;exact PySem.EqNone.eq_none_str (zc4 I q (by simp))
  | _=>exact absurd (show false=true from hs) zca4
 | bl i=>
  cases rx
  cases y with
  | non=>cases ry;exact PySem.EqNone.eq_bool_none (zc4 I q (by simp))
  | bl j=>cases ry;exact eq_bool (zc4 I q zbm5)
  | str j=>obtain⟨t',rfl⟩:=ry;exact PySem.EqMixed.eq_bool_str (zc4 I q (by simp))
  | _=>exact absurd (show false=true from hs) zca4
 | int i=>
  obtain⟨t,rfl⟩:=rx
  cases y with
  | non=>cases ry;exact PySem.EqNone.eq_int_none (zc4 I q (by simp))
  | int j=>obtain⟨t',rfl⟩:=ry;exact eq_int (zc4 I q zaz8)
  | str j=>obtain⟨t',rfl⟩:=ry;exact PySem.EqMixed.eq_int_str (zc4 I q (by simp))
  | _=>exact absurd (show false=true from hs) zca4
 | str i=>
  obtain⟨t,rfl⟩:=rx
  cases y with
  | non=>cases ry;exact PySem.EqNone.eq_str_none (zc4 I q (by simp))
  | bl j=>cases ry;exact PySem.EqMixed.eq_str_bool (zc4 I q (by simp))
  | int j=>obtain⟨t',rfl⟩:=ry;exact PySem.EqMixed.eq_str_int (zc4 I q (by simp))
  | str j=>obtain⟨t',rfl⟩:=ry;exact eq_str (zc4 I q zbd1)
  | _=>exact absurd (show false=true from hs) zca4
 | byt i=>
  obtain⟨t,rfl⟩:=rx
  cases y with
  | byt j=>obtain⟨t',rfl⟩:=ry;exact PySem.W.eq_bytes (zc4 I q zbh2)
  | _=>exact absurd (show false=true from hs) zca4
 | _=>cases y<;>exact absurd (show false=true from hs) zca4
theorem op_ne:OpR X (compareOp .NotEq) rNe:=by
 intro pins s σ H x y v u Q I rx ry h
 obtain⟨hs,q⟩:=h
 cases x with
 | non=>
  cases rx
  cases y with
  | non=>cases ry;exact PySem.EqNone.ne_none_none (zc4 I q (by simp))
  | bl j=>cases ry;exact PySem.EqNone.ne_none_bool (zc4 I q (by simp))
  | int j=>obtain⟨t',rfl⟩:=ry;exact PySem.EqNone.ne_none_int (zc4 I q (by simp))
  | str j=>obtain⟨t',rfl⟩:=ry;exact PySem.EqNone.ne_none_str (zc4 I q (by simp))
  | _=>exact absurd (show false=true from hs) zca4
 | bl i=>
  cases rx
  cases y with
  | non=>cases ry;exact PySem.EqNone.ne_bool_none (zc4 I q (by simp))
  | bl j=>cases ry;exact ne_bool (zc4 I q (congrArg not zbm5))
  | str j=>obtain⟨t',rfl⟩:=ry;exact PySem.EqMixed.ne_bool_str (zc4 I q (by simp))
  | _=>exact absurd (show false=true from hs) zca4
 | int i=>
  obtain⟨t,rfl⟩:=rx
  cases y with
  | non=>cases ry;exact PySem.EqNone.ne_int_none (zc4 I q (by simp))
  | int j=>obtain⟨t',rfl⟩:=ry;exact ne_int (zc4 I q (congrArg not zaz8))
  | str j=>obtain⟨t',rfl⟩:=ry;exact PySem.EqMixed.ne_int_str (zc4 I q (by simp))
  | _=>exact absurd (show false=true from hs) zca4
 | str i=>
  obtain⟨t,rfl⟩:=rx
  cases y with
  | non=>cases ry;exact PySem.EqNone.ne_str_none (zc4 I q (by simp))
  | bl j=>cases ry;exact PySem.EqMixed.ne_str_bool (zc4 I q (by simp))
  | int j=>obtain⟨t',rfl⟩:=ry;exact PySem.EqMixed.ne_str_int (zc4 I q (by simp))
  | str j=>obtain⟨t',rfl⟩:=ry;exact ne_str (zc4 I q (congrArg not zbd1))
  | _=>exact absurd (show false=true from hs) zca4
 | byt i=>
  obtain⟨t,rfl⟩:=rx
  cases y with
  | byt j=>obtain⟨t',rfl⟩:=ry;exact PySem.W.ne_bytes (zc4 I q (congrArg not zbh2))
  | _=>exact absurd (show false=true from hs) zca4
 | _=>cases y<;>exact absurd (show false=true from hs) zca4
theorem op_lt:OpR X (compareOp .Lt) (rI0 fun i j=>.bl (decide (i<j))):=opB0 fun _ _ _ _ _ _ _ q=>lt_int q
theorem op_le:OpR X (compareOp .LtE) (rI0 fun i j=>.bl (decide (i<=j))):=opB0 fun _ _ _ _ _ _ _ q=>le_int q
theorem op_gt:OpR X (compareOp .Gt) (rI0 fun i j=>.bl (decide (j<i))):=opB0 fun _ _ _ _ _ _ _ q=>gt_int q
theorem zbl8(b:Expr){op:CmpOp}(h:op≠.In:=by decide)(h2:op≠.NotIn:=by decide):behindInMarks op b=false:=by
 have e1:(op==CmpOp.In)=false:=by cases op<;>first|rfl|exact absurd rfl h
 have e2:(op==CmpOp.NotIn)=false:=by cases op<;>first|rfl|exact absurd rfl h2
 cases b<;>simp[behindInMarks,e1,e2]
theorem zbs1{op:CmpOp}{r:R2}(ho:OpR X (compareOp op) r)(ha:PE X a ta)(hb:PE X b tb)(hm:behindInMarks op b=false):PE X (.Compare a [op] [b] pos) (tOp r ta tb):=by
 intro pins s σ H Q I h
 exact wpAny_Compare1 (binT ha hb I h fun v u s2 x y H2 I2 rx ry q=>ho pins s2 σ H2 x y v u Q I2 rx ry q) hm
def TruV(K:zbz7)(x:V)(H:Hp)(k:Bool):Prop:=
 match x with
 | .non=>k=false
 | .bl b=>k=b
 | .int i=>k=(i != 0)
 | .str y=>y.length<=sizeLine/\k=((y.length:Int) != 0)
 | .byt y=>y.size<=sizeLine/\k=((y.size:Int) != 0)
 | .ref p=>(∃ xs,SqL K H p xs/\k=!xs.isEmpty)∨(∃ xs,SqT K H p xs/\k=!xs.isEmpty)∨∃ kvs,H p=some (.dK kvs)/\k=!kvs.isEmpty
 | _=>False
theorem zaw2{κ:Type}{kvs:List (κ×V)}{vs:List (κ×Value)}(r:KV kvs vs):(!vs.isEmpty)=!kvs.isEmpty:=by
 cases r<;>rfl
theorem zad1{xs:List V}{its:List Value}(r:Vals xs its):(!its.toArray.isEmpty)=!xs.isEmpty:=by
 cases r<;>simp
theorem zz4:(sizeLine:Nat)<2 ^ 63:=by rw[zci4];decide
theorem zbd0:TruR X (fun x H Q=>∃ k,TruV X.K x H k/\Q k H):=by
 intro pins s σ H x v Q I rx h
 obtain⟨k,e,q⟩:=h
 have hl:=zz4
 have hs:sizeLine=16777216:=zci4
 cases x with
 | non=>
  cases rx
  have e':k=false:=e
  subst e'
  exact truthy_none ⟨H,I,q⟩
 | bl b=>
  cases rx
  have e':k=b:=e
  subst e'
  exact wpAny_truthy_bool ⟨H,I,q⟩
 | int i=>
  obtain⟨t,rfl⟩:=rx
  have e':k=(i != 0):=e
  subst e'
  exact PySem.P.truthy_int ⟨H,I,q⟩
 | str y=>
  obtain⟨t,rfl⟩:=rx
  obtain⟨hy,e'⟩:y.length<=sizeLine/\k=((y.length:Int) != 0):=e
  subst e'
  exact PySem.P.truthy_str (by omega) ⟨H,I.tok _,q⟩
 | byt y=>
  obtain⟨t,rfl⟩:=rx
  obtain⟨hy,e'⟩:y.size<=sizeLine/\k=((y.size:Int) != 0):=e
  subst e'
  exact PySem.W.truthy_bytes (by omega) ⟨H,I.tok _,q⟩
 | ref p=>
  cases rx
  have e':(∃ xs,SqL X.K H p xs/\k=!xs.isEmpty)∨(∃ xs,SqT X.K H p xs/\k=!xs.isEmpty)∨∃ kvs,H p=some (.dK kvs)/\k=!kvs.isEmpty:=e
  rcases e' with ⟨xs,hx,e'⟩|⟨xs,hx,e'⟩|⟨kvs,hx,e'⟩
  ·subst e'
   obtain⟨its,r,pl,hz⟩:=I.list hx
   have hlen:=r.length
   exact wpAny_truthy_list pl.isList (by simp only[zca2];omega) ⟨H,I.tok _,by rw[zad1 r];exact q⟩
  ·subst e'
   obtain⟨its,r,pl,hz⟩:=I.tuple hx
   have hlen:=r.length
   exact truthy_tuple pl (by simp only[zca2];omega) ⟨H,I.tok _,by rw[zad1 r];exact q⟩
  ·subst e'
   obtain⟨hz,hS,vs,r,m⟩:kvs.length<=sizeLine/\(p==sysModules)=false/\∃ vs,KV kvs vs/\s.heap.DictOf (zf9 X.prog X.w) p vs:=I.hok p _ hx
   have hlen:kvs.length=vs.length:=Paired.length r
   exact wpAny_truthy_dict hS m (by omega) ⟨H,I.tok _,by rw[zaw2 r];exact q⟩
 | _=>exact (show False from e).elim
theorem zav8:OpR X (binaryOp .Add) (fun x y H Q=>∃ i j,x=.str i/\y=.str j/\i.length+j.length<=sizeLine/\Q (.str (i++j)) H):=by
 intro pins s σ H x y v u Q I rx ry h
 obtain⟨i,j,rfl,rfl,hz,q⟩:=h
 obtain⟨t,rfl⟩:=rx
 obtain⟨t',rfl⟩:=ry
 exact add_str (fun t' tk=>⟨.str (i++j),H,I.tok _,⟨_,rfl⟩,q⟩) hz
theorem zab6{x:V}(r:Vals [x] us):∃ u,us=[u]/\RelV x u:=by
 cases r with
 | cons r1 r2=>cases r2;exact⟨_,rfl,r1⟩
theorem vals2{x y:V}(r:Vals [x,y] us):∃ u w',us=[u,w']/\RelV x u/\RelV y w':=by
 cases r with
 | cons r1 r2=>
  cases r2 with
  | cons r3 r4=>cases r4;exact⟨_,_,rfl,r1,r3⟩
theorem zbb9(hc:X.calm=true):zk4 X (.builtin "min") (fun xs H Q=>∃ i j,xs=[.int i,.int j]/\Q (.int (if j<i then j else i)) H):=by
 intro pins s σ H xs us Q I r h
 obtain⟨i,j,rfl,q⟩:=h
 obtain⟨u,w',rfl,⟨t,rfl⟩,⟨t',rfl⟩⟩:=vals2 r
 refine min_two_ints (I.ok.hd hc) fun h' tk k=>⟨_,H,I.kept k,?_,q⟩
 by_cases hj:j<i
 ·rw[if_pos hj,if_pos hj];exact⟨_,rfl⟩
 ·rw[if_neg hj,if_neg hj];exact⟨_,rfl⟩
theorem zai5:zk4 X (.type "int") (fun xs H Q=>(∃ i,xs=[.int i]/\Q (.int i) H)∨∃ k,xs=[.bl k]/\Q (.int (if k then 1 else 0)) H):=by
 intro pins s σ H xs us Q I r h
 rcases h with ⟨i,rfl,q⟩|⟨k,rfl,q⟩
 ·obtain⟨u,rfl,t,rfl⟩:=zab6 r
  exact call_int_int ⟨.int i,H,I,⟨_,rfl⟩,q⟩
 ·obtain⟨u,rfl,r1⟩:=zab6 r
  cases r1
  exact call_int_bool ⟨.int (if k then 1 else 0),H,I.tok _,⟨_,rfl⟩,q⟩
end
structure ObjM(h:Heap)(x dx C:Addr)(mA:Str->Option Value):Prop where
 obj:h.get? x=some (PySem.W.instObj C dx)
 ns:h.Ns1 dx mA
 ne:dx≠x
theorem zba3{dx:Addr}{mA:Str->Option Value}(n:h.Ns1 dx mA):∃ od,h.get? dx=some od/\∀ name,PySem.W.lookIn name od=some (mA name):=by
 obtain⟨o,es,ep,ho,hd,hk,_,hm⟩:=n
 refine⟨o,ho,fun name=>?_⟩
 have e:=hm name
 unfold nsFind findBy at e
 rw[← Array.find?_toList] at e
 unfold PySem.W.lookIn
 rw[hd]
 dsimp only
 split
 ·rename_i y q
  rw[q] at e
  exact congrArg some e
 ·rename_i q
  rw[q] at e
  have a:es.toList.any (·.refKey)=false:=by
   rw[List.any_eq_false]
   intro y hy
   obtain⟨z,t,hkey⟩:=hk y (zch5.mp hy)
   simp[DictEntry.refKey,hkey]
  have a':¬ es.toList.any (·.refKey)=true:=by rw[a];exact zca4
  rw[if_neg a']
  exact congrArg some e
theorem ObjM.look{x dx C:Addr}{mA:Str->Option Value}(I:ObjM h x dx C mA):∃ od,PySem.W.InstAt h x (PySem.W.instObj C dx) C (some od)/\∀ name,PySem.W.lookIn name od=some (mA name):=
 let ⟨od,ho,hl⟩:=zba3 I.ns
 ⟨od,⟨I.obj,rfl,rfl,ho⟩,hl⟩
section
variable {prog:Program}{w:World}{A:Around}{E:Value->Shared->Prop}{s:Shared}{K:zbz7}{x dx C f:Addr}{mA:Str->Option Value}{name:Str}{v:Value}
end
theorem RelO.some_of{v:V}{o:Option Value}(r:RelO (some v) o):∃ u,o=some u/\RelV v u:=by
 cases o with
 | none=>exact (show False from r).elim
 | some u=>exact⟨u,rfl,r⟩
section
variable {P:Program}{w:World}{H H':Hp}{h h':Heap}{a C dx:Addr}{fs fs':List (Str×V)}
theorem zbq0(hok:HOk P w H h)(e:H a=some (.ins C dx fs)):∃ mA,ObjM h a dx C mA/\(∀ f,RelO (fs.lookup f) (mA f))/\PySem.Within mA (fs.map (·.1))/\fs.length<=1000/\H dx=some (.own a):=by
 obtain⟨d,z,ne,ob,mA,n,r,q⟩:=(show zf3 P w H h a (.ins C dx fs) from hok a _ e)
 exact⟨mA,⟨ob,n,ne⟩,r,q,z,d⟩
end
structure Cls(K:zbz7)(C:Addr):Prop where
 pg:PySem.W.plainGet K C Str.empty=true
 hd:PySem.W.hasDictIn K C=true
 po:PySem.W.plainOver K C=true
 sa:zce3 K (.ref C) "__setattr__"=some (some (.builtin "object.__setattr__"))
theorem Cls.get{K:zbz7}{C:Addr}(c:Cls K C)(f:Str):PySem.W.plainGet K C f=true:=c.pg
section
variable {X:Cx}{pins:List (Addr×Obj)}{σ:St}{H:Hp}{s:Shared}{a C dx:Addr}{fs:List (Str×V)}{f:Str}{v:V}{A:Around}{E:Value->Shared->Prop}
end
section
variable {X:Cx}{pins:List (Addr×Obj)}{σ:St}{H:Hp}{s:Shared}{A:Around}{E:Value->Shared->Prop}{Q:Value->Shared->Prop}{c:Value}{b:Bool}
inductive TyOf(K:zbz7)(H:Hp):V->Value->Prop where
 | non:TyOf K H .non (.type "NoneType")
 | bl (x:Bool):TyOf K H (.bl x) (.type "bool")
 | int (i:Int):TyOf K H (.int i) (.type "int")
 | str (x:Str):TyOf K H (.str x) (.type "str")
 | flt (x:UInt64):TyOf K H (.flt x) (.type "float")
 | lst {a:Addr}{xs:List V}(e:H a=some (.lst xs)):TyOf K H (.ref a) (.type "list")
 | frz {a:Addr}{o:Obj}{xs:List V}(e:H a=some (.frz o (.lst xs))):TyOf K H (.ref a) (.type "list")
 | tup {a:Addr}{xs:List V}(e:H a=some (.tup xs)):TyOf K H (.ref a) (.type "tuple")
 | dK {a:Addr}{kvs:List (Key×V)}(e:H a=some (.dK kvs)):TyOf K H (.ref a) (.type "dict")
 | dT {a:Addr}{kvs:List (List Key×V)}(e:H a=some (.dT kvs)):TyOf K H (.ref a) (.type "dict")
 | ins {a C dx:Addr}{fs:List (Str×V)}(e:H a=some (.ins C dx fs)) (cl:Cls K C) (ha:zce3 K (.ref C) "__class__"=some (some (.builtin "object.__class__")))
   (hn:PySem.W.specialIn K (.builtin "object.__class__") "__get__"=some (some (.builtin "getset_descriptor.__get__"))) (htk:PySem.W.takesIn K (.builtin "object.__class__")=some true)
   (hm:PySem.W.mroIn K C (.type "object")=some true):TyOf K H (.ref a) (.ref C)
theorem zbf6{x:V}{t:Value}(I:Inv X pins σ H s)(rx:RelV x u)(ty:TyOf X.K H x t)(e:zcb6 X.K t c=some b)(h:∀ tk,Q (.bool b) { s with toks:=tk }) :
  wpAny (model X.prog X.w) A (call (.builtin "isinstance") [u,c]) Q E s:=by
 cases ty with
 | non=>cases (show u=Value.none from rx);exact zce5 PySem.W.kitx_none I.kIn True.intro e (fun z=>nomatch z) h
 | bl y=>cases (show u=Value.bool y from rx);exact zce5 PySem.W.kitx_bool I.kIn True.intro e (fun z=>nomatch z) h
 | int i=>obtain⟨t,q⟩:=(show ∃ t,u=Value.int i t from rx);cases q;exact zce5 PySem.W.kitx_int I.kIn True.intro e (fun z=>nomatch z) h
 | str y=>obtain⟨t,q⟩:=(show ∃ t,u=Value.str y t from rx);cases q;exact zce5 PySem.W.kitx_str I.kIn True.intro e (fun z=>nomatch z) h
 | flt y=>obtain⟨t,q⟩:=(show ∃ t,u=Value.float y t from rx);cases q;exact zce5 PySem.W.kitx_float I.kIn True.intro e (fun z=>nomatch z) h
 | @lst a xs ea=>
  cases (show u=Value.ref a from rx)
  obtain⟨_,_,n,_,h1⟩:=(show zf3 X.prog X.w H s.heap a (.lst xs) from I.hok a _ ea)
  exact zce5 PySem.W.kitx_list I.kIn ⟨_,h1,rfl⟩ e (fun z=>nomatch z) h
 | @frz a ob xs ea=>
  cases (show u=Value.ref a from rx)
  obtain⟨_,_,_,n,_,h1⟩:=(show zf3 X.prog X.w H s.heap a (.frz ob (.lst xs)) from I.hok a _ ea)
  exact zce5 PySem.W.kitx_list I.kIn ⟨_,h1,rfl⟩ e (fun z=>nomatch z) h
 | @tup a xs ea=>
  cases (show u=Value.ref a from rx)
  obtain⟨_,_,_,p⟩:=(show zf3 X.prog X.w H s.heap a (.tup xs) from I.hok a _ ea)
  obtain⟨o,h1,h2,_⟩:=p
  exact zce5 PySem.W.kitx_tuple I.kIn ⟨o,h1,h2⟩ e (fun z=>nomatch z) h
 | @dK a kvs ea=>
  cases (show u=Value.ref a from rx)
  obtain⟨_,_,vs,_,p⟩:=(show zf3 X.prog X.w H s.heap a (.dK kvs) from I.hok a _ ea)
  obtain⟨o,es,ep,h1,h2,_⟩:=p
  exact zce5 PySem.W.kitx_dict I.kIn ⟨o,h1,h2.1⟩ e (fun z=>nomatch z) h
 | @dT a kvs ea=>
  cases (show u=Value.ref a from rx)
  obtain⟨_,_,xs,_,o,es,ep,h1,h2,_⟩:=(show zf3 X.prog X.w H s.heap a (.dT kvs) from I.hok a _ ea)
  exact zce5 PySem.W.kitx_dict I.kIn ⟨o,h1,h2.1⟩ e (fun z=>nomatch z) h
 | @ins a C dx fs ea cl ha hn htk hm=>
  cases (show u=Value.ref a from rx)
  obtain⟨mA,O,_⟩:=zbq0 I.hok ea
  obtain⟨od,J,_⟩:=O.look
  exact zce5 (PySem.W.kitx_own (cl.get _) cl.hd ha hn htk hm) I.kIn J e (fun z=>nomatch z) h
end
structure Room(k:Nat)(A:Around):Prop where
 hd:A.handled=none
 dp:A.depth+3*k+5<recursionLimit
 un:A.units+16*k+200<cLine
 gd:A.guards=some []
theorem Room.mono{j k:Nat}{A:Around}(r:Room k A)(h:j<=k):Room j A:=⟨r.hd,by have:=r.dp;omega,by have:=r.un;omega,r.gd⟩
theorem Room.deeper{k:Nat}{A:Around}(r:Room (k+1) A)(env:Env):Room k (A.deeper env):=
 ⟨r.hd,by have:=r.dp;show A.depth+1+3*k+5<_;omega,by have:=r.un;show A.units+3+16*k+200<_;omega,r.gd⟩
theorem Room.depth{k:Nat}{A:Around}(r:Room k A):A.depth<recursionLimit:=by have:=r.dp;omega
theorem Room.units{k:Nat}{A:Around}(r:Room k A):A.units+64<cLine:=by have:=r.un;omega
def tNil:TA:=fun _ H Q=>Q [] H
def tCons(ta:TE)(tr:TA):TA:=fun σ H Q=>ta σ H fun x H1=>tr σ H1 fun xs H2=>Q (x :: xs) H2
section
variable {X:Cx}{e:Expr}{es:List Expr}{te:TE}{t:TA}{pos:Pos}
theorem za1:PA X [] tNil:=fun _ _ _ _ H Q I h=>Calls.spliced_nil ⟨[],H,I,.nil,h⟩
theorem za0(ha:PE X e te)(hr:PA X es t)(hs:starEach (e :: es) X.env=(false,eval e X.env) :: starEach es X.env:=by rfl):PA X (e :: es) (tCons te t):=by
 intro pos pins s σ H Q I h
 rw[hs]
 show wpAny _ _ (spliced ((false,eval e X.env) :: backTo pos (starEach es X.env))) _ _ s
 refine Calls.spliced_cons (thn (ha pins s σ H _ I h) fun u s1 ⟨x,H1,I1,r1,q1⟩=>?_)
 exact thn (hr pos pins s1 σ H1 _ I1 q1) fun us s2 ⟨xs,H2,I2,r2,q2⟩=>⟨x :: xs,H2,I2,.cons r1 r2,q2⟩
end
abbrev Sp:=List V->Hp->VK->XK->Prop
abbrev CXT:=List Env->Hp->Shared->XK->Value->Shared->Prop
structure Env0(P:Program)(w:World)(K:zbz7)(mg:Str->Option Value)(base:Heap)(A:Around)(outer:List Env)(s:Shared)(H:Hp):Prop where
 frames:A.frames=some outer
 mod:Mod K mg base
 bs:∀ b o,base.get? b=some o->s.heap.get? b=some o/\H b=none
 bsz:base.objs.size<=s.heap.objs.size
 funs:s.heap.FunFrames base outer
 frf:∀ b∈frs outer,H b=none
 hok:HOk P w H s.heap
 bare:AllBare s.gens
def CE(outer:List Env)(P:Program)(w:World)(H:Hp)(s:Shared)(Q:VK)(u:Value)(s':Shared):Prop:=
 ∃ v H',s'.os=s.os/\AllBare s'.gens/\Un (frs outer) [] H H' s.heap s'.heap/\HOk P w H' s'.heap/\RelV v u/\Q v H'
def CR(CX:CXT)(outer:List Env)(P:Program)(w:World)(H:Hp)(s:Shared)(Q:VK)(E:XK)(r:Result)(s':Shared):Prop:=
 match r with
 | .ok (.ret u)=>CE outer P w H s Q u s'
 | .ok _=>False
 | .error e=>CX outer H s E e s'
structure FnOk(P:Program)(w:World)(K:zbz7)(mg:Str->Option Value)(base:Heap)(CX:CXT)(k:Nat)(f:Addr)(fd:FuncData)(ps:List Str)(sp:Sp):Prop where
 len:∀ vs H Q E,sp vs H Q E->vs.length=ps.length
 run:∀ (A:Around) (outer:List Env) (s:Shared) (H:Hp) (args:Args) (us:List Value) (vs:List V) (Q:VK) (E:XK),Room k A->Env0 P w K mg base A outer s H->BindsTo s fd args (ps.zip us)->Vals vs us->sp vs H Q E ->
  codeAny (model P w) A (.call (.ref f) args) (CR CX outer P w H s Q E) s
theorem FnOk.mono{P:Program}{w:World}{K:zbz7}{mg:Str->Option Value}{base:Heap}{CX:CXT}{j k:Nat}{f:Addr}{fd:FuncData}{ps:List Str}{sp:Sp}(F:FnOk P w K mg base CX j f fd ps sp)(h:j<=k) :
  FnOk P w K mg base CX k f fd ps sp:=⟨F.len,fun A outer s H args us vs Q E hr=>F.run A outer s H args us vs Q E (hr.mono h)⟩
section
variable {X:Cx}{pins:List (Addr×Obj)}{σ:St}{H:Hp}{s s':Shared}
theorem Inv.env0(I:Inv X pins σ H s):Env0 X.prog X.w X.K X.mg X.base X.A X.stack s H:=
 ⟨I.ok.frames,I.ok.mod,I.bs,zcd9 I.ok.bsz I.sz,I.stack,I.stkFree,I.hok,I.bare⟩
theorem Inv.after{Q:VK}(I:Inv X pins σ H s)(h:CE X.stack X.prog X.w H s Q u s'):EP X pins σ Q u s':=by
 obtain⟨v,H',os,bare,un,hok,r,q⟩:=h
 obtain⟨hh,g,d,t,os'⟩:=s'
 obtain rfl:os'=s.os:=os
 exact⟨v,H',I.call (h':=hh) (g':=g) (d':=d) (t':=t) (ch:=[]) un hok bare (fun b z=>absurd z (by simp)),r,q⟩
end
def tCall(sp:Sp)(dvs:List V)(E:XK)(t:TA):TE:=fun σ H Q=>t σ H fun vs H1=>sp (vs++dvs) H1 Q E
def zap5(K:zbz7)(fd:FuncData)(ps:List Str)(ds:List Value):Prop:=
 ∀ (s:Shared) (us:List Value),K.In s.heap->(us++ds).length=ps.length->BindsTo s fd ⟨us,[]⟩ (ps.zip (us++ds))
theorem zap5.all{K:zbz7}{fd:FuncData}{ps:List Str}(h:∀ us:List Value,us.length=ps.length->bindArgs fd ⟨us,[]⟩=pure (ps.zip us)):zap5 K fd ps []:=fun s us _ hl=>by
 rw[List.append_nil] at hl ⊢
 exact .of_eq (h us hl)
def zad6(CX:CXT)(X:Cx)(E:XK):Prop:=∀ (pins:List (Addr×Obj)) (σ:St) (H:Hp) (s:Shared) (e:Value) (s':Shared),Inv X pins σ H s->CX X.stack H s E e s'->X.xe e s'
section
variable {X:Cx}{CX:CXT}{k:Nat}{f C:Addr}{fd:FuncData}{ps:List Str}{sp:Sp}{dvs:List V}{ds:List Value}{E:XK}{x m:Str}{p pos apos:Pos}{e o:Expr}{es:List Expr}{ta:TE}{t:TA}
theorem run_fn{Q:VK}{vs:List V}(F:FnOk X.prog X.w X.K X.mg X.base CX k f fd ps sp)(hr:Room k X.A)(hb:zap5 X.K fd ps ds)(hd:Vals dvs ds)(hx:zad6 CX X E)(I:Inv X pins σ H s)(r:Vals vs us)(h:sp (vs++dvs) H Q E):wpAny (model X.prog X.w) X.A (call (.ref f) us) (EP X pins σ Q) X.xe s:=by
 have r2:Vals (vs++dvs) (us++ds):=r.append hd
 have hl:(us++ds).length=ps.length:=by rw[← r2.length];exact F.len _ _ _ _ h
 refine wpAny_call (codeAny_mono (F.run X.A X.stack s H ⟨us,[]⟩ (us++ds) (vs++dvs) Q E hr I.env0 (hb s us I.kIn hl) r2 h) fun r s' hq=>?_)
 cases r with
 | error e=>exact hx pins σ H s e s' I hq
 | ok fl=>
  cases fl with
  | ret u=>exact I.after hq
  | next=>exact False.elim hq
  | brk=>exact False.elim hq
  | cont=>exact False.elim hq
theorem zbr5(F:FnOk X.prog X.w X.K X.mg X.base CX k f fd ps sp)(hr:Room k X.A)(hg:Gl X x)(hm:X.mg x=some (.ref f))(hk:zcg8 X.K (.ref f)=true)(hb:zap5 X.K fd ps ds)(hd:Vals dvs ds)(hx:zad6 CX X E)(ha:PA X (e :: es) t)(hdb:(x==("__debug__":Str))=false:=by decide)(he:starEach (e :: es) X.env=(false,eval e X.env) :: starEach es X.env:=by rfl)(hpl:(backTo pos (starEach es X.env)).any (·.1)=false:=by rfl) :
  PE X (.Call (.Name x p) (e :: es) [] pos) (tCall sp dvs E t):=by
 intro pins s σ H Q I h
 refine wpAny_Call_Name_kw (zaq6 I hg hm ?_ hdb)
 refine PySem.W.callWith_K (h₀:=X.base) I.ok.mod.kin hk (thn (ha pos pins s σ H _ I h) fun us s1 ⟨vs,H1,I1,r,q⟩=>⟨I1.kIn,?_⟩) he hpl
 exact run_fn F hr hb hd hx I1 r q
end
structure za9(N P:List Str)(sc:Scope):Prop where
 kind:sc.kind=.function
 co:sc.isCoroutine=false
 gen:sc.isGenerator=false
 nd:N.Nodup
 pre:N.take P.length=P
 par:∀ x∈P,sc.names.lookup x=some .local∨sc.names.lookup x=some .cell
 nofree:∀ y∈sc.names,y.2≠.free
theorem zah9{kindOf:Str->Option NameKind}{x:Str}:∀ {binds:List (Str×Value)}{m:Str->Option Value},(∀ v,(x,v) ∉ binds)->bindL kindOf binds m x=m x
 | [],_,_=>rfl
 | (n,v) :: r,m,h=>by
  unfold bindL
  rw[zah9 fun w hw=>h w (zcd2 _ hw)]
  split
  ·have:x≠n:=by rintro rfl;exact h v zce2
   simp[this]
  ·rfl
theorem zal1{kindOf:Str->Option NameKind}{x:Str}:∀ {binds:List (Str×Value)}{m:Str->Option Value},(∀ v,(x,v) ∉ binds)->bindC kindOf binds m x=m x
 | [],_,_=>rfl
 | (n,v) :: r,m,h=>by
  unfold bindC
  rw[zal1 fun w hw=>h w (zcd2 _ hw)]
  split
  ·rfl
  ·have:x≠n:=by rintro rfl;exact h v zce2
   simp[this]
theorem zai9{kindOf:Str->Option NameKind}{x:Str}{v:Value}:∀ {P:List Str}{vs:List Value}{i:Nat}{m:Str->Option Value},P.Nodup->P[i]?=some x->vs[i]?=some v->kindOf x=some .local ->
  bindL kindOf (P.zip vs) m x=some v
 | [],_,_,_,_,h,_,_=>by simp at h
 | _ :: _,[],_,_,_,_,h,_=>by simp at h
 | p :: P,w :: vs,0,m,nd,h1,h2,hk=>by
  simp at h1 h2;subst h1;subst h2
  show bindL kindOf ((p,w) :: P.zip vs) m p=_
  unfold bindL
  rw[zah9 fun v hv=>(zcg3.mp nd).1 (List.of_mem_zip hv).1,if_pos hk]
  simp
 | p :: P,w :: vs,i+1,m,nd,h1,h2,hk=>by
  show bindL kindOf ((p,w) :: P.zip vs) m x=_
  unfold bindL
  exact zai9 (i:=i) (zcg3.mp nd).2 (by simpa using h1) (by simpa using h2) hk
theorem zaj8{kindOf:Str->Option NameKind}{x:Str}{v:Value}:∀ {P:List Str}{vs:List Value}{i:Nat}{m:Str->Option Value},P.Nodup->P[i]?=some x->vs[i]?=some v->kindOf x≠some .local ->
  bindC kindOf (P.zip vs) m x=some v
 | [],_,_,_,_,h,_,_=>by simp at h
 | _ :: _,[],_,_,_,_,h,_=>by simp at h
 | p :: P,w :: vs,0,m,nd,h1,h2,hk=>by
  simp at h1 h2;subst h1;subst h2
  show bindC kindOf ((p,w) :: P.zip vs) m p=_
  unfold bindC
  rw[zal1 fun v hv=>(zcg3.mp nd).1 (List.of_mem_zip hv).1,if_neg hk]
  simp
 | p :: P,w :: vs,i+1,m,nd,h1,h2,hk=>by
  show bindC kindOf ((p,w) :: P.zip vs) m x=_
  unfold bindC
  exact zaj8 (i:=i) (zcg3.mp nd).2 (by simpa using h1) (by simpa using h2) hk
def zac0(N:List Str)(vs:List V):St:=vs.map some++List.replicate (N.length - vs.length) none
def cxOf(CX:CXT)(P:Program)(w:World)(K:zbz7)(mg:Str->Option Value)(base:Heap)(N:List Str)(qual:Str)(scope:Scope)(f:Addr)(cd:Value)(A:Around)(outer:List Env)(s:Shared)(H:Hp)(E:XK):Cx where
 prog:=P
 w:=w
 K:=K
 mg:=mg
 base:=base
 A:=A.deeper (envOfC qual scope s.heap.objs.size f cd)
 N:=N
 s₀:=s
 H₀:=H
 env:=envOfC qual scope s.heap.objs.size f cd
 outer:=outer
 stack:=envOfC qual scope s.heap.objs.size f cd :: outer
 ex:=[]
 calm:=true
 fn:=fun _=>true
 pn:=[]
 xe:=fun e s'=>wpAny (model P w) (A.deeper (envOfC qual scope s.heap.objs.size f cd)) (leaving (envOfC qual scope s.heap.objs.size f cd) e) (fun _ s''=>CX outer H s E e s'') (fun e' s''=>CX outer H s E e' s'') s'
theorem zar5{sc:Scope}{n:Nat}{x:Str}(h:sc.names.lookup x=some .cell):∃ c,(cellsFrom n sc.names []).lookup x=some c:=by
 have q:=PySem.W.cellsFrom_some sc.names n [] (.inl h)
 exact Option.isSome_iff_exists.mp q
theorem zbf9{CX:CXT}{P:Program}{w:World}{K:zbz7}{mg:Str->Option Value}{base:Heap}{N ps:List Str}{qual:Str}{scope:Scope}{f:Addr}{cd:Value}{A:Around}{outer:List Env}{s1:Shared}{E:XK}{vs:List V}(S:za9 N ps scope)(hd:A.handled=none)(e0:Env0 P w K mg base A outer s H)(hl:vs.length=ps.length)(r:Vals vs us)(x:InCallC s s.heap.objs.size (bindL (envOfC qual scope s.heap.objs.size f cd).kindOf (ps.zip us) fun _=>none) (cellsFrom (s.heap.objs.size+1) scope.names []) (bindC (envOfC qual scope s.heap.objs.size f cd).kindOf (ps.zip us) fun _=>none) s1) :
  Inv (cxOf CX P w K mg base N qual scope f cd A outer s H E) [] (zac0 N vs) H s1:=by
 have hpl:ps.length<=N.length:=by have:=congrArg List.length S.pre;rw[zcf6] at this;omega
 obtain⟨h1,tk,rfl,hk⟩:=x.done
 have noA:∀ b:Addr,b ∉ (cxOf CX P w K mg base N qual scope f cd A outer s H E).ex:=fun b z=>absurd (show b∈([]:List Addr) from z) (by simp)
 refine⟨⟨e0.mod,S.kind,rfl,rfl,zcb0 _,fun y z c h1 h2=>?_,fun y hy=>?_,fun y c _ h=>?_,fun _=>hd,Around.frames_deeper e0.frames,.inr ⟨rfl,rfl⟩,fun b z=>absurd z (noA b),e0.bs,e0.bsz,fun b _ _=>noA b,fun b z=>absurd z (noA b),e0.funs,e0.frf⟩,
  rfl,e0.bare,Un.kept hk,⟨_,x.toInCall.ns,fun i y v h1 h2 h3=>?_⟩,fun y c h=>⟨_,x.cell y c h⟩,e0.hok.fresh (zcb0 _),fun y c h=>?_,fun p hp=>absurd (show p∈([]:List (Addr×Obj)) from hp) (by simp),e0.hok.kept hk,?_⟩
 ·exact name_of_addr x.apart (PySem.mem_of_lookup h1) (PySem.mem_of_lookup h2)
 ·have hy:scope.names.lookup y=some .cell∨scope.names.lookup y=some .free:=hy
  rcases hy with hy|hy
  ·exact zar5 hy
  ·exact absurd rfl (S.nofree _ (PySem.mem_of_lookup hy))
 ·exact Nat.le_of_lt (x.above y c (PySem.mem_of_lookup h))
 ·have hi:i<vs.length:=by
   unfold zac0 at h2
   by_cases hi:i<vs.length
   ·exact hi
   ·rw[zcc0 (by simpa using hi)] at h2
    rw[List.getElem?_replicate] at h2
    split at h2<;>cases h2
  have ha:vs[i]?=some v:=by
   unfold zac0 at h2
   rw[zcc3 (by simpa using hi),zbz9] at h2
   cases e:vs[i]? with
   | none=>rw[e] at h2;cases h2
   | some a=>rw[e] at h2;cases h2;rfl
  obtain⟨u,hu,rv⟩:=r.get ha
  have hp:ps[i]?=some y:=by
   rw[← S.pre,List.getElem?_take_of_lt (by omega)];exact h1
  have ndP:ps.Nodup:=by rw[← S.pre];exact S.nd.sublist (List.take_sublist _ _)
  refine⟨u,rv,?_⟩
  rcases S.par y (zca0 hp) with k|k
  ·exact .inl ⟨k,zai9 ndP hp hu k⟩
  ·obtain⟨c,e⟩:=zar5 (n:=s.heap.objs.size+1) k
   refine .inr ⟨.inl k,c,e,?_⟩
   have q:=x.cell y c e
   rw[zaj8 ndP hp hu (by show scope.names.lookup y≠_;rw[k];decide)] at q
   exact q
 ·exact e0.hok.fresh (Nat.le_of_lt (x.above y c (PySem.mem_of_lookup h)))
 ·unfold zac0
  show _=N.length
  rw[zca8,zbz4,zcf4]
  omega
theorem fn_of{CX:CXT}{P:Program}{w:World}{K:zbz7}{mg:Str->Option Value}{base:Heap}{k:Nat}{f:Addr}{name qual:Str}{params:Arguments}{body:List Stmt}{scope:Scope}{dV kV doc pm cdv ct oc:Value}{an od:Option Addr}{osl:Array (Option Value)}{N ps:List Str}{sp:Sp}(lk:K.lookup f=some ⟨oc,od,.func (zcf2 name qual params body scope dV kV doc pm an cdv ct),osl⟩)(hcd:PySem.W.codeIn K cdv qual=true)(S:za9 N ps scope)(len:∀ vs H Q E,sp vs H Q E->vs.length=ps.length)(hbody:∀ (A:Around) (outer:List Env) (s:Shared) (H:Hp) (vs:List V) (Q:VK) (E:XK),Room k (A.deeper (envOfC qual scope s.heap.objs.size f cdv))->sp vs H Q E ->
   ∃ t,PSs (cxOf CX P w K mg base N qual scope f cdv A outer s H E) body t/\t { nx:=fun _ H'=>Q .non H',rt:=Q } (zac0 N vs) H) :
  FnOk P w K mg base CX (k+1) f (zcf2 name qual params body scope dV kV doc pm an cdv ct) ps sp:=by
 refine⟨len,fun A outer s H args us vs Q E hr e0 hb r hsp=>?_⟩
 have hl:=len _ _ _ _ hsp
 have KX:K.In s.heap:=e0.mod.kin.keeps fun b o e=>(e0.bs b o e).1
 have lim:s.heap.NoLimit:=e0.mod.nolimit.keeps fun b o e=>(e0.bs b o e).1
 have hkind:∀ y∈ps.zip us,scope.names.lookup y.1=some .local∨(scope.names.lookup y.1=some .cell/\((cellsFrom (s.heap.objs.size+1) scope.names []).lookup y.1).isSome=true):=fun ⟨n,v⟩ hy=>by
  rcases S.par n (List.of_mem_zip hy).1 with q|q
  ·exact .inl q
  ·exact .inr ⟨q,PySem.W.cellsFrom_some _ _ _ (.inl q)⟩
 refine codeAny_call_function hr.depth (KX _ _ lk) rfl S.co S.gen rfl (PySem.W.codeRec_of KX hcd) (hb _ _ _ _ ?_)
 refine wpAny_newFunctionEnv_cells S.kind hkind fun env he s1 x=>?_
 subst he
 refine⟨lim.keeps x.toInCall.keep,codeAny_func ?_⟩
 obtain⟨t,ht,hq⟩:=hbody A outer s H vs Q E (hr.deeper _) hsp
 have I:Inv (cxOf CX P w K mg base N qual scope f cdv A outer s H E) [] (zac0 N vs) H s1:=zbf9 S hr.hd e0 hl r x
 refine wpAny_mono (ht [] s1 (zac0 N vs) H _ I hq) (fun fl s' hs=>?_) fun e s' hs=>hs
 have fin:∀ {σ':St}{H':Hp}{v:V}{u:Value},Inv (cxOf CX P w K mg base N qual scope f cdv A outer s H E) [] σ' H' s'->RelV v u->Q v H'->CE outer P w H s Q u s':=
  fun {σ' H' v u} J rv q=>⟨v,H',J.os,J.bare,J.base,J.hok,rv,q⟩
 cases fl with
 | ret u=>
  obtain⟨v,σ',H',J,rv,q⟩:=hs
  exact fin J rv q
 | next=>
  obtain⟨σ',H',J,q⟩:=hs
  exact fin (v:=V.non) (u:=Value.none) J rfl q
 | brk=>
  obtain⟨_,_,_,q⟩:=hs
  exact False.elim q
 | cont=>
  obtain⟨_,_,_,q⟩:=hs
  exact False.elim q
section
variable {X:Cx}{x:Str}{p pos:Pos}{e:Expr}{es:List Expr}{t:TA}{id T:String}{r:List V->Hp->VK->Prop}
def tCB(r:List V->Hp->VK->Prop)(t:TA):TE:=fun σ H Q=>t σ H fun vs H1=>r vs H1 Q
theorem zbi2(hc:zk4 X (.builtin id) r)(hg:Gl X x)(hm:X.mg x=none)(hv:bootBuiltins x=some (.builtin id))(ha:PA X (e :: es) t)(hn:x≠"__name__":=by decide)(hdb:(x==("__debug__":Str))=false:=by decide)(he:starEach (e :: es) X.env=(false,eval e X.env) :: starEach es X.env:=by rfl)(hpl:(backTo pos (starEach es X.env)).any (·.1)=false:=by rfl):PE X (.Call (.Name x p) (e :: es) [] pos) (tCB r t):=by
 intro pins s σ H Q I h
 refine wpAny_Call_Name_kw (zac9 I hg hm hv ?_ hn hdb)
 exact PyProof.Rows.callWith_builtin1 (thn (ha pos pins s σ H _ I h) fun us s1 ⟨vs,H1,I1,r1,q1⟩=>hc pins s1 σ H1 vs us Q I1 r1 q1) he hpl
theorem zbg2(hc:zk4 X (.type T) r)(hg:Gl X x)(hm:X.mg x=none)(hv:bootBuiltins x=some (.type T))(ha:PA X (e :: es) t)(hn:x≠"__name__":=by decide)(hdb:(x==("__debug__":Str))=false:=by decide)(he:starEach (e :: es) X.env=(false,eval e X.env) :: starEach es X.env:=by rfl)(hpl:(backTo pos (starEach es X.env)).any (·.1)=false:=by rfl):PE X (.Call (.Name x p) (e :: es) [] pos) (tCB r t):=by
 intro pins s σ H Q I h
 refine wpAny_Call_Name_kw (zac9 I hg hm hv ?_ hn hdb)
 exact PyProof.Rows.callWith_type1 (thn (ha pos pins s σ H _ I h) fun us s1 ⟨vs,H1,I1,r1,q1⟩=>hc pins s1 σ H1 vs us Q I1 r1 q1) he hpl
end
end L2
namespace HT
open PySem PyProof.Rows
section
open PySem.SeqAt
open PySem.AutoSeq1 (wpAny_loadPart')
open PySem.MeetsSeq PySem.MeetsSeq2 PySem.MeetsSeq3
end
section
variable {prog:Program}{w:World}{A:Around}{E:Value->Shared->Prop}{s:Shared}
def sIx(n d:Nat):Option Int->Nat
 | none=>d
 | some v=>if v<0 then (v+(n:Int)).toNat else min v.toNat n
theorem sIx_le(n d:Nat)(hd:d<=n)(o:Option Int):sIx n d o<=n:=by
 cases o with
 | none=>exact hd
 | some v=>
  show (if v<0 then (v+(n:Int)).toNat else min v.toNat n)<=n
  by_cases hv:v<0
  ·rw[if_pos hv];omega
  ·rw[if_neg hv];exact Nat.min_le_right _ _
theorem zaz1(v:Int)(n d:Nat):(if v<0 then max (v+(n:Int)) 0 else min v (n:Int))=((sIx n d (some v):Nat):Int):=by
 show (if v<0 then max (v+(n:Int)) 0 else min v (n:Int))=(((if v<0 then (v+(n:Int)).toNat else min v.toNat n):Nat):Int)
 by_cases hv:v<0
 ·simp only[if_pos hv];omega
 ·simp only[if_neg hv];omega
theorem zav4(lo hi:Option Int)(n:Nat):Builtin.Slice.sliceAdjust lo hi 1 (n:Int)=(((sIx n 0 lo:Nat):Int),((sIx n n hi:Nat):Int)):=by
 have h1:¬ ((1:Int)<0):=by omega
 unfold Builtin.Slice.sliceAdjust
 simp only[h1,if_false]
 refine Prod.ext ?_ ?_
 ·cases lo with
  | none=>rfl
  | some v=>exact zaz1 v n 0
 ·cases hi with
  | none=>rfl
  | some v=>exact zaz1 v n n
theorem zav6(i j:Nat):Builtin.Slice.slicePlaces (i:Int) (j:Int) 1=j - i:=by
 unfold Builtin.Slice.slicePlaces
 have h1:(1:Int)>0:=by omega
 simp only[h1,if_true,Int.ediv_one]
 split<;>omega
theorem zac5{v:Value}{o:Option Int}{Q:Option Int->Shared->Prop}(p:IsPart v o)(h:Q o s):wpAny (model prog w) A (Builtin.Slice.slicePartIndex v) Q E s:=by
 cases p with
 | none=>exact slicePart_none h
 | int i t=>exact slicePart_int h
theorem zw6{sl:Addr}{vl vu:Value}{lo hi:Option Int}{n:Nat}{Q:Int×Int×Nat->Shared->Prop}(hs:s.heap.IsSliceOf sl vl vu .none)(pl:IsPart vl lo)(pu:IsPart vu hi)(h:Q (((sIx n 0 lo:Nat):Int),1,sIx n n hi - sIx n 0 lo) s):wpAny (model prog w) A (Builtin.Slice.sliceApplied (.ref sl) (pure (n:Int))) Q E s:=by
 obtain⟨os,hos,hcs,hds⟩:=id hs
 unfold Builtin.Slice.sliceApplied Builtin.Slice.sliceFields
 refine zci2 (zci2 (wpAny_field hos hds (x:=vl) rfl (zci2 (wpAny_field hos hds (x:=vu) rfl (zci2 (wpAny_field hos hds (x:=.none) rfl (zci3 ?_)))))))
 refine zci2 (slicePart_none ?_)
 show wpAny _ _ (if ((1:Int)==0)=true then _ else _) _ _ s
 rw[if_neg (by decide)]
 refine zci2 (zac5 pl (zci2 (zac5 pu (zci2 (zci3 ?_)))))
 show wpAny _ _ (match Builtin.Slice.sliceAdjust lo hi 1 (n:Int) with|(lo,hi)=>pure (lo,(1:Int),Builtin.Slice.slicePlaces lo hi 1)) _ _ s
 rw[zav4 lo hi n]
 show wpAny _ _ (pure (((sIx n 0 lo:Nat):Int),(1:Int),Builtin.Slice.slicePlaces ((sIx n 0 lo:Nat):Int) ((sIx n n hi:Nat):Int) 1)) _ _ s
 rw[zav6]
 exact zci3 h
theorem zbl1(xs:Array Value)(i k:Nat):((List.range k).filterMap fun (m:Nat)=>xs[((i:Int)+(m:Int)*1).toNat]?).toArray=((xs.toList.drop i).take k).toArray:=by
 have e:(fun (m:Nat)=>xs[((i:Int)+(m:Int)*1).toNat]?)=fun m=>xs[i+m]?:=by
  funext m
  have:((i:Int)+(m:Int)*1).toNat=i+m:=by omega
  rw[this]
 rw[e]
 have:=pick_run xs i k
 rw[List.filterMap_map] at this
 have e2:((fun x=>xs[x]?)∘fun x=>i+x)=fun m=>xs[i+m]?:=rfl
 rw[e2] at this
 rw[this]
theorem getItem_tuple_cut{t sl:Addr}{items:Array Value}{vl vu:Value}{lo hi:Option Int}{Q:Value->Shared->Prop}(ht:IsTup s.heap t items)(hs:s.heap.IsSliceOf sl vl vu .none)(pl:IsPart vl lo)(pu:IsPart vu hi)(hw:¬ (sIx items.size 0 lo=0/\sIx items.size items.size hi=items.size))(h:Q (.ref s.heap.objs.size) { s with heap:=s.heap.push { cls:=.type "tuple",data:=.seq ((items.toList.drop (sIx items.size 0 lo)).take (sIx items.size items.size hi - sIx items.size 0 lo)).toArray } })(hsz:items.size<=sizeLine):wpAny (model prog w) A (getItem (.ref t) (.ref sl)) Q E s:=by
 have htake:sizeOk (.seq ((items.toList.drop (sIx items.size 0 lo)).take (sIx items.size items.size hi - sIx items.size 0 lo)).toArray):=by
  show ((items.toList.drop (sIx items.size 0 lo)).take (sIx items.size items.size hi - sIx items.size 0 lo)).toArray.size<=sizeLine
  rw[zca2,zcf6,zcf7,zcc1]
  omega
 have hj:sIx items.size items.size hi<=items.size:=sIx_le _ _ (zcb0 _) hi
 obtain⟨os,hos,hcs,hds⟩:=id hs
 have hTs:s.TypeIs (.ref sl) "slice":=⟨os,hos,hcs⟩
 unfold getItem
 try with_reducible refine zci7 ?_
 first|refine zci2 (zci3 ?_)|skip
 refine zci2 (wpAny_sequenceKey ht.typeIs (by decide) ?_)
 refine zci2 (wpAny_callSpecial?_slot (name:=Str.ofString "__getitem__") ht.typeIs PyProof.Rows.slot_tuple_getitem
  (wpAny_call_entry PyProof.Rows.slot_tuple_getitem ht.typeIs entry_tuple_getitem ?_ (args_tuple_getitem _ _)))
 show wpAny _ _ (Builtin.Tuple.tupleItemsOf (.ref t) >>= _) _ _ s
 refine zci2 (tupleItemsOf_ ht ?_)
 refine zci2 (wpAny_typeOf hTs ?_)
 rw[if_pos (by decide)]
 refine zci2 (zw6 hs pl pu ?_)
 have hno:¬ ((((sIx items.size 0 lo:Nat):Int)==0&&(1:Int)==1&&(sIx items.size items.size hi - sIx items.size 0 lo)==items.size)=true):=by
  intro q
  rw[zca5,zca5] at q
  have q1:((sIx items.size 0 lo:Nat):Int)=0:=eq_of_beq q.1.1
  have q2:sIx items.size items.size hi - sIx items.size 0 lo=items.size:=eq_of_beq q.2
  exact hw ⟨by omega,by omega⟩
 show wpAny _ _ (if (((sIx items.size 0 lo:Nat):Int)==0&&(1:Int)==1&&(sIx items.size items.size hi - sIx items.size 0 lo)==items.size)=true then _ else _) _ _ s
 rw[if_neg hno,zbl1]
 first
  | exact zci2 (m:=Builtin.Tuple.tupleExact _) (wpAny_newObj_type (zci3 ⟨_,rfl,zci3 h⟩) htake)
  | exact zci2 (m:=Builtin.Tuple.tupleExact _) (wpAny_newObj_type (zci2 (zci3 (zci3 ⟨_,rfl,zci3 h⟩))) htake)
  | exact zci2 (zci2 (m:=Builtin.Tuple.tupleExact _) (wpAny_newObj_type (zci3 (zci3 ⟨_,rfl,zci3 h⟩)) htake))
  | exact zci2 (zci2 (m:=Builtin.Tuple.tupleExact _) (wpAny_newObj_type (zci3 ⟨_,rfl,zci3 h⟩) htake))
end
end HT
namespace L2
open PySem PySem.Spec PyProof.Rows
abbrev TO:=St->Hp->(Option Int->Hp->Prop)->Prop
def PO(X:Cx)(e:Option Expr)(t:TO):Prop:=
 ∀ (pins:List (Addr×Obj)) (s:Shared) (σ:St) (H:Hp) (Q:Option Int->Hp->Prop),Inv X pins σ H s->t σ H Q ->
  wpAny (model X.prog X.w) X.A (evalPart e X.env) (fun u s'=>∃ o H',Inv X pins σ H' s'/\IsPart u o/\Q o H') X.xe s
def zbq1:TO:=fun _ H Q=>Q none H
theorem zt6{ns:List Int}:∀ {us:List Value},Vals (ns.map V.int) us->IntsAre us ns:=by
 induction ns with
 | nil=>intro us r;rw[zci1] at r;cases r;exact .nil
 | cons n ns ih=>
  intro us r
  rw[zcb1] at r
  cases r with
  | cons r1 r2=>
   obtain⟨t,e⟩:=r1
   subst e
   exact .cons n t (ih r2)
section
variable {X:Cx}{e:Expr}{te:TE}{lo hi:Option Expr}{tl th:TO}{pos p2:Pos}
theorem zu0:PO X none zbq1:=by
 intro pins s σ H Q I h
 rw[evalPart_none]
 exact zci3 ⟨none,H,I,.none,h⟩
def SlR(X:Cx)(r:V->Option Int->Option Int->Hp->VK->Prop):Prop:=
 ∀ (pins:List (Addr×Obj)) (s:Shared) (σ:St) (H:Hp) (x:V) (v vl vu:Value) (lo hi:Option Int) (sl:Addr) (Q:VK),Inv X pins σ H s->RelV x v->s.heap.IsSliceOf sl vl vu .none->IsPart vl lo->IsPart vu hi->r x lo hi H Q ->
  ∃ T id,typeLookup (.type T) "__getitem__"=pure (some (.builtin id))/\s.TypeIs v T/\wpAny (model X.prog X.w) X.A (getItem v (.ref sl)) (EP X pins σ Q) X.xe s
def tSl(r:V->Option Int->Option Int->Hp->VK->Prop)(te:TE)(tl th:TO):TE:=fun σ H Q=>te σ H fun x H1=>tl σ H1 fun l H2=>th σ H2 fun u H3=>r x l u H3 Q
theorem zq2{r:V->Option Int->Option Int->Hp->VK->Prop}(hr:SlR X r)(he:PE X e te)(hl:PO X lo tl)(hu:PO X hi th):PE X (.Subscript e (.Slice lo hi none p2) pos) (tSl r te tl th):=by
 intro pins s σ H Q I h
 refine Subscript_ (thn (he pins s σ H _ I h) fun v s1 ⟨x,H1,I1,r1,q1⟩=>?_)
 refine wpAny_Slice (thn (hl pins s1 σ H1 _ I1 q1) fun vl s2 ⟨l,H2,I2,pl,q2⟩=>thn (hu pins s2 σ H2 _ I2 q2) fun vu s3 ⟨u,H3,I3,pu,q3⟩=>?_)
 rw[evalPart_none]
 refine zci3 ?_
 have I4:Inv X pins σ H3 { s3 with heap:=s3.heap.push { cls:=.type "slice",data:=.fields #[vl,vu,.none] } }:=I3.kept (t':=s3.toks) fun b ob q=>zca1 _ q
 obtain⟨T,id,hT,ht,hg⟩:=hr pins { s3 with heap:=s3.heap.push { cls:=.type "slice",data:=.fields #[vl,vu,.none] } } σ H3 x v vl vu l u s3.heap.objs.size Q I4 r1 (Heap.IsSliceOf.new ..) pl pu q3
 show wpAny (model X.prog X.w) X.A (subscriptTail e (.Slice lo hi none p2) v (.ref s3.heap.objs.size)) (EP X pins σ Q) X.xe { s3 with heap:=s3.heap.push { cls:=.type "slice",data:=.fields #[vl,vu,.none] } }
 exact tail_any (ops:=[.ref s3.heap.objs.size,v]) ht hT hg (by with_unfolding_all rfl)
def cutV(xs:List V)(lo hi:Option Int):List V:=(xs.drop (HT.sIx xs.length 0 lo)).take (HT.sIx xs.length xs.length hi - HT.sIx xs.length 0 lo)
theorem zx0(xs:List V)(lo hi:Option Int):(cutV xs lo hi).length<=xs.length:=by
 unfold cutV
 rw[zcf6,zcf7]
 omega
def rSlT(K:zbz7):V->Option Int->Option Int->Hp->VK->Prop:=fun x lo hi H Q=>∃ a xs,x=.ref a/\SqT K H a xs /\
 ¬ (HT.sIx xs.length 0 lo=0/\HT.sIx xs.length xs.length hi=xs.length)/\∀ p,H p=none->Q (.ref p) (upd H p (.tup (cutV xs lo hi)))
theorem sl_tup:SlR X (rSlT X.K):=by
 intro pins s σ H x v vl vu lo hi sl Q I rx hs pl pu h
 obtain⟨a,xs,rfl,hx,hw,q⟩:=h
 cases rx
 obtain⟨its,r,ht,hz⟩:=I.tuple hx
 have hlen:its.toArray.size=xs.length:=by rw[zca2];exact r.length.symm
 refine⟨"tuple",_,PyProof.Rows.slot_tuple_getitem.lookup,ht.typeIs,?_⟩
 refine HT.getItem_tuple_cut ht hs pl pu (by rw[hlen];exact hw) ?_ (by rw[hlen];exact hz)
 rw[hlen]
 refine⟨.ref s.heap.objs.size,_,I.laid (t':=s.toks) (o:=.tup (cutV xs lo hi)) (fun b ob q=>zca1 _ q) (zcb0 _) ?_,rfl,q _ (I.hok.fresh (zcb0 _))⟩
 exact⟨zcd9 (zx0 xs lo hi) hz,_,(r.drop (HT.sIx xs.length 0 lo)).take (HT.sIx xs.length xs.length hi - HT.sIx xs.length 0 lo),IsTup.new _ _⟩
end
def ixN(n:Nat)(i:Int):Option Nat:=if 0<=i then (if i<n then some i.toNat else none) else if -(n:Int)<=i then some (i+n).toNat else none
def atI{α:Type}(xs:List α)(i:Int):Option α:=(ixN xs.length i).bind fun j=>xs[j]?
theorem zbb6{n:Nat}{i:Int}{j:Nat}(h:ixN n i=some j):seqIndex? i n=some j/\j<n/\-(n:Int)<=i/\i<n:=by
 unfold ixN at h
 by_cases h0:0<=i
 ·rw[if_pos h0] at h
  by_cases h1:i<n
  ·rw[if_pos h1] at h
   have e:i.toNat=j:=Option.some.inj h
   exact⟨by rw[seqIndex_of h0 h1,e],by omega,by omega,h1⟩
  ·rw[if_neg h1] at h;cases h
 ·rw[if_neg h0] at h
  by_cases h1:-(n:Int)<=i
  ·rw[if_pos h1] at h
   have e:(i+n).toNat=j:=Option.some.inj h
   exact⟨by rw[seqIndex_neg (by omega) h1,e],by omega,h1,by omega⟩
  ·rw[if_neg h1] at h;cases h
theorem zap6{α:Type}{xs:List α}{i:Int}{v:α}(h:atI xs i=some v):∃ j,seqIndex? i xs.length=some j/\xs[j]?=some v/\j<xs.length/\-(xs.length:Int)<=i/\i<xs.length:=by
 unfold atI at h
 cases e:ixN xs.length i with
 | none=>rw[e] at h;cases h
 | some j=>
  rw[e] at h
  obtain⟨h1,h2,h3,h4⟩:=zbb6 e
  exact⟨j,h1,h,h2,h3,h4⟩
theorem zh3{α:Type}{xs:List α}{j:Nat}{v:α}(h:xs[j]?=some v):atI xs (j:Int)=some v:=by
 have hj:j<xs.length:=(zbz6.mp h).1
 have e:ixN xs.length (j:Int)=some j:=by
  unfold ixN
  rw[if_pos (by omega),if_pos (by omega)];simp
 unfold atI;rw[e];exact h
def zan2(b:Expr):Prop:=∀ o i,subscripted b false o i=operate [o,i] (getItem o i)
def IxR(X:Cx)(r:R2):Prop:=
 ∀ (value slice:Expr) (pins:List (Addr×Obj)) (s:Shared) (σ:St) (H:Hp) (x y:V) (v u:Value) (Q:VK),Inv X pins σ H s->RelV x v->RelV y u->r x y H Q ->
  subscripted slice false v u=operate [v,u] (getItem v u)->wpAny (model X.prog X.w) X.A (subscriptTail value slice v u) (EP X pins σ Q) X.xe s
def MtR(X:Cx)(id:String)(r:V->List V->Hp->VK->Prop):Prop:=
 ∀ (pins:List (Addr×Obj)) (s:Shared) (σ:St) (H:Hp) (x:V) (xs:List V) (v:Value) (us:List Value) (Q:VK),Inv X pins σ H s->RelV x v->Vals xs us->r x xs H Q ->
  wpAny (model X.prog X.w) X.A (call (.builtin id) (v :: us)) (EP X pins σ Q) X.xe s
section
variable {X:Cx}{a b:Expr}{ta tb:TE}{pos:Pos}
theorem pe_ix{r:R2}(hr:IxR X r)(ha:PE X a ta)(hb:PE X b tb)(hs:zan2 b):PE X (.Subscript a b pos) (tOp r ta tb):=by
 intro pins s σ H Q I h
 exact Subscript_ (binT ha hb I h fun v u s2 x y H2 I2 rx ry q=>hr a b pins s2 σ H2 x y v u Q I2 rx ry q (hs _ _))
def rIxL(K:zbz7):R2:=fun x y H Q=>∃ p xs i v,x=.ref p/\y=.int i/\SqL K H p xs/\atI xs i=some v/\Q v H
def rIxT(K:zbz7):R2:=fun x y H Q=>∃ p xs i v,x=.ref p/\y=.int i/\SqT K H p xs/\atI xs i=some v/\Q v H
def rIxS:R2:=fun x y H Q=>∃ z i c,x=.str z/\y=.int i/\z.length<=sizeLine/\atI z.cps.toList i=some c/\Q (.str ⟨#[c]⟩) H
theorem zbq4:IxR X (rIxL X.K):=by
 intro value slice pins s σ H x y v u Q I rx ry h hs
 obtain⟨p,xs,i,z,rfl,rfl,hq,he,q⟩:=h
 cases rx
 obtain⟨t,rfl⟩:=ry
 obtain⟨its,r,pl,hz⟩:=I.list hq
 obtain⟨j,h1,h2,h3,h4,h5⟩:=zap6 he
 obtain⟨w,ew,rw'⟩:=r.get h2
 have hl:=r.length
 have hn:=zz4
 have fin:EP X pins σ Q w s:=⟨z,H,I,rw',q⟩
 by_cases h0:0<=i
 ·have hj:i.toNat=j:=by
   rw[seqIndex_of h0 h5] at h1
   exact Option.some.inj h1
  exact item_listR pl.isList h0 (by omega) (by rw[hj];simpa using ew) fin hs
 ·have hj:(i+(its.toArray.size:Int)).toNat=j:=by
   rw[seqIndex_neg (by omega) h4] at h1
   rw[zca2,← hl]
   exact Option.some.inj h1
  exact subscriptTail_builtinR (x:=w) pl.isList.typeIs slot_list_getitem.lookup
   (wpAny_getItem_list_neg (Q:=fun r s'=>r=w/\EP X pins σ Q r s') pl.isList (by omega) (by rw[zca2]<;>omega) (by omega) (by rw[hj];simpa using ew) ⟨rfl,fin⟩) hs
theorem ix_tup:IxR X (rIxT X.K):=by
 intro value slice pins s σ H x y v u Q I rx ry h hs
 obtain⟨p,xs,i,z,rfl,rfl,hq,he,q⟩:=h
 cases rx
 obtain⟨t,rfl⟩:=ry
 obtain⟨its,r,pl,hz⟩:=I.tuple hq
 obtain⟨j,h1,h2,h3,h4,h5⟩:=zap6 he
 obtain⟨w,ew,rw'⟩:=r.get h2
 have hl:=r.length
 have hn:=zz4
 have fin:EP X pins σ Q w s:=⟨z,H,I,rw',q⟩
 exact subscriptTail_builtinR (x:=w) pl.typeIs slot_tuple_getitem.lookup
  (getItem_tuple (j:=j) (Q:=fun r s'=>r=w/\EP X pins σ Q r s') pl (by omega) (by omega) (by rw[zca2,← hl];exact h1) (by simpa using ew) ⟨rfl,fin⟩) hs
theorem ix_str:IxR X rIxS:=by
 intro value slice pins s σ H x y v u Q I rx ry h hs
 obtain⟨z,i,c,rfl,rfl,hz,he,q⟩:=h
 obtain⟨t,rfl⟩:=rx
 obtain⟨t',rfl⟩:=ry
 obtain⟨j,h1,h2,h3,h4,h5⟩:=zap6 he
 have hl:z.cps.toList.length=z.length:=by simp[Str.length]
 rw[hl] at h1 h4 h5
 have hn:=zz4
 exact tail_any (typeIs_str s z t) slot_str_getitem.lookup (getItem_str (c:=c) (by
  have e1:decide (i < -(2 ^ 63:Int))=false:=decide_eq_false (by omega)
  have e2:decide (i≥2 ^ 63)=false:=decide_eq_false (by omega)
  rw[e1,e2,Bool.or_false]) (by rw[h1];simpa using h2) ⟨.str ⟨#[c]⟩,H,I.tok _,⟨_,rfl⟩,q⟩) hs
theorem zax3(its:List Value)(n j:Nat)(u:Value):Obj.mapSeq (·.setIfInBounds j u) { cls:=.type "list",data:=.seq its.toArray n }={ cls:=.type "list",data:=.seq (its.set j u).toArray n }:=by
 simp[Obj.mapSeq]
theorem Inv.lst{pins:List (Addr×Obj)}{σ:St}{H:Hp}{s:Shared}{p:Addr}{xs:List V}(I:Inv X pins σ H s)(h:H p=some (.lst xs)) :
  ∃ (its:List Value) (n:Nat),Vals xs its/\s.heap.get? p=some { cls:=.type "list",data:=.seq its.toArray n }/\xs.length<=sizeLine:=by
 obtain⟨z,its,n,r,e⟩:=I.hok p _ h
 exact⟨its,n,r,e,z⟩
theorem Inv.lstUpd{pins:List (Addr×Obj)}{σ:St}{H:Hp}{s:Shared}{p:Addr}{xs ys:List V}{its its':List Value}{n n':Nat}{f:Obj->Obj}(I:Inv X pins σ H s)(h:H p=some (.lst xs))(ho:s.heap.get? p=some { cls:=.type "list",data:=.seq its.toArray n })(hf:f { cls:=.type "list",data:=.seq its.toArray n }={ cls:=.type "list",data:=.seq its'.toArray n' })(r:Vals ys its')(hz:ys.length<=sizeLine)(t:Nat) :
  Inv X pins σ (upd H p (.lst ys)) { s with heap:=s.heap.update p f,toks:=t }:=by
 have e:(s.heap.update p f).get? p=some { cls:=.type "list",data:=.seq its'.toArray n' }:=by
  rw[zcf5 f ho (by rw[hf]<;>rfl),hf]
 refine I.write (x:=p) (e:=p) (by rw[h];trivial) (.inl rfl) (fun b u hb q=>(zcc5 _ _ (Ne.symm hb)).trans q) ⟨_,e⟩ ?_
 exact⟨hz,its',n',r,e⟩
def rSetL:V->V->V->Hp->(Hp->Prop)->Prop:=fun o i v H Q=>∃ p xs k j,o=.ref p/\i=.int k/\H p=some (.lst xs)/\ixN xs.length k=some j/\Q (upd H p (.lst (xs.set j v)))
theorem zbi0:PSet X rSetL:=by
 intro pins s σ H o i v ov iv u Q I ro ri rv h
 obtain⟨p,xs,k,j,rfl,rfl,hp,hj,q⟩:=h
 cases ro
 obtain⟨t,rfl⟩:=ri
 obtain⟨its,n,r,ho,hz⟩:=I.lst hp
 obtain⟨h1,h2,h3,h4⟩:=zbb6 hj
 have hl:=r.length
 have hn:=zz4
 have I':Inv X pins σ (upd H p (.lst (xs.set j v))) { s with heap:=s.heap.update p (Obj.mapSeq (·.setIfInBounds j u)) }:=
  I.lstUpd hp ho (zax3 its n j u) (r.set rv j) (by rw[List.length_set];exact hz) s.toks
 by_cases h0:0<=k
 ·have hk:k.toNat=j:=by
   rw[seqIndex_of h0 h4] at h1
   exact Option.some.inj h1
  exact PySem.W.ki_setAt ho h0 (by omega) (by rw[zca2,← hl];exact h4) (by rw[hk];exact⟨_,I',q⟩)
 ·have hk:(k+(its.toArray.size:Int)).toNat=j:=by
   rw[seqIndex_neg (by omega) h3] at h1
   rw[zca2,← hl]
   exact Option.some.inj h1
  exact PySem.W.ki_setBack ho (by omega) (by rw[zca2,← hl];exact h3) (by omega) (by rw[hk];exact⟨_,I',q⟩)
theorem zam1(lo hi:Option Int)(n:Nat):(sliceBounds lo hi none n).1=((HT.sIx n 0 lo:Nat):Int)/\(sliceBounds lo hi none n).2.1=((HT.sIx n n hi:Nat):Int)/\(sliceBounds lo hi none n).2.2=1:=by
 refine⟨?_,?_,rfl⟩
 ·cases lo with
  | none=>simp[sliceBounds,HT.sIx]
  | some i=>
   simp only[sliceBounds,HT.sIx,Option.getD_none,show (1:Int)>0 by decide,if_true]
   by_cases h:i<0
   ·simp only[h,if_true]<;>omega
   ·simp only[h,if_false]<;>omega
 ·cases hi with
  | none=>simp[sliceBounds,HT.sIx]
  | some i=>
   simp only[sliceBounds,HT.sIx,Option.getD_none,show (1:Int)>0 by decide,if_true]
   by_cases h:i<0
   ·simp only[h,if_true]<;>omega
   ·simp only[h,if_false]<;>omega
theorem zaf8(its:List Value)(lo hi:Option Int):slicePick its.toArray lo hi none=((its.drop (HT.sIx its.length 0 lo)).take (HT.sIx its.length its.length hi - HT.sIx its.length 0 lo)).toArray:=by
 obtain⟨h1,h2,h3⟩:=zam1 lo hi its.toArray.size
 unfold slicePick
 rw[h1,h2,h3]
 simp only[sliceRange_one,pick_run,zca2]<;>rfl
def rSlL(K:zbz7):V->Option Int->Option Int->Hp->VK->Prop:=fun x lo hi H Q=>∃ a xs,x=.ref a/\SqL K H a xs/\∀ p,H p=none->Q (.ref p) (upd H p (.lst (cutV xs lo hi)))
theorem zbt8:SlR X (rSlL X.K):=by
 intro pins s σ H x v vl vu lo hi sl Q I rx hs pl pu h
 obtain⟨a,xs,rfl,hx,q⟩:=h
 cases rx
 obtain⟨its,r,ht,hz⟩:=I.list hx
 have hlen:=r.length
 refine⟨"list",_,slot_list_getitem.lookup,ht.isList.typeIs,?_⟩
 refine wpAny_getItem_list_slice ht.isList hs pl pu .none (by simp) ?_ (by rw[zca2]<;>omega)
 rw[zaf8,← hlen]
 refine⟨.ref s.heap.objs.size,_,I.laid (t':=s.toks) (o:=.lst (cutV xs lo hi)) (fun b ob q=>zca1 _ q) (zcb0 _) ?_,rfl,q _ (I.hok.fresh (zcb0 _))⟩
 exact⟨zcd9 (zx0 xs lo hi) hz,_,0,(r.drop (HT.sIx xs.length 0 lo)).take (HT.sIx xs.length xs.length hi - HT.sIx xs.length 0 lo),zcb8 _ rfl⟩
def zbd9:V->Bool
 | .non=>true
 | .bl _=>true
 | .int _=>true
 | .str _=>true
 | _=>false
def eqV:V->V->Bool
 | .non,.non=>true
 | .bl a,.bl b=>a==b
 | .bl a,.int b=>(if a then 1 else 0)==b
 | .int a,.bl b=>a==(if b then 1 else 0)
 | .int a,.int b=>a==b
 | .str a,.str b=>a==b
 | _,_=>false
theorem zbo3{A:Around}{s:Shared}{y x:V}{u v:Value}(ry:RelV y u)(rx:RelV x v)(fy:zbd9 y=true)(fx:zbd9 x=true):SeqAt.EqAt A s u v (eqV y x):=by
 cases y with
 | non=>
  cases ry
  cases x with
  | non=>cases rx;exact SeqAt.EqAt.same _
  | bl b=>cases rx;exact SeqAt.EqAt.none_bool b
  | int b=>obtain⟨t,rfl⟩:=rx;exact SeqAt.EqAt.none_int b t
  | str b=>obtain⟨t,rfl⟩:=rx;exact SeqAt.EqAt.none_str b t
  | _=>exact absurd (show false=true from fx) zca4
 | bl a=>
  cases ry
  cases x with
  | non=>cases rx;exact SeqAt.EqAt.bool_none a
  | bl b=>cases rx;exact SeqAt.EqAt.bool_bool a b
  | int b=>obtain⟨t,rfl⟩:=rx;exact SeqAt.EqAt.bool_int a b t
  | str b=>obtain⟨t,rfl⟩:=rx;exact SeqAt.EqAt.bool_str a b t
  | _=>exact absurd (show false=true from fx) zca4
 | int a=>
  obtain⟨t',rfl⟩:=ry
  cases x with
  | non=>cases rx;exact SeqAt.EqAt.int_none a t'
  | bl b=>cases rx;exact SeqAt.EqAt.int_bool a t' b
  | int b=>obtain⟨t,rfl⟩:=rx;exact SeqAt.EqAt.int_int a t' b t
  | str b=>obtain⟨t,rfl⟩:=rx;exact SeqAt.EqAt.int_str a t' b t
  | _=>exact absurd (show false=true from fx) zca4
 | str a=>
  obtain⟨t',rfl⟩:=ry
  cases x with
  | non=>cases rx;exact SeqAt.EqAt.str_none a t'
  | bl b=>cases rx;exact SeqAt.EqAt.str_bool a t' b
  | int b=>obtain⟨t,rfl⟩:=rx;exact SeqAt.EqAt.str_int a t' b t
  | str b=>obtain⟨t,rfl⟩:=rx;exact SeqAt.EqAt.str_str a t' b t
  | _=>exact absurd (show false=true from fx) zca4
 | _=>exact absurd (show false=true from fy) zca4
theorem zak0:zk4 X (.builtin "len") (fun xs H Q=>∃ p ys,xs=[.ref p]/\(SqL X.K H p ys∨SqT X.K H p ys)/\Q (.int ys.length) H):=by
 intro pins s σ H xs us Q I r h
 obtain⟨p,ys,rfl,hq,q⟩:=h
 obtain⟨u,rfl,rx⟩:=zab6 r
 cases rx
 have hn:=zz4
 rcases hq with hq|hq
 ·obtain⟨its,r',pl,hz⟩:=I.list hq
  have hlen:=r'.length
  exact Calls.call_len_list pl.isList (by simp only[zca2]<;>omega) ⟨.int ys.length,H,I.tok _,⟨s.toks+1,by rw[zca2,hlen]⟩,q⟩
 ·obtain⟨its,r',pl,hz⟩:=I.tuple hq
  have hlen:=r'.length
  exact len_tuple pl (by simp only[zca2]<;>omega) ⟨.int ys.length,H,I.tok _,⟨s.toks+1,by rw[zca2,hlen]⟩,q⟩
theorem zai7:zk4 X (.builtin "len") (fun xs H Q=>∃ z,xs=[.str z]/\z.length<=sizeLine/\Q (.int z.length) H):=by
 intro pins s σ H xs us Q I r h
 obtain⟨z,rfl,hz,q⟩:=h
 obtain⟨u,rfl,t,rfl⟩:=zab6 r
 have hn:=zz4
 exact len_str (by omega) ⟨.int z.length,H,I.tok _,⟨_,rfl⟩,q⟩
theorem zai0:zk4 X (.type "list") (fun xs H Q=>∃ p ys,xs=[.ref p]/\(SqL X.K H p ys∨SqT X.K H p ys)/\∀ l,H l=none->Q (.ref l) (upd H l (.lst ys))):=by
 intro pins s σ H xs us Q I r h
 obtain⟨p,ys,rfl,hq,q⟩:=h
 obtain⟨u,rfl,rx⟩:=zab6 r
 cases rx
 have fin:∀ (its:List Value),Vals ys its->ys.length<=sizeLine->∀ (h':Heap) (c':Nat),(∀ b o',s.heap.get? b=some o'->h'.get? b=some o') ->
   h'.get? s.heap.objs.size=some { cls:=.type "list",dict:=none,data:=.seq its.toArray c',slots:=#[] }->EP X pins σ Q (.ref s.heap.objs.size) { s with heap:=h' }:=fun its r' hz h' c' kp e=>
  ⟨.ref s.heap.objs.size,_,I.laid (t':=s.toks) kp (zcb0 _) (show zf3 X.prog X.w _ h' _ (.lst ys) from ⟨hz,its,c',r',e⟩),rfl,q _ (I.hok.fresh (zcb0 _))⟩
 rcases hq with hq|hq
 ·obtain⟨its,r',pl,hz⟩:=I.list hq
  have hlen:=r'.length
  obtain⟨o,ho,hc,n,hd⟩:=pl.isList
  exact call_list_seq p (.inl rfl) ho hc hd (fun h' c' kp e=>fin its r' hz h' c' kp e) (by simp only[zca2]<;>omega)
 ·obtain⟨its,r',pl,hz⟩:=I.tuple hq
  have hlen:=r'.length
  obtain⟨o,ho,hc,n,hd⟩:=pl
  exact call_list_seq p (.inr rfl) ho hc hd (fun h' c' kp e=>fin its r' hz h' c' kp e) (by simp only[zca2]<;>omega)
def tyV(K:zbz7)(T:String)(x:V)(H:Hp):Prop:=match x with
 | .str _=>T="str"
 | .int _=>T="int"
 | .ref p=>(T="list"/\∃ xs,SqL K H p xs)∨(T="tuple"/\∃ o,K.lookup p=some o/\o.cls=.type "tuple"/\o.dict=none) ∨
   (T="dict"/\((∃ kvs,H p=some (.dK kvs))∨∃ kvs,H p=some (.dT kvs)))∨(T="set"/\∃ S n,H p=some (.set S n))
 | _=>False
theorem tyV_is{pins:List (Addr×Obj)}{σ:St}{H:Hp}{s:Shared}{T:String}{x:V}{v:Value}(I:Inv X pins σ H s)(r:RelV x v)(ty:tyV X.K T x H) :
  s.TypeIs v T/\∀ a,v=.ref a->∃ ob,s.heap.get? a=some ob/\ob.dict=none:=by
 cases x with
 | str z=>
  obtain⟨t,rfl⟩:=r
  cases (show T="str" from ty)
  exact⟨typeIs_str s z t,fun _ e=>nomatch e⟩
 | int i=>
  obtain⟨t,rfl⟩:=r
  cases (show T="int" from ty)
  exact⟨typeIs_int s i t,fun _ e=>nomatch e⟩
 | ref p=>
  cases r
  rcases ty with ⟨rfl,xs,hq⟩|⟨rfl,o,hk,hc,hd⟩|⟨rfl,hk⟩|⟨rfl,S,n,hk⟩
  ·obtain⟨its,_,pl,_⟩:=I.list hq
   refine⟨pl.isList.typeIs,fun a e=>?_⟩
   cases e
   obtain⟨o,n,e,c,hd,_⟩:=pl
   exact⟨o,e,hd⟩
  ·refine⟨⟨o,I.kIn p o hk,hc⟩,fun a e=>?_⟩
   cases e
   exact⟨o,I.kIn _ o hk,hd⟩
  ·have z:∃ o,s.heap.get? p=some o/\o.ExactDict:=by
    rcases hk with ⟨kvs,hk⟩|⟨kvs,hk⟩
    ·obtain⟨_,_,_,_,o,_,_,e,ex,_⟩:=I.hok p _ hk
     exact⟨o,e,ex⟩
    ·obtain⟨_,_,_,_,o,_,_,e,ex,_⟩:=I.hok p _ hk
     exact⟨o,e,ex⟩
   obtain⟨o,e,ex⟩:=z
   refine⟨⟨o,e,ex.1⟩,fun a e2=>?_⟩
   cases e2
   exact⟨o,e,ex.2.1⟩
  ·obtain⟨o,_,_,_,e,ex,_⟩:=I.hok p _ hk
   refine⟨⟨o,e,ex.1⟩,fun a e2=>?_⟩
   cases e2
   exact⟨o,e,ex.2.1⟩
 | _=>exact False.elim ty
variable {o e:Expr}{es:List Expr}{to:TE}{t:TA}{name:Str}{apos cpos:Pos}{T id:String}{r:V->List V->Hp->VK->Prop}
end
def MtM(X:Cx)(id:String)(r:V->List V->Hp->VK->Prop):Prop:=
 ∀ (pins:List (Addr×Obj)) (s:Shared) (σ:St) (H:Hp) (x:V) (xs:List V) (v:Value) (us:List Value) (Q:VK),Inv X pins σ H s->RelV x v->Vals xs us->r x xs H Q ->
  wpAny (model X.prog X.w) X.A (call (.builtin id) (v :: us)) (EP X pins σ Q) X.xe s
theorem Vals.one:∀ {x:V}{us:List Value},Vals [x] us->∃ u,us=[u]/\RelV x u
 | _,_,.cons r .nil=>⟨_,rfl,r⟩
theorem Vals.rep{xs:List V}{us:List Value}(h:Vals xs us):∀ k:Nat,Vals (List.replicate k xs).flatten (List.replicate k us).flatten
 | 0=>.nil
 | k+1=>by
  rw[zcg4,zcg4,List.flatten_cons,List.flatten_cons]
  exact Vals.append h (Vals.rep h k)
theorem zal4(its:List Value):∀ (k:Nat) (acc:List Value),
  List.foldl (fun x1 x2=>x1++x2) acc.toArray (List.replicate k its.toArray)=(acc++(List.replicate k its).flatten).toArray
 | 0,acc=>by simp
 | k+1,acc=>by
  have e:acc.toArray++its.toArray=(acc++its).toArray:=by simp
  have e2:(acc++its)++(List.replicate k its).flatten=acc++(List.replicate (k+1) its).flatten:=by
   rw[zcg4,List.flatten_cons,List.append_assoc]
  rw[← e2,← zal4 its k (acc++its),← e,zcg4,List.foldl_cons]
section
variable {X:Cx}{pins:List (Addr×Obj)}{σ:St}{H:Hp}{s:Shared}{l b:Addr}{xs ys zs:List V}
theorem Inv.lset{its its':List Value}{n:Nat}{f:Array Value->Array Value}{t':Nat}(I:Inv X pins σ H s)(hH:H l=some (.lst xs))(e:s.heap.get? l=some { cls:=.type "list",data:=.seq its.toArray n })(hf:f its.toArray=its'.toArray)(hv:Vals ys its')(hz:ys.length<=sizeLine) :
  Inv X pins σ (upd H l (.lst ys)) { s with heap:=s.heap.update l (Obj.mapSeq f),toks:=t' }:=by
 have q:=PySem.IsL.update e f
 rw[hf] at q
 refine I.write (x:=l) (e:=l) (by rw[hH];exact trivial) (.inl rfl) (fun b' u hb hu=>(zcc5 s.heap (Obj.mapSeq f) (Ne.symm hb)).trans hu) ⟨_,q⟩ ?_
 exact⟨hz,its',_,hv,q⟩
theorem Inv.lnew{its:List Value}{t':Nat}(I:Inv X pins σ H s)(hv:Vals ys its)(hz:ys.length<=sizeLine) :
  Inv X pins σ (upd H s.heap.objs.size (.lst ys)) { s with heap:=s.heap.push { cls:=.type "list",data:=.seq its.toArray },toks:=t' }:=
 I.laid (fun _ _ q=>zca1 _ q) (zcb0 _) ⟨hz,its,0,hv,zcb8 _ rfl⟩
theorem Inv.fresh(I:Inv X pins σ H s):H s.heap.objs.size=none:=I.hok.fresh (zcb0 _)
theorem Inv.lstM(I:Inv X pins σ H s)(hH:H l=some (.lst xs)):xs.length<=sizeLine/\∃ (its:List Value) (n:Nat),Vals xs its/\xs.length=its.length/\s.heap.get? l=some { cls:=.type "list",data:=.seq its.toArray n }:=by
 obtain⟨z,its,n,r,e⟩:=I.hok l _ hH
 exact⟨z,its,n,r,r.length,e⟩
theorem zau2{n:Nat}(h:n<=sizeLine):Builtin.List.listTooLong n=false:=by
 unfold Builtin.List.listTooLong
 exact decide_eq_false (by omega)
end
section
variable {X:Cx}
def zbr8:V->List V->Hp->VK->Prop:=fun x vs H Q=>∃ l xs y,x=.ref l/\vs=[y]/\H l=some (.lst xs)/\xs.length<sizeLine/\Q .non (upd H l (.lst (xs++[y])))
theorem zaa4:MtM X "list.append" zbr8:=by
 intro pins s σ H x vs v us Q I rx rv h
 obtain⟨l,xs,y,rfl,rfl,hH,hz,q⟩:=h
 cases rx
 obtain⟨u,rfl,ru⟩:=rv.one
 obtain⟨z,its,n,r,hl,e⟩:=I.lstM hH
 refine call_meets F.slot_list_append ⟨_,e,rfl⟩ F.entry_list_append (F.args_list_append_2 _ _) (PySem.list_append l its.toArray n u (by rw[zca2];omega)) ⟨e,?_⟩
 refine⟨.non,_,I.lset (its':=its++[u]) hH e (by simp) (r.append (.cons ru .nil)) ?_,rfl,q⟩
 rw[zca8,zcf1]
 omega
def zbu1:V->List V->Hp->VK->Prop:=fun x vs H Q=>∃ l b xs zs,x=.ref l/\vs=[.ref b]/\H l=some (.lst xs)/\H b=some (.lst zs)/\xs.length+zs.length<=sizeLine/\Q .non (upd H l (.lst (xs++zs)))
theorem mt_extend:MtM X "list.extend" zbu1:=by
 intro pins s σ H x vs v us Q I rx rv h
 obtain⟨l,b,xs,zs,rfl,rfl,hH,hB,hz,q⟩:=h
 cases rx
 obtain⟨u,rfl,ru⟩:=rv.one
 cases ru
 obtain⟨z,its,n,r,hl,e⟩:=I.lstM hH
 obtain⟨z2,its2,n2,r2,hl2,e2⟩:=I.lstM hB
 have hsz:its.toArray.size+its2.toArray.size<=sizeLine:=by rw[zca2,zca2];omega
 have hlong:¬ (!its.toArray.isEmpty&&Builtin.List.listTooLong (its.toArray.size+its2.toArray.size))=true:=by
  rw[zau2 hsz,Bool.and_false]
  exact zca4
 refine call_meets F.slot_list_extend ⟨_,e,rfl⟩ F.entry_list_extend (F.args_list_extend_2 _ _)
  (AutoSeq1.list_extend_list_list_0 l its.toArray n b its2.toArray n2 hlong (by rw[zca2];omega) (by omega)) ⟨e,e2,?_⟩
 refine⟨.non,_,I.lset (its':=its++its2) hH e (by simp) (r.append r2) ?_,rfl,q⟩
 rw[zca8]
 omega
def rCat:R2:=fun x y H Q=>∃ l b xs zs,x=.ref l/\y=.ref b/\H l=some (.lst xs)/\H b=some (.lst zs)/\xs.length+zs.length<=sizeLine/\∀ p,H p=none->Q (.ref p) (upd H p (.lst (xs++zs)))
theorem op_cat:OpR X (binaryOp .Add) rCat:=by
 intro pins s σ H x y v u Q I rx ry h
 obtain⟨l,b,xs,zs,rfl,rfl,hH,hB,hz,q⟩:=h
 cases rx
 cases ry
 obtain⟨z,its,n,r,hl,e⟩:=I.lstM hH
 obtain⟨z2,its2,n2,r2,hl2,e2⟩:=I.lstM hB
 refine PySem.P.add_list e e2 ?_ (by rw[zca2,zca2];omega)
 have ea:its.toArray++its2.toArray=(its++its2).toArray:=by simp
 rw[ea]
 exact⟨.ref _,_,I.lnew (t':=s.toks) (r.append r2) (by rw[zca8];omega),rfl,q _ I.fresh⟩
def rRep:R2:=fun x y H Q=>∃ l k xs,x=.ref l/\y=.int k/\H l=some (.lst xs)/\-(2 ^ 63)<=k/\k<2 ^ 63/\xs.length*k.toNat<=sizeLine /\
 ∀ p,H p=none->Q (.ref p) (upd H p (.lst (List.replicate k.toNat xs).flatten))
theorem zbr6{α:Type}(xs:List α)(k:Nat):(List.replicate k xs).flatten.length=k*xs.length:=by
 induction k with
 | zero=>simp
 | succ k ih=>rw[zcg4,List.flatten_cons,zca8,ih,Nat.succ_mul,Nat.add_comm]
theorem op_rep:OpR X (binaryOp .Mult) rRep:=by
 intro pins s σ H x y v u Q I rx ry h
 obtain⟨l,k,xs,rfl,rfl,hH,h1,h2,hz,q⟩:=h
 cases rx
 obtain⟨t,rfl⟩:=ry
 obtain⟨z,its,n,r,hl,e⟩:=I.lstM hH
 have hlen:its.toArray.size*k.toNat<=sizeLine:=by rw[zca2,← hl];exact hz
 have hcap:¬ its.toArray.size*k.toNat>(2 ^ 63 - 1) / 8:=by
  have:(sizeLine:Nat)<=(2 ^ 63 - 1) / 8:=by decide
  omega
 have hfit:¬ (!Builtin.List.listFitsIndex k)=true:=by
  rw[fitsIndex_both h1 h2]
  exact zca4
 have hlong:¬ Builtin.List.listTooLong (its.toArray.size*k.toNat)=true:=by
  rw[zau2 hlen]
  exact zca4
 have hnew:List.foldl (fun x1 x2=>x1++x2) #[] (List.replicate (if its.toArray.isEmpty=true then 0 else k.toNat) its.toArray)=(List.replicate k.toNat its).flatten.toArray:=by
  have f0:∀ m:Nat,List.foldl (fun x1 x2=>x1++x2) #[] (List.replicate m its.toArray)=(List.replicate m its).flatten.toArray:=fun m=>by
   have:=zal4 its m []
   rw[List.nil_append] at this
   exact this
  rw[f0]
  cases its with
  | nil=>simp
  | cons a r'=>rw[if_neg (by simp)]
 refine wpAny_binaryOp_repeat_ref (T:="list") (U:="int") (by decide) ⟨_,e,rfl⟩ (fun s'=>typeIs_int s' k t) noFill_list_mul F.fills_int_mul F.slot_int_rmul repeat_list F.slot_int_index.lookup
  (call_meets F.slot_int_rmul (typeIs_int s k t) F.entry_int_rmul (F.args_int_rmul_2 _ _) (int___rmul___int_list k t l its.toArray n)
   ⟨e,rfl,⟨_,e,rfl⟩,call_meets F.slot_list_mul ⟨_,e,rfl⟩ F.entry_list_mul (F.args_list_mul_2 _ _) (AutoListH.list___mul___list_int_3 l its.toArray n k t hfit hcap hlong) ⟨e,?_⟩⟩)
 rw[hnew]
 exact⟨.ref _,_,I.lnew (t':=s.toks) (r.rep k.toNat) (by rw[zbr6,Nat.mul_comm];exact hz),rfl,q _ I.fresh⟩
end
end L2
namespace Att
open PySem PySem.W PySem.Calls PyProof.Rows
theorem zz3{P:Params}{h:Heap}:∀ (ns:List Int) (vs:List Value),WellAll P h vs (ns.map WData.int)->IntsAre vs ns:=by
 intro ns
 induction ns with
 | nil=>
  intro vs w
  rw[zci1] at w
  cases w
  exact .nil
 | cons n ns ih=>
  intro vs w
  rw[zcb1] at w
  cases w with
  | cons a b=>
   cases a
   exact .cons _ _ (ih _ b)
theorem zbc0{l:OpenLaw}{n:Nat}(hn:l.most=some n){P:Params}{h:Heap}{args:List WData}{vals:List Value}(hpre:l.row.toRowW.claim.pre args=true)(hwl:WellAll P h vals args) :
  ∃ a vs ns,vals=[Value.ref a]/\args=[WData.list (ns.map WData.int)]/\h.get? a=some { cls:=.type "list",data:=.seq vs.toArray }/\IntsAre vs ns/\ns.length<=n:=by
 have hsh:WShape.hasAll [] args [.list .int]=true:=(pre_splitW hpre).1
 have hc:l.pre.holds [] { args:=args }=true:=(pre_splitW hpre).2
 obtain⟨d,r,rfl,h1,h2⟩:=hasAllW_cons hsh
 obtain rfl:=hasAllW_nil h2
 obtain⟨xs,rfl,h3⟩:=hasW_list h1
 obtain⟨ns,rfl⟩:=items_int h3
 have hlen:ns.length<=n:=by
  unfold OpenLaw.pre at hc
  have h4:(WTm.not (.lt (.lit (.int (n:Int))) (.len (.arg 0)))).holds [] { args:=[.list (ns.map .int)] }=true:=by
   have h4:=(holds_andW hc).1
   rw[hn] at h4
   exact h4
  have h5:=condW_of h4 (w_not (w_lt w_lit (w_len_list (w_arg rfl))))
  rw[zbz4] at h5
  refine Nat.le_of_not_lt fun q=>?_
  have q':(n:Int)<((ns.length:Nat):Int):=by omega
  first
   | (rw[decide_eq_true q'] at h5;exact absurd h5 (by decide))
   | (simp at h5;omega)
 cases hwl with
 | cons w1 w2=>
  cases w2
  cases w1 with
  | list ho hall=>exact⟨_,_,ns,rfl,rfl,ho,zz3 ns _ hall,hlen⟩
theorem zbb4(l:OpenLaw)(args:List WData):l.row.toRowW.claim.post args (.bool true) args=true:=
 postW_of (r:=l.row.toRowW) (X:=(true==true))
  (show WShape.has [] (.bool true) .bool=true by first|rfl|decide|simp[WShape.has,WShape.arms,WShape.armsAll])
  (show (WTm.eq .res (.lit (.bool true))).value [] { args:=args,res:=some (.bool true),after:=args }=some (.bool (true==true)) from w_eq_bool (w_res rfl) w_lit) rfl
theorem attach_call{l:OpenLaw}{n:Nat}{q:Program}{loose:List Str}{XP:(Str->Option Value)->Heap->Prop}{YP:World->Heap->Prop}{d:DefRec}(hn:l.most=some n)(hdf:d.params.defaults=[])(call:∀ (w:World) (s₀ s₁:Shared) (mg mb:Str->Option Value) (fa:Addr) (o:Obj) (pm cd doc:Value) (a:Addr) (vs:List Value) (ns:List Int),
   Ground q loose [] XP w s₀ mg mb s₁.heap->YP w s₁.heap ->
   s₁.heap.get? fa=some o->o.data=.func (docDef d.name d.params d.body d.scope pm cd doc)->s₁.heap.CodeRec cd d.name->mg d.name=some (.ref fa) ->
   s₁.heap.get? a=some { cls:=.type "list",data:=.seq vs.toArray }->IntsAre vs ns->ns.length<=n->s₁.gens=#[] ->
   codeAny (model l.prog w) callerA (.call (.ref fa) ⟨[.ref a],[]⟩) (fun r s'=>r=.ok (.ret (.bool true))/\OldK s₁.heap s'.heap/\s'.os=s₁.os/\AllBare s'.gens) s₁) :
  WalkO q loose XP YP l.row.toRowW d [] (fun f vs=>PySem.call f vs):=by
 intro w s₀ s₁ mg mb G Y fa o pm cd doc dV kV ho hd hcd hD hmg hg args vals as hpre hlay hrd hwl hlo
 obtain rfl:dV=.none:=Dflts.none hD hdf
 obtain rfl:kV=.none:=Dflts.noKw hD
 obtain⟨a,vs,ns,rfl,rfl,hobj,hints,hlen⟩:=zbc0 hn hpre hwl
 refine enter_call (codeAny_mono (call w s₀ s₁ mg mb fa o pm cd doc a vs ns G Y ho (fd_plain hd) hcd hmg hobj hints hlen hg) fun r s' hq=>?_)
 obtain⟨rfl,h2,h3,h4⟩:=hq
 exact⟨.inl ⟨.bool true,.bool true,[],rfl,fun _=>rfl,.bool true,zbb4 l _,fun _=>⟨List.Pairwise.nil,fun _ hm=>(nomatch hm)⟩⟩,h2,h3,h4⟩
section
variable {prog:Program}{w:World}{A:Around}{E:Value->Shared->Prop}{s:Shared}{K:Frag}
def noObjs(h:Heap):Heap:={ h with objs:=#[] }
theorem noObjs_get(h:Heap)(b:Addr):(noObjs h).get? b=none:=by
 cases e:(noObjs h).get? b with
 | none=>rfl
 | some o=>exact absurd (zca7 e) (Nat.not_lt_zero _)
def ledger(h:Heap)(L d:Addr):List (Addr×Obj):=(List.range h.objs.size).filterMap fun a=>if a=L∨a=d then none else (h.get? a).map fun o=>(a,o)
theorem mem_ledger{h:Heap}{L d a:Addr}{o:Obj}:(a,o)∈ledger h L d↔a≠L/\a≠d/\h.get? a=some o:=by
 unfold ledger
 rw[List.mem_filterMap]
 constructor
 ·rintro⟨b,_,e⟩
  split at e
  ·cases e
  ·rename_i hb
   obtain⟨o',ho,e'⟩:=zca3.mp e
   cases e'
   exact⟨fun q=>hb (.inl q),fun q=>hb (.inr q),ho⟩
 ·rintro⟨n1,n2,ho⟩
  refine⟨a,zce6.mpr (zca7 ho),?_⟩
  rw[if_neg (show ¬ (a=L∨a=d) from fun q=>q.elim n1 n2),ho]<;>rfl
theorem fr_all{h:Heap}{L:Addr}{m:Str->Option Value}(n:h.Ns L m):Fr (noObjs h) L h m:=
 ⟨n,fun b o e=>(by rw[noObjs_get] at e;cases e),zcd0 _⟩
end
end Att
namespace L2
open PySem PySem.Spec PyProof.Rows
variable {qual:Str}{st:Stmt}{C f:Addr}{H H' H1 H2:Hp}{xs:List V}{o:HO}{tg:Expr}{es:List Expr}{scope:Scope}{Q:VK}{ps:List Addr}
theorem zai1:∀ {vs:List Value}{ns:List Int},IntsAre vs ns->Vals (ns.map V.int) vs
 | _,_,.nil=>.nil
 | _,_,.cons n t h=>.cons ⟨t,rfl⟩ (zai1 h)
def zl6(s:Stmt):Arguments:=match s with
 | .FunctionDef _ a _ _ _ _ _ _ _ _=>a
 | _=>{ posonlyargs:=[],args:=[],vararg:=none,kwonlyargs:=[],kw_defaults:=[],kwarg:=none,defaults:=[] }
def zh4(s:Stmt):List Stmt:=match s with
 | .FunctionDef _ _ b _ _ _ _ _ _ _=>b
 | _=>[]
def za4(s:Stmt):Scope:=match s with
 | .FunctionDef _ _ _ _ _ _ sc _ _ _=>sc
 | _=>{ kind:=.function,names:=[],isGenerator:=false,isCoroutine:=false }
abbrev CX0:CXT:=fun _ _ _ _ _ _=>False
abbrev E0:XK:=fun _ _ _=>False
theorem zb6{X:Cx}:zad6 CX0 X E0:=fun _ _ _ _ _ _ _ h=>h.elim
structure Fun(K:zbz7)(x qual:Str)(st:Stmt)(f:Addr)(fd:FuncData):Prop where
 ex:∃ (oc:Value) (od:Option Addr) (kV doc pm:Value) (an:Option Addr) (cdv ct:Value) (osl:Array (Option Value)),
  fd=zcf2 x qual (zl6 st) (zh4 st) (za4 st) .none kV doc pm an cdv ct/\K.lookup f=some ⟨oc,od,.func fd,osl⟩/\PySem.W.codeIn K cdv qual=true
 kp:zcg8 K (.ref f)=true
section
variable {P:Program}{w:World}{K:zbz7}{mg:Str->Option Value}{base:Heap}
theorem Fun.ok{x:Str}{fd:FuncData}{N ps:List Str}{k:Nat}{sp:Sp}(F:Fun K x qual st f fd)(S:za9 N ps (za4 st))(len:∀ vs H Q E,sp vs H Q E->vs.length=ps.length)(hbody:∀ (cdv:Value) (A:Around) (outer:List Env) (s:Shared) (H:Hp) (vs:List V) (Q:VK) (E:XK),Room k (A.deeper (envOfC qual (za4 st) s.heap.objs.size f cdv))->sp vs H Q E ->
   ∃ t,PSs (cxOf CX0 P w K mg base N qual (za4 st) f cdv A outer s H E).nox (zh4 st) t/\t { nx:=fun _ H'=>Q .non H',rt:=Q } (zac0 N vs) H):FnOk P w K mg base CX0 (k+1) f fd ps sp:=by
 obtain⟨oc,od,kV,doc,pm,an,cdv,ct,osl,rfl,lk,hcd⟩:=F.ex
 refine fn_of lk hcd S len fun A outer s H vs Q E hr hsp=>?_
 obtain⟨t,h,q⟩:=hbody cdv A outer s H vs Q E hr hsp
 exact⟨t,h.nox,q⟩
theorem Fun.binds{x:Str}{fd:FuncData}{ps:List Str}(F:Fun K x qual st f fd)(h:∀ (kV doc pm:Value) (an:Option Addr) (cdv ct:Value) (us:List Value),us.length=ps.length->bindArgs (zcf2 x qual (zl6 st) (zh4 st) (za4 st) .none kV doc pm an cdv ct) ⟨us,[]⟩=pure (ps.zip us)):zap5 K fd ps []:=by
 obtain⟨oc,od,kV,doc,pm,an,cdv,ct,osl,rfl,lk,hcd⟩:=F.ex
 exact .all (h kV doc pm an cdv ct)
theorem zaz6{x:Str}{oc:Value}{od an:Option Addr}{osl:Array (Option Value)}{kV doc pm cdv ct:Value}(l:K.lookup f=some ⟨oc,od,.func (zcf2 x qual (zl6 st) (zh4 st) (za4 st) .none kV doc pm an cdv ct),osl⟩)(c:PySem.W.codeIn K cdv qual=true)(k:zcg8 K (.ref f)=true):Fun K x qual st f (zcf2 x qual (zl6 st) (zh4 st) (za4 st) .none kV doc pm an cdv ct):=⟨⟨oc,od,kV,doc,pm,an,cdv,ct,osl,rfl,l,c⟩,k⟩
end
theorem iteF{A B:Prop}(h:B):if false=true then A else B:=by
 rw[if_neg zca4]
 exact h
theorem iteT{A B:Prop}(h:A):if true=true then A else B:=by
 rw[if_pos rfl]
 exact h
theorem ite2{c A B:Prop}[Decidable c](h1:c->A)(h2:¬ c->B):if c then A else B:=by
 by_cases h:c
 ·rw[if_pos h]
  exact h1 h
 ·rw[if_neg h]
  exact h2 h
def Same(H H':Hp):Prop:=∀ b o,H b=some o->H' b=some o
theorem Same.refl(H:Hp):Same H H:=fun _ _ h=>h
theorem Same.trans(a:Same H H1)(b:Same H1 H2):Same H H2:=fun c o h=>b c o (a c o h)
theorem Same.free(e:Same H H'){l:Addr}(h:H' l=Option.none):H l=Option.none:=by
 cases q:H l with
 | none=>rfl
 | some o=>
  rw[e l o q] at h
  cases h
theorem Same.seq{K:zbz7}{a:Addr}(e:Same H H')(h:SqL K H a xs):SqL K H' a xs:=by
 rcases h with (h|⟨o,h⟩)|h
 ·exact .inl (.inl (e _ _ h))
 ·exact .inl (.inr ⟨o,e _ _ h⟩)
 ·exact .inr h
set_option maxHeartbeats 1000000
@[irreducible] def br(c:Bool)(A B:Prop):Prop:=if c=true then A else B
section
variable {A B p:Prop}{c:Bool}
theorem zai4:br c A B=(if c=true then A else B):=by unfold br;rfl
theorem br_T(h:A):br true A B:=by unfold br;exact iteT h
theorem br_F(h:B):br false A B:=by unfold br;exact iteF h
theorem br_any(h1:c=true->A)(h2:c=false->B):br c A B:=by
 cases c with
 | true=>exact br_T (h1 rfl)
 | false=>exact br_F (h2 rfl)
theorem zj9 [Decidable p](h1:p->A)(h2:¬ p->B):br (decide p) A B:=br_any (fun h=>h1 (of_decide_eq_true h)) fun h=>h2 (of_decide_eq_false h)
theorem zax7 [Decidable p](hp:p)(h:A):br (decide p) A B:=zj9 (fun _=>h) fun n=>absurd hp n
theorem br_dF [Decidable p](hp:¬ p)(h:B):br (decide p) A B:=zj9 (fun n=>absurd n hp) fun _=>h
theorem zd4(h:br c B A):br (!c) A B:=by
 cases c with
 | true=>unfold br at h ⊢;simpa using h
 | false=>unfold br at h ⊢;simpa using h
end
def Chg(a:Addr)(H H':Hp):Prop:=∀ b o,b≠a->H b=some o->H' b=some o
theorem Chg.upd{H:Hp}{a:Addr}{o:HO}:Chg a H (upd H a o):=fun b u hb e=>by rw[zb3 hb];exact e
theorem Same.upd{H:Hp}{a:Addr}{o:HO}(h:H a=none):Same H (L2.upd H a o):=fun b u e=>by rw[zb3 (za5 e h)];exact e
theorem Same.chg{H0:Hp}{a:Addr}(s:Same H0 H)(n:H0 a=none)(c:Chg a H H'):Same H0 H':=fun b o e=>c b o (za5 e n) (s b o e)
theorem Chg.refl(a:Addr)(H:Hp):Chg a H H:=fun _ _ _ e=>e
theorem Chg.trans{a:Addr}(x:Chg a H H1)(y:Chg a H1 H2):Chg a H H2:=fun b o h e=>y b o h (x b o h e)
theorem Chg.same{a:Addr}(x:Chg a H H1)(y:Same H1 H2):Chg a H H2:=fun b o h e=>y b o (x b o h e)
theorem Same.toChg{a:Addr}(x:Same H H1):Chg a H H1:=fun b o _ e=>x b o e
theorem Same.at{b:Addr}(s:Same H H')(e:H b=some o):H' b=some o:=s b o e
theorem Chg.at{a b:Addr}(s:Chg a H H')(e:H b=some o)(n:b≠a):H' b=some o:=s b o n e
def qV(i:Nat):TE:=fun σ H Q=>match σ[i]? with
 | some (some v)=>Q v H
 | _=>False
section
variable {X:Cx}
theorem pq(i:Nat){x:Str}{pos:Pos}(hN:X.N[i]?=some x:=by rfl)(hv:Vis X.env.scope x:=by first|exact Or.inl rfl|exact Or.inr (Or.inl rfl)|exact Or.inr (Or.inr rfl))(hd:(x==("__debug__":Str))=false:=by decide)(hcd:(x==("__classdict__":Str))=false:=by decide):PE X (.Name x pos) (qV i):=fun pins s σ H Q I h=>by
 refine pe_var hN hv hd hcd pins s σ H Q I ?_
 unfold qV at h
 split at h
 ·rename_i v e
  exact⟨v,e,h⟩
 ·exact h.elim
@[irreducible] def zaw7(i j:Int)(H:Hp)(Q:VK):Prop:=IntMulOk i j/\Q (.int (i*j)) H
@[irreducible] def rDivI(i j:Int)(H:Hp)(Q:VK):Prop:=(j≠0/\j.natAbs.log2<9000)/\Q (.int (i.fdiv j)) H
@[irreducible] def zbc5(i j:Int)(H:Hp)(Q:VK):Prop:=j≠0/\Q (.int (i.fmod j)) H
@[irreducible] def rPowI(i j:Int)(H:Hp)(Q:VK):Prop:=CPow i j/\Q (.int (i ^ j.toNat)) H
@[irreducible] def rCatL(a b:Addr)(H:Hp)(Q:VK):Prop:=∃ xs zs,H a=some (.lst xs)/\H b=some (.lst zs)/\xs.length+zs.length<=sizeLine /\
 ∀ p H',H p=none->Same H H'->H' p=some (.lst (xs++zs))->Q (.ref p) H'
@[irreducible] def rRepL(a:Addr)(k:Int)(H:Hp)(Q:VK):Prop:=∃ xs,H a=some (.lst xs)/\-(2 ^ 63)<=k/\k<2 ^ 63/\xs.length*k.toNat<=sizeLine /\
 ∀ p H',H p=none->Same H H'->H' p=some (.lst (List.replicate k.toNat xs).flatten)->Q (.ref p) H'
def rAddM:R2:=fun x y H Q=>match x,y with
 | .int i,.int j=>Q (.int (i+j)) H
 | .ref a,.ref b=>rCatL a b H Q
 | .str a,.str b=>a.length+b.length<=sizeLine/\Q (.str (a++b)) H
 | _,_=>False
def rSubM:R2:=fun x y H Q=>match x,y with
 | .int i,.int j=>Q (.int (i - j)) H
 | _,_=>False
def rMulM:R2:=fun x y H Q=>match x,y with
 | .int i,.int j=>zaw7 i j H Q
 | .ref a,.int k=>rRepL a k H Q
 | _,_=>False
def rDivM:R2:=fun x y H Q=>match x,y with
 | .int i,.int j=>rDivI i j H Q
 | _,_=>False
def rModM:R2:=fun x y H Q=>match x,y with
 | .int i,.int j=>zbc5 i j H Q
 | _,_=>False
def rPowM:R2:=fun x y H Q=>match x,y with
 | .int i,.int j=>rPowI i j H Q
 | _,_=>False
theorem oAdd:OpR X (binaryOp .Add) rAddM:=by
 intro pins s σ H x y v u Q I rx ry h
 unfold rAddM at h
 split at h
 ·exact op_add pins s σ H _ _ v u Q I rx ry ⟨_,_,rfl,rfl,h⟩
 ·unfold rCatL at h
  obtain⟨xs,zs,h1,h2,h3,h4⟩:=h
  exact op_cat pins s σ H _ _ v u Q I rx ry ⟨_,_,xs,zs,rfl,rfl,h1,h2,h3,fun p hp=>h4 p _ hp (Same.upd hp) zb1⟩
 ·exact zav8 pins s σ H _ _ v u Q I rx ry ⟨_,_,rfl,rfl,h.1,h.2⟩
 ·exact h.elim
theorem oSub:OpR X (binaryOp .Sub) rSubM:=by
 intro pins s σ H x y v u Q I rx ry h
 unfold rSubM at h
 split at h
 ·exact op_sub pins s σ H _ _ v u Q I rx ry ⟨_,_,rfl,rfl,h⟩
 ·exact h.elim
theorem oMul:OpR X (binaryOp .Mult) rMulM:=by
 intro pins s σ H x y v u Q I rx ry h
 unfold rMulM at h
 split at h
 ·unfold zaw7 at h
  obtain⟨t,rfl⟩:=rx
  obtain⟨t',rfl⟩:=ry
  exact mul_int ⟨.int _,H,I.tok _,⟨_,rfl⟩,h.2⟩ h.1
 ·unfold rRepL at h
  obtain⟨xs,h1,h2,h3,h4,h5⟩:=h
  exact op_rep pins s σ H _ _ v u Q I rx ry ⟨_,_,xs,rfl,rfl,h1,h2,h3,h4,fun p hp=>h5 p _ hp (Same.upd hp) zb1⟩
 ·exact h.elim
theorem oDiv:OpR X (binaryOp .FloorDiv) rDivM:=by
 intro pins s σ H x y v u Q I rx ry h
 unfold rDivM at h
 split at h
 ·unfold rDivI at h
  obtain⟨⟨h1,h2⟩,h3⟩:=h
  obtain⟨t,rfl⟩:=rx
  obtain⟨t',rfl⟩:=ry
  exact floordiv_int h1 ⟨.int _,H,I.tok _,⟨_,rfl⟩,h3⟩ (.inl (PyProof.noPylong_of_log2 h2))
 ·exact h.elim
theorem oMod:OpR X (binaryOp .Mod) rModM:=by
 intro pins s σ H x y v u Q I rx ry h
 unfold rModM at h
 split at h
 ·unfold zbc5 at h
  exact zbo8 pins s σ H _ _ v u Q I rx ry ⟨_,_,rfl,rfl,h.1,h.2⟩
 ·exact h.elim
theorem oPow:OpR X (binaryOp .Pow) rPowM:=by
 intro pins s σ H x y v u Q I rx ry h
 unfold rPowM at h
 split at h
 ·unfold rPowI at h
  exact op_pow pins s σ H _ _ v u Q I rx ry ⟨_,_,rfl,rfl,h.1,h.2⟩
 ·exact h.elim
def rNegM:V->Hp->VK->Prop:=fun x H Q=>match x with
 | .int i=>Q (.int (-i)) H
 | _=>False
theorem uNeg:UnR X (unaryOp .USub) rNegM:=by
 intro pins s σ H x v Q I rx h
 unfold rNegM at h
 split at h
 ·exact un_neg pins s σ H _ v Q I rx ⟨_,rfl,h⟩
 ·exact h.elim
section
variable {i j:Int}{H:Hp}{Q:VK}
theorem zbm0(h:IntMulOk i j)(q:Q (.int (i*j)) H):zaw7 i j H Q:=by unfold zaw7;exact⟨h,q⟩
theorem log2_lt{n k:Nat}(h:n<2 ^ k)(hk:0<k):n.log2<k:=by
 by_cases h0:n=0
 ·subst h0;simpa using hk
 ·exact (Nat.log2_lt h0).mpr h
theorem zbq6{j:Int}(h1:-(10 ^ 240)<j)(h2:j<10 ^ 240):j.natAbs<2 ^ 2000:=by
 have e:(10:Int) ^ 240=((10 ^ 240:Nat):Int):=by norm_cast
 have e2:(10:Nat) ^ 240<2 ^ 2000:=by decide +kernel
 rw[e] at h1 h2
 generalize hN:(10:Nat) ^ 240=N at h1 h2 e2
 generalize hM:(2:Nat) ^ 2000=M at e2
 omega
theorem div_rd(h1:0<j)(h2:j<10 ^ 240)(q:Q (.int (i / j)) H):rDivI i j H Q:=by
 unfold rDivI
 refine⟨⟨by omega,?_⟩,?_⟩
 ·have h:=log2_lt (zbq6 (j:=j) (by have:(0:Int)<10 ^ 240:=(by decide +kernel);generalize (10:Int) ^ 240=N at this;omega) h2) (by decide)
  omega
 ·rw[Int.fdiv_eq_ediv_of_nonneg _ (by omega)];exact q
theorem mod_rd(h1:0<j)(q:Q (.int (i % j)) H):zbc5 i j H Q:=by
 unfold zbc5
 refine⟨by omega,?_⟩
 rw[Int.fmod_eq_emod_of_nonneg _ (by omega)];exact q
theorem pow_rd(h:CPow i j)(q:Q (.int (i ^ j.toNat)) H):rPowI i j H Q:=by unfold rPowI;exact⟨h,q⟩
theorem zay8{a b:Addr}{zs:List V}(h1:H a=some (.lst xs))(h2:H b=some (.lst zs))(h3:xs.length+zs.length<=sizeLine)(q:∀ p H',H p=none->Same H H'->H' p=some (.lst (xs++zs))->Q (.ref p) H'):rCatL a b H Q:=by unfold rCatL;exact⟨xs,zs,h1,h2,h3,q⟩
end
def rLtM:R2:=fun x y H Q=>match x,y with
 | .int i,.int j=>Q (.bl (decide (i<j))) H
 | _,_=>False
def rLeM:R2:=fun x y H Q=>match x,y with
 | .int i,.int j=>Q (.bl (decide (i<=j))) H
 | _,_=>False
def rGtM:R2:=fun x y H Q=>match x,y with
 | .int i,.int j=>Q (.bl (decide (j<i))) H
 | _,_=>False
theorem oLt:OpR X (compareOp .Lt) rLtM:=by
 intro pins s σ H x y v u Q I rx ry h
 unfold rLtM at h
 split at h
 ·exact op_lt pins s σ H _ _ v u Q I rx ry ⟨_,_,rfl,rfl,h⟩
 ·exact h.elim
theorem oLe:OpR X (compareOp .LtE) rLeM:=by
 intro pins s σ H x y v u Q I rx ry h
 unfold rLeM at h
 split at h
 ·exact op_le pins s σ H _ _ v u Q I rx ry ⟨_,_,rfl,rfl,h⟩
 ·exact h.elim
theorem oGt:OpR X (compareOp .Gt) rGtM:=by
 intro pins s σ H x y v u Q I rx ry h
 unfold rGtM at h
 split at h
 ·exact op_gt pins s σ H _ _ v u Q I rx ry ⟨_,_,rfl,rfl,h⟩
 ·exact h.elim
inductive EqR(K:zbz7)(H:Hp):Nat->V->V->Bool->Prop where
 | flat {n:Nat}{x y:V}(fx:zbd9 x=true) (fy:zbd9 y=true):EqR K H n x y (eqV x y)
 | tup {n:Nat}{a b:Addr}{xs ys:List V}(e:Nat->Bool) (ha:SqT K H a xs) (hb:SqT K H b ys) (h:∀ (j:Nat) (x y:V),xs[j]?=some x->ys[j]?=some y->EqR K H n x y (e j)) :
   EqR K H (n+1) (.ref a) (.ref b) ((List.range (min xs.length ys.length)).all e&&xs.length==ys.length)
 | lst {n:Nat}{a b:Addr}{xs ys:List V}(e:Nat->Bool) (ha:SqL K H a xs) (hb:SqL K H b ys) (hl:xs.length=ys.length) (h:∀ (j:Nat) (x y:V),xs[j]?=some x->ys[j]?=some y->EqR K H n x y (e j)) :
   EqR K H (n+1) (.ref a) (.ref b) ((List.range xs.length).all e)
 | lstN {n:Nat}{a b:Addr}{xs ys:List V}(ha:SqL K H a xs) (hb:SqL K H b ys) (hl:xs.length≠ys.length):EqR K H (n+1) (.ref a) (.ref b) false
theorem zbj2{x:V}(f:zbd9 x=true):eqV x x=true:=by
 cases x<;>first|rfl|(simp[eqV];done)|exact absurd (show false=true from f) zca4
section
variable {pins:List (Addr×Obj)}{σ:St}{H:Hp}{s:Shared}
theorem EqR.self(I:Inv X pins σ H s){n:Nat}{x y:V}{b:Bool}(h:EqR X.K H n x y b):x=y->b=true:=by
 induction h with
 | flat fx fy=>rintro rfl;exact zbj2 fx
 | tup e ha hb h ih=>
  intro q
  cases q
  have q:=I.tuple_inj ha hb
  subst q
  rw[Nat.min_self,zca5]
  refine⟨zcb2.mpr fun j hj=>?_,by simp⟩
  have hj:=zce6.mp hj
  exact ih j _ _ (zbz5 hj) (zbz5 hj) rfl
 | lst e ha hb hl h ih=>
  intro q
  cases q
  have q:=I.list_inj ha hb
  subst q
  refine zcb2.mpr fun j hj=>?_
  have hj:=zce6.mp hj
  exact ih j _ _ (zbz5 hj) (zbz5 hj) rfl
 | lstN ha hb hl=>
  intro q
  cases q
  exact absurd (congrArg List.length (I.list_inj ha hb)) hl
theorem zp8(A:Around):A.in1.units=A.units+1:=rfl
mutual
theorem EqR.at(I:Inv X pins σ H s):∀ {n:Nat}{x y:V}{b:Bool},EqR X.K H n x y b->∀ {u v:Value}{A:Around},RelV x u->RelV y v->A.units+n<cLine->SeqAt.EqAt A s u v b
 | _,_,_,_,.flat fx fy,u,v,A,rx,ry,_=>zbo3 rx ry fx fy
 | _,.ref a,.ref b,_,h,u,v,A,rx,ry,hu=>by
  cases rx
  cases ry
  by_cases e:a=b
  ·subst e
   rw[h.self I rfl]
   exact SeqAt.EqAt.same _
  ·exact SeqAt.EqAt.of_refs e (EqR.rc I h hu)
theorem EqR.rc(I:Inv X pins σ H s):∀ {n:Nat}{a b:Addr}{c:Bool},EqR X.K H n (.ref a) (.ref b) c->∀ {A:Around},A.units+n<cLine->SeqAt.RcAt A s (.ref a) (.ref b) c
 | _,_,_,_,.flat fx _,_,_=>absurd (show false=true from fx) zca4
 | _,a,b,_,.tup (xs:=xs) (ys:=ys) e ha hb h,A,hu=>by
  obtain⟨its,r1,t1,z1⟩:=I.tuple ha
  obtain⟨its2,r2,t2,z2⟩:=I.tuple hb
  have l1:its.toArray.size=xs.length:=by rw[zca2];exact r1.length.symm
  have l2:its2.toArray.size=ys.length:=by rw[zca2];exact r2.length.symm
  have q:=SeqAt.RcAt.tuples (A:=A) (e:=e) t1 t2 (by omega) fun j h1 h2=>by
   rw[l1] at h1
   rw[l2] at h2
   obtain⟨u1,e1,q1⟩:=r1.get (zbz5 h1)
   obtain⟨u2,e2,q2⟩:=r2.get (zbz5 h2)
   have i1:its.toArray[j]=u1:=by
    have:=(zbz6.mp e1).2
    simpa using this
   have i2:its2.toArray[j]=u2:=by
    have:=(zbz6.mp e2).2
    simpa using this
   rw[i1,i2]
   exact EqR.at I (h j _ _ (zbz5 h1) (zbz5 h2)) q1 q2 (by rw[zp8];omega)
  rw[l1,l2] at q
  exact q
 | _,a,b,_,.lst (xs:=xs) (ys:=ys) e ha hb hl h,A,hu=>by
  obtain⟨its,r1,t1,z1⟩:=I.list ha
  obtain⟨its2,r2,t2,z2⟩:=I.list hb
  have l1:its.toArray.size=xs.length:=by rw[zca2];exact r1.length.symm
  have l2:its2.toArray.size=ys.length:=by rw[zca2];exact r2.length.symm
  have q:=SeqAt.RcAt.lists (A:=A) (e:=e) t1.isList t2.isList (by rw[l1,l2];exact hl) (by omega) fun j h1 h2=>by
   rw[l1] at h1
   rw[l2] at h2
   obtain⟨u1,e1,q1⟩:=r1.get (zbz5 h1)
   obtain⟨u2,e2,q2⟩:=r2.get (zbz5 h2)
   have i1:its.toArray[j]=u1:=by
    have:=(zbz6.mp e1).2
    simpa using this
   have i2:its2.toArray[j]=u2:=by
    have:=(zbz6.mp e2).2
    simpa using this
   rw[i1,i2]
   exact EqR.at I (h j _ _ (zbz5 h1) (zbz5 h2)) q1 q2 (by rw[zp8];omega)
  rw[l1] at q
  exact q
 | _,a,b,_,.lstN (xs:=xs) (ys:=ys) ha hb hl,A,hu=>by
  obtain⟨its,r1,t1,z1⟩:=I.list ha
  obtain⟨its2,r2,t2,z2⟩:=I.list hb
  have l1:its.toArray.size=xs.length:=by rw[zca2];exact r1.length.symm
  have l2:its2.toArray.size=ys.length:=by rw[zca2];exact r2.length.symm
  exact SeqAt.RcAt.lists_lengths t1.isList t2.isList (by rw[l1,l2];simpa using hl) (by omega)
end
theorem EqR.rcNe(I:Inv X pins σ H s):∀ {n:Nat}{a b:Addr}{c:Bool},EqR X.K H n (.ref a) (.ref b) c->∀ {A:Around},A.units+n<cLine->SeqAt.RcNeAt A s (.ref a) (.ref b) (!c)
 | _,_,_,_,.flat fx _,_,_=>absurd (show false=true from fx) zca4
 | _,a,b,_,.tup (xs:=xs) (ys:=ys) e ha hb h,A,hu=>by
  obtain⟨its,r1,t1,z1⟩:=I.tuple ha
  obtain⟨its2,r2,t2,z2⟩:=I.tuple hb
  have l1:its.toArray.size=xs.length:=by rw[zca2];exact r1.length.symm
  have l2:its2.toArray.size=ys.length:=by rw[zca2];exact r2.length.symm
  have q:=SeqAt.RcNeAt.tuples (A:=A) (e:=e) t1 t2 (by omega) fun j h1 h2=>by
   rw[l1] at h1
   rw[l2] at h2
   obtain⟨u1,e1,q1⟩:=r1.get (zbz5 h1)
   obtain⟨u2,e2,q2⟩:=r2.get (zbz5 h2)
   have i1:its.toArray[j]=u1:=by
    have:=(zbz6.mp e1).2
    simpa using this
   have i2:its2.toArray[j]=u2:=by
    have:=(zbz6.mp e2).2
    simpa using this
   rw[i1,i2]
   exact EqR.at I (h j _ _ (zbz5 h1) (zbz5 h2)) q1 q2 (by rw[zp8];omega)
  rw[l1,l2] at q
  exact q
 | _,a,b,_,.lst (xs:=xs) (ys:=ys) e ha hb hl h,A,hu=>by
  obtain⟨its,r1,t1,z1⟩:=I.list ha
  obtain⟨its2,r2,t2,z2⟩:=I.list hb
  have l1:its.toArray.size=xs.length:=by rw[zca2];exact r1.length.symm
  have l2:its2.toArray.size=ys.length:=by rw[zca2];exact r2.length.symm
  have q:=SeqAt.RcNeAt.lists (A:=A) (e:=e) t1.isList t2.isList (by rw[l1,l2];exact hl) (by omega) fun j h1 h2=>by
   rw[l1] at h1
   rw[l2] at h2
   obtain⟨u1,e1,q1⟩:=r1.get (zbz5 h1)
   obtain⟨u2,e2,q2⟩:=r2.get (zbz5 h2)
   have i1:its.toArray[j]=u1:=by
    have:=(zbz6.mp e1).2
    simpa using this
   have i2:its2.toArray[j]=u2:=by
    have:=(zbz6.mp e2).2
    simpa using this
   rw[i1,i2]
   exact EqR.at I (h j _ _ (zbz5 h1) (zbz5 h2)) q1 q2 (by rw[zp8];omega)
  rw[l1] at q
  exact q
 | _,a,b,_,.lstN (xs:=xs) (ys:=ys) ha hb hl,A,hu=>by
  obtain⟨its,r1,t1,z1⟩:=I.list ha
  obtain⟨its2,r2,t2,z2⟩:=I.list hb
  have l1:its.toArray.size=xs.length:=by rw[zca2];exact r1.length.symm
  have l2:its2.toArray.size=ys.length:=by rw[zca2];exact r2.length.symm
  exact SeqAt.RcNeAt.lists_lengths t1.isList t2.isList (by rw[l1,l2];simpa using hl) (by omega)
end
@[irreducible] def rEqO(K:zbz7)(a b:Addr)(H:Hp)(Q:VK):Prop:=∃ n c,n<=40/\EqR K H n (.ref a) (.ref b) c/\Q (.bl c) H
def rEqM(K:zbz7):R2:=fun x y H Q=>match x,y with
 | .int i,.int j=>Q (.bl (decide (i=j))) H
 | .bl i,.bl j=>Q (.bl (decide (i=j))) H
 | .str i,.str j=>Q (.bl (decide (i=j))) H
 | .ref a,.ref b=>rEqO K a b H Q
 | x,y=>scal x y=true/\Q (.bl (decide (x=y))) H
def rNeM(K:zbz7):R2:=fun x y H Q=>rEqM K x y H fun v H'=>match v with
 | .bl b=>Q (.bl (!b)) H'
 | _=>False
theorem zn8{α β:Type}[DecidableEq α][DecidableEq β]{f:α->β}(hf:∀ a b,f a=f b->a=b)(a b:α):decide (f a=f b)=decide (a=b):=by
 by_cases h:a=b
 ·subst h;simp
 ·rw[decide_eq_false h,decide_eq_false fun e=>h (hf _ _ e)]
theorem oEq(hu:X.A.units+40<cLine):OpR X (compareOp .Eq) (rEqM X.K):=by
 intro pins s σ H x y v u Q I rx ry h
 unfold rEqM at h
 split at h
 ·rename_i i j
  exact zao8 pins s σ H _ _ v u Q I rx ry ⟨rfl,by rw[zn8 (f:=V.int) fun a b e=>V.int.inj e];exact h⟩
 ·exact zao8 pins s σ H _ _ v u Q I rx ry ⟨rfl,by rw[zn8 (f:=V.bl) fun a b e=>V.bl.inj e];exact h⟩
 ·exact zao8 pins s σ H _ _ v u Q I rx ry ⟨rfl,by rw[zn8 (f:=V.str) fun a b e=>V.str.inj e];exact h⟩
 ·unfold rEqO at h
  obtain⟨n,c,hn,h1,h2⟩:=h
  cases rx
  cases ry
  exact EqR.rc I h1 (A:=X.A) (by omega) _ _ _ _ ⟨.bl c,H,I,rfl,h2⟩
 ·exact zao8 pins s σ H _ _ v u Q I rx ry h
def qB(t:TE):TT:=fun σ H Q=>t σ H fun x H1=>match x with
 | .bl c=>Q c H1
 | .int i=>Q (!decide (i=0)) H1
 | _=>False
theorem ptV{e:Expr}{t:TE}(h:PE X e t)(he:∀ whole,isTrue e X.env whole=(do let v ← whole;standAt e.pos;holding [v] (truthy v)):=by intro _;rfl):PT X e (qB t):=fun pins s σ H Q I hw=>by
 refine isTrue_plain (thn (h pins s σ H _ I hw) fun v s1 ⟨x,H1,I1,r1,q1⟩=>?_) (he _)
 dsimp only at q1
 split at q1
 ·exact zbd0 pins s1 σ H1 _ v Q I1 r1 ⟨_,rfl,q1⟩
 ·rename_i i
  refine zbd0 pins s1 σ H1 _ v Q I1 r1 ⟨_,rfl,?_⟩
  have e:(i != 0)=!decide (i=0):=by by_cases h:i=0<;>simp[h]
  rw[e];exact q1
 ·exact q1.elim
theorem ptC{a b:Expr}{ta tb:TE}{pos:Pos}{op:CmpOp}{r:R2}(ho:OpR X (compareOp op) r)(ha:PE X a ta)(hb:PE X b tb)(hm:behindInMarks op b=false:=by first|exact zbl8 _|with_unfolding_all rfl):PT X (.Compare a [op] [b] pos) (qB (tOp r ta tb)):=by
 intro pins s σ H Q I h
 refine wpAny_isTrue_Compare1 (thn (ha pins s σ H _ I h) fun v s1 ⟨x,H1,I1,r1,q1⟩=>thn (hb pins s1 σ H1 _ I1 q1) fun u s2 ⟨y,H2,I2,r2,q2⟩=>
  thn (ho pins s2 σ H2 x y v u _ I2 r1 r2 q2) fun c s3 ⟨z,H3,I3,r3,q3⟩=>?_) hm
 dsimp only at q3
 split at q3
 ·cases r3
  exact wpAny_truthy_bool ⟨H3,I3,q3⟩
 ·rename_i i
  refine zbd0 pins s3 σ H3 _ c Q I3 r3 ⟨_,rfl,?_⟩
  have e:(i != 0)=!decide (i=0):=by by_cases h:i=0<;>simp[h]
  rw[e];exact q3
 ·exact q3.elim
theorem peC{a b:Expr}{ta tb:TE}{pos:Pos}{op:CmpOp}{r:R2}(ho:OpR X (compareOp op) r)(ha:PE X a ta)(hb:PE X b tb)(hm:behindInMarks op b=false:=by first|exact zbl8 _|with_unfolding_all rfl):PE X (.Compare a [op] [b] pos) (tOp r ta tb):=
 zbs1 ho ha hb hm
variable {a b:Expr}{rest:List Expr}{tA tB':TT}{ta tb:TE}{pos:Pos}
def qOr(t u:TT):TT:=fun σ H Q=>t σ H fun c H1=>br c (Q true H1) (u σ H1 Q)
theorem pwOr(ha:PT X a tA)(hb:PW X (.BoolOp .Or (b :: rest) pos) tB'):PW X (.BoolOp .Or (a :: b :: rest) pos) (qOr tA tB'):=fun wh pins s σ H Q I h=>
 pw_or ha hb wh pins s σ H Q I (by unfold qOr at h;simp only[zai4] at h;exact h)
def qAndV(ta tb:TE):TE:=fun σ H Q=>ta σ H fun x H1=>match x with
 | .bl c=>br c (tb σ H1 Q) (Q (.bl false) H1)
 | _=>False
def qNotV(ta:TE):TE:=fun σ H Q=>ta σ H fun x H1=>match x with
 | .bl c=>Q (.bl (!c)) H1
 | _=>False
theorem zo2(ha:PE X a ta)(hb:PE X (.BoolOp .And (b :: rest) pos) tb):PE X (.BoolOp .And (a :: b :: rest) pos) (qAndV ta tb):=by
 intro pins s σ H Q I h
 refine BoolOp_and (thn (ha pins s σ H _ I h) fun v s1 ⟨x,H1,I1,r1,q1⟩=>?_)
 dsimp only at q1
 split at q1
 ·rename_i c
  cases r1
  refine wpAny_truthy_bool ?_
  rw[zai4] at q1
  cases c with
  | true=>exact hb pins s1 σ H1 Q I1 (by simpa using q1)
  | false=>exact⟨.bl false,H1,I1,rfl,by simpa using q1⟩
 ·exact q1.elim
theorem peNot(ha:PE X a ta):PE X (.UnaryOp .Not a pos) (qNotV ta):=by
 intro pins s σ H Q I h
 refine UnaryOp_ (thn (ha pins s σ H _ I h) fun v s1 ⟨x,H1,I1,r1,q1⟩=>?_)
 dsimp only at q1
 split at q1
 ·rename_i c
  cases r1
  exact not_of (wpAny_truthy_bool ⟨.bl (!c),H1,I1,rfl,q1⟩)
 ·exact q1.elim
variable {st:Stmt}{t u:TS}{e:Expr}{te:TE}
def qIfS(c:TT)(t u:TS):TS:=fun D σ H=>c σ H fun b H1=>br b (t D σ H1) (u D σ H1)
theorem psIf{c:Expr}{a b:List Stmt}{tc:TT}(hc:PT X c tc)(ha:PSs X a t)(hb:PSs X b u):PS X (.If c a b pos) (qIfS tc t u):=fun pins s σ H D I h=>
 ps_if hc ha hb pins s σ H D I (by unfold qIfS at h;simp only[zai4] at h;exact h)
@[irreducible] def zav5(J:It)(g:TG)(tb:TS)(D:Ends)(σ:St)(H1:Hp):Prop:=∃ W:Nat->Nat->St->Hp->Prop,(∃ m,W 0 m σ H1)/\∀ i m σ H,W i m σ H ->
 (J.stop i H/\D.nx σ H)∨(J.go i H/\∃ N:St->Hp->Prop,(∀ σ' H',N σ' H'->∃ m',m'<m/\W (i+1) m' σ' H')/\∀ x H',J.yld i H x H'->g x σ H' fun σ2 H2=>tb { D with nx:=N,ct:=N,bk:=D.nx } σ2 H2)
def qFor(wi:TI)(g:TG)(tb:TS):TS:=fun D σ H=>wi σ H fun J H1=>zav5 J g tb D σ H1
theorem zah4{iter:Expr}{body:List Stmt}{wi:TI}{g:TG}{tb:TS}{pos:Pos}(hp:PassesOwn (model X.prog X.w) X.A X.env X.xe)(hc:X.calm=true)(hi:PI X tg iter wi)(hg:PG X tg g)(hb:PSs X body tb)(hs:∀ x,foldedSetIterable iter X.env x=pure x:=by intro _;rfl):PS X (.For tg iter body [] pos) (qFor wi g tb):=fun pins s σ H D I h=>
 ps_for hp hc hi hg hb hs pins s σ H D I (by unfold qFor at h;unfold zav5 at h;exact h)
@[irreducible] def rIter(K:zbz7)(a:Addr)(H:Hp)(R:It->Hp->Prop):Prop:=((∃ xs,SqL K H a xs)/\R (Itl K a) H)∨((∃ xs,SqT K H a xs)/\R (Itt K a) H)
def qiSeq(K:zbz7)(tl:TE):TI:=fun σ H R=>tl σ H fun x H1=>match x with
 | .ref a=>rIter K a H1 R
 | _=>False
theorem piSeq{l:Expr}{tl:TE}(hl:PE X l tl):PI X tg l (qiSeq X.K tl):=by
 intro pins s σ H R I h
 refine thn (hl pins s σ H _ I h) fun v s1 ⟨x,H1,I1,r1,q1⟩=>?_
 dsimp only at q1
 split at q1
 ·rename_i a
  unfold rIter at q1
  cases r1
  have fp:∀ b∈[s1.heap.objs.size],FpOk X pins H1 b:=fun b hb=>by
   have e:b=s1.heap.objs.size:=by simpa using hb
   subst e
   exact I1.fpOk (zcb0 _) (I1.hok.fresh (zcb0 _))
  rcases q1 with ⟨⟨xs,hq⟩,q⟩|⟨⟨xs,hq⟩,q⟩
  ·obtain⟨its,rv,p,hz⟩:=I1.list hq
   refine wpAny_pyIter_list p.isList ?_
   exact⟨s1.heap.objs.size,[s1.heap.objs.size],_,_,H1,rfl,I1.kept (t':=s1.toks) fun b o e=>zca1 _ e,zbf8 a _,⟨_,zcb8 _ rfl,rfl,rfl⟩,fp,q⟩
  ·obtain⟨its,rv,p,hz⟩:=I1.tuple hq
   refine wpAny_pyIter_tuple (show s1.heap.IsTuple a its.toArray from p) ?_
   exact⟨s1.heap.objs.size,[s1.heap.objs.size],_,_,H1,rfl,I1.kept (t':=s1.toks) fun b o e=>zca1 _ e,zau9 a _,⟨_,zcb8 _ rfl,rfl,rfl⟩,fp,q⟩
 ·exact q1.elim
@[irreducible] def zad4(i j:Int)(H:Hp)(R:It->Hp->Prop):Prop:=(-(2 ^ 62)<=i/\i<2 ^ 62/\-(2 ^ 62)<=j/\j<2 ^ 62)/\R (Itr i (j - i).toNat) H
def qiRng(ta:TA):TI:=fun σ H R=>ta σ H fun vs H1=>match vs with
 | [.int j]=>zad4 0 j H1 R
 | [.int i,.int j]=>zad4 i j H1 R
 | _=>False
theorem zw2{a:Expr}{ta:TA}{p pos:Pos}(hm:X.mg "range"=none)(ha:PA X [a] ta)(hg:Gl X "range":=by rfl)(hs:starEach [a] X.env=[(false,eval a X.env)]:=by rfl):PI X tg (.Call (.Name "range" p) [a] [] pos) (qiRng ta):=by
 intro pins s σ H R I h
 refine Call_ (zac9 I hg hm boot_range (PyProof.Rows.callWith_type1 (thn (ha pos pins s σ H _ I h) fun us s1 ⟨vs,H1,I1,r1,q1⟩=>?_) hs rfl))
 dsimp only at q1
 split at q1
 ·unfold zad4 at q1
  obtain⟨⟨a1,a2,a3,a4⟩,q⟩:=q1
  cases r1 with
  | cons r rr=>
   cases rr
   obtain⟨t,rfl⟩:=r
   exact call_range_1 (zas5 I1 a1 a2 a3 a4 q)
 ·unfold zad4 at q1
  cases r1 with
  | cons r rr=>
   cases rr with
   | cons r' rr=>
    cases rr
    obtain⟨t,rfl⟩:=r
    obtain⟨t',rfl⟩:=r'
    obtain⟨⟨a1,a2,a3,a4⟩,q⟩:=q1
    exact call_range_2 (zas5 I1 a1 a2 a3 a4 q)
 ·exact q1.elim
section
variable {K:zbz7}{g:TG}{tb:TS}{D:Ends}{σ:St}{H:Hp}{R:It->Hp->Prop}
theorem zb4{a:Addr}(h:H a=some (.lst xs))(q:R (Itl K a) H):rIter K a H R:=by unfold rIter;exact .inl ⟨⟨xs,SqL.of h⟩,q⟩
theorem zk5{i j:Int}(h1:-(2 ^ 62)<=i)(h2:i<2 ^ 62)(h3:-(2 ^ 62)<=j)(h4:j<2 ^ 62)(q:R (Itr i (j - i).toNat) H):zad4 i j H R:=by unfold zad4;exact⟨⟨h1,h2,h3,h4⟩,q⟩
theorem zl8{a:Addr}(Pv:Nat->St->Hp->Prop)(h0:Pv 0 σ H)(hl:∀ i σ H,i<=xs.length->Pv i σ H->SqL K H a xs)(hs:∀ i x σ H,xs[i]?=some x->Pv i σ H->g x σ H fun σ2 H2=>tb { D with nx:=Pv (i+1),ct:=Pv (i+1),bk:=D.nx } σ2 H2)(hd:∀ σ H,Pv xs.length σ H->D.nx σ H):zav5 (Itl K a) g tb D σ H:=by
 unfold zav5;exact zbi5 Pv h0 hl hs hd
theorem zq6{lo:Int}{n:Nat}(Pv:Nat->St->Hp->Prop)(h0:Pv 0 σ H)(hs:∀ i σ H,i<n->Pv i σ H->g (.int (lo+i)) σ H fun σ2 H2=>tb { D with nx:=Pv (i+1),ct:=Pv (i+1),bk:=D.nx } σ2 H2)(hd:∀ σ H,Pv n σ H->D.nx σ H):zav5 (Itr lo n) g tb D σ H:=by
 unfold zav5;exact zbg3 Pv h0 hs hd
end
@[irreducible] def wIf(W:Nat->St->Hp->Prop)(m:Nat)(tb:TS)(D:Ends)(σ:St)(b:Bool)(H1:Hp):Prop:=
 if b=true then ∃ N:St->Hp->Prop,(∀ σ' H',N σ' H'->∃ m',m'<m/\W m' σ' H')/\tb { D with nx:=N,ct:=N,bk:=D.nx } σ H1 else D.nx σ H1
@[irreducible] def zas7(c:TT)(tb:TS):TS:=fun D σ H=>∃ W:Nat->St->Hp->Prop,(∃ m,W m σ H)/\∀ m σ H,W m σ H->c σ H fun b H1=>wIf W m tb D σ b H1
theorem zbd2{c:Expr}{body:List Stmt}{tc:TT}{tb:TS}(hp:PassesOwn (model X.prog X.w) X.A X.env X.xe)(hc:PT X c tc)(hb:PSs X body tb):PS X (.While c body [] pos) (zas7 tc tb):=fun pins s σ H D I h=>
 zbj1 hp hc hb pins s σ H D I (by unfold zas7 at h;unfold wIf at h;exact h)
section
variable {c:TT}{tb:TS}{D:Ends}{σ:St}{H H1:Hp}{W:Nat->St->Hp->Prop}{m:Nat}{p:Prop}
theorem zas9(Pv:St->Hp->Prop)(μ:St->Hp->Nat)(h0:Pv σ H)(hs:∀ σ H,Pv σ H->c σ H fun b H1=>wIf (fun m σ H=>m=μ σ H/\Pv σ H) (μ σ H) tb D σ b H1):zas7 c tb D σ H:=by
 unfold zas7
 refine⟨fun m σ H=>m=μ σ H/\Pv σ H,⟨_,rfl,h0⟩,?_⟩
 rintro m σ H ⟨rfl,p⟩
 exact hs σ H p
theorem zaz0{Pv:St->Hp->Prop}{μ:St->Hp->Nat}[Decidable p](h1:p->tb { D with nx:=fun σ' H'=>Pv σ' H'/\μ σ' H'<m,ct:=fun σ' H'=>Pv σ' H'/\μ σ' H'<m,bk:=D.nx } σ H1)(h2:¬ p->D.nx σ H1) :
  wIf (fun m σ H=>m=μ σ H/\Pv σ H) m tb D σ (decide p) H1:=by
 unfold wIf
 refine ite2 (fun h=>⟨_,fun σ' H' ⟨a,b⟩=>⟨_,b,rfl,a⟩,h1 (of_decide_eq_true h)⟩) fun h=>h2 fun hp=>h (decide_eq_true hp)
end
@[irreducible] def rNewT(xs:List V)(H:Hp)(Q:VK):Prop:=xs.length<=sizeLine/\∀ p H',H p=none->Same H H'->H' p=some (.tup xs)->Q (.ref p) H'
@[irreducible] def rNewL(xs:List V)(H:Hp)(Q:VK):Prop:=xs.length<=sizeLine/\∀ p H',H p=none->Same H H'->H' p=some (.lst xs)->Q (.ref p) H'
def qTup(t:TA):TE:=fun σ H Q=>t σ H fun xs H1=>rNewT xs H1 Q
def qLst(t:TA):TE:=fun σ H Q=>t σ H fun xs H1=>rNewL xs H1 Q
theorem zy1{x1}{t:TA}(h:PA X es t):PE X (.Tuple es x1 pos) (qTup t):=by
 intro pins s σ H Q I hq
 refine wpAny_Tuple_spliced (thn (h pos pins s σ H _ I hq) fun us s1 ⟨xs,H1,I1,r,z⟩=>?_)
 unfold rNewT at z
 obtain⟨z,q⟩:=z
 refine⟨by rw[← r.length];exact z,?_⟩
 have hf:H1 s1.heap.objs.size=none:=I1.hok.fresh (zcb0 _)
 refine⟨.ref s1.heap.objs.size,upd H1 s1.heap.objs.size (.tup xs),I1.laid (t':=s1.toks) (fun b u e=>zca1 _ e) (zcb0 _) ?_,rfl,q _ _ hf (Same.upd hf) zb1⟩
 exact⟨z,us,r,⟨_,zcb8 _ rfl,rfl,_,rfl⟩⟩
theorem zu7{t:TA}(h:PA X es t):PE X (.List es pos) (qLst t):=by
 intro pins s σ H Q I hq
 refine wpAny_List_spliced (thn (h pos pins s σ H _ I hq) fun us s1 ⟨xs,H1,I1,r,z⟩=>?_)
 unfold rNewL at z
 obtain⟨z,q⟩:=z
 refine⟨by rw[← r.length];exact z,?_⟩
 have hf:H1 s1.heap.objs.size=none:=I1.hok.fresh (zcb0 _)
 refine⟨.ref s1.heap.objs.size,upd H1 s1.heap.objs.size (.lst xs),I1.laid (t':=s1.toks) (fun b u e=>zca1 _ e) (zcb0 _) ?_,rfl,q _ _ hf (Same.upd hf) zb1⟩
 exact⟨z,us,0,r,zcb8 _ rfl⟩
@[irreducible] def rIxA(K:zbz7)(p:Addr)(i:Int)(H:Hp)(Q:VK):Prop:=∃ xs v,(SqL K H p xs∨SqT K H p xs)/\atI xs i=some v/\Q v H
def rIxM(K:zbz7):R2:=fun x y H Q=>match x,y with
 | .ref p,.int i=>rIxA K p i H Q
 | .str z,.int i=>∃ c,z.length<=sizeLine/\atI z.cps.toList i=some c/\Q (.str ⟨#[c]⟩) H
 | _,_=>False
theorem ixM:IxR X (rIxM X.K):=by
 intro value slice pins s σ H x y v u Q I rx ry h hs
 unfold rIxM at h
 split at h
 ·unfold rIxA at h
  obtain⟨xs,z,h1,h2,q⟩:=h
  rcases h1 with h1|h1
  ·exact zbq4 value slice pins s σ H _ _ v u Q I rx ry ⟨_,xs,_,z,rfl,rfl,h1,h2,q⟩ hs
  ·exact ix_tup value slice pins s σ H _ _ v u Q I rx ry ⟨_,xs,_,z,rfl,rfl,h1,h2,q⟩ hs
 ·obtain⟨c,h1,h2,q⟩:=h
  exact ix_str value slice pins s σ H _ _ v u Q I rx ry ⟨_,_,c,rfl,rfl,h1,h2,q⟩ hs
 ·exact h.elim
theorem peIx(ha:PE X a ta)(hb:PE X b tb)(hs:zan2 b:=by exact fun _ _=>rfl):PE X (.Subscript a b pos) (tOp (rIxM X.K) ta tb):=pe_ix ixM ha hb hs
@[irreducible] def rSetA(p:Addr)(k:Int)(v:V)(H:Hp)(Q:Hp->Prop):Prop:=∃ xs j,H p=some (.lst xs)/\ixN xs.length k=some j/\∀ H',Chg p H H'->H' p=some (.lst (xs.set j v))->Q H'
def rSetM:TSet:=fun o i v H Q=>match o,i with
 | .ref p,.int k=>rSetA p k v H Q
 | _,_=>False
theorem setM:PSet X rSetM:=by
 intro pins s σ H o i v ov iv u Q I ro ri rv h
 unfold rSetM at h
 split at h
 ·unfold rSetA at h
  obtain⟨xs,j,h1,h2,q⟩:=h
  exact zbi0 pins s σ H _ _ v ov iv u Q I ro ri rv ⟨_,xs,_,j,rfl,rfl,h1,h2,q _ Chg.upd zb1⟩
 ·exact h.elim
def qPart(t:TE):TO:=fun σ H Q=>t σ H fun x H1=>match x with
 | .int i=>Q (some i) H1
 | _=>False
theorem zad5(h:PE X e te):PO X (some e) (qPart te):=by
 intro pins s σ H Q I hw
 rw[evalPart_some]
 refine thn (h pins s σ H _ I hw) fun u s1 ⟨x,H1,I1,r1,q1⟩=>?_
 dsimp only at q1
 split at q1
 ·rename_i i
  obtain⟨t,rfl⟩:=r1
  exact⟨some i,H1,I1,.int i t,q1⟩
 ·exact q1.elim
section
variable {K:zbz7}{H:Hp}{Q:VK}{p:Addr}{xs:List V}{v:V}{i:Int}
theorem zi5(q:∀ p H',H p=none->Same H H'->H' p=some (.tup xs)->Q (.ref p) H')(h:xs.length<=sizeLine:=by first|assumption|(simp only[zcc6,List.length_nil,Nat.zero_add,Nat.reduceAdd];decide)):rNewT xs H Q:=by unfold rNewT;exact⟨h,q⟩
theorem zi7(q:∀ p H',H p=none->Same H H'->H' p=some (.lst xs)->Q (.ref p) H')(h:xs.length<=sizeLine:=by first|assumption|(simp only[zcc6,List.length_nil,Nat.zero_add,Nat.reduceAdd];decide)):rNewL xs H Q:=by unfold rNewL;exact⟨h,q⟩
theorem zh1(h:H p=some (.tup xs))(e:atI xs i=some v)(q:Q v H):rIxA K p i H Q:=by unfold rIxA;exact⟨xs,v,.inr (SqT.of h),e,q⟩
theorem zf6(h:H p=some (.lst xs))(e:atI xs i=some v)(q:Q v H):rIxA K p i H Q:=by unfold rIxA;exact⟨xs,v,.inl (SqL.of h),e,q⟩
theorem zbn2{R:Hp->Prop}{j:Nat}(h:H p=some (.lst xs))(e:ixN xs.length i=some j)(q:∀ H',Chg p H H'->H' p=some (.lst (xs.set j v))->R H'):rSetA p i v H R:=by unfold rSetA;exact⟨xs,j,h,e,q⟩
end
def qgNil:TGs:=fun vs σ H Q=>match vs with
 | []=>Q σ H
 | _=>False
def zbn3(t:TG)(u:TGs):TGs:=fun vs σ H Q=>match vs with
 | v :: r=>t v σ H fun σ' H'=>u r σ' H' Q
 | _=>False
theorem zi4:PGs X [] qgNil:=fun pins s σ H vs us Q I r h=>by
 unfold qgNil at h
 split at h
 ·exact zbq2 pins s σ H _ us Q I r ⟨rfl,h⟩
 ·exact h.elim
theorem zb0{e:Expr}{t:TG}{u:TGs}(h1:PG X e t)(h2:PGs X es u)(hs:(assignEach (e :: es) X.env).map (·.2)=assign e X.env :: (assignEach es X.env).map (·.2):=by rfl):PGs X (e :: es) (zbn3 t u):=fun pins s σ H vs us Q I r h=>by
 unfold zbn3 at h
 split at h
 ·exact zbk2 h1 h2 hs pins s σ H _ us Q I r ⟨_,_,rfl,h⟩
 ·exact h.elim
end
section
variable {X:Cx}
def rAbsM:List V->Hp->VK->Prop:=fun xs H Q=>match xs with
 | [.int i]=>Q (.int (i.natAbs:Int)) H
 | _=>False
def rIntM:List V->Hp->VK->Prop:=fun xs H Q=>match xs with
 | [.int i]=>Q (.int i) H
 | [.bl k]=>Q (.int (if k=true then 1 else 0)) H
 | _=>False
theorem cInt:zk4 X (.type "int") rIntM:=fun pins s σ H xs us Q I r h=>by
 unfold rIntM at h
 split at h
 ·exact zai5 pins s σ H _ us Q I r (.inl ⟨_,rfl,h⟩)
 ·exact zai5 pins s σ H _ us Q I r (.inr ⟨_,rfl,h⟩)
 ·exact h.elim
@[irreducible] def zaw0(K:zbz7)(p:Addr)(H:Hp)(Q:VK):Prop:=∃ ys,(SqL K H p ys∨SqT K H p ys)/\Q (.int ys.length) H
def rLenM(K:zbz7):List V->Hp->VK->Prop:=fun xs H Q=>match xs with
 | [.ref p]=>zaw0 K p H Q
 | [.str z]=>z.length<=sizeLine/\Q (.int z.length) H
 | _=>False
theorem cLen:zk4 X (.builtin "len") (rLenM X.K):=fun pins s σ H xs us Q I r h=>by
 unfold rLenM at h
 split at h
 ·unfold zaw0 at h
  obtain⟨ys,h1,h2⟩:=h
  exact zak0 pins s σ H _ us Q I r ⟨_,ys,rfl,h1,h2⟩
 ·exact zai7 pins s σ H _ us Q I r ⟨_,rfl,h.1,h.2⟩
 ·exact h.elim
@[irreducible] def zr3(K:zbz7)(x c:V)(H:Hp)(Q:VK):Prop:=∃ t b,TyOf K H x t/\(∀ cv,RelV c cv->zcb6 K t cv=some b)/\Q (.bl b) H
def rIsiM(K:zbz7):List V->Hp->VK->Prop:=fun xs H Q=>match xs with
 | [x,c]=>zr3 K x c H Q
 | _=>False
theorem cIsi:zk4 X (.builtin "isinstance") (rIsiM X.K):=fun pins s σ H xs us Q I r h=>by
 unfold rIsiM at h
 split at h
 ·unfold zr3 at h
  obtain⟨t,b,h1,h2,h3⟩:=h
  obtain⟨u,w,rfl,r1,r2⟩:=vals2 r
  exact zbf6 I r1 h1 (h2 _ r2) fun tk=>⟨.bl b,H,I.tok _,rfl,h3⟩
 ·exact h.elim
section
variable {K:zbz7}{H:Hp}{Q:VK}{p:Addr}{xs:List V}
theorem zi9(h:H p=some (.lst xs))(q:Q (.int xs.length) H):zaw0 K p H Q:=by unfold zaw0;exact⟨xs,.inl (SqL.of h),q⟩
theorem zan8(h:H p=some (.tup xs))(q:Q (.int xs.length) H):zaw0 K p H Q:=by unfold zaw0;exact⟨xs,.inr (SqT.of h),q⟩
theorem zaq8{i:Int}{n:String}{b:Bool}(q:Q (.bl b) H)(e:zcb6 K (.type "int") (.type n)=some b:=by rfl):zr3 K (.int i) (.ty n) H Q:=by
 unfold zr3;exact⟨_,b,.int i,fun cv r=>by cases r;exact e,q⟩
theorem zaq2{i:Bool}{n:String}{b:Bool}(q:Q (.bl b) H)(e:zcb6 K (.type "bool") (.type n)=some b:=by rfl):zr3 K (.bl i) (.ty n) H Q:=by
 unfold zr3;exact⟨_,b,.bl i,fun cv r=>by cases r;exact e,q⟩
theorem zbq3{n:String}{b:Bool}(q:Q (.bl b) H)(e:zcb6 K (.type "NoneType") (.type n)=some b:=by rfl):zr3 K .non (.ty n) H Q:=by
 unfold zr3;exact⟨_,b,.non,fun cv r=>by cases r;exact e,q⟩
theorem zbs9{x:Str}{n:String}{b:Bool}(q:Q (.bl b) H)(e:zcb6 K (.type "str") (.type n)=some b:=by rfl):zr3 K (.str x) (.ty n) H Q:=by
 unfold zr3;exact⟨_,b,.str x,fun cv r=>by cases r;exact e,q⟩
theorem zbc3{n:String}{b:Bool}(h:H p=some (.tup xs))(q:Q (.bl b) H)(e:zcb6 K (.type "tuple") (.type n)=some b:=by rfl):zr3 K (.ref p) (.ty n) H Q:=by
 unfold zr3;exact⟨_,b,.tup h,fun cv r=>by cases r;exact e,q⟩
theorem zbd6{n:String}{b:Bool}(h:H p=some (.lst xs))(q:Q (.bl b) H)(e:zcb6 K (.type "list") (.type n)=some b:=by rfl):zr3 K (.ref p) (.ty n) H Q:=by
 unfold zr3;exact⟨_,b,.lst h,fun cv r=>by cases r;exact e,q⟩
end
theorem bt_min:bootBuiltins "min"=some (.builtin "min"):=by decide +kernel
theorem zl7:bootBuiltins "len"=some (.builtin "len"):=by decide +kernel
theorem zw3:bootBuiltins "sum"=some (.builtin "sum"):=by decide +kernel
theorem zs0:bootBuiltins "all"=some (.builtin "all"):=by decide +kernel
theorem zd0:bootBuiltins "isinstance"=some (.builtin "isinstance"):=by decide +kernel
theorem zam2:bootBuiltins "sorted"=some (.builtin "sorted"):=by decide +kernel
theorem zbn6:bootBuiltins "int"=some (.type "int"):=by decide +kernel
theorem zbu6:bootBuiltins "bool"=some (.type "bool"):=by decide +kernel
theorem zu9:bootBuiltins "list"=some (.type "list"):=by decide +kernel
theorem zar9:bootBuiltins "tuple"=some (.type "tuple"):=by decide +kernel
theorem pTy{x:Str}{n:String}{pos:Pos}(hm:X.mg x=none)(hv:bootBuiltins x=some (.type n))(hg:Gl X x:=by rfl)(hn:x≠"__name__":=by decide)(hd:(x==("__debug__":Str))=false:=by decide):PE X (.Name x pos) (tC (.ty n)):=
 zbp7 hg hm hv rfl hn hd
theorem pB{x:Str}{p pos:Pos}{e:Expr}{t:TA}{id:String}{r:List V->Hp->VK->Prop}(hc:zk4 X (.builtin id) r)(hm:X.mg x=none)(hv:bootBuiltins x=some (.builtin id))(ha:PA X (e :: es) t)(hg:Gl X x:=by rfl)(hn:x≠"__name__":=by decide)(hdb:(x==("__debug__":Str))=false:=by decide)(he:starEach (e :: es) X.env=(false,eval e X.env) :: starEach es X.env:=by rfl)(hpl:(backTo pos (starEach es X.env)).any (·.1)=false:=by rfl):PE X (.Call (.Name x p) (e :: es) [] pos) (tCB r t):=zbi2 hc hg hm hv ha hn hdb he hpl
theorem pT{x:Str}{p pos:Pos}{e:Expr}{t:TA}{id:String}{r:List V->Hp->VK->Prop}(hc:zk4 X (.type id) r)(hm:X.mg x=none)(hv:bootBuiltins x=some (.type id))(ha:PA X (e :: es) t)(hg:Gl X x:=by rfl)(hn:x≠"__name__":=by decide)(hdb:(x==("__debug__":Str))=false:=by decide)(he:starEach (e :: es) X.env=(false,eval e X.env) :: starEach es X.env:=by rfl)(hpl:(backTo pos (starEach es X.env)).any (·.1)=false:=by rfl):PE X (.Call (.Name x p) (e :: es) [] pos) (tCB r t):=zbg2 hc hg hm hv ha hn hdb he hpl
structure Def(P:Program)(w:World)(K:zbz7)(mg:Str->Option Value)(base:Heap)(CX:CXT)(k:Nat)(x:Str)(ps:List Str)(sp:Sp):Prop where
 ex:∃ (f:Addr) (fd:FuncData),FnOk P w K mg base CX k f fd ps sp/\mg x=some (.ref f)/\zcg8 K (.ref f)=true/\zap5 K fd ps []
def qCall(sp:Sp)(E:XK)(t:TA):TE:=fun σ H Q=>t σ H fun vs H1=>sp vs H1 Q E
theorem pD{CX:CXT}{k j:Nat}{x:Str}{ps:List Str}{sp:Sp}{E:XK}{p pos:Pos}{e:Expr}{t:TA}(F:Def X.prog X.w X.K X.mg X.base CX k x ps sp)(hr:Room j X.A)(hx:zad6 CX X E)(ha:PA X (e :: es) t)(hk:k<=j:=by decide)(hg:Gl X x:=by rfl)(hdb:(x==("__debug__":Str))=false:=by decide)(he:starEach (e :: es) X.env=(false,eval e X.env) :: starEach es X.env:=by rfl)(hpl:(backTo pos (starEach es X.env)).any (·.1)=false:=by rfl) :
  PE X (.Call (.Name x p) (e :: es) [] pos) (qCall sp E t):=by
 obtain⟨f,fd,F1,F2,F3,F4⟩:=F.ex
 intro pins s σ H Q I h
 refine zbr5 F1 (hr.mono hk) hg F2 F3 F4 .nil hx ha hdb he hpl pins s σ H Q I ?_
 unfold tCall
 simp only[List.append_nil]
 exact h
theorem psS{i:Nat}{x:Str}{e:Expr}{te:TE}{pos' pos:Pos}(hN:X.N.Nodup)(he:PE X e te)(hi:X.N[i]?=some x:=by rfl)(hx:Loc X.env.scope x:=by first|exact Or.inl rfl|exact Or.inr rfl)(hs:swapsWith e (some (.Name x pos')) pos.line X.env=pure false:=by rfl)(hf:X.fn x=true∨X.env.scope.names.lookup x=some .local:=by first|exact .inl rfl|exact .inr rfl|assumption) :
  PS X (.Assign [.Name x pos'] e pos) (tAsg te (gName i)):=ps_set hN hi hx he hs hf
section
variable {K:zbz7}{H:Hp}{Q:VK}{p:Addr}{xs:List V}{i j:Int}
theorem zbt9(h1:-18446744073709551616<i)(h2:i<18446744073709551616)(q:Q (.int (i*j)) H):zaw7 i j H Q:=zbm0 (.of_left (intBits_le_64 (by simpa using h1) (by simpa using h2))) q
theorem zbs6(h1:-18446744073709551616<j)(h2:j<18446744073709551616)(q:Q (.int (i*j)) H):zaw7 i j H Q:=zbm0 (.of_right (intBits_le_64 (by simpa using h1) (by simpa using h2))) q
theorem zbp8(h:0<j)(q:∀ r:Int,0<=r->r<j->Q (.int r) H):zbc5 i j H Q:=mod_rd h (q _ (Int.emod_nonneg _ (by omega)) (Int.emod_lt_of_pos _ h))
theorem zas1(h:H p=some (.lst xs))(h0:0<=i)(h1:i<xs.length)(q:∀ v,v∈xs->Q v H):rIxA K p i H Q:=by
 have hl:i.toNat<xs.length:=by omega
 refine zf6 h (v:=xs[i.toNat]) ?_ (q _ (zch9 hl))
 have e:((i.toNat:Nat):Int)=i:=by omega
 have z:=zh3 (zbz5 hl)
 rw[e] at z
 exact z
theorem hu40{A:Around}{k:Nat}(hr:Room k A):A.units+40<cLine:=by have:=hr.units;omega
end
@[irreducible] def qCut(t:TS):TS:=fun D σ H=>∃ R:St->Hp->Prop,t { D with nx:=R } σ H/\∀ σ' H',R σ' H'->D.nx σ' H'
theorem psCut{t:TS}(h:PS X st t):PS X st (qCut t):=fun pins s σ H D I hq=>by
 unfold qCut at hq
 obtain⟨R,h1,h2⟩:=hq
 refine thn (h pins s σ H _ I h1) fun f s' q=>?_
 cases f with
 | next=>obtain⟨σ',H',I',z⟩:=q;exact⟨σ',H',I',h2 _ _ z⟩
 | brk=>exact q
 | cont=>exact q
 | ret u=>exact q
theorem cut_rd{t:TS}{D:Ends}{σ:St}(R:St->Hp->Prop)(h1:t { D with nx:=R } σ H)(h2:∀ σ' H',R σ' H'->D.nx σ' H'):qCut t D σ H:=by unfold qCut;exact⟨R,h1,h2⟩
end
set_option maxHeartbeats 2000000
theorem zu4{env:Env}:∀ (names:List (Str×NameKind)) (acc:List (Str×Addr)),(∀ x∈names,x.2=.free->∃ c,env.cells.lookup x.1=some c) ->
  ∃ acc',(forIn (m:=Sem) names acc (fun (x:Str×NameKind) (r:List (Str×Addr))=>if (x.2==.free)=true then (do let c ← cellOf env x.1;pure (ForInStep.yield ((x.1,c) :: r))) else pure (ForInStep.yield r)))=pure acc' /\
   (∀ x c,acc'.lookup x=some c->acc.lookup x=some c∨env.cells.lookup x=some c)/\(∀ x c,acc.lookup x=some c->∃ c',acc'.lookup x=some c')/\∀ x∈names,x.2=.free->∃ c,acc'.lookup x.1=some c
 | [],acc,_=>⟨acc,rfl,fun _ _ h=>.inl h,fun _ c h=>⟨c,h⟩,fun _ h=>by cases h⟩
 | (n,k) :: r,acc,h=>by
  by_cases hk:k=.free
  ·subst hk
   obtain⟨c,hc⟩:=h (n,.free) zce2 rfl
   obtain⟨acc',e,h1,h2,h3⟩:=zu4 r ((n,c) :: acc) fun x hx=>h x (zcd2 _ hx)
   have hco:cellOf env n=pure c:=by unfold cellOf;rw[hc]
   refine⟨acc',?_,fun x d hd=>?_,fun x d hd=>?_,fun x hx hf=>?_⟩
   ·rw[List.forIn_cons]
    simp only[hco]
    exact e
   ·rcases h1 x d hd with q|q
    ·rw[zcc2] at q
     split at q
     ·rename_i hx
      have hx:x=n:=by simpa using hx
      subst hx
      cases q
      exact .inr hc
     ·exact .inl q
    ·exact .inr q
   ·by_cases hx:x=n
    ·subst hx
     exact h2 x c (by simp[zcc2])
    ·refine h2 x d ?_
     rw[zcc2]
     have:(x==n)=false:=by simpa using hx
     rw[this];exact hd
   ·rcases zca6.mp hx with rfl|hx
    ·exact h2 n c (by simp[zcc2])
    ·exact h3 x hx hf
  ·obtain⟨acc',e,h1,h2,h3⟩:=zu4 r acc fun x hx=>h x (zcd2 _ hx)
   refine⟨acc',?_,h1,h2,fun x hx hf=>?_⟩
   ·rw[List.forIn_cons]
    have:(k==NameKind.free)=false:=by simpa using hk
    simp only[this]
    exact e
   ·rcases zca6.mp hx with rfl|hx
    ·exact absurd hf hk
    ·exact h3 x hx hf
theorem zae0{env:Env}(h:∀ x∈scope.names,x.2=.free->∃ c,env.cells.lookup x.1=some c) :
  ∃ cl,closureFor scope env=pure cl/\(∀ x c,cl.lookup x=some c->env.cells.lookup x=some c)/\∀ x∈scope.names,x.2=.free->∃ c,cl.lookup x.1=some c:=by
 obtain⟨cl,e,h1,_,h3⟩:=zu4 (env:=env) scope.names [] h
 refine⟨cl,?_,fun x c hc=>(h1 x c hc).elim (fun q=>by cases q) id,h3⟩
 unfold closureFor
 show (forIn (m:=Sem) scope.names ([]:List (Str×Addr)) _ >>= fun r=>pure r)=_
 rw[e]
 rfl
theorem zo8{env:Env}:∀ {names:List (Str×NameKind)}{x:Str},names.lookup x=some .free ->
  (names.map fun (n,k)=>if (k==NameKind.free&&env.scope.kind==.function&&env.kindOf n==some .cell) then (n,NameKind.cell) else (n,k)).lookup x=some .cell ∨
  (names.map fun (n,k)=>if (k==NameKind.free&&env.scope.kind==.function&&env.kindOf n==some .cell) then (n,NameKind.cell) else (n,k)).lookup x=some .free
 | [],_,h=>by simp at h
 | (n,k) :: r,x,h=>by
  have ih:=@zo8 env r x
  show List.lookup x ((if (k==NameKind.free&&env.scope.kind==.function&&env.kindOf n==some .cell)=true then (n,NameKind.cell) else (n,k)) :: _)=_∨List.lookup x ((if (k==NameKind.free&&env.scope.kind==.function&&env.kindOf n==some .cell)=true then (n,NameKind.cell) else (n,k)) :: _)=_
  cases hx:x==n with
  | true=>
   simp only[zcc2,hx] at h
   cases h
   by_cases hc:(NameKind.free==NameKind.free&&env.scope.kind==.function&&env.kindOf n==some .cell)=true
   ·left;rw[if_pos hc];simp only[zcc2,hx]
   ·right;rw[if_neg hc];simp only[zcc2,hx]
  | false=>
   simp only[zcc2,hx] at h
   by_cases hc:(k==NameKind.free&&env.scope.kind==.function&&env.kindOf n==some .cell)=true
   ·rw[if_pos hc];simp only[zcc2,hx];exact ih h
   ·rw[if_neg hc];simp only[zcc2,hx];exact ih h
theorem zp3{env:Env}:∀ {names:List (Str×NameKind)}{x:Str}{k':NameKind},(∀ y∈names,y.2≠.cell)->(k'=.cell∨k'=.free) ->
  (names.map fun (n,k)=>if (k==NameKind.free&&env.scope.kind==.function&&env.kindOf n==some .cell) then (n,NameKind.cell) else (n,k)).lookup x=some k'->∃ y∈names,y.1=x/\y.2=.free
 | [],_,_,_,_,h=>by simp at h
 | (n,k) :: r,x,k',hn,hk,h=>by
  have ih:=@zp3 env r x k' (fun y hy=>hn y (zcd2 _ hy)) hk
  replace h:List.lookup x ((if (k==NameKind.free&&env.scope.kind==.function&&env.kindOf n==some .cell)=true then (n,NameKind.cell) else (n,k)) :: List.map (fun (n,k)=>if (k==NameKind.free&&env.scope.kind==.function&&env.kindOf n==some .cell) then (n,NameKind.cell) else (n,k)) r)=some k':=h
  cases hx:x==n with
  | true=>
   have hx':x=n:=by simpa using hx
   by_cases hf:k=.free
   ·exact⟨(n,k),zce2,hx'.symm,hf⟩
   ·have hc:¬ (k==NameKind.free&&env.scope.kind==.function&&env.kindOf n==some .cell)=true:=by
     have:(k==NameKind.free)=false:=by simpa using hf
     rw[this];simp
    rw[if_neg hc] at h
    simp only[zcc2,hx] at h
    have:k=k':=Option.some.inj h
    subst this
    rcases hk with hk|hk
    ·exact absurd hk (hn (n,k) zce2)
    ·exact absurd hk hf
  | false=>
   have h':List.lookup x (List.map (fun (n,k)=>if (k==NameKind.free&&env.scope.kind==.function&&env.kindOf n==some .cell) then (n,NameKind.cell) else (n,k)) r)=some k':=by
    by_cases hc:(k==NameKind.free&&env.scope.kind==.function&&env.kindOf n==some .cell)=true
    ·rw[if_pos hc] at h;simp only[zcc2,hx] at h;exact h
    ·rw[if_neg hc] at h;simp only[zcc2,hx] at h;exact h
   obtain⟨y,hy,h1,h2⟩:=ih h'
   exact⟨y,zcd2 _ hy,h1,h2⟩
def blk(X:Cx)(N:List Str)(scope:Scope)(cl:List (Str×Addr))(C:Addr)(s3:Shared)(H3:Hp)(fp:List Addr):Cx:=
 { X with N:=N,s₀:=s3,H₀:=H3,env:=compEnvC scope cl C X.env,outer:=X.stack,ex:=fp,fn:=fun _=>false,pn:=[],xe:=fun _ _=>False }
def PTs(X:Cx)(ifs:List Expr)(t:TT):Prop:=
 ∀ (pins:List (Addr×Obj)) (s:Shared) (σ:St) (H:Hp) (Q:Bool->Hp->Prop),Inv X pins σ H s->t σ H Q ->
  wpAny (model X.prog X.w) X.A (forIn ifs true fun c r=>if r=true then do let ok ← isTrue c X.env (eval c X.env);pure (ForInStep.yield ok) else pure (ForInStep.yield r)) (TP X pins σ Q) X.xe s
theorem zc6{X:Cx}:PTs X [] (fun _ H Q=>Q true H):=fun _ _ _ H _ I h=>wpAny_tests_nil ⟨H,I,h⟩
theorem zbh1{X:Cx}{c:Expr}{t:TT}(h:PT X c t):PTs X [c] t:=fun pins s σ H Q I hq=>wpAny_tests_one (h pins s σ H Q I hq)
@[irreducible] def cPut(W:Nat->Nat->List V->St->Hp->Prop)(acc:Addr)(ys:List V)(i m:Nat)(σ2:St)(v:V)(H5:Hp):Prop:=
 H5 acc=some (.lst ys)/\∀ H6,Chg acc H5 H6->H6 acc=some (.lst (ys++[v]))->∃ m',m'<m/\W (i+1) m' (ys++[v]) σ2 H6
@[irreducible] def zal6(W:Nat->Nat->List V->St->Hp->Prop)(ys:List V)(i m:Nat)(σ2:St)(H4:Hp):Prop:=∃ m',m'<m/\W (i+1) m' ys σ2 H4
@[irreducible] def zx2(J:It)(g:TG)(tt:TT)(te:TE)(σ0:St)(H1:Hp)(Q:VK):Prop:=
 ∀ acc H2,H1 acc=none->Same H1 H2->H2 acc=some (.lst [])->∃ W:Nat->Nat->List V->St->Hp->Prop,(∃ m,W 0 m [] σ0 H2)/\∀ i m ys σ H,W i m ys σ H->H acc=some (.lst ys)/\ys.length<sizeLine /\
  ((J.stop i H/\Q (.ref acc) H)∨(J.go i H/\∀ x H',J.yld i H x H'->g x σ H' fun σ2 H3=>tt σ2 H3 fun b H4=>
   br b (te σ2 H4 fun v H5=>cPut W acc ys i m σ2 v H5) (zal6 W ys i m σ2 H4)))
section
variable {X:Cx}{pins:List (Addr×Obj)}{σ:St}{H:Hp}{s2:Shared}
theorem zbp4{N:List Str}{cl:List (Str×Addr)}{s3 s4:Shared}{H3:Hp}{fp:List Addr}{σc:St}(I:Inv X pins σ H3 s3)(hcl1:∀ x c,cl.lookup x=some c->X.env.cells.lookup x=some c)(hcl2:∀ x∈scope.names,x.2=.free->∃ c,cl.lookup x.1=some c)(hkind:scope.kind=.function)(hcell:∀ y∈scope.names,y.2≠.cell)(hcap:∀ (i:Nat) (x:Str) (v:V),N[i]?=some x->σc[i]?=some (some v)->∃ j:Nat,X.N[j]?=some x/\σ[j]?=some (some v)/\scope.names.lookup x=some .free/\(X.env.kindOf x=some .cell∨X.env.kindOf x=some .free))(hlen:σc.length=N.length)(hC:s3.heap.objs.size=C)(hfp:∀ b∈fp,FpOk X pins H3 b)(hfpl:∀ b∈fp,b<C)(hex:∀ b o,X.base.get? b=some o->b ∉ fp)(hns:∃ m,s4.heap.Ns C m)(hk:∀ b o,s3.heap.get? b=some o->s4.heap.get? b=some o)(h4:s4.os=s3.os)(h5:s4.gens=s3.gens) :
  Inv (blk X N scope cl C s3 H3 fp) [] σc H3 s4:=by
 subst hC
 have look:∀ x,(blk X N scope cl s3.heap.objs.size s3 H3 fp).env.kindOf x=(relabel scope X.env).names.lookup x:=fun x=>rfl
 have cne:∀ x c,cl.lookup x=some c->c<s3.heap.objs.size:=fun x c h=>by
  obtain⟨v,o,ho,_⟩:=I.cell x c (hcl1 x c h)
  exact zca7 ho
 refine⟨⟨I.ok.mod,?_,I.ok.glob,I.ok.blt,zcb0 _,fun x y c h1 h2=>I.ok.inj x y c (hcl1 _ _ h1) (hcl1 _ _ h2),fun x hx=>?_,fun x c h=>?_,I.ok.hd,I.ok.frames,.inl rfl,fun b hb=>⟨zcc9 (hfpl b hb),fun x c h=>?_⟩,fun b o e=>I.bs b o e,zcd9 I.ok.bsz I.sz,fun b o e=>hex b o e,fun b hb=>?_,I.stack,I.stkFree⟩,
  h4,by rw[h5];exact I.bare,Un.kept hk,?_,fun x c h=>?_,I.hok.fresh (zcb0 _),fun x c h=>I.freeC x c (hcl1 _ _ h),fun p hp=>(by cases hp),I.hok.kept hk,hlen⟩
 ·exact hkind
 ·have hx':(relabel scope X.env).names.lookup x=some .cell∨(relabel scope X.env).names.lookup x=some .free:=hx
  have hz:∃ y∈scope.names,y.1=x/\y.2=.free:=by
   rcases hx' with q|q
   ·exact zp3 hcell (.inl rfl) q
   ·exact zp3 hcell (.inr rfl) q
  obtain⟨y,hy,rfl,hf⟩:=hz
  exact hcl2 y hy hf
 ·exact absurd (show false=true from h) zca4
 ·exact (hfp b hb).2.2.2.2.1 x c (hcl1 x c h)
 ·have:=(hfp b hb).1
  intro hz
  obtain⟨f0,f1,f2,_⟩:=hfp b hb
  have hz:b∈frs X.stack:=hz
  rcases zca6.mp (I.stkSub b hz) with q|q
  ·exact f1 q
  ·exact f2 q
 ·obtain⟨m,hm⟩:=hns
  refine⟨m,hm,fun i x v h1 h2 h3=>?_⟩
  obtain⟨j,e1,e2,e3,e4⟩:=hcap i x v h1 h2
  obtain⟨mX,_,hl⟩:=I.loc
  obtain⟨u,r,q⟩:=hl j x v e1 e2 (by rcases e4 with e4|e4;exact .inr (.inl e4);exact .inr (.inr e4))
  refine⟨u,r,.inr ⟨zo8 e3,?_⟩⟩
  obtain⟨c,hc⟩:=hcl2 (x,.free) (PySem.mem_of_lookup e3) rfl
  refine⟨c,hc,?_⟩
  have hc':=hcl1 x c hc
  rcases q with ⟨k,_⟩|⟨_,c2,e5,o,ho,hd⟩
  ·rcases e4 with e4|e4<;>rw[e4] at k<;>cases k
  ·rw[hc'] at e5
   cases e5
   exact⟨o,hk _ _ ho,hd⟩
 ·obtain⟨v,o,ho,hd⟩:=I.cell x c (hcl1 x c h)
  exact⟨v,o,hk _ _ ho,hd⟩
theorem zaj7{prog:Program}{w:World}{A:Around}{R:Result->Shared->Prop}{s:Shared}{elt target iter:Expr}{ifs:List Expr}{pos:Pos}{it acc:Value}{env:Env}(I:Nat->Shared->Prop)(turn:∀ n s,I n s->wpAny (model prog w) A (pyNext it) (fun r s₁=>match r with
   | none=>R (.ok .next) s₁
   | some v=>wpAny (model prog w) A (letOwnedTupleGo target it v) (fun _ s₁'=>wpAny (model prog w) A (assign target env v) (fun _ s₂=>
     wpAny (model prog w) A (forIn ifs true fun c r=>if r=true then do let ok ← isTrue c env (eval c env);pure (ForInStep.yield ok) else pure (ForInStep.yield r)) (fun ok s₃=>
      if ok=true then wpAny (model prog w) A (eval elt env) (fun x s₄=>
       wpAny (model prog w) A (call (.builtin "list.append") [acc,x]) (fun _ s₅=>∃ m,m<n/\I m s₅) (fun _ _=>False) s₄) (fun _ _=>False) s₃
      else ∃ m,m<n/\I m s₃) (fun _ _=>False) s₂) (fun _ _=>False) s₁') (fun _ _=>False) s₁) (fun _ _=>False) s)(n:Nat)(h:I n s):codeAny (model prog w) A (.compLoop (.ListComp elt [⟨target,iter,ifs,0⟩] scope pos) 0 it acc env) R s:=by
 refine codeAny_loop rfl I (fun n s hI=>?_) n h
 show wpAny _ A ((compTurn (.ListComp elt [⟨target,iter,ifs,0⟩] scope pos) 0 it acc env).onRaise (fun x=>do noteFrame x env;theTreesLotGoes x)) _ _ s
 refine wpAny_noted ?_
 rw[compTurn_list]
 refine zci2 (wpAny_standAt (zci2 (wpAny_mono (turn n s hI) (fun r s₁ h₁=>?_) fun _ _ h'=>h'.elim)))
 cases r with
 | none=>exact zci3 h₁
 | some v=>
  refine zci2 (wpAny_mono h₁ (fun _ s₁' h₁'=>?_) fun _ _ h'=>h'.elim)
  refine zci2 (wpAny_mono h₁' (fun _ s₂ h₂=>zci2 (wpAny_mono h₂ (fun ok s₃ h₃=>?_) fun _ _ h'=>h'.elim)) fun _ _ h'=>h'.elim)
  cases ok with
  | false=>exact zci3 ⟨rfl,h₃⟩
  | true=>
   exact zci2 (zci2 (wpAny_mono h₃ (fun x s₄ h₄=>zci2 (wpAny_mono h₄ (fun _ s₅ h₅=>zci3 (zci3 ⟨rfl,h₅⟩)) fun _ _ h'=>h'.elim)) fun _ _ h'=>h'.elim))
theorem zbe2{E:Value->Shared->Prop}{elt iter:Expr}{ifs:List Expr}{pos:Pos}{cl:List (Str×Addr)}{N:List Str}{σc:St}{J:It}{fp:List Addr}{it:Addr}{tn:Nat->Heap->Prop}{g:TG}{tt:TT}{te:TE}{RR:Value->Addr->Result->Shared->Prop}(hcl1:∀ x c,cl.lookup x=some c->X.env.cells.lookup x=some c)(hcl2:∀ x∈scope.names,x.2=.free->∃ c,cl.lookup x.1=some c)(hkind:scope.kind=.function)(hcell:∀ y∈scope.names,y.2≠.cell)(hcap:∀ (i:Nat) (x:Str) (v:V),N[i]?=some x->σc[i]?=some (some v)->∃ j:Nat,X.N[j]?=some x/\σ[j]?=some (some v)/\scope.names.lookup x=some .free/\(X.env.kindOf x=some .cell∨X.env.kindOf x=some .free))(hlen:σc.length=N.length)(hc:X.calm=true)(I:Inv X pins σ H s2)(T:Turn X.prog X.w X.K tg J fp it tn)(st:tn 0 s2.heap)(fpok:∀ b∈fp,FpOk X pins H b)(hg:∀ C s3 H3 fp,PG (blk X N scope cl C s3 H3 fp) tg g)(ht:∀ C s3 H3 fp,PTs (blk X N scope cl C s3 H3 fp) ifs tt)(he:∀ C s3 H3 fp,PE (blk X N scope cl C s3 H3 fp) elt te)(h:zx2 J g tt te σc H Q)(hRR:∀ (acc C:Addr) (H':Hp) (s':Shared),Inv X pins σ H' s'->FpOk X pins H' C->(∃ m,s'.heap.Ns C m)->Q (.ref acc) H'->RR (.ref acc) C (.ok .next) s') :
  wpAny (model X.prog X.w) X.A (newList []) (fun acc s₃=>wpAny (model X.prog X.w) X.A (newFunctionEnv scope X.env.globals cl [] X.env.qual none .none (some X.env)) (fun cenv s₄=>
   codeAny (model X.prog X.w) X.A (.compStart (.ListComp elt [⟨tg,iter,ifs,0⟩] scope pos) 0 (.ref it) acc { cenv with scope:=relabel scope X.env }) (RR acc cenv.locals) s₄) E s₃) E s2:=by
 refine wpAny_newObj_type (wpAny_newFunctionEnv hcell (by intro y hy;simp at hy) (fun h₁ hns₁ hsb₁=>?_) hkind)
 dsimp only at hns₁ hsb₁ ⊢
 have hf:H s2.heap.objs.size=none:=I.fresh
 have I3:Inv X pins σ (upd H s2.heap.objs.size (.lst [])) { s2 with heap:=s2.heap.push { cls:=.type "list",data:=.seq ([]:List Value).toArray } }:=I.lnew (t':=s2.toks) (its:=[]) .nil (zcd0 _)
 generalize hs3:({ s2 with heap:=s2.heap.push { cls:=.type "list",data:=.seq ([]:List Value).toArray } }:Shared)=s3 at I3
 have hH:s2.heap.push { cls:=.type "list",dict:=none,data:=.seq ([]:List Value).toArray }=s3.heap:=by rw[← hs3]
 rw[hH] at hns₁ hsb₁ ⊢
 have hsz:s3.heap.objs.size=s2.heap.objs.size+1:=by rw[← hH,Heap.size_push]
 have old23:∀ b o,s2.heap.get? b=some o->s3.heap.get? b=some o:=fun b o e=>by rw[← hH];exact zca1 _ e
 have fplt:∀ b∈fp,b<s2.heap.objs.size:=fun b hb=>by
  obtain⟨o,e,_⟩:=T.obj 0 _ st b hb
  exact zca7 e
 have fp3:∀ b∈fp,FpOk X pins (upd H s2.heap.objs.size (.lst [])) b:=fun b hb=>by
  obtain⟨f0,f1⟩:=fpok b hb
  refine⟨?_,f1⟩
  rw[zb3 (zcc9 (fplt b hb))]
  exact f0
 have old34:∀ b o,s3.heap.get? b=some o->h₁.get? b=some o:=fun b o e=>hsb₁.extBut b o (zcc9 (zca7 e)) (zca1 _ e)
 have nob:∀ b o,X.base.get? b=some o->b ∉ fp:=fun b o e hb=>by
  obtain⟨_,_,_,f3,_,_⟩:=fpok b hb
  rcases f3 with f3|f3
  ·exact I.ok.noex b o e f3
  ·exact absurd (zcb5 (zca7 e) I.ok.bsz) (Nat.not_lt.mpr f3)
 have hs4e:({ s2 with heap:=h₁,toks:=s2.toks+([]:List (Str×Value)).length }:Shared).os=s3.os:=by rw[← hs3]
 have hs4g:({ s2 with heap:=h₁,toks:=s2.toks+([]:List (Str×Value)).length }:Shared).gens=s3.gens:=by rw[← hs3]
 have I4:Inv (blk X N scope cl s3.heap.objs.size s3 (upd H s2.heap.objs.size (.lst [])) fp) [] σc (upd H s2.heap.objs.size (.lst [])) { s2 with heap:=h₁,toks:=s2.toks+([]:List (Str×Value)).length }:=
  zbp4 (s4:={ s2 with heap:=h₁,toks:=s2.toks+([]:List (Str×Value)).length }) I3 hcl1 hcl2 hkind hcell hcap hlen rfl fp3 (fun b hb=>zcb5 (fplt b hb) (by rw[hsz];exact zcg9 _)) nob ⟨_,hns₁⟩ old34 hs4e hs4g
 have st4:tn 0 h₁:=T.keep _ _ _ st fun b hb o e=>old34 b o (old23 b o e)
 unfold zx2 at h
 obtain⟨W,⟨m0,w0⟩,turn⟩:=h s2.heap.objs.size _ hf (Same.upd hf) zb1
 have loop:codeAny (model X.prog X.w) X.A (.compLoop (.ListComp elt [⟨tg,iter,ifs,0⟩] scope pos) 0 (.ref it) (.ref s2.heap.objs.size) (blk X N scope cl s3.heap.objs.size s3 (upd H s2.heap.objs.size (.lst [])) fp).env)
   (RR (.ref s2.heap.objs.size) s3.heap.objs.size) { s2 with heap:=h₁,toks:=s2.toks+([]:List (Str×Value)).length }:=by
  refine zaj7 (fun n s'=>∃ i ys σ' H',Inv (blk X N scope cl s3.heap.objs.size s3 (upd H s2.heap.objs.size (.lst [])) fp) [] σ' H' s'/\tn i s'.heap/\(∀ b∈fp,H' b=none)/\W i n ys σ' H') ?_ m0 ⟨0,[],σc,_,I4,st4,fun b hb=>(fp3 b hb).1,w0⟩
  rintro n s5 ⟨i,ys,σ5,H5,I5,st5,fr5,w5⟩
  obtain⟨hacc,hl5,hcase⟩:=turn i n ys σ5 H5 w5
  have stat:∀ {H':Hp},(∀ b∈fp,H' b=none)->∀ b∈fp,FpOk (blk X N scope cl s3.heap.objs.size s3 (upd H s2.heap.objs.size (.lst [])) fp) [] H' b:=fun hn b hb=>by
   obtain⟨_,f1,f2,f3,f4,_⟩:=fpok b hb
   refine⟨hn b hb,zcc9 (zcb5 (fplt b hb) (by rw[hsz];exact zcg9 _)),fun hz=>?_,.inl hb,fun x c hx=>f4 x c (hcl1 x c hx),fun p hp=>by cases hp⟩
   rcases zca6.mp (I.stkSub b hz) with q|q
   ·exact f1 q
   ·exact f2 q
  rcases hcase with ⟨stop,hq⟩|⟨go,step⟩
  ·refine thn (T.done (blk X N scope cl s3.heap.objs.size s3 (upd H s2.heap.objs.size (.lst [])) fp) rfl rfl rfl hc i [] s5 σ5 H5 (fun _ _=>False) I5 (stat fr5) st5 stop) fun r s6 ⟨hr,I6⟩=>?_
   subst hr
   have u1:Un (frs X.stack) fp H (upd H s2.heap.objs.size (.lst [])) s2.heap s3.heap:=Un.laid old23 (zcb0 _) hf
   have u2:Un (frs X.stack) fp (upd H s2.heap.objs.size (.lst [])) H5 s3.heap s6.heap:=I6.base
   have hC:H5 s3.heap.objs.size=none:=I6.free
   obtain⟨m6,hm6,_⟩:=I6.loc
   have hos:s6.os=s2.os:=by rw[I6.os];show s3.os=s2.os;rw[← hs3]
   have hok6:=I6.hok
   have bare6:=I6.bare
   obtain⟨hh,gg,dd,tt',os'⟩:=s6
   obtain rfl:os'=s2.os:=hos
   exact hRR _ _ H5 _ (I.call (h':=hh) (g':=gg) (d':=dd) (t':=tt') (ch:=fp) (u1.trans u2) hok6 bare6 fun b hb=>⟨(fpok b hb).2.2.2.1,(fpok b hb).2.1,(fpok b hb).2.2.2.2.1,(fpok b hb).2.2.2.2.2⟩)
    (I.fpOk (by rw[hsz];exact zcg9 _) hC) ⟨m6,hm6⟩ hq
  ·refine thn (T.item (blk X N scope cl s3.heap.objs.size s3 (upd H s2.heap.objs.size (.lst [])) fp) rfl rfl rfl hc i [] s5 σ5 H5 (fun _ _=>False) I5 (stat fr5) st5 go) fun r s6 ⟨u,hr,h6⟩=>?_
   subst hr
   refine thn h6 fun _ s7 ⟨x,H7,I7,r7,y7,st7,fr7⟩=>?_
   have I7':=I7.pinned (stat fr7) (T.obj _ _ st7)
   refine thn (hg _ _ _ _ _ s7 σ5 H7 x u _ I7' r7 (step x H7 y7)) fun _ s8 ⟨σ8,H8,I8,q8⟩=>?_
   refine thn (ht _ _ _ _ _ s8 σ8 H8 _ I8 q8) fun ok s9 ⟨H9,I9,q9⟩=>?_
   have again:∀ {s10:Shared}{σ10:St}{H10:Hp}{zs:List V},Inv (blk X N scope cl s3.heap.objs.size s3 (upd H s2.heap.objs.size (.lst [])) fp) ([]++zac4 fp s7.heap) σ10 H10 s10->(∃ m',m'<n/\W (i+1) m' zs σ10 H10) ->
     ∃ m,m<n/\∃ i ys σ' H',Inv (blk X N scope cl s3.heap.objs.size s3 (upd H s2.heap.objs.size (.lst [])) fp) [] σ' H' s10/\tn i s10.heap/\(∀ b∈fp,H' b=none)/\W i m ys σ' H':=fun {s10 σ10 H10 zs} I10 ⟨m',hm,w10⟩=>by
    refine⟨m',hm,i+1,zs,σ10,H10,I10.unpinned,T.keep _ _ _ st7 fun b hb o e=>(I10.pin (b,o) (zcb9 _ (zcb9 _ (zj7 hb e)))).1,fun b hb=>?_,w10⟩
    obtain⟨o,e,d⟩:=T.obj _ _ st7 b hb
    exact (I10.pin (b,o) (zcb9 _ (zcb9 _ (zj7 hb e)))).2.1
   dsimp only at q9
   rw[zai4] at q9
   cases ok with
   | false=>
    have q9:∃ m',m'<n/\W (i+1) m' ys σ8 H9:=by rw[if_neg zca4] at q9;unfold zal6 at q9;exact q9
    exact again I9 q9
   | true=>
    have q9:=(if_pos rfl▸q9:te σ8 H9 _)
    refine thn (he _ _ _ _ _ s9 σ8 H9 _ I9 q9) fun v s10 ⟨y,H10,I10,r10,q10⟩=>?_
    unfold cPut at q10
    obtain⟨e10,q10⟩:=q10
    refine thn (zaa4 _ s10 σ8 H10 (.ref s2.heap.objs.size) [y] (.ref s2.heap.objs.size) [v] (fun _ H11=>∃ m',m'<n/\W (i+1) m' (ys++[y]) σ8 H11) I10 rfl (.cons r10 .nil) ⟨_,ys,y,rfl,rfl,e10,hl5,q10 _ Chg.upd zb1⟩) fun _ s11 ⟨z,H11,I11,_,q11⟩=>?_
    exact again I11 q11
 exact codeAny_compStart_list loop (T.self _ 0 _ _ _ st4 loop)
def capS(ks:List (Option Nat))(σ:St):St:=ks.map fun k=>match k with
 | none=>none
 | some j=>(σ[j]?).join
inductive zy5(X:Cx)(scope:Scope):List Str->List (Option Nat)->Prop where
 | nil:zy5 X scope [] []
 | skip {x:Str}{N:List Str}{ks:List (Option Nat)}(t:zy5 X scope N ks):zy5 X scope (x :: N) (none :: ks)
 | take {x:Str}{N:List Str}{ks:List (Option Nat)}{j:Nat}(h1:X.N[j]?=some x) (h2:scope.names.lookup x=some .free) (h3:X.env.kindOf x=some .cell∨X.env.kindOf x=some .free) (t:zy5 X scope N ks):zy5 X scope (x :: N) (some j :: ks)
theorem zy5.cap{N:List Str}{ks:List (Option Nat)}(h:zy5 X scope N ks)(σ:St):∀ (i:Nat) (x:Str) (v:V),N[i]?=some x->(capS ks σ)[i]?=some (some v)->∃ j:Nat,X.N[j]?=some x/\σ[j]?=some (some v)/\scope.names.lookup x=some .free/\(X.env.kindOf x=some .cell∨X.env.kindOf x=some .free):=by
 induction h with
 | nil=>intro i x v h;simp at h
 | skip t ih=>
  intro i x v h1 h2
  cases i with
  | zero=>simp[capS] at h2
  | succ i=>exact ih i x v (by simpa using h1) (by simpa [capS] using h2)
 | take a b c t ih=>
  intro i x v h1 h2
  cases i with
  | zero=>
   simp only[List.getElem?_cons_zero,Option.some.injEq] at h1
   subst h1
   refine⟨_,a,?_,b,c⟩
   simpa [capS,Option.join_eq_some_iff] using h2
  | succ i=>exact ih i x v (by simpa using h1) (by simpa [capS] using h2)
theorem zy5.len{N:List Str}{ks:List (Option Nat)}(h:zy5 X scope N ks)(σ:St):(capS ks σ).length=N.length:=by
 have:ks.length=N.length:=by
  induction h with
  | nil=>rfl
  | skip t ih=>simp[ih]
  | take a b c t ih=>simp[ih]
 simp[capS,this]
def qComp(ks:List (Option Nat))(wi:TI)(g:TG)(tt:TT)(te:TE):TE:=fun σ H Q=>wi σ H fun J H1=>zx2 J g tt te (capS ks σ) H1 Q
def freeB(scope:Scope)(f:Str->Option NameKind):Bool:=scope.names.all fun x=>x.2 != .free || (f x.1==some .cell || f x.1==some .free)
def zbc1(scope:Scope):Bool:=scope.names.all (fun x=>x.2 != .cell)&&scope.names.all fun x=>x.2 != .local || scope.names.lookup x.1==some .local
theorem zau4{f:Str->Option NameKind}(h:freeB scope f=true):∀ x∈scope.names,x.2=.free->f x.1=some .cell∨f x.1=some .free:=fun x hx hf=>by
 have:=zcb2.mp h x hx
 simpa [hf] using this
theorem zbc2(h:zbc1 scope=true):(∀ y∈scope.names,y.2≠.cell)/\∀ x∈scope.names,x.2=.local->scope.names.lookup x.1=some .local:=by
 unfold zbc1 at h
 rw[zca5] at h
 refine⟨fun y hy=>?_,fun x hx hl=>?_⟩
 ·have:=zcb2.mp h.1 y hy
  simpa using this
 ·have:=zcb2.mp h.2 x hx
  simpa [hl] using this
theorem zf0{elt iter:Expr}{ifs:List Expr}{pos:Pos}{N:List Str}{ks:List (Option Nat)}{wi:TI}{g:TG}{tt:TT}{te:TE}(hi:PI X tg iter wi)(hg:∀ cl C s3 H3 fp,PG (blk X N scope cl C s3 H3 fp) tg g)(ht:∀ cl C s3 H3 fp,PTs (blk X N scope cl C s3 H3 fp) ifs tt)(he:∀ cl C s3 H3 fp,PE (blk X N scope cl C s3 H3 fp) elt te)(hcap:zy5 X scope N ks)(hc:X.calm=true:=by rfl)(hkind:scope.kind=.function:=by rfl)(hb:freeB scope X.env.kindOf=true:=by rfl)(hn:zbc1 scope=true:=by rfl)(hs:∀ x,foldedSetIterable iter X.env x=pure x:=by intro _;rfl) :
  PE X (.ListComp elt [⟨tg,iter,ifs,0⟩] scope pos) (qComp ks wi g tt te):=by
 intro pins s σ H Q I h
 obtain⟨hcell,hnames⟩:=zbc2 hn
 obtain⟨cl,hcl,hcl1,hcl2⟩:=zae0 (scope:=scope) (env:=X.env) fun x hx hf=>I.ok.has x.1 (zau4 hb x hx hf)
 rw[eval_ListComp]
 refine wpAny_comprehension_free (use:=none) rfl hs hcl hkind hnames ?_
 show wpAny _ _ (eval iter X.env) _ _ s
 refine thn (hi pins s σ H _ I h) fun v s1 h1=>thn h1 fun itv s2 h2=>?_
 obtain⟨it,fp,tn,J,H2,e,I2,T,st2,f2,q2⟩:=h2
 subst e
 refine zbe2 (RR:=fun acc C=>compPost (model X.prog X.w) X.A X.xe none (EP X pins σ Q) acc C) hcl1 hcl2 hkind hcell (hcap.cap σ) (hcap.len σ) hc I2 T st2 f2 (hg cl) (ht cl) (he cl) q2 ?_
 rintro acc C H' s' I' hC ⟨m,hm⟩ hq
 refine⟨m,hm,fun h' hsb=>⟨.ref acc,H',?_,rfl,hq⟩⟩
 exact I'.turned (t':=s'.toks) (fun b o hb e=>hsb.extBut b o hb e) hC.1 hC.2.1 hC.2.2.2.1 hC.2.2.2.2.1 hC.2.2.2.2.2
end
section
variable {X:Cx}
@[irreducible] def rSumA(K:zbz7)(p:Addr)(H:Hp)(Q:VK):Prop:=∃ ns:List Int,SqL K H p (ns.map V.int)/\Q (.int ns.sum) H
def rSumM(K:zbz7):List V->Hp->VK->Prop:=fun xs H Q=>match xs with
 | [.ref p]=>rSumA K p H Q
 | _=>False
theorem cSum(hc:X.calm=true):zk4 X (.builtin "sum") (rSumM X.K):=fun pins s σ H xs us Q I r h=>by
 unfold rSumM at h
 split at h
 ·unfold rSumA at h
  obtain⟨ns,h1,h2⟩:=h
  obtain⟨u,rfl,rx⟩:=zab6 r
  cases rx
  obtain⟨its,r',pl,hz⟩:=I.list h1
  have hi:=zt6 r'
  obtain⟨ys,hx⟩:=hi.allInts.items
  have hl':s.heap.IsList _ (intItems ys):=hx▸pl.isList
  refine sum_intListG (I.ok.hd hc) hl' fun h' tk t' hk=>?_
  have e1:ns=ys.toList.map (·.1):=by
   rw[← nums_intItems,← hx]
   exact (show numsOf its.toArray.toList=ns from hi.numsOf).symm
  have e2:preSum (numAt ys) ys.size=ns.sum:=by
   rw[preSum_eq,zce0 (by simp),e1]
  rw[e2]
  exact⟨.int ns.sum,H,I.kept hk,⟨_,rfl⟩,h2⟩
 ·exact h.elim
theorem zaa3{K:zbz7}{p:Addr}{ns:List Int}(h:H p=some (.lst (ns.map V.int)))(q:Q (.int ns.sum) H):rSumA K p H Q:=by unfold rSumA;exact⟨ns,SqL.of h,q⟩
theorem zz6:∀ {bs:List Bool}{us:List Value},Vals (bs.map V.bl) us->LSm.BoolsAre us bs
 | [],us,r=>by rw[zci1] at r;cases r;exact .nil
 | b :: bs,us,r=>by
  rw[zcb1] at r
  cases r with
  | cons r1 r2=>
   cases r1
   exact .cons b (zz6 r2)
@[irreducible] def rAllA(K:zbz7)(p:Addr)(H:Hp)(Q:VK):Prop:=∃ bs:List Bool,SqL K H p (bs.map V.bl)/\Q (.bl (bs.all id)) H
def rAllM(K:zbz7):List V->Hp->VK->Prop:=fun xs H Q=>match xs with
 | [.ref p]=>rAllA K p H Q
 | _=>False
theorem cAll(hc:X.calm=true):zk4 X (.builtin "all") (rAllM X.K):=fun pins s σ H xs us Q I r h=>by
 unfold rAllM at h
 split at h
 ·rename_i p
  unfold rAllA at h
  obtain⟨bs,h1,h2⟩:=h
  obtain⟨u,rfl,rx⟩:=zab6 r
  cases rx
  obtain⟨its,r',pl,hz⟩:=I.list h1
  have hb:=zz6 r'
  have hlt:p<s.heap.objs.size:=by obtain⟨_,e,_⟩:=pl.isList;exact zca7 e
  refine call_all_walk (wpAny_pyIter_list pl.isList ?_)
  refine⟨s.heap.objs.size,[s.heap.objs.size,_],[s.heap.objs.size],its.toArray.size,_,_,fun i=>(bs[i]?).getD true,rfl,Walks.list (A:=X.A.in1) (I.ok.hd hc) _ _ (zcc9 hlt) its.toArray,
   ⟨⟨_,zcb8 _ rfl,rfl,rfl⟩,pl.isList.push _⟩,fun i v s' Q' E' hP hQ=>?_,fun h' tk hk=>?_⟩
  ·obtain⟨b,e,rfl⟩:=hb.get i v (by simpa using hP)
   simp only[e,Option.getD_some] at hQ
   exact wpAny_truthy_bool hQ
  ·have e:((List.range its.toArray.size).all fun i=>(bs[i]?).getD true)=bs.all id:=by
    rw[zca2,hb.length];exact LSm.range_all bs
   rw[e]
   exact⟨.bl _,H,I.kept (LSm.kept_iter hk),rfl,h2⟩
 ·exact h.elim
theorem zt0{K:zbz7}{p:Addr}{bs:List Bool}(h:H p=some (.lst (bs.map V.bl)))(q:Q (.bl (bs.all id)) H):rAllA K p H Q:=by unfold rAllA;exact⟨bs,SqL.of h,q⟩
@[irreducible] def zat6(K:zbz7)(p:Addr)(H:Hp)(Q:VK):Prop:=∃ ys,(SqL K H p ys∨SqT K H p ys)/\∀ l H',H l=none->Same H H'->H' l=some (.lst ys)->Q (.ref l) H'
def zbb8(K:zbz7):List V->Hp->VK->Prop:=fun xs H Q=>match xs with
 | [.ref p]=>zat6 K p H Q
 | _=>False
theorem cList:zk4 X (.type "list") (zbb8 X.K):=fun pins s σ H xs us Q I r h=>by
 unfold zbb8 at h
 split at h
 ·unfold zat6 at h
  obtain⟨ys,h1,h2⟩:=h
  exact zai0 pins s σ H _ us Q I r ⟨_,ys,rfl,h1,fun l hl=>h2 l _ hl (Same.upd hl) zb1⟩
 ·exact h.elim
theorem zat3{K:zbz7}{p:Addr}{ys:List V}(h:SqL K H p ys)(q:∀ l H',H l=none->Same H H'->H' l=some (.lst ys)->Q (.ref l) H'):zat6 K p H Q:=by unfold zat6;exact⟨ys,.inl h,q⟩
@[irreducible] def zar7(K:zbz7)(p:Addr)(H:Hp)(R:Prop):Prop:=(∃ xs,SqL K H p xs)/\R
def qBM(K:zbz7)(r:Addr->List V->Hp->VK->Prop)(to:TE)(t:TA):TE:=fun σ H Q=>to σ H fun x H1=>match x with
 | .ref p=>zar7 K p H1 (t σ H1 fun xs H2=>r p xs H2 Q)
 | _=>False
theorem zac8{K:zbz7}{p:Addr}{R:Prop}(h:H p=some (.lst xs))(q:R):zar7 K p H R:=by unfold zar7;exact⟨⟨xs,SqL.of h⟩,q⟩
def MtA(X:Cx)(id:String)(r:Addr->List V->Hp->VK->Prop):Prop:=
 ∀ (pins:List (Addr×Obj)) (s:Shared) (σ:St) (H:Hp) (p:Addr) (xs:List V) (us:List Value) (Q:VK),Inv X pins σ H s->Vals xs us->r p xs H Q ->
  wpAny (model X.prog X.w) X.A (call (.builtin id) (.ref p :: us)) (EP X pins σ Q) X.xe s
theorem peBM{o e:Expr}{to:TE}{t:TA}{name:Str}{apos cpos:Pos}{id:String}{r:Addr->List V->Hp->VK->Prop}(slot:Slot "list" name id)(hty:typeOf (.builtin id)=pure (.type "method_descriptor"))(hm:MtA X id r)(ho:PE X o to)(ha:PA X (e :: es) t)(hbase:attributeBase o name X.env (eval o X.env)=eval o X.env:=by rfl)(hfew:((backTo cpos (starEach (e :: es) X.env)).all (fun x=>!x.1)&&(backToKw cpos (keywordEach [] X.env)).all (fun x=>x.1.isSome)
   && decide ((e :: es).length+([]:List Keyword).length+(if ([]:List Keyword).isEmpty then 0 else 1)<30))=true:=by rfl)(hline:(apos.endLine==cpos.line)=true:=by rfl)(hs:starEach (e :: es) X.env=(false,eval e X.env) :: starEach es X.env:=by rfl)(hplain:(backTo cpos (starEach es X.env)).any (·.1)=false:=by rfl) :
  PE X (.Call (.Attribute o name apos) (e :: es) [] cpos) (qBM X.K r to t):=by
 intro pins s σ H Q I h
 refine wpAny_Call_method_late hbase hfew hline rfl (thn (ho pins s σ H _ I h) fun v s1 ⟨x,H1,I1,r1,q1⟩=>?_)
 dsimp only at q1
 split at q1
 ·rename_i p
  unfold zar7 at q1
  obtain⟨hq,q1⟩:=q1
  obtain⟨h1,h2⟩:=tyV_is (T:="list") I1 r1 (.inl ⟨rfl,hq⟩)
  refine⟨"list",id,PySem.F.plainAttrs_list,slot,hty,h1,h2,?_⟩
  have hA:=ha cpos pins s1 σ H1 _ I1 q1
  rw[hs] at hA ⊢
  refine Calls.callWith_builtin (by show (false || (backTo cpos (starEach es X.env)).any (·.1))=false;rw[hplain]<;>rfl) (Calls.evalArgs_plain ?_)
  cases r1
  exact thn hA fun us s2 ⟨vs,H2,I2,r2,q2⟩=>hm pins s2 σ H2 p vs us Q I2 r2 q2
 ·exact q1.elim
@[irreducible] def rAppA(p:Addr)(v:V)(H:Hp)(Q:VK):Prop:=∃ xs,H p=some (.lst xs)/\xs.length<sizeLine/\∀ H',Chg p H H'->H' p=some (.lst (xs++[v]))->Q .non H'
def rAppM:Addr->List V->Hp->VK->Prop:=fun p vs H Q=>match vs with
 | [v]=>rAppA p v H Q
 | _=>False
theorem zbp3:MtA X "list.append" rAppM:=fun pins s σ H p xs us Q I r h=>by
 unfold rAppM at h
 split at h
 ·unfold rAppA at h
  obtain⟨ys,h1,h2,h3⟩:=h
  exact zaa4 pins s σ H (.ref p) _ (.ref p) us Q I rfl r ⟨p,ys,_,rfl,rfl,h1,h2,h3 _ Chg.upd zb1⟩
 ·exact h.elim
theorem zaj0{p:Addr}{v:V}(h:H p=some (.lst xs))(hz:xs.length<sizeLine)(q:∀ H',Chg p H H'->H' p=some (.lst (xs++[v]))->Q .non H'):rAppA p v H Q:=by unfold rAppA;exact⟨xs,h,hz,q⟩
theorem zl9{o e:Expr}{to:TE}{t:TA}{apos cpos:Pos}(ho:PE X o to)(ha:PA X [e] t)(hbase:attributeBase o "append" X.env (eval o X.env)=eval o X.env:=by rfl)(hfew:((backTo cpos (starEach [e] X.env)).all (fun x=>!x.1)&&(backToKw cpos (keywordEach [] X.env)).all (fun x=>x.1.isSome)
   && decide ([e].length+([]:List Keyword).length+(if ([]:List Keyword).isEmpty then 0 else 1)<30))=true:=by rfl)(hline:(apos.endLine==cpos.line)=true:=by rfl)(hs:starEach [e] X.env=(false,eval e X.env) :: starEach [] X.env:=by rfl)(hplain:(backTo cpos (starEach [] X.env)).any (·.1)=false:=by rfl):PE X (.Call (.Attribute o "append" apos) [e] [] cpos) (qBM X.K rAppM to t):=
 peBM PySem.F.slot_list_append PySem.F.type_list_append zbp3 ho ha hbase hfew hline hs hplain
def qAug(i:Nat)(te:TE)(r:R2):TS:=fun D σ H=>match σ[i]? with
 | some (some x)=>te σ H fun y H1=>r x y H1 fun z H2=>D.nx (σ.set i (some z)) H2
 | _=>False
theorem ipAdd:OpR X (inplaceOp .Add) (fun x y H Q=>match x,y with|.int i,.int j=>Q (.int (i+j)) H|_,_=>False):=by
 intro pins s σ H x y v u Q I rx ry h
 split at h
 ·exact zbu3 pins s σ H _ _ v u Q I rx ry ⟨_,_,rfl,rfl,h⟩
 ·exact h.elim
theorem ipSub:OpR X (inplaceOp .Sub) (fun x y H Q=>match x,y with|.int i,.int j=>Q (.int (i - j)) H|_,_=>False):=by
 intro pins s σ H x y v u Q I rx ry h
 split at h
 ·exact zbs2 pins s σ H _ _ v u Q I rx ry ⟨_,_,rfl,rfl,h⟩
 ·exact h.elim
theorem zbg9{i:Nat}{x:Str}{e:Expr}{te:TE}{op:Operator}{r:R2}{pos pos':Pos}(hN:X.N.Nodup)(ho:OpR X (inplaceOp op) r)(he:PE X e te)(hi:X.N[i]?=some x:=by rfl)(hx:Loc X.env.scope x:=by first|exact Or.inl rfl|exact Or.inr rfl)(hf:X.fn x=true∨X.env.scope.names.lookup x=some .local:=by first|exact .inl rfl|exact .inr rfl|assumption) :
  PS X (.AugAssign (.Name x pos') op e pos) (qAug i te r):=fun pins s σ H D I h=>by
 unfold qAug at h
 split at h
 ·rename_i v e
  exact ps_aug hN hi hx he (fun pins s σ H x y v u Q I rx ry q=>ho pins s σ H x y v u Q I rx ry q) hf pins s σ H D I ⟨v,e,h⟩
 ·exact h.elim
section
variable {prog:Program}{w:World}{A:Around}{E:Value->Shared->Prop}{s:Shared}
theorem zak8{it t:Addr}{items:Array Value}(hne:t≠it):∀ (n i:Nat) (s:Shared) (Q:List Value->Shared->Prop),s.heap.IsListIter it t i->s.heap.IsList t items->i+n<=items.size ->
  (∀ h',h'.IsListIter it t (i+n)->Heap.SameBut it s.heap h'->Q ((items.toList.drop i).take n) { s with heap:=h' })->wpAny (model prog w) A (draw (.ref it) n) Q E s
 | 0,i,s,Q,hit,_,_,hQ=>by
  show wpAny _ _ (pure []) Q E s
  exact zci3 (by simpa using hQ s.heap hit (Heap.SameBut.refl ..))
 | n+1,i,s,Q,hit,ht,hle,hQ=>by
  have hlt:i<items.size:=by omega
  show wpAny _ _ (pyNext (.ref it) >>= _) Q E s
  refine zci2 (wpAny_pyNext_list_item hit ht (x:=items[i]) (by simp[hlt]) fun h₁ hit₁ hs₁=>?_)
  refine zci2 (zci7 (zak8 hne n (i+1) _ _ hit₁ (ht.extBut hs₁.extBut hne) (by omega) fun h₂ hit₂ hs₂=>zci3 ?_))
  have hd:items.toList.drop i=items[i] :: items.toList.drop (i+1):=by simp[zcf0,hlt]
  have:=hQ h₂ (by rw[show i+(n+1)=i+1+n by omega];exact hit₂) (hs₁.trans hs₂)
  rw[hd,List.take_succ_cons] at this
  exact this
theorem zt5{env:Env}{elts:List Expr}{x1}{pos:Pos}{t:Addr}{items:Array Value}{Q:Unit->Shared->Prop}(hh:A.handled=none)(ht:s.heap.IsList t items)(hn:(assignEach elts env).length=items.size)(hstar:(assignEach elts env).findIdx? (·.1)=none)(h:∀ h',Heap.ExtBut s.heap.objs.size s.heap h'->wpAny (model prog w) A (assignInOrder ((assignEach elts env).map (·.2)) items.toList) Q E { s with heap:=h' }) :
  wpAny (model prog w) A (assign (.Tuple elts x1 pos) env (.ref t)) Q E s:=by
 rw[assign_Tuple]
 refine zci2 (wpAny_standAt ?_)
 unfold unpack
 rw[hn,hstar]
 refine zci2 (zci7 ?_)
 have hlt:t≠s.heap.objs.size:=by obtain⟨o,ho,_⟩:=ht;exact zcc9 (zca7 ho)
 unfold unpackItems
 refine zci2 ?_
 unfold notIterableAtAll
 refine zci2 (wpAny_specialOf ht.typeIs F.slot_list_iter.lookup ?_)
 refine zci3 ?_
 simp only[zcf8,if_false]
 refine zci2 (zci7 (wpAny_pyIter_list ht ?_))
 refine zci2 (zci7 (zak8 hlt items.size 0 _ _ ⟨_,zcb8 _ rfl,rfl,rfl⟩ (ht.push _) (by omega) fun h₁ hit₁ hs₁=>?_))
 have hall:List.take items.size (List.drop 0 items.toList)=items.toList:=by
  rw[List.drop_zero];exact zce0 (by simp)
 rw[hall]
 rw[if_neg (by simp)]
 have ht₁:h₁.IsList t items:=(ht.push _).extBut hs₁.extBut hlt
 refine zci2 (zci7 (wpAny_pyNext_list_end hh hit₁ ht₁ (by simp) fun h₂ he₂=>?_))
 simp only[Option.isSome_none,zcf8,if_false]
 exact zci3 (h h₂ fun b o hb e=>he₂ b o hb (hs₁.extBut b o hb (zca1 _ e)))
end
@[irreducible] def rUnpA(K:zbz7)(a:Addr)(n:Nat)(t:TGs)(σ:St)(H:Hp)(Q:St->Hp->Prop):Prop:=∃ xs,(SqT K H a xs∨SqL K H a xs)/\xs.length=n/\t xs σ H Q
def qgAny(K:zbz7)(n:Nat)(t:TGs):TG:=fun v σ H Q=>match v with
 | .ref a=>rUnpA K a n t σ H Q
 | _=>False
theorem pgAny{pos:Pos}{k:Nat}{t:TGs}{n:Nat}(hc:X.calm=true)(h:PGs X es t)(hn:(assignEach es X.env).length=n:=by rfl)(hst:(assignEach es X.env).findIdx? (·.1)=none:=by rfl):PG X (.Tuple es k pos) (qgAny X.K n t):=fun pins s σ H v u Q I r hq=>by
 unfold qgAny at hq
 split at hq
 ·unfold rUnpA at hq
  obtain⟨xs,a1,a2,a3⟩:=hq
  rcases a1 with a1|a1
  ·exact pg_tup hc h hn hst pins s σ H _ u Q I r ⟨_,xs,rfl,a1,a2,a3⟩
  ·cases r
   obtain⟨its,rv,pl,hz⟩:=I.list a1
   refine zt5 (I.ok.hd hc) pl.isList (by simp[hn,← a2,rv.length]) hst fun h' hx=>?_
   have I1:Inv X pins σ H { s with heap:=h' }:=I.kept (t':=s.toks) fun b o e=>hx b o (zcc9 (zca7 e)) e
   exact h pins _ σ H xs _ Q I1 (by simpa using rv) a3
 ·exact hq.elim
theorem ze6{K:zbz7}{a:Addr}{n:Nat}{t:TGs}{σ:St}{Q:St->Hp->Prop}(h:H a=some (.tup xs))(q:t xs σ H Q)(e:xs.length=n:=by rfl):rUnpA K a n t σ H Q:=by
 unfold rUnpA;exact⟨xs,.inl (SqT.of h),e,q⟩
end
def Chg2(a c:Addr)(H H':Hp):Prop:=∀ b o,b≠a->b≠c->H b=some o->H' b=some o
theorem Chg2.refl(a c:Addr)(H:Hp):Chg2 a c H H:=fun _ _ _ _ e=>e
theorem Chg2.same{a c:Addr}(x:Chg2 a c H H1)(y:Same H1 H2):Chg2 a c H H2:=fun b o h1 h2 e=>y b o (x b o h1 h2 e)
theorem Chg2.at{a c b:Addr}(x:Chg2 a c H H')(e:H b=some o)(h1:b≠a)(h2:b≠c):H' b=some o:=x b o h1 h2 e
section
variable {X:Cx}{K:zbz7}
theorem zc7{a b:Expr}{ta tb:TE}{pos:Pos}(hK:X.K=K)(ha:PE X a ta)(hb:PE X b tb)(hs:zan2 b:=by exact fun _ _=>rfl):PE X (.Subscript a b pos) (tOp (rIxM K) ta tb):=by subst hK;exact peIx ha hb hs
theorem zv6(hK:X.K=K):zk4 X (.builtin "len") (rLenM K):=by subst hK;exact cLen
theorem zal2(hK:X.K=K):zk4 X (.builtin "isinstance") (rIsiM K):=by subst hK;exact cIsi
theorem zap7(hK:X.K=K)(hc:X.calm=true):zk4 X (.builtin "sum") (rSumM K):=by subst hK;exact cSum hc
theorem zaf3(hK:X.K=K)(hc:X.calm=true):zk4 X (.builtin "all") (rAllM K):=by subst hK;exact cAll hc
theorem zbo2(hK:X.K=K):zk4 X (.type "list") (zbb8 K):=by subst hK;exact cList
theorem oEqK(hK:X.K=K)(hu:X.A.units+40<cLine):OpR X (compareOp .Eq) (rEqM K):=by subst hK;exact oEq hu
theorem zf1{l:Expr}{tl:TE}(hK:X.K=K)(hl:PE X l tl):PI X tg l (qiSeq K tl):=by subst hK;exact piSeq hl
theorem zi3{pos:Pos}{k:Nat}{t:TGs}{n:Nat}(hK:X.K=K)(hc:X.calm=true)(h:PGs X es t)(hn:(assignEach es X.env).length=n:=by rfl)(hst:(assignEach es X.env).findIdx? (·.1)=none:=by rfl):PG X (.Tuple es k pos) (qgAny K n t):=by subst hK;exact pgAny hc h hn hst
end
theorem zag5{k:Int}(h:0<=k):cutV xs (some k) none=xs.drop k.toNat:=by
 show List.take (xs.length - (if k<0 then (k+(xs.length:Int)).toNat else min k.toNat xs.length)) (List.drop (if k<0 then (k+(xs.length:Int)).toNat else min k.toNat xs.length) xs)=_
 rw[if_neg (by omega)]
 by_cases hk:k.toNat<=xs.length
 ·rw[Nat.min_eq_left hk,zce0 (by rw[zcf7];omega)]
 ·rw[Nat.min_eq_right (by omega),List.drop_of_length_le (by omega),List.drop_of_length_le (by omega),List.take_nil]
theorem zam3{k:Int}(h:0<=k):cutV xs none (some k)=xs.take k.toNat:=by
 show List.take ((if k<0 then (k+(xs.length:Int)).toNat else min k.toNat xs.length) - 0) (List.drop 0 xs)=_
 rw[if_neg (by omega),List.drop_zero,Nat.sub_zero]
 by_cases hk:k.toNat<=xs.length
 ·rw[Nat.min_eq_left hk]
 ·rw[Nat.min_eq_right (by omega),zce0 (zcb0 _),zce0 (by omega)]
def rowV(n:Nat)(r:Nat->Int):List V:=(List.range n).map fun t=>V.int (r t)
theorem zbl7{n:Nat}{r s:Nat->Int}(h:∀ t,t<n->r t=s t):rowV n r=rowV n s:=by
 unfold rowV
 refine zcb3 fun t ht=>?_
 rw[h t (zce6.mp ht)]
theorem ref_at{i:Int}{p:Addr}(h0:0<=i)(h:ps[i.toNat]?=some p):atI (ps.map V.ref) i=some (.ref p):=by
 have:=zh3 (xs:=ps.map V.ref) (j:=i.toNat) (v:=.ref p) (by rw[zbz9,h];rfl)
 rw[show ((i.toNat:Nat):Int)=i by omega] at this
 exact this
theorem int_at{ns:List Int}{i:Int}{n:Int}(h0:0<=i)(h:ns[i.toNat]?=some n):atI (ns.map V.int) i=some (.int n):=by
 have:=zh3 (xs:=ns.map V.int) (j:=i.toNat) (v:=.int n) (by rw[zbz9,h];rfl)
 rw[show ((i.toNat:Nat):Int)=i by omega] at this
 exact this
theorem zbr1{v:V}{n:Nat}(h:xs.length=n+1)(e:xs[n]?=some v):atI xs (-1)=some v:=by
 unfold atI ixN
 rw[if_neg (by decide),if_pos (by omega)]
 show xs[((-1:Int)+xs.length).toNat]?=_
 rw[show ((-1:Int)+xs.length).toNat=n by omega];exact e
structure zw1(H:Hp)(a:Addr)(ps:List Addr)(n h:Nat)(g:Nat->Nat->Int):Prop where
 out:H a=some (.lst (ps.map V.ref))
 len:ps.length=n
 row:∀ (i:Nat) (p:Addr),ps[i]?=some p->H p=some (.lst (rowV h (g i)))
theorem zw1.same{a:Addr}{n h:Nat}{g:Nat->Nat->Int}(G:zw1 H a ps n h g)(s:Same H H'):zw1 H' a ps n h g:=⟨s _ _ G.out,G.len,fun i p e=>s _ _ (G.row i p e)⟩
theorem zw1.ext{a:Addr}{n h:Nat}{g g':Nat->Nat->Int}(G:zw1 H a ps n h g)(e:∀ i t,i<n->t<h->g i t=g' i t):zw1 H a ps n h g':=
 ⟨G.out,G.len,fun i p q=>by rw[G.row i p q];rw[zbl7 fun t ht=>e i t (by have:=(zbz6.mp q).1;have:=G.len;omega) ht]⟩
theorem zw1.some{H:Hp}{a:Addr}{ps:List Addr}{n h:Nat}{g:Nat->Nat->Int}(G:zw1 H a ps n h g){i:Nat}(hi:i<n):∃ p,ps[i]?=.some p/\H p=.some (.lst (rowV h (g i))):=by
 have hl:i<ps.length:=by rw[G.len];exact hi
 exact⟨ps[i],zbz5 hl,G.row i _ (zbz5 hl)⟩
structure Wk(J:It)(n:Nat)(H1:Hp)(X:Nat->V->Hp->Prop):Prop where
 go:∀ i H,Same H1 H->i<n->J.go i H
 stop:∀ H,Same H1 H->J.stop n H
 yld:∀ i H x H',Same H1 H->i<n->J.yld i H x H'->Same H H'/\X i x H'
theorem Wk.range{lo:Int}{n:Nat}:Wk (Itr lo n) n H1 fun i x _=>x=.int (lo+i):=
 ⟨fun i H _ h=>h,fun H _=>zcb0 _,fun i H x H' _ _ y=>by obtain⟨rfl,rfl⟩:=y;exact⟨Same.refl _,rfl⟩⟩
theorem Wk.list{K:zbz7}{a:Addr}(h:SqL K H1 a xs):Wk (Itl K a) xs.length H1 fun i x _=>xs[i]?=some x:=
 ⟨fun i H s hi=>⟨xs,xs[i],s.seq h,by simp[hi]⟩,fun H s=>⟨xs,s.seq h,zcb0 _⟩,fun i H x H' s _ y=>by
  obtain⟨e,y⟩:=y
  subst e
  exact⟨Same.refl _,y xs (s.seq h)⟩⟩
structure zad7(H1 H:Hp)(acc:Addr)(ps:List Addr)(n:Nat)(f:Nat->HO):Prop where
 facc:H1 acc=none
 same:Same H1 H
 out:H acc=some (.lst (ps.map V.ref))
 len:ps.length=n
 nd:ps.Nodup
 nin:acc ∉ ps
 row:∀ i p,ps[i]?=some p->H1 p=none/\H p=some (f i)
theorem zad7.free{acc:Addr}{n:Nat}{f:Nat->HO}(F:zad7 H1 H acc ps n f){p:Addr}(h:p∈ps):H1 p=none:=by
 obtain⟨i,hi⟩:=zcd3 h
 exact (F.row i p hi).1
theorem zad7.some{H1 H:Hp}{acc:Addr}{ps:List Addr}{n:Nat}{f:Nat->HO}(F:zad7 H1 H acc ps n f){i:Nat}(hi:i<n):∃ p,ps[i]?=.some p/\H p=.some (f i):=by
 have hl:i<ps.length:=by rw[F.len];exact hi
 exact⟨ps[i],zbz5 hl,(F.row i _ (zbz5 hl)).2⟩
section
variable {K:zbz7}{g:TG}{tt:TT}{te:TE}{σ0:St}{H1:Hp}{Q:VK}{J:It}{n:Nat}{X:Nat->V->Hp->Prop}
theorem zad2(w:Wk J n H1 X)(hn:n<sizeLine)(f:Nat->HO)(Ps:Nat->St->Prop)(h0:Ps 0 σ0)(turn:∀ i x σ H (R:St->V->Hp->Prop) (S:St->Hp->Prop),i<n->Same H1 H->X i x H->Ps i σ->(∀ σ2 p H5,H p=none->Same H H5->H5 p=some (f i)->Ps (i+1) σ2->R σ2 (.ref p) H5)->g x σ H fun σ2 H3=>tt σ2 H3 fun b H4=>br b (te σ2 H4 fun v H5=>R σ2 v H5) (S σ2 H4))(fin:∀ acc ps H,zad7 H1 H acc ps n f->Q (.ref acc) H):zx2 J g tt te σ0 H1 Q:=by
 unfold zx2
 intro acc H2 hf hs ha
 refine⟨fun i m ys σ H=>m=n - i/\i<=n/\∃ ps:List Addr,ys=ps.map V.ref/\zad7 H1 H acc ps i f/\Ps i σ,⟨n,by simp,zcd0 _,[],rfl,⟨hf,hs,ha,rfl,List.nodup_nil,by simp,fun i p e=>by simp at e⟩,h0⟩,?_⟩
 rintro i m ys σ H ⟨rfl,hi,ps,rfl,F,P⟩
 refine⟨F.out,by rw[zbz4,F.len];omega,?_⟩
 by_cases hlt:i<n
 ·refine .inr ⟨w.go i H F.same hlt,fun x H' y=>?_⟩
  obtain⟨s1,x1⟩:=w.yld i H x H' F.same hlt y
  refine turn i x σ H' (fun σ2 v H5=>cPut _ acc (ps.map V.ref) i (n - i) σ2 v H5) (fun σ2 H4=>zal6 _ (ps.map V.ref) i (n - i) σ2 H4) hlt (F.same.trans s1) x1 P ?_
  intro σ2 p H5 fp s5 hp P2
  have fp0:H p=none:=s1.free fp
  have s15:=s1.trans s5
  have na:p≠acc:=Ne.symm (za5 F.out fp0)
  unfold cPut
  refine⟨s15 _ _ F.out,fun H6 c6 h6=>⟨n - (i+1),by omega,rfl,hlt,ps++[p],by rw[zcb7];rfl,⟨F.facc,(F.same.trans s15).chg F.facc c6,by rw[zcb7];exact h6,by rw[zca8,F.len];rfl,?_,?_,?_⟩,P2⟩⟩
  ·rw[List.nodup_append]
   refine⟨F.nd,by simp,fun a ha b hb=>?_⟩
   have:b=p:=by simpa using hb
   subst this
   obtain⟨k,hk⟩:=zcd3 ha
   exact za5 (F.row k a hk).2 fp0
  ·intro hz
   rcases zcd8.mp hz with hz|hz
   ·exact F.nin hz
   ·exact na (by simpa using hz:acc=p).symm
  ·intro k q e
   by_cases hk:k<ps.length
   ·rw[zcc3 hk] at e
    obtain⟨z1,z2⟩:=F.row k q e
    exact⟨z1,c6 _ _ (fun z=>F.nin (z▸zca0 e)) (s15 _ _ z2)⟩
   ·rw[zcc0 (by omega)] at e
    have hk2:k - ps.length=0:=by
     have:=(zbz6.mp e).1
     simp at this;omega
    rw[hk2] at e
    have:p=q:=by simpa using e
    subst this
    have:k=i:=by have:=F.len;omega
    subst this
    exact⟨F.same.free fp0,c6 _ _ na hp⟩
 ·have e:i=n:=by omega
  subst e
  exact .inl ⟨w.stop H F.same,fin acc ps H F⟩
theorem zj1(w:Wk J n H1 X)(hn:n<sizeLine)(f:Nat->V)(p:Nat->Bool)(Ps:Nat->St->Prop)(h0:Ps 0 σ0)(turn:∀ i x σ H (R:St->V->Hp->Prop) (S:St->Hp->Prop),i<n->Same H1 H->X i x H->Ps i σ->(p i=true->∀ σ2 H5,Same H H5->Ps (i+1) σ2->R σ2 (f i) H5)->(p i=false->∀ σ2 H5,Same H H5->Ps (i+1) σ2->S σ2 H5) ->
   g x σ H fun σ2 H3=>tt σ2 H3 fun b H4=>br b (te σ2 H4 fun v H5=>R σ2 v H5) (S σ2 H4))(fin:∀ acc H,H1 acc=none->Same H1 H->H acc=some (.lst (((List.range n).filter p).map f))->Q (.ref acc) H):zx2 J g tt te σ0 H1 Q:=by
 unfold zx2
 intro acc H2 hf hs ha
 refine⟨fun i m ys σ H=>m=n - i/\i<=n/\ys=((List.range i).filter p).map f/\Same H1 H/\H acc=some (.lst ys)/\Ps i σ,⟨n,by simp,zcd0 _,rfl,hs,ha,h0⟩,?_⟩
 rintro i m ys σ H ⟨rfl,hi,rfl,s,hy,P⟩
 have hlen:(((List.range i).filter p).map f).length<=i:=by
  rw[zbz4]
  have:=List.length_filter_le p (List.range i)
  rwa [zce1] at this
 refine⟨hy,by omega,?_⟩
 by_cases hlt:i<n
 ·refine .inr ⟨w.go i H s hlt,fun x H' y=>?_⟩
  obtain⟨s1,x1⟩:=w.yld i H x H' s hlt y
  refine turn i x σ H' (fun σ2 v H5=>cPut _ acc _ i (n - i) σ2 v H5) (fun σ2 H4=>zal6 _ _ i (n - i) σ2 H4) hlt (s.trans s1) x1 P ?_ ?_
  ·intro hp σ2 H5 s5 P2
   unfold cPut
   refine⟨s5 _ _ (s1 _ _ hy),fun H6 c6 h6=>⟨n - (i+1),by omega,rfl,hlt,?_,((s.trans s1).trans s5).chg hf c6,h6,P2⟩⟩
   rw[List.range_succ,List.filter_append,zcb7]
   congr 1
   simp[hp]
  ·intro hp σ2 H5 s5 P2
   unfold zal6
   refine⟨n - (i+1),by omega,rfl,hlt,?_,(s.trans s1).trans s5,s5 _ _ (s1 _ _ hy),P2⟩
   rw[List.range_succ,List.filter_append,zcb7]
   simp[hp]
 ·have e:i=n:=by omega
  subst e
  exact .inl ⟨w.stop H s,fin acc H hf s hy⟩
theorem ze7(n:Nat):(List.range n).filter (fun _=>true)=List.range n:=by simp
end
def ChgS(ps:List Addr)(H H':Hp):Prop:=∀ b o,b ∉ ps->H b=some o->H' b=some o
theorem ChgS.refl(ps:List Addr)(H:Hp):ChgS ps H H:=fun _ _ _ e=>e
theorem ChgS.same(x:ChgS ps H H1)(y:Same H1 H2):ChgS ps H H2:=fun b o h e=>y b o (x b o h e)
theorem EqR.intL{K:zbz7}{a b:Addr}{xs ys:List Int}(ha:SqL K H a (xs.map V.int))(hb:SqL K H b (ys.map V.int)):EqR K H 1 (.ref a) (.ref b) (decide (xs=ys)):=by
 by_cases hl:xs.length=ys.length
 ·have h:=EqR.lst (K:=K) (H:=H) (n:=0) (fun j=>decide (xs[j]?=ys[j]?)) ha hb (by simpa using hl) (fun j x y hx hy=>by
   rw[zbz9] at hx hy
   obtain⟨i,e1,rfl⟩:=zca3.mp hx
   obtain⟨k,e2,rfl⟩:=zca3.mp hy
   have e:eqV (.int i) (.int k)=decide (xs[j]?=ys[j]?):=by
    rw[e1,e2]
    by_cases z:i=k
    ·subst z;simp[eqV]
    ·simp[eqV,z]
   rw[← e]
   exact EqR.flat rfl rfl)
  have e:(List.range (xs.map V.int).length).all (fun j=>decide (xs[j]?=ys[j]?))=decide (xs=ys):=by
   rw[Bool.eq_iff_iff,zcb2,decide_eq_true_iff]
   constructor
   ·intro q
    apply zch2
    intro j
    by_cases hj:j<xs.length
    ·exact of_decide_eq_true (q j (zce6.mpr (by simpa using hj)))
    ·rw[zcd4 (by omega),zcd4 (by omega)]
   ·rintro rfl j _
    exact decide_eq_true rfl
  rw[e] at h
  exact h
 ·have:decide (xs=ys)=false:=decide_eq_false fun e=>hl (by rw[e])
  rw[this]
  exact EqR.lstN ha hb (by simpa using hl)
def Itd(hi:Int)(n:Nat):It:=⟨fun i _=>i<n,fun i H x H'=>H'=H/\x=.int (hi - i),fun i _=>n<=i⟩
section
variable {X:Cx}{tg:Expr}
@[irreducible] def zbs4(i j:Int)(H:Hp)(R:It->Hp->Prop):Prop:=(-(2 ^ 62)<=i/\i<2 ^ 62/\-(2 ^ 62)<=j/\j<2 ^ 62)/\R (Itd i (i - j).toNat) H
def qiRngD(ta:TA):TI:=fun σ H R=>ta σ H fun vs H1=>match vs with
 | [.int i,.int j,.int (-1)]=>zbs4 i j H1 R
 | _=>False
end
section
variable {X:Cx}{K:zbz7}
@[irreducible] def rMinL(K:zbz7)(p:Addr)(H:Hp)(Q:VK):Prop:=∃ ns:List Int,SqL K H p (ns.map V.int)/\0<ns.length/\∀ M:Int,M∈ns->(∀ a∈ns,M<=a)->Q (.int M) H
def zbn9(K:zbz7):List V->Hp->VK->Prop:=fun xs H Q=>match xs with
 | [.ref p]=>rMinL K p H Q
 | [.int i,.int j]=>Q (.int (if j<i then j else i)) H
 | _=>False
theorem cMinK(hK:X.K=K)(hc:X.calm=true):zk4 X (.builtin "min") (zbn9 K):=by
 subst hK
 intro pins s σ H xs us Q I r h
 unfold zbn9 at h
 split at h
 ·unfold rMinL at h
  obtain⟨ns,h1,h2,h3⟩:=h
  obtain⟨u,rfl,rx⟩:=zab6 r
  cases rx
  obtain⟨its,r',pl,hz⟩:=I.list h1
  have hi:=zt6 r'
  obtain⟨ys,hx⟩:=hi.allInts.items
  have e1:ns=ys.toList.map (·.1):=by
   rw[← nums_intItems,← hx]
   exact (show numsOf its.toArray.toList=ns from hi.numsOf).symm
  have hs:0<ys.size:=by
   have z:ns.length=ys.size:=by
    conv=>lhs;rw[e1]
    rw[zbz4,zcc1]
   omega
  have hl':s.heap.IsList _ (intItems ys):=hx▸pl.isList
  refine min_intList (I.ok.hd hc) hl' hs fun v h' tk hv hk=>?_
  obtain⟨t,rfl⟩:=intItems_at hv
  have best:=argBest_lt (numAt ys) (ys.size - 1)
  refine⟨.int _,H,I.kept hk,⟨t,rfl⟩,h3 _ ?_ fun a ha=>?_⟩
  ·rw[e1,numAt_eq]
   exact getD_mem (by rw[zbz4,zcc1];omega)
  ·rw[e1] at ha
   obtain⟨j,hj,rfl⟩:=mem_getD ha
   rw[zbz4,zcc1] at hj
   rw[← numAt_eq]
   exact best.2 j (by omega)
 ·exact zbb9 hc pins s σ H _ us Q I r ⟨_,_,rfl,h⟩
 ·exact h.elim
theorem ptW{e:Expr}{t:TT}(h:PW X e t):PT X e t:=h.pt
end
def zbq9(o:Obj):Bool:=match o.data with
 | .cls cd=>cd.name=="NoText"
 | _=>false
def Chd(B:Heap)(cls:Value):Prop:=∃ (C:Addr) (o:Obj),cls=.ref C/\B.get? C=some o/\zbq9 o=true
def ExAt(B h:Heap)(e:Addr)(cls:Value)(dx:Option Addr):Prop:=
 ∃ (oe:Obj) (vs:Array Value),h.get? e=some oe/\oe.cls=cls/\oe.dict=dx/\oe.data=.fields vs/\1<vs.size /\
  (vs[1]?=some .none∨∃ (T:Addr) (oT:Obj) (ts:Array Value),vs[1]?=some (.ref T)/\B.get? T=none/\T≠e/\h.get? T=some oT/\oT.data=.fields ts/\3<ts.size/\ts[3]?=some .none)/\(vs[2]?=some .none∨Chd B cls)
def Th(h h':Heap):Prop:=∀ b o,h.get? b=some o->∃ o',h'.get? b=some o'
structure FlyX(B:Heap)(l:List Env)(e:Addr)(cls:Value)(dx:Option Addr)(h:Heap):Prop where
 stays:B.StaysIn h
 new:B.get? e=none
 frames:h.FunFrames B l
 ex:ExAt B h e cls dx
section
variable {M:Model}{A:Around}{E:Value->Shared->Prop}{s:Shared}{B:Heap}{env:Env}{outer:List Env}{L e:Addr}{cls:Value}{dx:Option Addr}{Q:Unit->Shared->Prop}
theorem zx9(f:Array Value->Array Value)(o:Obj):(Obj.mapFields f o).cls=o.cls/\(Obj.mapFields f o).dict=o.dict:=by
 obtain⟨c,d,dt,sl⟩:=o
 cases dt<;>exact⟨rfl,rfl⟩
theorem zal3{head:Value}{hn:Bool}{oe:Obj}{vs:Array Value}(hfr:A.frames=some (env :: outer))(hf:env.frame=some L)(f1:B.StaysIn s.heap)(f2:B.get? e=none)(f3:s.heap.FunFrames B (env :: outer))(he:s.heap.get? e=some oe)(hc:oe.cls=cls)(hdx:oe.dict=dx)(hd:oe.data=.fields vs)(hsz:1<vs.size)(h2c:vs[2]?=some .none∨Chd B cls)(hQ:∀ h',FlyX B (env :: outer) e cls dx h'->s.heap.UpToSlots h'->Th s.heap h'->Q () { s with heap:=h' }) :
  wpAny M A (do let a ← frameOf env;let pl ← entryPlaceOf L hn;let b ← EntryCells.newEntry head a .none (rawInt L) .none pl;setField (.ref e) 1 b) (fun _ s1=>wpAny M A (setFlight (.ref e) none) Q E s1) E s:=by
 have hene:e ∉ (env :: outer).filterMap (·.frame):=fun hm=>by
  obtain⟨_,o,ho,hnf⟩:=f3.mem hm
  rw[he] at ho
  cases ho
  exact hnf vs hd
 refine zci2 (wpAny_frameOf_fun hfr f3 hf fun g hg=>zci2 (wpAny_entryPlaceOf fun pl hpl=>?_))
 refine zci2 (wpAny_newObj_type ?_ (hpl.sizeOk5 _ _ _ _ _))
 have e1:g.get? e=some oe:=(hg.2.1 e hene).trans he
 have lt1:=zca7 e1
 generalize hO:({ cls:=.type "traceback",data:=.fields ([head,.ref L,.none,rawInt L,.none]++(if pl.isEmpty then List.replicate 6 Value.none else pl)).toArray }:Obj)=O
 have hOd:O.data=.fields ([head,.ref L,.none,rawInt L,.none]++(if pl.isEmpty then List.replicate 6 Value.none else pl)).toArray:=by rw[← hO]
 have hOz:3<([head,.ref L,.none,rawInt L,.none]++(if pl.isEmpty then List.replicate 6 Value.none else pl)).toArray.size:=by simp
 have hOf:O.isFreed=false:=by rw[← hO];rfl
 generalize ([head,.ref L,.none,rawInt L,.none]++(if pl.isEmpty then List.replicate 6 Value.none else pl)).toArray=ts at hOd hOz
 have e2:(g.push O).get? e=some oe:=zca1 _ e1
 have t2:(g.push O).get? g.objs.size=some O:=zcb8 _ hOf
 have nT:g.objs.size≠e:=zch4 lt1
 refine wpAny_setField e2 hd hsz ?_
 have d3:=Obj.data_mapFields hd (fun a=>a.setIfInBounds 1 (Value.ref g.objs.size))
 have e3:=zcf5 (Obj.mapFields fun a=>a.setIfInBounds 1 (Value.ref g.objs.size)) e2 (Obj.isFreed_of_fields d3)
 have t3:=(zcc5 (g.push O) (Obj.mapFields fun a=>a.setIfInBounds 1 (Value.ref g.objs.size)) (Ne.symm nT)).trans t2
 unfold setFlight
 refine zci2 (wpAny_field e3 d3 (x:=.ref g.objs.size) (by simp[hsz]) ?_)
 rw[if_pos (by simp)]
 refine wpAny_setField t3 hOd hOz (hQ _ ?_ ?_ ?_)
 ·have kp:∀ b o,b≠e->g.get? b=some o->(((g.push O).update e (Obj.mapFields fun a=>a.setIfInBounds 1 (Value.ref g.objs.size))).update g.objs.size (Obj.mapFields fun a=>a.setIfInBounds 3 Value.none)).get? b=some o:=fun b o hb hz=>by
   rw[zcc5 _ _ (zch4 (zca7 hz)),zcc5 _ _ (Ne.symm hb)]
   exact zca1 _ hz
  have d4:=Obj.data_mapFields hOd (fun a=>a.setIfInBounds 3 Value.none)
  have t4:=zcf5 (Obj.mapFields fun a=>a.setIfInBounds 3 Value.none) t3 (Obj.isFreed_of_fields d4)
  have e4:=(zcc5 ((g.push O).update e (Obj.mapFields fun a=>a.setIfInBounds 1 (Value.ref g.objs.size))) (Obj.mapFields fun a=>a.setIfInBounds 3 Value.none) nT).trans e3
  have pf:=zx9 (fun a=>a.setIfInBounds 1 (Value.ref g.objs.size)) oe
  refine⟨fun b o hb=>kp b o (fun z=>by rw[z,f2] at hb;cases hb) ((hg.2.1 b fun hm=>by rw[(f3.mem hm).1] at hb;cases hb).trans (f1 b o hb)),f2,f3.of_keeps fun b o hb hnf=>?_,_,_,e4,pf.1.trans hc,pf.2.trans hdx,d3,by simpa using hsz,.inr ⟨_,_,_,by simp[hsz],?_,nT,t4,d4,by simpa using hOz,by simp[hOz]⟩,h2c.imp (fun z=>by rw[Array.getElem?_setIfInBounds_ne (by decide)];exact z) id⟩
  ·obtain⟨sl,hs⟩:=hg.2.2 b o hb
   refine⟨_,kp b _ (fun z=>?_) hs,rfl⟩
   rw[z,he] at hb
   cases hb
   exact hnf vs hd
  ·cases q:B.get? g.objs.size with
   | none=>rfl
   | some o=>
    have z1:=f1 _ _ q
    have z2:=(hg.2.1 _ fun hm=>by rw[(f3.mem hm).1] at q;cases q).trans z1
    exact absurd (zca7 z2) (zce8 _)
 ·intro b o hb hnf
  obtain⟨sl,hs⟩:=hg.2.2 b o hb
  refine⟨sl,?_⟩
  rw[zcc5 _ _ (zch4 (zca7 hs)),zcc5 _ _ (fun z=>?_)]
  ·exact zca1 _ hs
  ·rw[← z,he] at hb
   cases hb
   exact hnf vs hd
 ·intro b o hb
  by_cases hbe:b=e
  ·subst hbe
   exact⟨_,(zcc5 _ _ nT).trans e3⟩
  ·obtain⟨sl,hs⟩:=hg.2.2 b o hb
   refine⟨{ o with slots:=sl },?_⟩
   rw[zcc5 _ _ (zch4 (zca7 hs)),zcc5 _ _ (Ne.symm hbe)]
   exact zca1 _ hs
theorem zbl0(hfr:A.frames=some (env :: outer))(hf:env.frame=some L)(F:FlyX B (env :: outer) e cls dx s.heap)(hQ:∀ h',FlyX B (env :: outer) e cls dx h'->s.heap.UpToSlots h'->Th s.heap h'->Q () { s with heap:=h' }):wpAny M A (noteFrame (.ref e) env) (fun _ s1=>wpAny M A (setFlight (.ref e) none) Q E s1) E s:=by
 obtain⟨f1,f2,f3,oe,vs,he,hc,hdx,hd,hsz,hT,h2c⟩:=F
 unfold noteFrame
 rw[hf]
 rcases hT with h1|⟨T,oT,ts,h1,bT,nT,gT,dT,zT,vT⟩
 ·refine zci2 (wpAny_field he hd h1 ?_)
  dsimp only
  rw[if_neg (by simp)]
  exact zal3 hfr hf f1 f2 f3 he hc hdx hd hsz h2c hQ
 ·refine zci2 (wpAny_field he hd h1 ?_)
  dsimp only
  rw[if_pos (by simp)]
  refine zci2 (wpAny_field gT dT vT ?_)
  rw[if_neg (by simp[rawInt])]
  refine zci2 (wpAny_setField gT dT zT ?_)
  have ne:∀ b o,s.heap.get? b=some o->(∀ vs,o.data≠.fields vs)->b≠T:=fun b o hb hnf z=>by
   rw[z,gT] at hb
   cases hb
   exact hnf ts dT
  have kp:∀ b o,b≠T->s.heap.get? b=some o->(s.heap.update T (Obj.mapFields fun a=>a.setIfInBounds 3 Value.none)).get? b=some o:=fun b o hb hz=>by
   rw[zcc5 _ _ (Ne.symm hb)];exact hz
  refine zal3 (s:={ s with heap:=s.heap.update T (Obj.mapFields fun a=>a.setIfInBounds 3 Value.none) }) hfr hf (fun b o hb=>kp b o (fun z=>by rw[z,bT] at hb;cases hb) (f1 b o hb)) f2 (f3.of_keeps fun b o hb hnf=>⟨o,kp b o (ne b o hb hnf) hb,rfl⟩)
   (kp e oe (Ne.symm nT) he) hc hdx hd hsz h2c fun h' F' U W=>hQ h' F' (fun b o hb hnf=>U b o (kp b o (ne b o hb hnf) hb) hnf) fun b o hb=>?_
  by_cases hbT:b=T
  ·subst hbT
   exact W b _ (zcf5 (Obj.mapFields fun a=>a.setIfInBounds 3 Value.none) gT (Obj.isFreed_of_fields (Obj.data_mapFields dT _)))
  ·exact W b o (kp b o hbT hb)
theorem zay0(hfr:A.frames=some (env :: outer))(hf:env.frame=some L)(F:FlyX B (env :: outer) e cls dx s.heap)(hQ:∀ h',FlyX B outer e cls dx h'->s.heap.UpToSlots h'->Th s.heap h'->Q () { s with heap:=h' }):wpAny M A (leaving env (.ref e)) Q E s:=by
 unfold leaving
 exact zci2 (zbl0 hfr hf F fun h' F' U W=>hQ h' ⟨F'.stays,F'.new,F'.frames.2.2,F'.ex⟩ U W)
end
structure zar0(X:Cx)(pins:List (Addr×Obj))(σ:St)(H:Hp)(B:Heap)(e:Addr)(cls:Value)(dx:Option Addr)(s:Shared):Prop where
 inv:Inv X pins σ H s
 hok:HOk X.prog X.w H B
 fly:FlyX B X.stack e cls dx s.heap
 kb:∀ b o,X.s₀.heap.get? b=some o->X.H₀ b=none->b ∉ X.fs->b ∉ X.ex->B.get? b=some o
 en:∀ o,X.s₀.heap.get? e=some o->e∈X.ex
def CXR(P:Program)(w:World):CXT:=fun outer H s E e s'=>∃ (ea:Addr) (cls:Value) (dx:Option Addr) (H':Hp) (B:Heap),e=.ref ea/\s'.os=s.os/\AllBare s'.gens/\HOk P w H' B/\FlyX B outer ea cls dx s'.heap /\
 Un (frs outer) [] H H' s.heap s'.heap/\(∀ b o,s.heap.get? b=some o->H b=none->b ∉ frs outer->B.get? b=some o)/\(∀ o,s.heap.get? ea≠some o)/\E cls dx H'
section
variable {X:Cx}{pins:List (Addr×Obj)}{σ:St}{H:Hp}{s s':Shared}
theorem zaj1(I:Inv X pins σ H s){b:Addr}{o:Obj}(e:X.s₀.heap.get? b=some o)(h:b ∉ X.fs):b ∉ frs X.stack:=fun hm=>by
 rcases zca6.mp (I.stkSub b hm) with z|z
 ·exact absurd (zcb5 (zca7 e) I.ok.above) (by rw[z];exact zce8 _)
 ·exact h z
theorem zar0.of_call{E:XK}{e:Value}(I:Inv X pins σ H s)(h:CXR X.prog X.w X.stack H s E e s'):∃ (ea:Addr) (cls:Value) (dx:Option Addr) (H':Hp) (B:Heap),e=.ref ea/\zar0 X pins σ H' B ea cls dx s'/\E cls dx H':=by
 obtain⟨ea,cls,dx,H',B,rfl,os,bare,hok,fly,un,kb,en,hE⟩:=h
 refine⟨ea,cls,dx,H',B,rfl,⟨I.call' os un (hok.kept fly.stays) bare (fun b hb=>absurd hb (by simp)),hok,fly,fun b o e n h1 h2=>?_,fun o e=>?_⟩,hE⟩
 ·have k:=I.base.keep b o e n h1 h2
  exact kb b o k (I.base.free b o e n h2) (zaj1 I e h1)
 ·apply Classical.byContradiction
  intro hx
  obtain⟨o',k⟩:=I.base.there ea o e hx
  exact en o' k
theorem zar0.of_raise{e:Addr}{cls:Value}{args:List Value}{h':Heap}{t':Nat}(I:Inv X pins σ H s)(m:Heap.MadeExcOf s.heap h' e cls args):zar0 X pins σ H (PySem.W.hideAll s.heap (frs X.stack)) e cls none { s with heap:=h',toks:=t' }:=by
 have nofr:∀ b o,H b=some o->b ∉ frs X.stack:=fun b o hb hm=>by rw[I.stkFree b hm] at hb;cases hb
 refine⟨I.kept m.keeps,fun a o ha=>?_,⟨fun b o hb=>m.keeps _ _ (PySem.W.of_hideAll _ hb),?_,?_,?_⟩,fun b o e n h1 h2=>?_,fun o hz=>?_⟩
 ·refine (I.hok a o ha).stay (fun b u hb hu=>PySem.W.hideAll_get _ hu ?_) (fun _ q=>q) fun _ _ q=>q
  rcases hb with rfl|hb
  ·exact nofr _ _ ha
  ·exact nofr _ _ hb
 ·cases q:(PySem.W.hideAll s.heap (frs X.stack)).get? e with
  | none=>rfl
  | some o=>
   have:=PySem.W.of_hideAll _ q
   rw[m.new] at this
   cases this
 ·refine Heap.FunFrames.of_keeps (fun b o hb _=>⟨o,m.keeps b o hb,rfl⟩) (PySem.W.funFrames_hide I.stack fun env he a hf=>?_)
  exact List.mem_filterMap.mpr ⟨env,he,hf⟩
 ·obtain⟨t,h1,_,_⟩:=m.there
  exact⟨_,_,h1,rfl,rfl,rfl,by simp,.inl rfl,.inl rfl⟩
 ·exact PySem.W.hideAll_get _ (I.base.keep b o e n h1 h2) (zaj1 I e h1)
 ·apply Classical.byContradiction
  intro hx
  obtain⟨o',k⟩:=I.base.there _ o hz hx
  rw[m.new] at k
  cases k
def XOut(X:Cx)(E:XK):Prop:=∀ (pins:List (Addr×Obj)) (σ:St) (H:Hp) (B:Heap) (e:Addr) (cls:Value) (dx:Option Addr) (s:Shared),zar0 X pins σ H B e cls dx s->E cls dx H->X.xe (.ref e) s
theorem zba0{E:XK}(hx:XOut X E):zad6 (CXR X.prog X.w) X E:=fun pins σ H s e s' I h=>by
 obtain⟨ea,cls,dx,H',B,rfl,F,hE⟩:=zar0.of_call I h
 exact hx _ _ _ _ _ _ _ _ F hE
theorem zad3{P:Program}{w:World}:zad6 (CXR P w) X E0:=fun _ _ _ _ _ _ _ h=>by
 obtain⟨_,_,_,_,_,_,_,_,_,_,_,_,_,h⟩:=h
 exact (show False from h).elim
end
theorem xout{P:Program}{w:World}{K:zbz7}{mg:Str->Option Value}{base:Heap}{N:List Str}{cd:Value}{A:Around}{outer:List Env}{s:Shared}{E:XK} :
  XOut (cxOf (CXR P w) P w K mg base N qual scope f cd A outer s H E) E:=fun pins σ H' B e cls dx s' F hE=>by
 have I:=F.inv
 refine zay0 (outer:=outer) I.ok.frames (rfl:(envOfC qual scope s.heap.objs.size f cd).frame=some s.heap.objs.size) F.fly fun h' F' U W=>?_
 have kb:∀ b o,s.heap.get? b=some o->H b=none->b ∉ frs outer->B.get? b=some o:=fun b o e n h1=>F.kb b o e n h1 (by exact zce4)
 refine⟨e,cls,dx,H',B,rfl,I.os,I.bare,F.hok,F',?_,kb,fun o z=>absurd (F.en o z) (by exact zce4),hE⟩
 have un:Un (frs outer) [] H H' s.heap s'.heap:=I.base
 refine⟨fun b o e n h1 _=>F'.stays _ _ (kb b o e n h1),fun b o e n h1 h2=>?_,un.free,fun b o e h2=>?_,un.tups,un.frzs,un.tbls⟩
 ·obtain⟨sl,k⟩:=un.slot b o e n h1 h2
  obtain⟨_,o2,ho2,hd⟩:=I.ok.funs.mem h1
  have:o2=o:=Option.some.inj (ho2.symm.trans e)
  subst this
  obtain⟨sl',k'⟩:=U b _ k hd
  exact⟨sl',k'⟩
 ·obtain⟨o',k⟩:=un.there b o e h2
  exact W b o' k
section
variable {X:Cx}{x:Str}{C:Addr}{bm:List Value}{B newId initId:String}{np cpos pos:Pos}{e₀:Expr}{rest:List Expr}{t:TA}{E:XK}
def qRaise(C:Addr)(E:XK)(t:TA):TS:=fun _ σ H=>t σ H fun vs H1=>vs.length<=sizeLine/\E (.ref C) none H1
theorem zap1(O:OwnCls x C bm newId X.mg X.base)(FB:ExcBaseFacts B newId initId bm)(hc:X.calm=true)(hout:XOut X E)(ha:PA X (e₀ :: rest) t)(hg:Gl X x:=by rfl)(hd:(x==("__debug__":Str))=false:=by decide)(he:starEach (e₀ :: rest) X.env=(false,eval e₀ X.env) :: starEach rest X.env:=by rfl)(hpl:(backTo cpos (starEach rest X.env)).any (·.1)=false:=by rfl) :
  PS X (.Raise (some (.Call (.Name x np) (e₀ :: rest) [] cpos)) none pos) (qRaise C E t):=by
 intro pins s σ H D I h
 obtain⟨tl,N,nm,q,bs,hdct,sn,sub,ab,col,dd,k0,k1,k2,k3,k5,mN,hC,hN,hni,T⟩:=O.obj
 refine wpAny_Raise_call_subT (C:=C) (nm:=nm) (q:=q) (N:=N) (bs:=bs) (bm:=tl) (hdct:=hdct) (sn:=sn) (sub:=sub) (ab:=ab) (col:=col) (dd:=dd) (k0:=k0) (k1:=k1) (k2:=k2) (k3:=k3) (k5:=k5) FB (mN:=mN)
  (T.hasType FB.hasBase) (I.ok.hd hc) (by rw[he];show (false || (backTo cpos (starEach rest X.env)).any (·.1))=false;rw[hpl];rfl) hni (zaq6 I hg O.bound ⟨rfl,?_⟩ hd)
 have hA:=ha cpos pins s σ H _ I h
 rw[he] at hA ⊢
 refine Calls.evalArgs_plain (thn hA fun us s2 ⟨vs,H1,I1,r,hz,q⟩=>⟨rfl,by rw[← r.length];exact hz,I1.bk _ _ hC,hN.keeps I1.bk,T.keeps I1.bk,fun h' e m=>?_⟩)
 exact hout _ _ _ _ _ _ _ _ (zar0.of_raise (t':=s2.toks) I1 m) q
end
section
variable {P:Program}{w:World}{K:zbz7}{mg:Str->Option Value}{base:Heap}
theorem Fun.okR{x:Str}{fd:FuncData}{N ps:List Str}{k:Nat}{sp:Sp}(F:Fun K x qual st f fd)(S:za9 N ps (za4 st))(len:∀ vs H Q E,sp vs H Q E->vs.length=ps.length)(hbody:∀ (cdv:Value) (A:Around) (outer:List Env) (s:Shared) (H:Hp) (vs:List V) (Q:VK) (E:XK),Room k (A.deeper (envOfC qual (za4 st) s.heap.objs.size f cdv))->XOut (cxOf (CXR P w) P w K mg base N qual (za4 st) f cdv A outer s H E) E->sp vs H Q E ->
   ∃ t,PSs (cxOf (CXR P w) P w K mg base N qual (za4 st) f cdv A outer s H E) (zh4 st) t/\t { nx:=fun _ H'=>Q .non H',rt:=Q } (zac0 N vs) H):FnOk P w K mg base (CXR P w) (k+1) f fd ps sp:=by
 obtain⟨oc,od,kV,doc,pm,an,cdv,ct,osl,rfl,lk,hcd⟩:=F.ex
 refine fn_of lk hcd S len fun A outer s H vs Q E hr hsp=>?_
 exact hbody cdv A outer s H vs Q E hr xout hsp
end
set_option maxHeartbeats 4000000
structure ExcK(K:zbz7)(D:Addr):Prop where
 h1:zce3 K (.ref D) "__getattribute__"=some (some (.builtin "BaseException.__getattribute__"))
 h2:zce3 K (.ref D) "__getattr__"=some none
 h3:zce3 K (.ref D) "__class__"=some (some (.builtin "object.__class__"))
 h4:zcc7 K (.ref D) (.type "BaseException")=some true
 h5:PySem.W.mroIn K D (.type "object")=some true
def ExcIs(e:Addr)(cls:Value)(dx:Option Addr)(h:Heap):Prop:=∃ (oe:Obj) (vs:Array Value),h.get? e=some oe/\oe.cls=cls/\oe.dict=dx/\oe.data=.fields vs
abbrev excO(ea:Addr)(cls:Value)(dx:Option Addr):HO:=.ext (ExcIs ea cls dx)
section
variable {X:Cx}{pins:List (Addr×Obj)}{σ:St}{H:Hp}{s:Shared}
theorem zf3.ex{P:Program}{w:World}{h:Heap}{a:Addr}(x:zf3 P w H h a o):∃ u,h.get? a=some u:=by
 cases o with
 | lst xs=>obtain⟨_,_,_,_,e⟩:=x;exact⟨_,e⟩
 | tup xs=>obtain⟨_,_,_,ob,e,_⟩:=x;exact⟨ob,e⟩
 | dK kvs=>obtain⟨_,_,_,_,ob,_,_,e,_⟩:=x;exact⟨ob,e⟩
 | dT kvs=>obtain⟨_,_,_,_,ob,_,_,e,_⟩:=x;exact⟨ob,e⟩
 | set S n=>obtain⟨ob,_,_,_,e,_⟩:=x;exact⟨ob,e⟩
 | ins C dx fs=>obtain⟨_,_,_,e,_⟩:=x;exact⟨_,e⟩
 | own y=>exact x
 | xd fs=>obtain⟨_,⟨ob,_,_,e,_⟩,_⟩:=x;exact⟨ob,e⟩
 | rng lo hi=>obtain⟨_,_,_,e⟩:=x;exact⟨_,e⟩
 | frz ob u=>obtain⟨e,_⟩:=x;exact⟨_,e⟩
 | tbl ps=>exact⟨_,(show h.get? a=some _ from x)⟩
 | met f y=>exact⟨_,(show h.get? a=some _ from x)⟩
 | ext φ=>obtain⟨_,e,_⟩:=x;exact e
end
section
open PySem.W
theorem zah3{K:Frag}{h:Heap}{mg:Str->Option Value}{x:Str}{bmB:List Value}{newId:String}(X:K.In h)(G:h.Ns zci8 mg)(e:nsIn K zci8 x=some (some (.ref C)))(q:excIn K C bmB newId=true):OwnCls x C bmB newId mg h:=by
 have bd:=mg_of X G e
 unfold excIn at q
 split at q
 case h_2=>cases q
 rename_i dd cd sl ho
 split at q
 case h_2=>cases q
 rename_i C1 bm k0 k1 k2 k3 n k5 hm hs
 simp only[zca5,beq_iff_eq,Bool.not_eq_true'] at q
 obtain⟨⟨⟨⟨⟨q1,q2⟩,q3⟩,q4⟩,q5⟩,q6⟩:=q
 have z:sl=#[k0,k1,k2,k3,some (.builtin n),k5]:=by
  cases sl with
  | mk l=>rw[show l=[k0,k1,k2,k3,some (.builtin n),k5] from hs]
 cases cd with
 | mk nm bs mro ns qn hd sn sub ab col del=>
  have hm:mro=.ref C1 :: bm:=hm
  have q3:del=false:=q3
  subst q1 q2 z hm q3
  exact⟨bd,bm,ns,nm,qn,bs,hd,sn,sub,ab,col,dd,k0,k1,k2,k3,k5,_,X _ _ ho,.of_isNs (isNs_of_in X q5),nsMap_none_of_in X q5 q6,tail_of_in X q4⟩
theorem zv7{K:Frag}{t:Value}{cd:ClassData}{b:Bool}(h1:clsIn K C=some cd)(h2:typeIn K (.ref C)=some (.type "type"))(h3:subIn K t (.ref C)=some b):kitCls K t (.ref C)=some b:=by
 unfold kitCls
 dsimp only
 rw[h1,h2,if_pos (by simp)]
 exact h3
theorem zi8{K:Frag}{t:Value}{cd:ClassData}{b:Bool}(h1:clsIn K C=some cd)(h2:typeIn K (.ref C)=some (.type "type"))(h3:subIn K t (.ref C)=some b)(h4:subIn K t t=some true):kitOne K t (.ref C)=some b:=by
 unfold kitOne
 split
 ·rename_i z
  have z:t=.ref C:=by simpa using z
  subst z
  rw[h3] at h4
  exact h4.symm
 ·exact zv7 h1 h2 h3
theorem zw7{K:Frag}{cd:ClassData}{b:Bool}(h1:clsIn K C=some cd)(h2:typeIn K (.ref C)=some (.type "type"))(h3:subIn K (.type "NoneType") (.ref C)=some b):kitOne K (.type "NoneType") (.ref C)=some b:=by
 unfold kitOne
 rw[if_neg (by simp)]
 exact zv7 h1 h2 h3
theorem zk8{K:Frag}{D:Addr}{b:Bool}(h:subIn K (.ref D) (.type "ValueError")=some b):kitOne K (.ref D) (.type "ValueError")=some b:=by
 unfold kitOne kitCls
 rw[if_neg (by simp)]
 dsimp only
 rw[if_pos (by decide +kernel)]
 exact h
theorem zao3{K:Frag}{t:Value}{cd:ClassData}{b:Bool}(h0:subIn K (.ref C) (.type "BaseException")=some true)(h1:clsIn K C=some cd)(h2:typeIn K (.ref C)=some (.type "type"))(h3:subIn K t (.ref C)=some b):exmOne K t (.ref C)=some b:=by
 unfold exmOne
 rw[if_pos (by rw[h0];simp)]
 exact zv7 h1 h2 h3
end
theorem PS.nox'{X:Cx}{t:TS}(h:PS X.nox st t):PS X st t:=fun pins s σ H D I hw=>
 wpAny_mono (h pins s σ H D (I.wish _) hw) (fun f s' q=>SP.unwish q) fun _ _ z=>(show False from z).elim
abbrev bmV:List Value:=[.type "ValueError",.type "Exception",.type "BaseException",.type "object"]
abbrev newV:String:="ValueError.__new__"
set_option maxHeartbeats 1000000
set_option maxHeartbeats 2000000
def Itz(K:zbz7)(a b:Addr):It:=
 ⟨fun i H=>∃ xs ys x y,SqL K H a xs/\SqL K H b ys/\xs[i]?=some x/\ys[i]?=some y,
  fun i H v H'=>∃ p x y,v=.ref p/\H p=none/\Same H H'/\H' p=some (.tup [x,y])/\(∀ xs,SqL K H a xs->xs[i]?=some x)/\∀ ys,SqL K H b ys->ys[i]?=some y,
  fun i H=>∃ xs ys,SqL K H a xs/\SqL K H b ys/\(xs.length<=i∨ys.length<=i)⟩
theorem zbk4{P:Program}{w:World}{K:zbz7}{elts:List Expr}{k:Nat}{pos:Pos}(l1 l2 z TI TO i1 i2:Addr)(D:ZipApart z TI TO i1 i2 l1 l2) :
  Turn P w K (.Tuple elts k pos) (Itz K l1 l2) [z,TI,TO,i1,i2] z (fun i h=>IsZip h z TI TO .none/\IsPair h TI (.ref i1) (.ref i2)/\(∃ a b,IsPair h TO a b)/\h.IsListIter i1 l1 i/\h.IsListIter i2 l2 i) where
 mem:=by simp
 obj:=fun i h st b hb=>by
  obtain⟨hz,hTI,⟨a,b',hTO⟩,⟨o1,e1,c1,d1⟩,⟨o2,e2,c2,d2⟩⟩:=st
  simp only[zca6,zce4,or_false] at hb
  rcases hb with rfl|rfl|rfl|rfl|rfl
  ·exact⟨_,hz,fun v z=>by cases z⟩
  ·exact⟨_,hTI,fun v z=>by cases z⟩
  ·exact⟨_,hTO,fun v z=>by cases z⟩
  ·exact⟨o1,e1,fun v z=>by rw[d1] at z;cases z⟩
  ·exact⟨o2,e2,fun v z=>by rw[d2] at z;cases z⟩
 keep:=fun i h h' st kp=>by
  obtain⟨hz,hTI,⟨a,b',hTO⟩,h1,h2⟩:=st
  exact⟨kp z (by simp) _ hz,kp TI (by simp) _ hTI,⟨a,b',kp TO (by simp) _ hTO⟩,h1.at fun o x=>kp i1 (by simp) o x,h2.at fun o x=>kp i2 (by simp) o x⟩
 item:=by
  intro X hP hw hK hc i pins s σ H E I hf st hg
  subst hP hw hK
  obtain⟨hz,hTI,⟨a0,b0,hTO⟩,h1,h2⟩:=st
  obtain⟨xs,ys,x,y,hq1,hq2,hx,hy⟩:=hg
  obtain⟨its1,rv1,p1,_⟩:=I.list hq1
  obtain⟨its2,rv2,p2,_⟩:=I.list hq2
  obtain⟨u,hu,ru⟩:=rv1.get hx
  obtain⟨v,hv,rv⟩:=rv2.get hy
  have hzl:z<s.heap.objs.size:=zca7 hz
  refine wpAny_pyNext_zip_item D hz hTI hTO h1 h2 p1.isList p2.isList (x:=u) (y:=v) (by simpa using hu) (by simpa using hv) fun h3 z3 TO3 j1 j2 T3 sz3 kp3=>?_
  refine⟨_,rfl,wpAny_letOwnedTupleGo_zip z3 fun h4 z4 hs4=>?_⟩
  replace hs4:Heap.SameBut z h3 h4:=hs4
  have kp:∀ b o,b ∉ [z,TI,TO,i1,i2]->s.heap.get? b=some o->h4.get? b=some o:=fun b o hb x=>by
   simp only[zca6,zce4,or_false,not_or] at hb
   obtain⟨b1,b2,b3,b4,b5⟩:=hb
   exact (hs4.2 b b1).trans (kp3 b o b1 b3 b4 b5 x)
  have ht4:h4.get? s.heap.objs.size=some { cls:=.type "tuple",data:=.seq #[u,v] }:=(hs4.2 _ (zch4 hzl)).trans T3
  have hfr:H s.heap.objs.size=none:=I.fresh
  have nof:∀ b v,H b=some v->b ∉ [z,TI,TO,i1,i2]:=fun b v hb m=>by
   have:=(hf b m).1
   rw[this] at hb
   cases hb
  have nlt:∀ b o,s.heap.get? b=some o->b≠s.heap.objs.size:=fun b o x=>zcc9 (zca7 x)
  have hok:HOk X.prog X.w (upd H s.heap.objs.size (.tup [x,y])) h4:=fun b v' hb=>by
   by_cases e1:b=s.heap.objs.size
   ·subst e1
    rw[zb1] at hb
    cases hb
    exact⟨by show 2<=sizeLine;decide,[u,v],.cons ru (.cons rv .nil),⟨_,ht4,rfl,_,rfl⟩⟩
   ·rw[zb3 e1] at hb
    refine (I.hok b v' hb).stay (fun c w' hc q=>?_) (fun c q=>?_) (fun c ys q=>?_)
    ·rcases hc with rfl|hc
     ·exact kp _ _ (nof _ _ hb) q
     ·exact kp _ _ (nof _ _ hc) q
    ·rw[zb3 (za5 q hfr)];exact q
    ·rw[zb3 (za5 q hfr)];exact q
  have chs:∀ b∈[z,TI,TO,i1,i2],(b∈X.ex∨X.s₀.heap.objs.size<=b)/\b≠X.env.locals/\(∀ x c,X.env.cells.lookup x=some c->c≠b)/\∀ p∈X.pn++pins,p.1≠b:=fun b hb=>by
   obtain⟨f0,f1,f2,f3,f4,f5⟩:=hf b hb
   exact⟨f3,f1,f4,f5⟩
  have I2:Inv X pins σ (upd H s.heap.objs.size (.tup [x,y])) { s with heap:=h4 }:=
   I.step (g':=s.gens) (d':=s.drawn) (t':=s.toks) (ch:=[z,TI,TO,i1,i2]) chs (fun b o _ _ hb x _=>kp b o hb x) (fun b o _ _ hb x _=>⟨o.slots,kp b o hb x⟩)
    (fun b o _ x n=>by rw[zb3 (nlt b o x)];exact n) (fun b o hb x=>⟨o,kp b o hb x⟩) (fun b ys q=>by rw[zb3 (za5 q hfr)];exact q) (fun b o v q=>by rw[zb3 (za5 q hfr)];exact q)
    (fun b ps q=>⟨#[],by rw[zb3 (za5 q hfr),q];simp⟩)
    (fun m hm=>by
     obtain⟨o,es,ep,ho,r⟩:=hm
     exact⟨o,es,ep,kp _ o (fun m=>(chs _ m).2.1 rfl) ho,r⟩) hok I.bare
  refine⟨.ref s.heap.objs.size,_,I2,rfl,⟨_,x,y,rfl,hfr,Same.upd hfr,zb1,fun ys hy'=>by rw[I.list_inj hy' hq1];exact hx,fun ys hy'=>by rw[I.list_inj hy' hq2];exact hy⟩,⟨z4,?_,⟨u,v,?_⟩,?_,?_⟩,fun b hb=>?_⟩
  ·exact (hs4.2 _ D.TIz).trans (kp3 _ _ D.TIz D.TITO D.TIi1 D.TIi2 hTI)
  ·exact (hs4.2 _ D.TOz).trans TO3
  ·exact j1.extBut hs4.extBut D.i1z
  ·exact j2.extBut hs4.extBut D.i2z
  ·have hb0:H b=none:=(hf b hb).1
   have hlt:b≠s.heap.objs.size:=by
    simp only[zca6,zce4,or_false] at hb
    rcases hb with rfl|rfl|rfl|rfl|rfl
    ·exact nlt _ _ hz
    ·exact nlt _ _ hTI
    ·exact nlt _ _ hTO
    ·obtain⟨o,ho,_⟩:=h1;exact nlt _ _ ho
    ·obtain⟨o,ho,_⟩:=h2;exact nlt _ _ ho
   rw[zb3 hlt];exact hb0
 done:=by
  intro X hP hw hK hc i pins s σ H E I hf st hg
  subst hP hw hK
  obtain⟨hz,hTI,⟨a0,b0,hTO⟩,h1,h2⟩:=st
  obtain⟨xs,ys,hq1,hq2,hx⟩:=hg
  obtain⟨its1,rv1,p1,_⟩:=I.list hq1
  obtain⟨its2,rv2,p2,_⟩:=I.list hq2
  have hl1:=rv1.length
  have hl2:=rv2.length
  have nof:∀ b v,H b=some v->b ∉ [z,TI,TO,i1,i2]:=fun b v hb m=>by
   have:=(hf b m).1
   rw[this] at hb
   cases hb
  have chs:∀ b∈[z,TI,TO,i1,i2],(b∈X.ex∨X.s₀.heap.objs.size<=b)/\b≠X.env.locals/\(∀ x c,X.env.cells.lookup x=some c->c≠b)/\∀ p∈X.pn++pins,p.1≠b:=fun b hb=>by
   obtain⟨f0,f1,f2,f3,f4,f5⟩:=hf b hb
   exact⟨f3,f1,f4,f5⟩
  refine wpAny_pyNext_zip_end (I.ok.hd hc) D hz hTI hTO h1 h2 p1.isList p2.isList ?_ fun h' kp3=>⟨rfl,?_⟩
  ·rcases hx with hx|hx
   ·exact .inl (by simp;omega)
   ·exact .inr (by simp;omega)
  ·have kp:∀ b o,b ∉ [z,TI,TO,i1,i2]->s.heap.get? b=some o->h'.get? b=some o:=fun b o hb x=>by
    simp only[zca6,zce4,or_false,not_or] at hb
    obtain⟨b1,b2,b3,b4,b5⟩:=hb
    exact kp3 b o b1 b3 b4 b5 x
   have hok:HOk X.prog X.w H h':=fun b v' hb=>by
    refine (I.hok b v' hb).stay (fun c w' hc q=>?_) (fun c q=>q) (fun c ys q=>q)
    rcases hc with rfl|hc
    ·exact kp _ _ (nof _ _ hb) q
    ·exact kp _ _ (nof _ _ hc) q
   exact I.step (g':=s.gens) (d':=s.drawn) (t':=s.toks) (ch:=[z,TI,TO,i1,i2]) chs (fun b o _ _ hb x _=>kp b o hb x) (fun b o _ _ hb x _=>⟨o.slots,kp b o hb x⟩)
    (fun b o _ x n=>n) (fun b o hb x=>⟨o,kp b o hb x⟩) (fun b ys q=>q) (fun b o v q=>q)
    (fun b ps q=>⟨#[],by rw[q];simp⟩)
    (fun m hm=>by
     obtain⟨o,es,ep,ho,r⟩:=hm
     exact⟨o,es,ep,kp _ o (fun m=>(chs _ m).2.1 rfl) ho,r⟩) hok I.bare
 self:=fun _ _ _ _ _ st h=>wpAny_pyIter_zip st.1 h
section
variable {X:Cx}{K:zbz7}
theorem bt_zip:bootBuiltins "zip"=some (.type "zip"):=by decide +kernel
@[irreducible] def rZip(K:zbz7)(a b:Addr)(H:Hp)(R:It->Hp->Prop):Prop:=(∃ xs,SqL K H a xs)/\(∃ ys,SqL K H b ys)/\R (Itz K a b) H
def qiZip(K:zbz7)(ta:TA):TI:=fun σ H R=>ta σ H fun vs H1=>match vs with
 | [.ref a,.ref b]=>rZip K a b H1 R
 | _=>False
theorem zbo1{elts:List Expr}{k:Nat}{pt:Pos}{a b:Expr}{ta:TA}{p pos:Pos}(hK:X.K=K)(hm:X.mg "zip"=none)(ha:PA X [a,b] ta)(hg:Gl X "zip":=by rfl)(hs:starEach [a,b] X.env=(false,eval a X.env) :: starEach [b] X.env:=by rfl)(hpl:(backTo pos (starEach [b] X.env)).any (·.1)=false:=by rfl) :
  PI X (.Tuple elts k pt) (.Call (.Name "zip" p) [a,b] [] pos) (qiZip K ta):=by
 subst hK
 intro pins s σ H R I h
 refine Call_ (zac9 I hg hm bt_zip (PyProof.Rows.callWith_type1 (thn (ha pos pins s σ H _ I h) fun us s1 ⟨vs,H1,I1,r1,q1⟩=>?_) hs hpl))
 dsimp only at q1
 split at q1
 ·rename_i l m
  unfold rZip at q1
  obtain⟨⟨xs,hq1⟩,⟨ys,hq2⟩,q⟩:=q1
  obtain⟨u1,u2,rfl,rx,ry⟩:=vals2 r1
  cases rx
  cases ry
  obtain⟨its1,rv1,p1,_⟩:=I1.list hq1
  obtain⟨its2,rv2,p2,_⟩:=I1.list hq2
  have l1:@LT.lt Nat _ l s1.heap.objs.size:=by obtain⟨o,ho,_⟩:=p1.isList;exact zca7 ho
  have l2:@LT.lt Nat _ m s1.heap.objs.size:=by obtain⟨o,ho,_⟩:=p2.isList;exact zca7 ho
  refine call_zip_2 p1.isList p2.isList fun h' hz hTI hTO j1 j2 hsz hk=>?_
  refine wpAny_pyIter_zip hz ?_
  have I2:Inv X pins σ H1 { s1 with heap:=h' }:=I1.kept (t':=s1.toks) hk
  have D:ZipApart (s1.heap.objs.size+4) (s1.heap.objs.size+2) (s1.heap.objs.size+3) s1.heap.objs.size (s1.heap.objs.size+1) l m:=by
   constructor<;>(intro z;have z:(_:Nat)=_:=z;omega)
  refine⟨_,_,_,Itz X.K l m,H1,rfl,I2,zbk4 l m _ _ _ _ _ D,⟨hz,hTI,⟨_,_,hTO⟩,j1,j2⟩,fun b hb=>?_,q⟩
  have hb':s1.heap.objs.size<=b:=by
   simp only[zca6,zce4,or_false] at hb
   rcases hb with rfl|rfl|rfl|rfl|rfl
   ·exact zcg6 _ _
   ·exact zcg6 _ _
   ·exact zcg6 _ _
   ·exact zcb0 _
   ·exact zcg6 _ _
  exact I1.fpOk hb' (I1.hok.fresh hb')
 ·exact q1.elim
end
section
variable {K:zbz7}{g:TG}{tb:TS}{D:Ends}{σ:St}{H:Hp}{R:It->Hp->Prop}
theorem zbn8{a b:Addr}{ys:List V}(h:SqL K H a xs)(h':SqL K H b ys)(q:R (Itz K a b) H):rZip K a b H R:=by unfold rZip;exact⟨⟨xs,h⟩,⟨ys,h'⟩,q⟩
end
section
variable {X:Cx}{K:zbz7}
end
section
variable {J:It}{n:Nat}{H1:Hp}{X:Nat->V->Hp->Prop}{g:TG}{tt:TT}{te:TE}{σ0:St}{Q:VK}
theorem zbm9(w:Wk J n H1 X)(hn:n<sizeLine)(Pv:Addr->Nat->List V->St->Hp->Prop)(h0:∀ acc H,H1 acc=none->Same H1 H->H acc=some (.lst [])->Pv acc 0 [] σ0 H)(hP:∀ acc i ys σ H H',Same H H'->Pv acc i ys σ H->Pv acc i ys σ H')(turn:∀ acc i x ys σ H (R:St->V->Hp->Prop) (S:St->Hp->Prop),i<n->H1 acc=none->Same H1 H->H acc=some (.lst ys)->X i x H->Pv acc i ys σ H ->
   (∀ σ2 v H5,Same H H5->(∀ H6,Chg acc H5 H6->Pv acc (i+1) (ys++[v]) σ2 H6)->R σ2 v H5)->(∀ σ2 H5,Same H H5->Pv acc (i+1) ys σ2 H5->S σ2 H5) ->
   g x σ H fun σ2 H3=>tt σ2 H3 fun b H4=>br b (te σ2 H4 fun v H5=>R σ2 v H5) (S σ2 H4))(fin:∀ acc ys σ H,H1 acc=none->Same H1 H->H acc=some (.lst ys)->Pv acc n ys σ H->Q (.ref acc) H):zx2 J g tt te σ0 H1 Q:=by
 unfold zx2
 intro acc H2 hf hs ha
 refine⟨fun i m ys σ H=>m=n - i/\i<=n/\ys.length<=i/\Same H1 H/\H acc=some (.lst ys)/\Pv acc i ys σ H,⟨n,by simp,zcd0 _,zcb0 _,hs,ha,h0 acc H2 hf hs ha⟩,?_⟩
 rintro i m ys σ H ⟨rfl,hi,hl,s,hy,P⟩
 refine⟨hy,by omega,?_⟩
 by_cases hlt:i<n
 ·refine .inr ⟨w.go i H s hlt,fun x H' y=>?_⟩
  obtain⟨s1,x1⟩:=w.yld i H x H' s hlt y
  refine turn acc i x ys σ H' (fun σ2 v H5=>cPut _ acc ys i (n - i) σ2 v H5) (fun σ2 H4=>zal6 _ ys i (n - i) σ2 H4) hlt hf (s.trans s1) (s1 _ _ hy) x1 (hP _ _ _ _ _ _ s1 P) ?_ ?_
  ·intro σ2 v H5 s5 q
   have s15:=s1.trans s5
   unfold cPut
   refine⟨s15 _ _ hy,fun H6 c6 h6=>⟨n - (i+1),by omega,rfl,hlt,by rw[zca8];simp;omega,(s.trans s15).chg hf c6,h6,q H6 c6⟩⟩
  ·intro σ2 H5 s5 q
   have s15:=s1.trans s5
   unfold zal6
   exact⟨n - (i+1),by omega,rfl,hlt,by omega,s.trans s15,s15 _ _ hy,q⟩
 ·have e:i=n:=by omega
  subst e
  exact .inl ⟨w.stop H s,fin acc ys σ H hf s hy P⟩
end
end L2
set_option maxHeartbeats 2000000
namespace L2
open PySem PySem.Spec PyProof.Rows
theorem Same.seqT{K:zbz7}{H H':Hp}{a:Addr}{xs:List V}(e:Same H H')(h:H a=some (.tup xs)):SqT K H' a xs:=SqT.of (e _ _ h)
variable {xs:List V}{qual x0:Str}{s:Shared}{scope:Scope}{T c:Addr}{u:Value}{H H':Hp}{Q:Value->Shared->Prop}{h h':Heap}{ep i j m:Nat}{vs:List Value}{o:Obj}{es:Array (Int×Value)}
theorem Wk.tup{K:zbz7}{a:Addr}{H1:Hp}(h:H1 a=some (.tup xs)):Wk (Itt K a) xs.length H1 fun i x _=>xs[i]?=some x:=
 ⟨fun i H s hi=>⟨xs,xs[i],Same.seqT s h,by simp[hi]⟩,fun H s=>⟨xs,Same.seqT s h,zcb0 _⟩,fun i H x H' s _ y=>by
  obtain⟨e,y⟩:=y
  subst e
  exact⟨Same.refl _,y xs (Same.seqT s h)⟩⟩
set_option maxHeartbeats 4000000
section
variable {X:Cx}{K:zbz7}
end
section
variable {X:Cx}{K:zbz7}{H:Hp}{Q:VK}
end
set_option maxHeartbeats 2000000
def zt4(x0:Str)(names:List (Str×NameKind)):Prop:=names.filter (fun y=>y.2==.cell)=[(x0,.cell)]/\names.lookup x0=some .cell
theorem zac7{x0:Str}:∀ {names:List (Str×NameKind)},names.filter (fun y=>y.2==.cell)=[(x0,.cell)]->∀ (n:Nat) (acc:List (Str×Addr)) (h:Heap),cellsFrom n names acc=(x0,n) :: acc/\pushCells h names=h.push { cls:=.type "cell",data:=.cell none }
 | [],e,_,_,_=>by cases e
 | (y,k) :: r,e,n,acc,h=>by
  by_cases hk:(k==NameKind.cell)=true
  ·have hk':k=.cell:=by simpa using hk
   subst hk'
   rw[List.filter_cons_of_pos (by simp)] at e
   have e1:y=x0:=by have:=congrArg (fun l=>l.head?.map (·.1)) e;simpa using this
   have e2:r.filter (fun y=>y.2==.cell)=[]:=by have:=congrArg List.tail e;simpa using this
   subst e1
   have none:∀ (r:List (Str×NameKind)),r.filter (fun y=>y.2==.cell)=[]->∀ n acc h,cellsFrom n r acc=acc/\pushCells h r=h:=by
    intro r
    induction r with
    | nil=>intro _ n acc h;exact⟨rfl,rfl⟩
    | cons z r ih=>
     obtain⟨z1,z2⟩:=z
     intro e n acc h
     by_cases hz:(z2==NameKind.cell)=true
     ·rw[List.filter_cons_of_pos (by simpa using hz)] at e;cases e
     ·rw[List.filter_cons_of_neg (by simpa using hz)] at e
      unfold cellsFrom pushCells
      rw[if_neg hz,if_neg hz]
      exact ih e n acc h
   unfold cellsFrom pushCells
   rw[if_pos hk,if_pos hk]
   exact⟨(none r e2 _ _ h).1,(none r e2 0 [] _).2⟩
  ·rw[List.filter_cons_of_neg (by simpa using hk)] at e
   unfold cellsFrom pushCells
   rw[if_neg hk,if_neg hk]
   exact zac7 e n acc h
theorem zt4.only{names:List (Str×NameKind)}(h:zt4 x0 names):∀ y∈names,y.2=.cell->y.1=x0:=fun y hy hc=>by
 have:y∈names.filter (fun y=>y.2==.cell):=List.mem_filter.mpr ⟨hy,by rw[hc];rfl⟩
 rw[h.1] at this
 rw[zch0.mp this]
theorem zbq5{M:Model}{A:Around}{E:Value->Shared->Prop}{globals:Addr}{cl:List (Str×Addr)}{env:Env}{Q:Env->Shared->Prop}(hone:zt4 x0 scope.names)(hQ:∀ h₁,h₁=(s.heap.push { cls:=.type "dict",data:=.dict #[] }).push { cls:=.type "cell",data:=.cell none }->Q { scope,locals:=s.heap.objs.size,globals,cells:=(x0,s.heap.objs.size+1) :: cl,qual,func:=none,code:=env.code,frame:=env.frame,builtins:=env.builtins } { s with heap:=h₁ }) :
  wpAny M A (newFunctionEnv scope globals cl [] qual none .none (some env)) Q E s:=by
 simp only[newFunctionEnv,Option.isSome_some,if_true]
 refine zci2 (wpAny_alloc ?_)
 refine zci2 (wpAny_layCells _ (fun name kind cells=>by cases hkc:kind==NameKind.cell<;>simp[hkc]) _ _ _ _ ?_)
 have o:=zac7 hone.1 (s.heap.push { cls:=.type "dict",data:=.dict #[] }).objs.size cl (s.heap.push { cls:=.type "dict",data:=.dict #[] })
 rw[show ({ s with heap:=s.heap.push { cls:=.type "dict",data:=.dict #[] } }:Shared).heap=s.heap.push { cls:=.type "dict",data:=.dict #[] } from rfl,o.1,o.2]
 rw[Heap.size_push]
 refine zci2 ?_
 rw[List.forIn_nil]
 exact zci3 (zci3 (hQ _ rfl))
def blk1(x0:Str)(X:Cx)(N:List Str)(scope:Scope)(cl:List (Str×Addr))(C:Addr)(s3:Shared)(H3:Hp)(fp:List Addr):Cx:=
 { X with N:=N,s₀:=s3,H₀:=H3,env:=compEnvC scope ((x0,C+1) :: cl) C X.env,outer:=X.stack,ex:=fp,fn:=fun x=>x==x0,pn:=[],xe:=fun _ _=>False }
theorem zv8{x:Str}{n:Addr}{cl:List (Str×Addr)}(h:List.lookup x ((x0,n) :: cl)=some c):(x=x0/\c=n)∨cl.lookup x=some c:=by
 rw[zcc2] at h
 cases hx:x==x0 with
 | true=>rw[hx] at h;cases h;exact .inl ⟨by simpa using hx,rfl⟩
 | false=>rw[hx] at h;exact .inr h
theorem zn9{env:Env}{x0:Str}:∀ {names:List (Str×NameKind)}{x:Str}{k':NameKind},(∀ y∈names,y.2=.cell->y.1=x0)->(k'=.cell∨k'=.free) ->
  (names.map fun (n,k)=>if (k==NameKind.free&&env.scope.kind==.function&&env.kindOf n==some .cell) then (n,NameKind.cell) else (n,k)).lookup x=some k'->x=x0∨∃ y∈names,y.1=x/\y.2=.free
 | [],_,_,_,_,h=>by simp at h
 | (n,k) :: r,x,k',hn,hk,h=>by
  have ih:=@zn9 env x0 r x k' (fun y hy=>hn y (zcd2 _ hy)) hk
  replace h:List.lookup x ((if (k==NameKind.free&&env.scope.kind==.function&&env.kindOf n==some .cell)=true then (n,NameKind.cell) else (n,k)) :: List.map (fun (n,k)=>if (k==NameKind.free&&env.scope.kind==.function&&env.kindOf n==some .cell) then (n,NameKind.cell) else (n,k)) r)=some k':=h
  cases hx:x==n with
  | true=>
   have hx':x=n:=by simpa using hx
   by_cases hf:k=.free
   ·exact .inr ⟨(n,k),zce2,hx'.symm,hf⟩
   ·have hc:¬ (k==NameKind.free&&env.scope.kind==.function&&env.kindOf n==some .cell)=true:=by
     have:(k==NameKind.free)=false:=by simpa using hf
     rw[this];simp
    rw[if_neg hc] at h
    simp only[zcc2,hx] at h
    have:k=k':=Option.some.inj h
    subst this
    rcases hk with hk|hk
    ·exact .inl (hx'.trans (hn (n,k) zce2 hk))
    ·exact absurd hk hf
  | false=>
   have h':List.lookup x (List.map (fun (n,k)=>if (k==NameKind.free&&env.scope.kind==.function&&env.kindOf n==some .cell) then (n,NameKind.cell) else (n,k)) r)=some k':=by
    by_cases hc:(k==NameKind.free&&env.scope.kind==.function&&env.kindOf n==some .cell)=true
    ·rw[if_pos hc] at h;simp only[zcc2,hx] at h;exact h
    ·rw[if_neg hc] at h;simp only[zcc2,hx] at h;exact h
   rcases ih h' with q|⟨y,hy,h1,h2⟩
   ·exact .inl q
   ·exact .inr ⟨y,zcd2 _ hy,h1,h2⟩
section
variable {X:Cx}{pins:List (Addr×Obj)}{σ:St}{H:Hp}{s2:Shared}
theorem zbi6{N:List Str}{cl:List (Str×Addr)}{C:Addr}{s3 s4:Shared}{H3:Hp}{fp:List Addr}{σc:St}(I:Inv X pins σ H3 s3)(hcl1:∀ x c,cl.lookup x=some c->X.env.cells.lookup x=some c)(hcl2:∀ x∈scope.names,x.2=.free->∃ c,cl.lookup x.1=some c)(hkind:scope.kind=.function)(hone:zt4 x0 scope.names)(hcap:∀ (i:Nat) (x:Str) (v:V),N[i]?=some x->σc[i]?=some (some v)->∃ j:Nat,X.N[j]?=some x/\σ[j]?=some (some v)/\scope.names.lookup x=some .free/\(X.env.kindOf x=some .cell∨X.env.kindOf x=some .free))(hlen:σc.length=N.length)(hC:s3.heap.objs.size=C)(hfp:∀ b∈fp,FpOk X pins H3 b)(hfpl:∀ b∈fp,b<C)(hex:∀ b o,X.base.get? b=some o->b ∉ fp)(hns:∃ m,s4.heap.Ns C m)(hce:s4.heap.IsCell (C+1) none)(hk:∀ b o,s3.heap.get? b=some o->s4.heap.get? b=some o)(h4:s4.os=s3.os)(h5:s4.gens=s3.gens) :
  Inv (blk1 x0 X N scope cl C s3 H3 fp) [] σc H3 s4:=by
 subst hC
 have cne:∀ x c,cl.lookup x=some c->c<s3.heap.objs.size:=fun x c h=>by
  obtain⟨v,o,ho,_⟩:=I.cell x c (hcl1 x c h)
  exact zca7 ho
 refine⟨⟨I.ok.mod,?_,I.ok.glob,I.ok.blt,zcb0 _,fun x y c h1 h2=>?_,fun x hx=>?_,fun x c hf h=>?_,I.ok.hd,I.ok.frames,.inl rfl,fun b hb=>⟨zcc9 (hfpl b hb),fun x c h=>?_⟩,fun b o e=>I.bs b o e,zcd9 I.ok.bsz I.sz,fun b o e=>hex b o e,fun b hb=>?_,I.stack,I.stkFree⟩,
  h4,by rw[h5];exact I.bare,Un.kept hk,?_,fun x c h=>?_,I.hok.fresh (zcb0 _),fun x c h=>?_,fun p hp=>(by cases hp),I.hok.kept hk,hlen⟩
 ·exact hkind
 ·rcases zv8 h1 with ⟨e1,e2⟩|h1'
  ·rcases zv8 h2 with ⟨e3,_⟩|h2'
   ·rw[e1,e3]
   ·exact absurd (Nat.lt_trans (Nat.lt_succ_self _) (e2▸cne _ _ h2')) (zce8 _)
  ·rcases zv8 h2 with ⟨e3,e4⟩|h2'
   ·exact absurd (Nat.lt_trans (Nat.lt_succ_self _) (e4▸cne _ _ h1')) (zce8 _)
   ·exact I.ok.inj x y c (hcl1 _ _ h1') (hcl1 _ _ h2')
 ·have hx':(relabel scope X.env).names.lookup x=some .cell∨(relabel scope X.env).names.lookup x=some .free:=hx
  show ∃ c,List.lookup x ((x0,s3.heap.objs.size+1) :: cl)=some c
  by_cases e0:x=x0
  ·subst e0;exact⟨_,List.lookup_cons_self⟩
  ·have hz:x=x0∨∃ y∈scope.names,y.1=x/\y.2=.free:=by
    rcases hx' with q|q
    ·exact zn9 hone.only (.inl rfl) q
    ·exact zn9 hone.only (.inr rfl) q
   rcases hz with hz|⟨y,hy,rfl,hf⟩
   ·exact absurd hz e0
   ·obtain⟨c,hc⟩:=hcl2 y hy hf
    exact⟨c,by rw[zcc2,beq_eq_false_iff_ne.mpr e0];exact hc⟩
 ·have hf:(x==x0)=true:=hf
  have e0:x=x0:=by simpa using hf
  subst e0
  rcases zv8 h with ⟨_,rfl⟩|h'
  ·exact zcg9 _
  ·have h:List.lookup x ((x,s3.heap.objs.size+1) :: cl)=some c:=h
   rw[zcc2,hf] at h
   cases h
   exact zcg9 _
 ·rcases zv8 h with ⟨_,rfl⟩|h
  ·exact zch4 (Nat.lt_succ_of_lt (hfpl b hb))
  ·exact (hfp b hb).2.2.2.2.1 x c (hcl1 x c h)
 ·intro hz
  obtain⟨f0,f1,f2,_⟩:=hfp b hb
  have hz:b∈frs X.stack:=hz
  rcases zca6.mp (I.stkSub b hz) with q|q
  ·exact f1 q
  ·exact f2 q
 ·obtain⟨m,hm⟩:=hns
  refine⟨m,hm,fun i x v h1 h2 h3=>?_⟩
  obtain⟨j,e1,e2,e3,e4⟩:=hcap i x v h1 h2
  obtain⟨mX,_,hl⟩:=I.loc
  obtain⟨u,r,q⟩:=hl j x v e1 e2 (by rcases e4 with e4|e4;exact .inr (.inl e4);exact .inr (.inr e4))
  have n0:x≠x0:=fun z=>by rw[z,hone.2] at e3;cases e3
  refine⟨u,r,.inr ⟨zo8 e3,?_⟩⟩
  obtain⟨c,hc⟩:=hcl2 (x,.free) (PySem.mem_of_lookup e3) rfl
  refine⟨c,by show List.lookup x ((x0,s3.heap.objs.size+1) :: cl)=some c;rw[zcc2,beq_eq_false_iff_ne.mpr n0];exact hc,?_⟩
  have hc':=hcl1 x c hc
  rcases q with ⟨k,_⟩|⟨_,c2,e5,o,ho,hd⟩
  ·rcases e4 with e4|e4<;>rw[e4] at k<;>cases k
  ·rw[hc'] at e5
   cases e5
   exact⟨o,hk _ _ ho,hd⟩
 ·rcases zv8 h with ⟨_,rfl⟩|h
  ·exact⟨none,hce⟩
  ·obtain⟨v,o,ho,hd⟩:=I.cell x c (hcl1 x c h)
   exact⟨v,o,hk _ _ ho,hd⟩
 ·rcases zv8 h with ⟨_,rfl⟩|h
  ·exact I.hok.fresh (zcg9 _)
  ·exact I.freeC x c (hcl1 _ _ h)
theorem zax2{E:Value->Shared->Prop}{elt tg iter:Expr}{ifs:List Expr}{pos:Pos}{cl:List (Str×Addr)}{N:List Str}{σc:St}{J:It}{fp:List Addr}{it:Addr}{tn:Nat->Heap->Prop}{g:TG}{tt:TT}{te:TE}{Q:VK}{RR:Value->Addr->Result->Shared->Prop}(hcl1:∀ x c,cl.lookup x=some c->X.env.cells.lookup x=some c)(hcl2:∀ x∈scope.names,x.2=.free->∃ c,cl.lookup x.1=some c)(hkind:scope.kind=.function)(hone:zt4 x0 scope.names)(hcap:∀ (i:Nat) (x:Str) (v:V),N[i]?=some x->σc[i]?=some (some v)->∃ j:Nat,X.N[j]?=some x/\σ[j]?=some (some v)/\scope.names.lookup x=some .free/\(X.env.kindOf x=some .cell∨X.env.kindOf x=some .free))(hlen:σc.length=N.length)(hc:X.calm=true)(I:Inv X pins σ H s2)(T:Turn X.prog X.w X.K tg J fp it tn)(st:tn 0 s2.heap)(fpok:∀ b∈fp,FpOk X pins H b)(hg:∀ C s3 H3 fp,PG (blk1 x0 X N scope cl C s3 H3 fp) tg g)(ht:∀ C s3 H3 fp,PTs (blk1 x0 X N scope cl C s3 H3 fp) ifs tt)(he:∀ C s3 H3 fp,PE (blk1 x0 X N scope cl C s3 H3 fp) elt te)(h:zx2 J g tt te σc H Q)(hRR:∀ (acc C:Addr) (H':Hp) (s':Shared),Inv X pins σ H' s'->FpOk X pins H' C->(∃ m,s'.heap.Ns C m)->Q (.ref acc) H'->RR (.ref acc) C (.ok .next) s') :
  wpAny (model X.prog X.w) X.A (newList []) (fun acc s₃=>wpAny (model X.prog X.w) X.A (newFunctionEnv scope X.env.globals cl [] X.env.qual none .none (some X.env)) (fun cenv s₄=>
   codeAny (model X.prog X.w) X.A (.compStart (.ListComp elt [⟨tg,iter,ifs,0⟩] scope pos) 0 (.ref it) acc { cenv with scope:=relabel scope X.env }) (RR acc cenv.locals) s₄) E s₃) E s2:=by
 refine wpAny_newObj_type (zbq5 hone fun h₁ hh₁=>?_)
 dsimp only at hh₁ ⊢
 have hf:H s2.heap.objs.size=none:=I.fresh
 have I3:Inv X pins σ (upd H s2.heap.objs.size (.lst [])) { s2 with heap:=s2.heap.push { cls:=.type "list",data:=.seq ([]:List Value).toArray } }:=I.lnew (t':=s2.toks) (its:=[]) .nil (zcd0 _)
 generalize hs3:({ s2 with heap:=s2.heap.push { cls:=.type "list",data:=.seq ([]:List Value).toArray } }:Shared)=s3 at I3
 have hH:s2.heap.push { cls:=.type "list",dict:=none,data:=.seq ([]:List Value).toArray }=s3.heap:=by rw[← hs3]
 rw[hH] at hh₁ ⊢
 have hsz:s3.heap.objs.size=s2.heap.objs.size+1:=by rw[← hH,Heap.size_push]
 have old23:∀ b o,s2.heap.get? b=some o->s3.heap.get? b=some o:=fun b o e=>by rw[← hH];exact zca1 _ e
 have fplt:∀ b∈fp,b<s2.heap.objs.size:=fun b hb=>by
  obtain⟨o,e,_⟩:=T.obj 0 _ st b hb
  exact zca7 e
 have fp3:∀ b∈fp,FpOk X pins (upd H s2.heap.objs.size (.lst [])) b:=fun b hb=>by
  obtain⟨f0,f1⟩:=fpok b hb
  refine⟨?_,f1⟩
  rw[zb3 (zcc9 (fplt b hb))]
  exact f0
 have old34:∀ b o,s3.heap.get? b=some o->h₁.get? b=some o:=fun b o e=>by rw[hh₁];exact zca1 _ (zca1 _ e)
 have hns₁:h₁.Ns s3.heap.objs.size (fun _=>none):=by rw[hh₁];exact (Heap.Ns.new s3.heap (.type "dict")).keeps fun b o e=>zca1 _ e
 have hce:h₁.IsCell (s3.heap.objs.size+1) none:=⟨{ cls:=.type "cell",data:=.cell none },by rw[hh₁];exact Heap.get?_push_at (by rw[Heap.size_push]) rfl,rfl⟩
 have nob:∀ b o,X.base.get? b=some o->b ∉ fp:=fun b o e hb=>by
  obtain⟨_,_,_,f3,_,_⟩:=fpok b hb
  rcases f3 with f3|f3
  ·exact I.ok.noex b o e f3
  ·exact absurd (zcb5 (zca7 e) I.ok.bsz) (Nat.not_lt.mpr f3)
 have hs4e:({ s2 with heap:=h₁,toks:=s2.toks }:Shared).os=s3.os:=by rw[← hs3]
 have hs4g:({ s2 with heap:=h₁,toks:=s2.toks }:Shared).gens=s3.gens:=by rw[← hs3]
 have I4:Inv (blk1 x0 X N scope cl s3.heap.objs.size s3 (upd H s2.heap.objs.size (.lst [])) fp) [] σc (upd H s2.heap.objs.size (.lst [])) { s2 with heap:=h₁,toks:=s2.toks }:=
  zbi6 (s4:={ s2 with heap:=h₁,toks:=s2.toks }) I3 hcl1 hcl2 hkind hone hcap hlen rfl fp3 (fun b hb=>zcb5 (fplt b hb) (by rw[hsz];exact zcg9 _)) nob ⟨_,hns₁⟩ hce old34 hs4e hs4g
 have st4:tn 0 h₁:=T.keep _ _ _ st fun b hb o e=>old34 b o (old23 b o e)
 unfold zx2 at h
 obtain⟨W,⟨m0,w0⟩,turn⟩:=h s2.heap.objs.size _ hf (Same.upd hf) zb1
 have loop:codeAny (model X.prog X.w) X.A (.compLoop (.ListComp elt [⟨tg,iter,ifs,0⟩] scope pos) 0 (.ref it) (.ref s2.heap.objs.size) (blk1 x0 X N scope cl s3.heap.objs.size s3 (upd H s2.heap.objs.size (.lst [])) fp).env)
   (RR (.ref s2.heap.objs.size) s3.heap.objs.size) { s2 with heap:=h₁,toks:=s2.toks }:=by
  refine zaj7 (fun n s'=>∃ i ys σ' H',Inv (blk1 x0 X N scope cl s3.heap.objs.size s3 (upd H s2.heap.objs.size (.lst [])) fp) [] σ' H' s'/\tn i s'.heap/\(∀ b∈fp,H' b=none)/\W i n ys σ' H') ?_ m0 ⟨0,[],σc,_,I4,st4,fun b hb=>(fp3 b hb).1,w0⟩
  rintro n s5 ⟨i,ys,σ5,H5,I5,st5,fr5,w5⟩
  obtain⟨hacc,hl5,hcase⟩:=turn i n ys σ5 H5 w5
  have stat:∀ {H':Hp},(∀ b∈fp,H' b=none)->∀ b∈fp,FpOk (blk1 x0 X N scope cl s3.heap.objs.size s3 (upd H s2.heap.objs.size (.lst [])) fp) [] H' b:=fun hn b hb=>by
   obtain⟨_,f1,f2,f3,f4,_⟩:=fpok b hb
   refine⟨hn b hb,zcc9 (zcb5 (fplt b hb) (by rw[hsz];exact zcg9 _)),fun hz=>?_,.inl hb,fun x c hx=>?_,fun p hp=>by cases hp⟩
   rotate_left
   ·rcases zv8 hx with ⟨_,rfl⟩|hx
    ·exact zch4 (Nat.lt_succ_of_lt (zcb5 (fplt b hb) (by rw[hsz];exact zcg9 _)))
    ·exact f4 x c (hcl1 x c hx)
   rcases zca6.mp (I.stkSub b hz) with q|q
   ·exact f1 q
   ·exact f2 q
  rcases hcase with ⟨stop,hq⟩|⟨go,step⟩
  ·refine thn (T.done (blk1 x0 X N scope cl s3.heap.objs.size s3 (upd H s2.heap.objs.size (.lst [])) fp) rfl rfl rfl hc i [] s5 σ5 H5 (fun _ _=>False) I5 (stat fr5) st5 stop) fun r s6 ⟨hr,I6⟩=>?_
   subst hr
   have u1:Un (frs X.stack) fp H (upd H s2.heap.objs.size (.lst [])) s2.heap s3.heap:=Un.laid old23 (zcb0 _) hf
   have u2:Un (frs X.stack) fp (upd H s2.heap.objs.size (.lst [])) H5 s3.heap s6.heap:=I6.base
   have hC:H5 s3.heap.objs.size=none:=I6.free
   obtain⟨m6,hm6,_⟩:=I6.loc
   have hos:s6.os=s2.os:=by rw[I6.os];show s3.os=s2.os;rw[← hs3]
   have hok6:=I6.hok
   have bare6:=I6.bare
   obtain⟨hh,gg,dd,tt',os'⟩:=s6
   obtain rfl:os'=s2.os:=hos
   exact hRR _ _ H5 _ (I.call (h':=hh) (g':=gg) (d':=dd) (t':=tt') (ch:=fp) (u1.trans u2) hok6 bare6 fun b hb=>⟨(fpok b hb).2.2.2.1,(fpok b hb).2.1,(fpok b hb).2.2.2.2.1,(fpok b hb).2.2.2.2.2⟩)
    (I.fpOk (by rw[hsz];exact zcg9 _) hC) ⟨m6,hm6⟩ hq
  ·refine thn (T.item (blk1 x0 X N scope cl s3.heap.objs.size s3 (upd H s2.heap.objs.size (.lst [])) fp) rfl rfl rfl hc i [] s5 σ5 H5 (fun _ _=>False) I5 (stat fr5) st5 go) fun r s6 ⟨u,hr,h6⟩=>?_
   subst hr
   refine thn h6 fun _ s7 ⟨x,H7,I7,r7,y7,st7,fr7⟩=>?_
   have I7':=I7.pinned (stat fr7) (T.obj _ _ st7)
   refine thn (hg _ _ _ _ _ s7 σ5 H7 x u _ I7' r7 (step x H7 y7)) fun _ s8 ⟨σ8,H8,I8,q8⟩=>?_
   refine thn (ht _ _ _ _ _ s8 σ8 H8 _ I8 q8) fun ok s9 ⟨H9,I9,q9⟩=>?_
   have again:∀ {s10:Shared}{σ10:St}{H10:Hp}{zs:List V},Inv (blk1 x0 X N scope cl s3.heap.objs.size s3 (upd H s2.heap.objs.size (.lst [])) fp) ([]++zac4 fp s7.heap) σ10 H10 s10->(∃ m',m'<n/\W (i+1) m' zs σ10 H10) ->
     ∃ m,m<n/\∃ i ys σ' H',Inv (blk1 x0 X N scope cl s3.heap.objs.size s3 (upd H s2.heap.objs.size (.lst [])) fp) [] σ' H' s10/\tn i s10.heap/\(∀ b∈fp,H' b=none)/\W i m ys σ' H':=fun {s10 σ10 H10 zs} I10 ⟨m',hm,w10⟩=>by
    refine⟨m',hm,i+1,zs,σ10,H10,I10.unpinned,T.keep _ _ _ st7 fun b hb o e=>(I10.pin (b,o) (zcb9 _ (zcb9 _ (zj7 hb e)))).1,fun b hb=>?_,w10⟩
    obtain⟨o,e,d⟩:=T.obj _ _ st7 b hb
    exact (I10.pin (b,o) (zcb9 _ (zcb9 _ (zj7 hb e)))).2.1
   dsimp only at q9
   rw[zai4] at q9
   cases ok with
   | false=>
    have q9:∃ m',m'<n/\W (i+1) m' ys σ8 H9:=by rw[if_neg zca4] at q9;unfold zal6 at q9;exact q9
    exact again I9 q9
   | true=>
    have q9:=(if_pos rfl▸q9:te σ8 H9 _)
    refine thn (he _ _ _ _ _ s9 σ8 H9 _ I9 q9) fun v s10 ⟨y,H10,I10,r10,q10⟩=>?_
    unfold cPut at q10
    obtain⟨e10,q10⟩:=q10
    refine thn (zaa4 _ s10 σ8 H10 (.ref s2.heap.objs.size) [y] (.ref s2.heap.objs.size) [v] (fun _ H11=>∃ m',m'<n/\W (i+1) m' (ys++[y]) σ8 H11) I10 rfl (.cons r10 .nil) ⟨_,ys,y,rfl,rfl,e10,hl5,q10 _ Chg.upd zb1⟩) fun _ s11 ⟨z,H11,I11,_,q11⟩=>?_
    exact again I11 q11
 exact codeAny_compStart_list loop (T.self _ 0 _ _ _ st4 loop)
def zan6(x0:Str)(scope:Scope):Bool:=scope.names.filter (fun y=>y.2==.cell)==[(x0,.cell)]&&scope.names.lookup x0==some .cell&&scope.names.all fun x=>x.2 != .local || scope.names.lookup x.1==some .local
theorem zav9(h:zan6 x0 scope=true):zt4 x0 scope.names/\∀ x∈scope.names,x.2=.local->scope.names.lookup x.1=some .local:=by
 unfold zan6 at h
 rw[zca5,zca5] at h
 refine⟨⟨by simpa using h.1.1,by simpa using h.1.2⟩,fun x hx hl=>?_⟩
 have:=zcb2.mp h.2 x hx
 simpa [hl] using this
theorem zbr2{elt tg iter:Expr}{ifs:List Expr}{pos:Pos}{N:List Str}{ks:List (Option Nat)}{wi:TI}{g:TG}{tt:TT}{te:TE}(hi:PI X tg iter wi)(hg:∀ cl C s3 H3 fp,PG (blk1 x0 X N scope cl C s3 H3 fp) tg g)(ht:∀ cl C s3 H3 fp,PTs (blk1 x0 X N scope cl C s3 H3 fp) ifs tt)(he:∀ cl C s3 H3 fp,PE (blk1 x0 X N scope cl C s3 H3 fp) elt te)(hcap:zy5 X scope N ks)(hc:X.calm=true:=by rfl)(hkind:scope.kind=.function:=by rfl)(hb:freeB scope X.env.kindOf=true:=by rfl)(hn:zan6 x0 scope=true:=by rfl)(hs:∀ x,foldedSetIterable iter X.env x=pure x:=by intro _;rfl) :
  PE X (.ListComp elt [⟨tg,iter,ifs,0⟩] scope pos) (qComp ks wi g tt te):=by
 intro pins s σ H Q I h
 obtain⟨hone,hnames⟩:=zav9 hn
 obtain⟨cl,hcl,hcl1,hcl2⟩:=zae0 (scope:=scope) (env:=X.env) fun x hx hf=>I.ok.has x.1 (zau4 hb x hx hf)
 rw[eval_ListComp]
 refine wpAny_comprehension_free (use:=none) rfl hs hcl hkind hnames ?_
 show wpAny _ _ (eval iter X.env) _ _ s
 refine thn (hi pins s σ H _ I h) fun v s1 h1=>thn h1 fun itv s2 h2=>?_
 obtain⟨it,fp,tn,J,H2,e,I2,T,st2,f2,q2⟩:=h2
 subst e
 refine zax2 (RR:=fun acc C=>compPost (model X.prog X.w) X.A X.xe none (EP X pins σ Q) acc C) hcl1 hcl2 hkind hone (hcap.cap σ) (hcap.len σ) hc I2 T st2 f2 (hg cl) (ht cl) (he cl) q2 ?_
 rintro acc C H' s' I' hC ⟨m,hm⟩ hq
 refine⟨m,hm,fun h' hsb=>⟨.ref acc,H',?_,rfl,hq⟩⟩
 exact I'.turned (t':=s'.toks) (fun b o hb e=>hsb.extBut b o hb e) hC.1 hC.2.1 hC.2.2.2.1 hC.2.2.2.2.1 hC.2.2.2.2.2
end
set_option maxHeartbeats 1000000
section
variable {κ:Type}[DecidableEq κ]
def valV(kvs:List (κ×V))(k:κ):Option V:=(kvs.find? fun kv=>decide (kv.1=k)).map (·.2)
def putK(kvs:List (κ×V))(k:κ)(v:V):List (κ×V):=
 if (kvs.any fun kv=>decide (kv.1=k))=true then kvs.map (fun kv=>if kv.1=k then (kv.1,v) else kv) else kvs++[(k,v)]
theorem zs9{p:κ×V}{r:List (κ×V)}{k:κ}(e:p.1=k):valV (p :: r) k=some p.2:=by simp[valV,zce7,e]
theorem zs2{p:κ×V}{r:List (κ×V)}{k:κ}(e:¬ p.1=k):valV (p :: r) k=valV r k:=by simp[valV,zce7,e]
theorem zat0(k:κ):∀ kvs:List (κ×V),(kvs.any fun kv=>decide (kv.1=k))=(valV kvs k).isSome
 | []=>rfl
 | p :: r=>by
  rw[List.any_cons]
  by_cases e:p.1=k
  ·simp only[zs9 e,decide_eq_true e,Bool.true_or,Option.isSome_some]
  ·rw[zs2 e,decide_eq_false e,Bool.false_or];exact zat0 k r
theorem zz8(kvs:List (κ×V))(k:κ)(v:V):(putK kvs k v).length<=kvs.length+1:=by
 unfold putK
 split
 ·rw[zbz4];omega
 ·rw[zca8,zcc6,List.length_nil];omega
theorem RelO.isSome_eq{o:Option V}{u:Option Value}(r:RelO o u):o.isSome=u.isSome:=by
 cases o with
 | none=>cases u with
  | none=>rfl
  | some _=>exact (show False from r).elim
 | some _=>cases u with
  | none=>exact (show False from r).elim
  | some _=>rfl
theorem RelO.getD{o:Option V}{u:Option Value}{d:V}{d':Value}(r:RelO o u)(rd:RelV d d'):RelV (o.getD d) (u.getD d'):=by
 cases o with
 | none=>cases u with
  | none=>exact rd
  | some _=>exact (show False from r).elim
 | some _=>cases u with
  | none=>exact (show False from r).elim
  | some _=>exact r
theorem KV.val{kvs:List (κ×V)}{vs:List (κ×Value)}(r:KV kvs vs)(k:κ):RelO (valV kvs k) (valueAt vs k):=by
 unfold KV at r
 induction r with
 | nil=>exact True.intro
 | @cons p q ps qs h t ih=>
  obtain⟨h1,h2⟩:=h
  by_cases e:p.1=k
  ·have e':q.1=k:=h1.symm.trans e
   have b:valueAt (q :: qs) k=some q.2:=by simp[valueAt,zce7,e']
   rw[zs9 e,b];exact h2
  ·have e':¬ q.1=k:=fun z=>e (h1.trans z)
   have b:valueAt (q :: qs) k=valueAt qs k:=by simp[valueAt,zce7,e']
   rw[zs2 e,b];exact ih
theorem KV.any{kvs:List (κ×V)}{vs:List (κ×Value)}(r:KV kvs vs)(k:κ):(kvs.any fun kv=>decide (kv.1=k))=vs.any fun kv=>decide (kv.1=k):=by
 unfold KV at r
 induction r with
 | nil=>rfl
 | cons h t ih=>rw[List.any_cons,List.any_cons,ih,h.1]
theorem KV.repl{kvs:List (κ×V)}{vs:List (κ×Value)}(r:KV kvs vs)(k:κ){y:V}(ry:RelV y u) :
  KV (kvs.map fun kv=>if kv.1=k then (kv.1,y) else kv) (vs.map fun kv=>if kv.1=k then (kv.1,u) else kv):=by
 unfold KV at r ⊢
 induction r with
 | nil=>exact .nil
 | @cons p q ps qs h t ih=>
  rw[zcb1,zcb1]
  refine .cons ?_ ih
  obtain⟨h1,h2⟩:=h
  by_cases e:p.1=k
  ·rw[if_pos e,if_pos (h1.symm.trans e)];exact⟨h1,ry⟩
  ·rw[if_neg e,if_neg (fun z=>e (h1.trans z))];exact⟨h1,h2⟩
theorem KV.put{kvs:List (κ×V)}{vs:List (κ×Value)}(r:KV kvs vs)(k:κ){y:V}(ry:RelV y u):KV (putK kvs k y) (stored vs k u):=by
 unfold putK stored
 rw[r.any k]
 by_cases e:(vs.any fun kv=>decide (kv.1=k))=true
 ·rw[if_pos e,if_pos e];exact r.repl k ry
 ·rw[if_neg e,if_neg e];exact Paired.snoc r ⟨rfl,ry⟩
theorem KV.keys{kvs:List (κ×V)}{vs:List (κ×Value)}(r:KV kvs vs):kvs.map (·.1)=vs.map (·.1):=by
 unfold KV at r
 induction r with
 | nil=>rfl
 | cons h t ih=>rw[zcb1,zcb1,ih,h.1]
theorem KV.length{kvs:List (κ×V)}{vs:List (κ×Value)}(r:KV kvs vs):kvs.length=vs.length:=Paired.length r
end
theorem kV_is{P:Program}{w:World}{k:Key}(r:RelV (kV k) u):(zf9 P w).is k u=true:=by
 cases k with
 | inl i=>obtain⟨t,e⟩:=(show ∃ t,u=Value.int i t from r);subst e;exact zaq3 P w i t
 | inr x=>obtain⟨t,e⟩:=(show ∃ t,u=Value.str x t from r);subst e;exact zan5 P w x t
theorem zak6{P:Program}{w:World}:∀ {ks:List Key}{us:List Value},Vals (ks.map kV) us->ItemsAre (zf9 P w) ks us
 | [],_,r=>by rw[zci1] at r;cases r;exact .nil
 | k :: ks,_,r=>by
  rw[zcb1] at r
  cases r with
  | cons h t=>exact .cons (kV_is h) (zak6 t)
abbrev KT(H:Hp):List (List Key×V)->List (List Key×Addr×Value)->Prop:=Paired fun p q=>p.1=q.1/\H q.2.1=some (.tup (p.1.map kV))/\RelV p.2 q.2.2
theorem KT.val{kvs:List (List Key×V)}{xs:List (List Key×Addr×Value)}(r:KT H kvs xs)(k:List Key):RelO (valV kvs k) ((atKey xs k).map (·.2)):=by
 induction r with
 | nil=>exact True.intro
 | @cons p q ps qs h t ih=>
  obtain⟨h1,_,h2⟩:=h
  by_cases e:p.1=k
  ·have e':q.1=k:=h1.symm.trans e
   have b:atKey (q :: qs) k=some q.2:=by simp[atKey,zce7,e']
   rw[zs9 e,b];exact h2
  ·have e':¬ q.1=k:=fun z=>e (h1.trans z)
   have b:atKey (q :: qs) k=atKey qs k:=by simp[atKey,zce7,e']
   rw[zs2 e,b];exact ih
theorem KT.repl{kvs:List (List Key×V)}{xs:List (List Key×Addr×Value)}(r:KT H kvs xs)(k:List Key){y:V}(ry:RelV y u) :
  KT H (kvs.map fun kv=>if kv.1=k then (kv.1,y) else kv) (xs.map (putAt k u)):=by
 induction r with
 | nil=>exact .nil
 | @cons p q ps qs h t ih=>
  rw[zcb1,zcb1]
  refine .cons ?_ ih
  obtain⟨h1,h2,h3⟩:=h
  unfold putAt
  by_cases e:p.1=k
  ·rw[if_pos e,if_pos (h1.symm.trans e)];exact⟨h1,h2,ry⟩
  ·rw[if_neg e,if_neg (fun z=>e (h1.trans z))];exact⟨h1,h2,h3⟩
theorem KT.put{kvs:List (List Key×V)}{xs:List (List Key×Addr×Value)}(r:KT H kvs xs)(k:List Key){b:Addr}{y:V}(hb:H b=some (.tup (k.map kV)))(ry:RelV y u) :
  KT H (putK kvs k y) (storedH xs k b u):=by
 have e:(kvs.any fun kv=>decide (kv.1=k))=(atKey xs k).isSome:=by
  rw[zat0,(r.val k).isSome_eq,Option.isSome_map]
 unfold putK storedH
 rw[e]
 by_cases q:(atKey xs k).isSome=true
 ·rw[if_pos q,if_pos q];exact r.repl k ry
 ·rw[if_neg q,if_neg q];exact Paired.snoc r ⟨rfl,hb,ry⟩
theorem KT.keeps{kvs:List (List Key×V)}{xs:List (List Key×Addr×Value)}(r:KT H kvs xs)(ht:∀ b ys,H b=some (.tup ys)->H' b=some (.tup ys)):KT H' kvs xs:=
 Paired.mapP r fun _ _ z=>⟨z.1,ht _ _ z.2.1,z.2.2⟩
section
variable {P:Program}{w:World}{H:Hp}{h:Heap}{a:Addr}
theorem rd_of{u:HO}(ok:HOk P w H h)(e:Rd H a u):zf3 P w H h a u:=e.ok ok
theorem zbd3{kvs:List (Key×V)}(ok:HOk P w H h)(e:Rd H a (.dK kvs)):kvs.length<=sizeLine/\(a==sysModules)=false/\∃ vs,KV kvs vs/\h.DictOf (zf9 P w) a vs:=
 show zf3 P w H h a (.dK kvs) from rd_of ok e
theorem zbf0{kvs:List (Key×V)}(ok:HOk P w H h)(e:H a=some (.dK kvs)):kvs.length<=sizeLine/\(a==sysModules)=false/\∃ vs,KV kvs vs/\h.DictOf (zf9 P w) a vs:=zbd3 ok (.inl e)
theorem zas0{ks:List Key}(ok:HOk P w H h)(e:H a=some (.tup (ks.map kV))):(tupleKind (zf9 P w)).is h ks a:=by
 obtain⟨_,its,r,o,h1,h2,n,h3⟩:=(show zf3 P w H h a (.tup (ks.map kV)) from ok a _ e)
 exact⟨o,its.toArray,n,h1,h2,h3,by simpa using zak6 r⟩
theorem zbg7{kvs:List (List Key×V)}(ok:HOk P w H h)(e:Rd H a (.dT kvs)):kvs.length<=sizeLine/\(a==sysModules)=false /\
  ∃ xs,KT H kvs xs/\h.DictOfH (tupleKind (zf9 P w)) a xs:=by
 obtain⟨z,y,xs,r,o,es,ep,h1,h2,h3,h4,h5⟩:=(show zf3 P w H h a (.dT kvs) from rd_of ok e)
 refine⟨z,y,xs,r,o,es,ep,h1,h2,h3,h4,fun x hx=>?_,h5⟩
 have all:∀ {l:List (List Key×V)}{m:List (List Key×Addr×Value)},KT H l m->∀ x∈m,(tupleKind (zf9 P w)).is h x.1 x.2.1:=by
  intro l m q
  induction q with
  | nil=>intro x hx;exact nomatch hx
  | @cons p q ps qs hq t ih=>
   intro x hx
   rcases zca6.mp hx with e|hx
   ·subst e
    exact zas0 ok (by rw[← hq.1];exact hq.2.1)
   ·exact ih x hx
 exact all r x hx
theorem dt_of{kvs:List (List Key×V)}(ok:HOk P w H h)(e:H a=some (.dT kvs)):kvs.length<=sizeLine/\(a==sysModules)=false /\
  ∃ xs,KT H kvs xs/\h.DictOfH (tupleKind (zf9 P w)) a xs:=zbg7 ok (.inl e)
end
def DGet(H:Hp)(a:Addr)(y:V)(r:Option V):Prop:=
 (∃ kvs k,Rd H a (.dK kvs)/\y=kV k/\r=valV kvs k)∨∃ kvs k b,Rd H a (.dT kvs)/\y=.ref b/\H b=some (.tup (k.map kV))/\r=valV kvs k
def DPut(H:Hp)(a:Addr)(y v:V)(H':Hp):Prop:=
 (∃ kvs k,H a=some (.dK kvs)/\y=kV k/\kvs.length<sizeLine/\H'=upd H a (.dK (putK kvs k v))) ∨
 ∃ kvs k b,H a=some (.dT kvs)/\y=.ref b/\H b=some (.tup (k.map kV))/\kvs.length<sizeLine/\H'=upd H a (.dT (putK kvs k v))
theorem DGet.k{H:Hp}{a:Addr}{kvs:List (Key×V)}{k:Key}(e:H a=some (.dK kvs)):DGet H a (kV k) (valV kvs k):=.inl ⟨kvs,k,.inl e,rfl,rfl⟩
theorem DGet.t{a b:Addr}{kvs:List (List Key×V)}{k:List Key}(e:H a=some (.dT kvs))(eb:H b=some (.tup (k.map kV))):DGet H a (.ref b) (valV kvs k):=.inr ⟨kvs,k,b,.inl e,rfl,eb,rfl⟩
theorem DPut.k{H:Hp}{a:Addr}{kvs:List (Key×V)}{k:Key}{v:V}(e:H a=some (.dK kvs))(hl:kvs.length<sizeLine):DPut H a (kV k) v (upd H a (.dK (putK kvs k v))):=.inl ⟨kvs,k,e,rfl,hl,rfl⟩
theorem DPut.t{a b:Addr}{kvs:List (List Key×V)}{k:List Key}{v:V}(e:H a=some (.dT kvs))(eb:H b=some (.tup (k.map kV)))(hl:kvs.length<sizeLine) :
  DPut H a (.ref b) v (upd H a (.dT (putK kvs k v))):=.inr ⟨kvs,k,b,e,rfl,eb,hl,rfl⟩
section
variable {X:Cx}{pins:List (Addr×Obj)}{σ:St}{H:Hp}{s:Shared}{a:Addr}{y v:V}{u r:Value}{o:Option V}{A:Around}{E:Value->Shared->Prop}
theorem Inv.big(I:Inv X pins σ H s):sysModules<s.heap.objs.size:=by
 have h:zci8<s.heap.objs.size:=(I.mod.glob.keeps I.bk).lt
 exact Nat.lt_trans (by decide) h
theorem zbf5(hu:A.units+1<cLine)(I:Inv X pins σ H s)(g:DGet H a y (some v))(ry:RelV y u)(h:∀ w' s',Inv X pins σ H s'->RelV v w'->Q w' s') :
  wpAny (model X.prog X.w) A (getItem (.ref a) u) Q E s:=by
 rcases g with ⟨kvs,k,e,ey,l⟩|⟨kvs,k,b,e,ey,eb,l⟩
 ·subst ey
  obtain⟨z,hd,vs,rel,dd⟩:=zbd3 I.hok e
  obtain⟨w',hw,rw'⟩:=RelO.some_of (v:=v) (o:=valueAt vs k) (by rw[l];exact rel.val k)
  exact wpAny_getItem_of (kV_is ry) dd.mapOf hw (h w' _ (I.tok _) rw')
 ·subst ey
  cases (show u=Value.ref b from ry)
  obtain⟨z,hd,xs,rel,dd⟩:=zbg7 I.hok e
  obtain⟨w',hw,rw'⟩:=RelO.some_of (v:=v) (o:=(atKey xs k).map (·.2)) (by rw[l];exact rel.val k)
  obtain⟨p,hp,hp2⟩:=zca3.mp hw
  refine wpAny_getItem_heap (tupleKind_room_in1 hu) (zas0 I.hok eb) dd hp ?_
  rw[hp2]
  exact h w' _ (I.tok _) rw'
theorem zba9{t':Nat}{ob:HO}(I:Inv X pins σ H s)(mu:Mut (H a))(hs:Heap.SameBut a s.heap h')(he:∃ q,h'.get? a=some q)(new:zf3 X.prog X.w (upd H a ob) h' a ob) :
  Inv X pins σ (upd H a ob) { s with heap:=h',toks:=t' }:=
 I.write (x:=a) (e:=a) mu (.inl rfl) (fun b q hb z=>(hs.2 b hb).trans z) he new
theorem dk_new{P:Program}{w:World}{kvs:List (Key×V)}{vs:List (Key×Value)}(z:kvs.length<=sizeLine)(hd:(a==sysModules)=false)(rel:KV kvs vs)(dd:h'.DictOf (zf9 P w) a vs) :
  zf3 P w H' h' a (.dK kvs):=⟨z,hd,vs,rel,dd⟩
theorem zbd4{Q:Unit->Shared->Prop}(hu:A.units+1<cLine)(I:Inv X pins σ H s)(g:DPut H a y v H')(ry:RelV y u)(rv:RelV v r)(h:∀ s',Inv X pins σ H' s'->Q () s') :
  wpAny (model X.prog X.w) A (setItem (.ref a) u r) Q E s:=by
 rcases g with ⟨kvs,k,e,ey,l,eH⟩|⟨kvs,k,b,e,ey,eb,l,eH⟩
 ·subst ey eH
  obtain⟨z,hd,vs,rel,dd⟩:=zbf0 I.hok e
  have hz:vs.length<=sizeLine:=by rw[← rel.length];exact z
  have hl:(putK kvs k v).length<=sizeLine:=by have:=zz8 kvs k v;omega
  refine wpAny_setItem_pairs (hsz:=hz) (kV_is ry) dd fun h' dd' hs=>h _ ?_
  have he:∃ q,h'.get? a=some q:=let ⟨q,_,_,hq,_⟩:=dd';⟨q,hq⟩
  exact zba9 I (by rw[e];exact True.intro) hs he (dk_new hl hd (rel.put k rv) dd')
 ·subst ey eH
  cases (show u=Value.ref b from ry)
  obtain⟨z,hd,xs,rel,dd⟩:=dt_of I.hok e
  have hz:xs.length<=sizeLine:=by rw[← Paired.length rel];exact z
  have hl:(putK kvs k v).length<=sizeLine:=by have:=zz8 kvs k v;omega
  refine wpAny_setItem_heap (hsz:=hz) (tupleKind_room_in1 hu) (zas0 I.hok eb) dd fun h' dd' hs=>h _ ?_
  obtain⟨q,es,ep,hq,h2,h3,h4,_,h5⟩:=dd'
  refine zba9 I (by rw[e];exact True.intro) hs ⟨q,hq⟩ ⟨hl,hd,_,(rel.put k eb rv).keeps fun c ys ec=>?_,q,es,ep,hq,h2,h3,h4,h5⟩
  rw[zb3 (ne_of ec e (fun z=>nomatch z))]
  exact ec
end
def NoSl(i:Expr):Prop:=∀ ov iv,subscripted i false ov iv=operate [ov,iv] (getItem ov iv)
theorem zbt0{prog:Program}{w:World}{A:Around}{E:Value->Shared->Prop}{env:Env}{value slice:Expr}{pos:Pos}{T id:String}(hl:typeLookup (.type T) "__getitem__"=pure (some (.builtin id)))(hs:NoSl slice)(h:wpAny (model prog w) A (eval value env) (fun o s₁=>wpAny (model prog w) A (eval slice env) (fun i s₂=>s₂.TypeIs o T/\wpAny (model prog w) A (getItem o i) Q E s₂) E s₁) E s) :
  wpAny (model prog w) A (eval (.Subscript value slice pos) env) Q E s:=by
 refine Subscript_ (wpAny_mono h (fun o s₁ h₁=>wpAny_mono h₁ (fun i s₂ h₂=>?_) fun _ _ x=>x) fun _ _ x=>x)
 obtain⟨hT,h₂⟩:=h₂
 unfold subscriptTail
 refine zci2 ?_
 rw[getitemInPython_of_ne hT.not_modules]
 refine zci2 (wpAny_specialOf hT hl ?_)
 have fin:wpAny (model prog w) A (subscripted slice false o i) (fun r s₃=>wpAny (model prog w) A (letTemporaryGo value o r >>= fun _=>pure r) Q E s₃) E s₂:=by
  rw[hs o i]
  exact wpAny_operating (wpAny_mono h₂ (fun r s₃ h₃=>zci2 (wpAny_letTemporaryGo (zci3 h₃))) fun _ _ x=>x)
 first
  | exact zci3 (zci2 fin)
  | exact zci2 (zci3 (zci2 fin))
  | exact zci2 fin
theorem zan9{X:Cx}{pins:List (Addr×Obj)}{σ:St}{a:Addr}{y:V}{o:Option V}(I:Inv X pins σ H s)(g:DGet H a y o):s.TypeIs (.ref a) "dict":=by
 rcases g with ⟨kvs,k,e,_,_⟩|⟨kvs,k,b,e,_,_,_⟩
 ·obtain⟨_,_,vs,_,dd⟩:=zbd3 I.hok e
  exact dd.typeIs
 ·obtain⟨_,_,xs,_,dd⟩:=zbg7 I.hok e
  exact dd.typeIs
def tDGet(td ty:TE):TE:=fun σ H Q=>td σ H fun x H1=>ty σ H1 fun y H2=>∃ a v,x=.ref a/\DGet H2 a y (some v)/\Q v H2
def sDPut(td ty tv:TE):TS:=fun D σ H=>tv σ H fun v H1=>td σ H1 fun x H2=>ty σ H2 fun y H3=>∃ a H4,x=.ref a/\DPut H3 a y v H4/\D.nx σ H4
section
variable {X:Cx}{o i e value:Expr}{pos pos' tpos:Pos}{td ty tv:TE}
theorem zbu0(hu:X.A.units+1<cLine)(ho:PE X o td)(hi:PE X i ty)(hs:NoSl i):PE X (.Subscript o i pos) (tDGet td ty):=by
 intro pins s σ H Q I h
 refine zbt0 PySem.F.slot_dict_getitem.lookup hs (thn (ho pins s σ H _ I h) fun u s1 ⟨x,H1,I1,rx,q1⟩=>thn (hi pins s1 σ H1 _ I1 q1) fun iv s2 ⟨y,H2,I2,ry,a,v,ex,g,q2⟩=>?_)
 subst ex
 obtain rfl:u=Value.ref a:=rx
 exact⟨zan9 I2 g,zbf5 hu I2 g ry fun w' s3 I3 rw'=>⟨v,H2,I3,rw',q2⟩⟩
theorem zbu2(hu:X.A.units+1<cLine)(ho:PE X o td)(hi:PE X i ty)(hv:PE X value tv)(hs:swapsWith value (some (.Subscript o i pos')) pos.line X.env=pure false) :
  PS X (.Assign [.Subscript o i pos'] value pos) (sDPut td ty tv):=by
 intro pins s σ H D I h
 refine wpAny_Assign_Subscript (thn (hv pins s σ H _ I h) fun r s1 ⟨v,H1,I1,rv,q1⟩=>thn (ho pins s1 σ H1 _ I1 q1) fun u s2 ⟨x,H2,I2,rx,q2⟩=>thn (hi pins s2 σ H2 _ I2 q2) fun iv s3 ⟨y,H3,I3,ry,a,H4,ex,g,q3⟩=>?_) hs
 subst ex
 obtain rfl:u=Value.ref a:=rx
 exact zbd4 hu I3 g ry rv fun s4 I4=>⟨σ,H4,I4,q3⟩
end
theorem zbl4{P:Program}{w:World}(h:Heap)(hb:sysModules<h.objs.size):zf3 P w H (h.push { cls:=.type "dict",data:=.dict #[] }) h.objs.size (.dK []):=
 ⟨zcd0 _,beq_eq_false_iff_ne.mpr (Ne.symm (zcc9 hb)),[],.nil,Heap.DictOf.new h⟩
theorem zbl6{P:Program}{w:World}(h:Heap)(hb:sysModules<h.objs.size):zf3 P w H (h.push { cls:=.type "dict",data:=.dict #[] }) h.objs.size (.dT []):=
 ⟨zcd0 _,beq_eq_false_iff_ne.mpr (Ne.symm (zcc9 hb)),[],.nil,_,#[],0,zcb8 _ rfl,⟨rfl,rfl,rfl⟩,rfl,rfl,List.nodup_nil⟩
def tDNewK:TE:=fun _ H Q=>∀ p,H p=none->Q (.ref p) (upd H p (.dK []))
def tDNewT:TE:=fun _ H Q=>∀ p,H p=none->Q (.ref p) (upd H p (.dT []))
section
variable {X:Cx}{pos:Pos}
theorem zbi7:PE X (.Dict [] [] pos) tDNewK:=fun pins s σ H Q I h=>
 wpAny_Dict_empty ⟨.ref s.heap.objs.size,_,I.laid (a:=s.heap.objs.size) (o:=.dK []) (t':=s.toks) (fun _ _ q=>zca1 _ q) (zcb0 _) (zbl4 s.heap I.big),rfl,h _ (I.hok.fresh (zcb0 _))⟩
theorem zbj6:PE X (.Dict [] [] pos) tDNewT:=fun pins s σ H Q I h=>
 wpAny_Dict_empty ⟨.ref s.heap.objs.size,_,I.laid (a:=s.heap.objs.size) (o:=.dT []) (t':=s.toks) (fun _ _ q=>zca1 _ q) (zcb0 _) (zbl6 s.heap I.big),rfl,h _ (I.hok.fresh (zcb0 _))⟩
end
structure M2(X:Cx)(o:Expr)(m:Str)(apos:Pos)(e f:Expr)(cpos:Pos):Prop where
 base:attributeBase o m X.env (eval o X.env)=eval o X.env
 few:((backTo cpos (starEach [e,f] X.env)).all (fun x=>!x.1)&&(backToKw cpos (keywordEach [] X.env)).all (fun x=>x.1.isSome)
  && decide (([e,f]:List Expr).length+([]:List Keyword).length+(if ([]:List Keyword).isEmpty then 0 else 1)<30))=true
 line:(apos.endLine==cpos.line)=true
 trees:backTo cpos (starEach [e,f] X.env)=[(false,eval e X.env),(false,eval f X.env)]
def IsD(H:Hp)(a:Addr):Prop:=(∃ kvs,Rd H a (.dK kvs))∨∃ kvs,Rd H a (.dT kvs)
theorem isD_at{X:Cx}{pins:List (Addr×Obj)}{σ:St}{a:Addr}(I:Inv X pins σ H s)(d:IsD H a) :
  s.TypeIs (.ref a) "dict"/\(∀ b,Value.ref a=.ref b->∃ ob,s.heap.get? b=some ob/\ob.dict=none)/\(a==sysModules)=false:=by
 rcases d with ⟨kvs,e⟩|⟨kvs,e⟩
 ·obtain⟨_,hd,vs,_,dd⟩:=zbd3 I.hok e
  refine⟨dd.typeIs,fun b q=>?_,hd⟩
  cases q
  obtain⟨ob,_,_,h1,h2,_⟩:=dd
  exact⟨ob,h1,h2.2.1⟩
 ·obtain⟨_,hd,xs,_,dd⟩:=zbg7 I.hok e
  refine⟨dd.typeIs,fun b q=>?_,hd⟩
  cases q
  obtain⟨ob,_,_,h1,h2,_⟩:=dd
  exact⟨ob,h1,h2.2.1⟩
section
variable {X:Cx}{pins:List (Addr×Obj)}{σ:St}{H:Hp}{s:Shared}{a:Addr}{y d:V}{u r:Value}{o:Option V}{A:Around}{E:Value->Shared->Prop}
theorem d_get2(hu:A.units+1<cLine)(I:Inv X pins σ H s)(g:DGet H a y o)(ry:RelV y u)(rd:RelV d r)(h:∀ w' s',Inv X pins σ H s'->RelV (o.getD d) w'->Q w' s') :
  wpAny (model X.prog X.w) A (call (.builtin "dict.get") [.ref a,u,r]) Q E s:=by
 rcases g with ⟨kvs,k,e,ey,l⟩|⟨kvs,k,b,e,ey,eb,l⟩
 ·subst ey
  obtain⟨z,hd,vs,rel,dd⟩:=zbd3 I.hok e
  refine call_meetsIn PySem.F.slot_dict_get dd.typeIs PySem.F.entry_dict_get (PySem.F.args_dict_get_3 _ _ _) (meets_dict_get_default (zf9 X.prog X.w) a (kV_is ry) hd r) ⟨_,dd.mapOf,h _ _ (I.tok _) ?_⟩
  rw[l]
  exact (rel.val k).getD rd
 ·subst ey
  cases (show u=Value.ref b from ry)
  obtain⟨z,hd,xs,rel,dd⟩:=zbg7 I.hok e
  refine call_meetsIn PySem.F.slot_dict_get dd.typeIs PySem.F.entry_dict_get (PySem.F.args_dict_get_3 _ _ _) (meetsH_dict_get_default (tupleKind (zf9 X.prog X.w)) a b hd r) ⟨tupleKind_room_in1 hu,k,xs,zas0 I.hok eb,dd,h _ _ (I.tok _) ?_⟩
  rw[l]
  exact (rel.val k).getD rd
end
def zbf4(td ty tx:TE):TE:=fun σ H Q=>td σ H fun x H1=>∃ a,x=.ref a/\IsD H1 a/\ty σ H1 fun y H2=>tx σ H2 fun z H3=>∃ o,DGet H3 a y o/\Q (o.getD z) H3
section
variable {X:Cx}{o e f:Expr}{apos cpos:Pos}{td ty tx:TE}
theorem zbh5(hu:X.A.units+1<cLine)(ho:PE X o td)(he:PE X e ty)(hf:PE X f tx)(m:M2 X o "get" apos e f cpos):PE X (.Call (.Attribute o "get" apos) [e,f] [] cpos) (zbf4 td ty tx):=by
 intro pins s σ H Q I h
 refine wpAny_Call_method m.base m.few m.line PySem.F.plainAttrs_dict PySem.F.slot_dict_get PySem.F.type_dict_get (thn (ho pins s σ H _ I h) fun u s1 ⟨x,H1,I1,rx,a,ex,d,q1⟩=>?_)
 subst ex
 obtain rfl:u=Value.ref a:=rx
 obtain⟨t1,t2,_⟩:=isD_at I1 d
 refine⟨t1,t2,?_⟩
 rw[m.trees]
 refine Calls.callWith_builtin rfl (Calls.evalArgs_plain (Calls.spliced_cons (thn (he pins s1 σ H1 _ I1 q1) fun iv s2 ⟨y,H2,I2,ry,q2⟩=>
  Calls.spliced_cons (thn (hf pins s2 σ H2 _ I2 q2) fun fv s3 ⟨z,H3,I3,rz,ov,g,q3⟩=>Calls.spliced_nil ?_))))
 exact d_get2 hu I3 g ry rz fun w' s4 I4 rw'=>⟨_,H3,I4,rw',q3⟩
end
set_option maxHeartbeats 2000000
def RawD(h:Heap)(d:Addr)(es:Array DictEntry)(ep:Nat):Prop:=∃ o,h.get? d=some o/\o.ExactDict/\o.data=.dict es ep
theorem RawD.is{d:Addr}{es:Array DictEntry}(x:RawD s.heap d es ep):s.TypeIs (.ref d) "dict":=let ⟨o,a,b,_⟩:=x;⟨o,a,b.1⟩
theorem RawD.lt{d:Addr}{es:Array DictEntry}(x:RawD h d es ep):d<h.objs.size:=let ⟨_,a,_⟩:=x;zca7 a
theorem RawD.to{d:Addr}{es:Array DictEntry}(x:RawD h d es ep)(k:∀ o,h.get? d=some o->h'.get? d=some o):RawD h' d es ep:=let ⟨o,a,r⟩:=x;⟨o,k _ a,r⟩
section
variable {prog:Program}{w:World}{A:Around}{E:Value->Shared->Prop}{s:Shared}{d it:Addr}{es:Array DictEntry}{ep:Nat}
theorem zbh6(lo:(d==sysModules)=false)(x:RawD s.heap d es ep)(q:Q (.ref s.heap.objs.size) { s with heap:=s.heap.push { cls:=.type "dict_keyiterator",data:=.fields #[.ref d,.int 0 0,.int es.size 0,.int ep 0] } }) :
  wpAny (model prog w) A (pyIter (.ref d)) Q E s:=by
 obtain⟨o,x1,x2,x3⟩:=id x
 have tt:=x.is
 refine wpAny_pyIter_slot tt F.slot_dict_iter (wpAny_call_entry F.slot_dict_iter tt F.entry_dict_iter ?_ (F.args_dict_iter_1 _))
 unfold Builtin.«dict.__iter__» Builtin.Dict.dictSlotNone
 refine zci2 (zci2 (wpAny_notOrdered_dict tt ?_))
 show wpAny (model prog w) _ (pure (Value.ref d)) _ _ s
 refine zci3 (?_:_)
 show wpAny (model prog w) _ (Builtin.Dict.showsAll d >>= _) _ _ s
 unfold Builtin.Dict.showsAll
 rw[if_neg (fun z=>zca4 (lo.symm.trans z))]
 refine zci2 (zci3 (zci2 (wpAny_dictEntries x1 x3 (zci2 (wpAny_dictEpoch x1 x3 ?_)))))
 exact zci2 (wpAny_newObj_type (zci3 ⟨_,rfl,"dict_keyiterator",_,⟨_,zcb8 _ rfl,rfl⟩,F.slot_dict_keyiterator_next.lookup,by simpa [rawInt] using q⟩))
theorem zbl5{Q:Option Value->Shared->Prop}(y:s.heap.IsKeyIter it d i es.size ep)(x:RawD s.heap d es ep)(hi:i<es.size)(q:∀ h',h'.IsKeyIter it d (i+1) es.size ep->Heap.SameBut it s.heap h'->Q (some es[i].key) { s with heap:=h' }) :
  wpAny (model prog w) A (pyNext (.ref it)) Q E s:=by
 obtain⟨o,y1,y2,y3⟩:=id y
 obtain⟨od,x1,x2,x3⟩:=id x
 have own:Builtin.Dict_items.ownsTuple "dict_keyiterator"=false:=by decide
 unfold pyNext
 refine zci2 (wpAny_attempt (wpAny_callSpecial?_slot (name:=Str.ofString "__next__") y.typeIs F.slot_dict_keyiterator_next (wpAny_call_entry F.slot_dict_keyiterator_next y.typeIs F.entry_dict_keyiterator_next ?_ (F.args_dict_keyiterator_next_1 _))))
 refine zci2 (zci3 (zci2 (zci2 ?_)))
 first|refine zci2 (wpAny_typeNameOfWhole_keyiter y.typeIs (zci3 ?_))|refine zci2 (wpAny_typeNameOf_keyiter y.typeIs (zci3 ?_))
 refine zci2 (wpAny_fieldsOf y1 y3 ?_)
 simp only[own,zcf8,if_false]
 show wpAny (model prog w) _ (if (Value.ref d==Value.none)=true then _ else _) _ _ s
 rw[if_neg (show ¬ (Value.ref d==Value.none)=true from zca4)]
 refine zci2 (zci3 (zci2 (wpAny_dictEntries x1 x3 ?_)))
 rw[if_neg (by simp)]
 refine zci2 (zci3 (zci2 (wpAny_dictEpoch x1 x3 ?_)))
 rw[if_neg (by simp)]
 refine zci3 (?_:_)
 simp only[show ¬ ((i:Int)<0) from by omega,if_false,Int.toNat_natCast,zcf9 hi]
 refine zci2 (?_:_)
 first|refine zci2 (wpAny_typeNameOfWhole_keyiter y.typeIs (zci3 ?_))|refine zci2 (wpAny_typeNameOf_keyiter y.typeIs (zci3 ?_))
 refine zci2 (wpAny_isOneOf_keyiter y.typeIs ?_)
 show wpAny (model prog w) _ (setField (.ref it) 1 (rawInt ((i:Int)+1)) >>= _) _ _ s
 refine zci2 (wpAny_setField y1 y3 (by simp) ?_)
 have y':(s.heap.update it (Obj.mapFields (·.setIfInBounds 1 (rawInt ((i:Int)+1))))).IsKeyIter it d (i+1) es.size ep:=
  ⟨_,zcf5 _ y1 (Obj.isFreed_of_fields (Obj.data_mapFields y3 _)),(Obj.cls_mapFields ..).trans y2,by rw[Obj.data_mapFields y3];simp[rawInt]⟩
 refine zci2 (zci7 (zci2 (wpAny_isOneOf_keyiter (s:={ s with heap:=s.heap.update it (Obj.mapFields (·.setIfInBounds 1 (rawInt ((i:Int)+1)))) }) y'.typeIs ?_)))
 show wpAny (model prog w) _ (pure es[i].key) _ _ _
 exact zci3 (zci3 ⟨_,rfl,zci3 (q _ y' (Heap.SameBut.update ..))⟩)
theorem zbt7{Q:Option Value->Shared->Prop}(hh:A.handled=none)(y:s.heap.IsKeyIter it d i es.size ep)(x:RawD s.heap d es ep)(hi:es.size<=i)(q:∀ h',Heap.ExtBut it s.heap h'->Q none { s with heap:=h' }) :
  wpAny (model prog w) A (pyNext (.ref it)) Q E s:=by
 obtain⟨o,y1,y2,y3⟩:=id y
 obtain⟨od,x1,x2,x3⟩:=id x
 have own:Builtin.Dict_items.ownsTuple "dict_keyiterator"=false:=by decide
 unfold pyNext
 refine zci2 (wpAny_attempt (wpAny_callSpecial?_slot (name:=Str.ofString "__next__") y.typeIs F.slot_dict_keyiterator_next (wpAny_call_entry F.slot_dict_keyiterator_next y.typeIs F.entry_dict_keyiterator_next ?_ (F.args_dict_keyiterator_next_1 _))))
 refine zci2 (zci3 (zci2 (zci2 ?_)))
 first|refine zci2 (wpAny_typeNameOfWhole_keyiter y.typeIs (zci3 ?_))|refine zci2 (wpAny_typeNameOf_keyiter y.typeIs (zci3 ?_))
 refine zci2 (wpAny_fieldsOf y1 y3 ?_)
 simp only[own,zcf8,if_false]
 show wpAny (model prog w) _ (if (Value.ref d==Value.none)=true then _ else _) _ _ s
 rw[if_neg (show ¬ (Value.ref d==Value.none)=true from zca4)]
 refine zci2 (zci3 (zci2 (wpAny_dictEntries x1 x3 ?_)))
 rw[if_neg (by simp)]
 refine zci2 (zci3 (zci2 (wpAny_dictEpoch x1 x3 ?_)))
 rw[if_neg (by simp)]
 refine zci3 (?_:_)
 simp only[show ¬ ((i:Int)<0) from by omega,if_false,Int.toNat_natCast,Array.getElem?_eq_none hi]
 refine zci2 (?_:_)
 first|refine zci2 (wpAny_typeNameOfWhole_keyiter y.typeIs (zci3 ?_))|refine zci2 (wpAny_typeNameOf_keyiter y.typeIs (zci3 ?_))
 show wpAny (model prog w) _ (setField (.ref it) 0 .none >>= _) _ _ s
 refine zci2 (wpAny_setField y1 y3 (by simp) ?_)
 show wpAny (model prog w) _ (newExc (.type "StopIteration") [] >>= _) _ _ _
 refine zci2 (?_:_)
 unfold newExc newTuple
 refine zci2 (wpAny_newObj_type ?_ (zcd0 _))
 refine zci2 (m:=firstArgMember _ _) (wpAny_of_eq (a:=Value.none) (by first|rfl|(unfold firstArgMember;rfl)) ?_)
 refine wpAny_newObj_type ?_ (by size_fits)
 unfold raiseNew
 refine zci2 (wpAny_handled ?_)
 have hn:A.in1.handled=none:=hh
 rw[hn]
 refine zci2 (zci3 (wpAny_throw (?_:_)))
 refine zci2 (wpAny_isInstance (b:=true) (T:="StopIteration") ⟨_,zcb8 _ rfl,rfl⟩ isSubtype_stop ?_)
 exact zci3 (q _ (((Heap.SameBut.update ..).extBut.push _).push _))
theorem zbj9(hh:A.handled=none)(I:Addr)(ne:d≠I) :
  Walks prog w A I [I,d] [I] es.size (fun i v=>∃ e,es[i]?=some e/\v=e.key) (fun i h=>h.IsKeyIter I d i es.size ep/\RawD h d es ep) where
 sub:=by intro b z;simp at z;simp[z]
 frame:=fun i h h' st k=>⟨st.1.at (k I (by simp)),st.2.to (k d (by simp))⟩
 item:=fun i s Q E hi st q=>zbl5 st.1 st.2 hi fun h' y' hs=>q _ h' s.toks ⟨es[i],by simp[hi],rfl⟩ ⟨y',st.2.to fun o e=>hs.extBut d o ne e⟩ fun b o hb e=>hs.extBut b o (fun z=>hb (by simp[z])) e
 done:=fun s Q E st q=>zbt7 hh st.1 st.2 (zcb0 _) fun h' he=>q h' s.toks fun b o hb e=>he b o (fun z=>hb (by simp[z])) e
 self:=fun i s Q E st q=>wpAny_pyIter_keyiter st.1 q
theorem zbs8(lo:(d==sysModules)=false):PySem.W.KdlSrc prog w "dict" d d es.size (fun i v=>∃ e,es[i]?=some e/\v=e.key) (fun h=>RawD h d es ep) where
 type:=fun s x=>x.is
 there:=fun h x=>⟨x.lt,x.lt⟩
 keep:=fun h h' x k=>x.to fun o e=>k d (Or.inl rfl) o e
 notList:=rfl
 notTuple:=rfl
 hint:=fun A E s Q x q=>PySem.W.kdl_hint_dict x.is q
 iter:=fun A s hh x=>⟨_,_,(fun E Q q=>zbh6 lo x q),zbj9 hh _ (zcc9 x.lt),⟨⟨_,zcb8 _ rfl,rfl,rfl⟩,x.to fun o e=>zca1 _ e⟩⟩
end
open PySem.W
section
variable {lt:Nat->Nat->Bool}{n:Nat}
def KW{α:Type}(lt:Nat->Nat->Bool)(n:Nat)(Q:α->Prop):KasT α->Prop
 | .ret a=>Q a
 | .ask i j k=>i<n/\j<n/\KW lt n Q (k (lt i j))
theorem KW.bd{α β:Type}{f:α->KasT β}{Q:β->Prop}:∀ {t:KasT α},KW lt n (fun a=>KW lt n Q (f a)) t->KW lt n Q (t.bind f)
 | .ret _,h=>h
 | .ask _ _ k,⟨h1,h2,h3⟩=>⟨h1,h2,KW.bd (t:=k _) h3⟩
theorem KW.mono{α:Type}{Q Q':α->Prop}(hq:∀ a,Q a->Q' a):∀ {t:KasT α},KW lt n Q t->KW lt n Q' t
 | .ret a,h=>hq a h
 | .ask _ _ k,⟨h1,h2,h3⟩=>⟨h1,h2,KW.mono hq (t:=k _) h3⟩
theorem KW.wp{α:Type}{cmp:Nat->Nat->(Bool->Shared->Prop)->Shared->Prop}{s:Shared}{Q:α->Prop}(hc:∀ i j C,i<n->j<n->C (lt i j) s->cmp i j C s):∀ {t:KasT α},KW lt n Q t->t.kasWp cmp (fun a s'=>s'=s/\Q a) s
 | .ret a,h=>⟨rfl,h⟩
 | .ask i j k,⟨h1,h2,h3⟩=>hc i j _ h1 h2 (KW.wp hc (t:=k _) h3)
def Pm(n:Nat)(p:Array Nat):Prop:=p.toList.Perm (List.range n)
theorem Pm.low{p:Array Nat}(h:Pm n p)(hn:0<n)(i:Nat):p.getD i 0<n:=by
 unfold Array.getD
 split
 ·rename_i hi
  exact zce6.mp (h.mem_iff.mp (Array.getElem_mem_toList hi))
 ·exact hn
theorem Pm.rev{p:Array Nat}(h:Pm n p)(i j:Nat):Pm n (kas_rev p i j):=(Array.perm_iff_toList_perm.mp (mirror_perm p i j _)).trans h
theorem Pm.bub{p:Array Nat}(h:Pm n p)(i j:Nat):Pm n (bubble p i j):=(Array.perm_iff_toList_perm.mp (bubble_perm p i j)).trans h
end
section
variable {prog:Program}{w:World}{A:Around}{E:Value->Shared->Prop}{s:Shared}
def midH(h:Heap)(a:Addr)(vs:List Value):Heap:=((h.update a (Obj.mapSeq fun _=>#[])).push (seqObj "tuple" vs.toArray 0)).push (seqObj "list" #[] 0)
theorem zba2{a b:Addr}(ne:b≠a)(e:h.get? b=some o):(midH h a vs).get? b=some o:=
 zca1 _ (zca1 _ ((Heap.get?_update_ne _ _ _ _ ne).trans e))
theorem zac6{a b:Addr}{out:Array Value}(ne:b≠a)(e:h.get? b=some o):(sortedHeap h a vs out).get? b=some o:=
 (Heap.get?_update_ne _ _ _ _ ne).trans (zba2 ne e)
theorem zbh0{a:Addr}{xs:List Value}{n:Nat}(e:h.get? a=some (seqObj "list" xs.toArray n)):∃ c,(midH h a vs).get? a=some (seqObj "list" #[] c)/\(h.update a (Obj.mapSeq fun _=>#[])).get? a=some (seqObj "list" #[] c):=
 ⟨_,zca1 _ (zca1 _ (get?_update_seq e fun _=>#[])),get?_update_seq e fun _=>#[]⟩
theorem zam8{a:Addr}{xs:List Value}{n:Nat}{out:Array Value}(e:h.get? a=some (seqObj "list" xs.toArray n)):∃ c,(sortedHeap h a vs out).get? a=some (seqObj "list" out c):=by
 obtain⟨c,h1,_⟩:=zbh0 (vs:=vs) e
 exact⟨_,get?_update_seq h1 fun _=>out⟩
theorem zbs3{a:Addr}{n:Nat}{κ:SortKind}{lt:Nat->Nat->Bool}{R:Array Nat->Prop}{P:PySem.Fin->Shared->Prop}(ho:s.heap.get? a=some (seqObj "list" vs.toArray n))(h2:2<=vs.length)(h64:vs.length<64)(hk:∀ Q:SortKind->Shared->Prop,Q κ { s with heap:=midH s.heap a vs }->wpAny (model prog w) A (keyKind' vs.toArray) Q E { s with heap:=midH s.heap a vs })(hc:∀ i j (C:Bool->Shared->Prop),i<vs.length->j<vs.length->C (lt i j) { s with heap:=midH s.heap a vs }->wpAny (model prog w) A (keyLt' κ (vs.getD i Value.none) (vs.getD j Value.none)) C (fun _ _=>False) { s with heap:=midH s.heap a vs })(kw:KW lt vs.length R (kas_sort vs.length))(h:∀ p:Array Nat,p.size=vs.length->R p->P (.done (.ret .none)) { s with heap:=sortedHeap s.heap a vs (List.toArray (p.toList.map fun i=>vs.getD i Value.none)) }) :
  wpAny (model prog w) A (Builtin.«list.sort» ⟨[.ref a],[]⟩) P E s:=by
 obtain⟨c,m1,m2⟩:=zbh0 (vs:=vs) ho
 have zs:¬ vs.toArray.size<2:=by rw[zca2];omega
 have zl:vs.length<=sizeLine:=by rw[zci4];omega
 rw[list_sort_plain]
 refine zci2 (listItems_at ho rfl (zci2 (listUpdate_at ho rfl ?_ (by rw[zca2];exact zl) (zcd0 _))))
 refine zci2 (seqEpoch_at m2 rfl (zci2 (wpAny_newTuple ?_ zl)))
 refine zci2 (wpAny_newList ?_ (zcd0 _))
 refine zci7 (?_:_)
 show wpAny (model prog w) A _ P E { s with heap:=midH s.heap a vs }
 dsimp only
 rw[if_neg zs,if_neg zs]
 refine zci2 (hk _ ?_)
 have run:=kat_run (prog:=prog) (w:=w) (A:=A) (E:=E) (κ:=κ) (ks:=vs) (vs:=vs) (s:={ s with heap:=midH s.heap a vs }) (Q:=fun st' s'=>s'={ s with heap:=midH s.heap a vs }/\∃ p:Array Nat,p.size=vs.length/\R p/\arrOf st'=p.map (kas_item (vs.toArray.zip vs.toArray))/\failedOf st'=none)
  rfl h2 h64 (fun p st' s' b1 b2 b3 b4=>⟨b4.1,p,b1,b4.2,b2,b3⟩) (KW.wp (cmp:=kas_ask prog w A κ vs) (fun i j C li lj hC=>hc i j C li lj hC) kw)
 refine zci2 (wpAny_mono run ?_ fun _ _ e=>e)
 rintro⟨⟨⟩,st'⟩ s' ⟨rfl,p,pz,pR,har,hf⟩
 have out:=kat_snds rfl har
 dsimp only
 rw[out]
 refine zci2 (seqEpoch_at m1 rfl (zci2 (listUpdate_at m1 rfl ?_ (zcd0 _) ?_)))
 ·rw[hf]
  simp only[bne_self_eq_false,zcf8,if_false]
  exact zci3 (h p pz pR)
 ·rw[zca2,zbz4,zcc1,pz]
  omega
theorem zbk8{a:Addr}{n:Nat}{P:PySem.Fin->Shared->Prop}(ho:s.heap.get? a=some (seqObj "list" vs.toArray n))(h2:vs.length<2)(h:P (.done (.ret .none)) { s with heap:=sortedHeap s.heap a vs vs.toArray }):wpAny (model prog w) A (Builtin.«list.sort» ⟨[.ref a],[]⟩) P E s:=by
 obtain⟨c,m1,m2⟩:=zbh0 (vs:=vs) ho
 have zs:vs.toArray.size<2:=by rw[zca2];omega
 have zl:vs.length<=sizeLine:=by rw[zci4];omega
 rw[list_sort_plain]
 refine zci2 (listItems_at ho rfl (zci2 (listUpdate_at ho rfl ?_ (by rw[zca2];exact zl) (zcd0 _))))
 refine zci2 (seqEpoch_at m2 rfl (zci2 (wpAny_newTuple ?_ zl)))
 refine zci2 (wpAny_newList ?_ (zcd0 _))
 refine zci7 (?_:_)
 show wpAny (model prog w) A _ P E { s with heap:=midH s.heap a vs }
 dsimp only
 rw[if_pos zs,if_pos zs]
 refine zci2 (zci3 (?_:_))
 rw[StateT.run_pure]
 refine zci2 (zci3 (?_:_))
 dsimp only
 have e:(vs.toArray.zip vs.toArray).map (·.2)=vs.toArray:=by
  apply Array.toList_inj.mp
  simp[List.map_snd_zip]
 show wpAny (model prog w) A (seqEpoch a >>= _) P E _
 refine zci2 (seqEpoch_at m1 rfl (zci2 (listUpdate_at m1 rfl ?_ (zcd0 _) ?_)))
 ·simp only[bne_self_eq_false,zcf8,if_false]
  show wpAny (model prog w) A (ret Value.none) P E { s with heap:=sortedHeap s.heap a vs ((vs.toArray.zip vs.toArray).map (·.2)) }
  rw[e]
  exact zci3 h
 ·show ((vs.toArray.zip vs.toArray).map (·.2)).size<=_
  rw[e,zca2];omega
end
def ltP(x y:Int×Int):Bool:=if (x.1==y.1)=true then (if (x.2==y.2)=true then false else decide (x.2<y.2)) else decide (x.1<y.1)
def TupI(h:Heap)(v:Value)(x:Int×Int):Prop:=∃ a o t u n,v=.ref a/\h.get? a=some o/\o.cls=.type "tuple"/\o.data=.seq #[.int x.1 t,.int x.2 u] n
theorem TupI.to{v:Value}{x:Int×Int}(z:TupI h v x)(k:∀ b o,h.get? b=some o->h'.get? b=some o):TupI h' v x:=
 let ⟨a,o,t,u,n,e,e1,r⟩:=z;⟨a,o,t,u,n,e,k _ _ e1,r⟩
section
variable {prog:Program}{w:World}{A:Around}{E:Value->Shared->Prop}{s:Shared}
theorem zbp5{v v':Value}{x y:Int×Int}{C:Bool->Shared->Prop}(hv:TupI s.heap v x)(hv':TupI s.heap v' y)(h:C (ltP x y) s):wpAny (model prog w) A (keyLt' (tuples' true) v v') C E s:=by
 obtain⟨a,o,t,u,n,rfl,a1,a2,a3⟩:=hv
 obtain⟨b,o',t',u',n',rfl,b1,b2,b3⟩:=hv'
 refine kat_lt a1 a3 b1 b3 ?_
 show KatLex prog w A true false C [(.int x.1 t,.int y.1 t'),(.int x.2 u,.int y.2 u')] 0 s
 unfold ltP at h
 refine kat_cons (wpAny_eqBool_int (kat_go (fun e=>?_) fun e=>?_))
 ·rw[if_pos e] at h
  refine kat_yes (kat_cons (wpAny_eqBool_int (kat_go (fun e2=>?_) fun e2=>?_)))
  ·rw[if_pos e2] at h
   exact kat_yes (kat_nil h)
  ·rw[if_neg (by rw[e2];exact zca4)] at h
   exact kat_no (kat_one _ _ (wpAny_lt_int h))
 ·rw[if_neg (by rw[e];exact zca4)] at h
  exact kat_no (oneLt_int h)
theorem zbb1{h:Heap}:∀ {vs:List Value},(∀ v∈vs,∃ x,TupI h v x)->∃ fs,KatTups h vs fs/\fs.length=vs.length/\∀ f∈fs,∃ n t,f=Value.int n t
 | [],_=>⟨[],.nil,rfl,fun _ z=>nomatch z⟩
 | v :: vs,H=>by
  obtain⟨fs,a1,a2,a3⟩:=zbb1 (vs:=vs) fun u hu=>H u (.tail _ hu)
  obtain⟨x,a,o,t,u,n,rfl,b1,b2,b3⟩:=H v (.head _)
  refine⟨.int x.1 t :: fs,KatTups.cons b1 b2 b3 rfl a1,congrArg (·+1) a2,fun f hf=>?_⟩
  rcases zca6.mp hf with rfl|hf
  ·exact⟨_,_,rfl⟩
  ·exact a3 f hf
theorem zbe9{Q:SortKind->Shared->Prop}(H:∀ v∈vs,∃ x,TupI s.heap v x)(h2:2<=vs.length)(h:Q (tuples' true) s):wpAny (model prog w) A (keyKind' vs.toArray) Q E s:=by
 obtain⟨fs,a1,a2,a3⟩:=zbb1 H
 refine kat_kind (T:=.type "int") a1 (by omega) (fun v hv=>?_) rfl h
 obtain⟨n,t,rfl⟩:=a3 v hv
 exact Looks.of_pure rfl
end
section
variable {X:Cx}{K:zbz7}
@[irreducible] def rDG(a:Addr)(y:V)(H:Hp)(Q:VK):Prop:=∃ v,DGet H a y (some v)/\Q v H
def rDGV(x y:V)(H:Hp)(Q:VK):Prop:=match x with
 | .ref a=>rDG a y H Q
 | _=>False
def tDG(td ty:TE):TE:=fun σ H Q=>td σ H fun x H1=>ty σ H1 fun y H2=>rDGV x y H2 Q
theorem tDG_eq(td ty:TE):tDG td ty=tDGet td ty:=by
 funext σ H Q
 unfold tDG tDGet
 congr 1;funext x H1;congr 1;funext y H2
 unfold rDGV
 apply propext
 cases x<;>first
  | (simp only[V.ref.injEq];unfold rDG;exact⟨fun ⟨v,g,q⟩=>⟨_,v,rfl,g,q⟩,fun ⟨a,v,e,g,q⟩=>⟨v,e▸g,q⟩⟩)
  | exact⟨fun z=>z.elim,fun ⟨a,v,e,_⟩=>nomatch e⟩
theorem peDGet{o i:Expr}{td ty:TE}{pos:Pos}(hu:X.A.units+40<cLine)(ho:PE X o td)(hi:PE X i ty)(hs:NoSl i:=by exact fun _ _=>rfl):PE X (.Subscript o i pos) (tDG td ty):=tDG_eq td ty▸zbu0 (by omega) ho hi hs
theorem dgT_rd{a b:Addr}{Q:VK}{kvs:List (List Key×V)}{k:List Key}{v:V}(e:H a=some (.dT kvs))(eb:H b=some (.tup (k.map kV)))(ev:valV kvs k=some v)(q:Q v H):rDG a (.ref b) H Q:=by
 unfold rDG
 exact⟨v,ev▸DGet.t e eb,q⟩
@[irreducible] def rIsD(a:Addr)(H:Hp)(P:Prop):Prop:=IsD H a/\P
@[irreducible] def rDG2(a:Addr)(y z:V)(H:Hp)(Q:VK):Prop:=∃ o,DGet H a y o/\Q (o.getD z) H
def rDG2V(x:V)(H:Hp)(P:Addr->Prop):Prop:=match x with
 | .ref a=>rIsD a H (P a)
 | _=>False
def tDG2(td ty tx:TE):TE:=fun σ H Q=>td σ H fun x H1=>rDG2V x H1 fun a=>ty σ H1 fun y H2=>tx σ H2 fun z H3=>rDG2 a y z H3 Q
theorem zbp9(td ty tx:TE):tDG2 td ty tx=zbf4 td ty tx:=by
 funext σ H Q
 unfold tDG2 zbf4
 congr 1;funext x H1
 unfold rDG2V rIsD rDG2
 apply propext
 cases x<;>first
  | (simp only[V.ref.injEq];exact⟨fun z=>⟨_,rfl,z⟩,fun ⟨a,e,z⟩=>e▸z⟩)
  | exact⟨fun z=>z.elim,fun ⟨a,e,_⟩=>nomatch e⟩
theorem zat2{o e f:Expr}{td ty tx:TE}{apos cpos:Pos}(hu:X.A.units+40<cLine)(ho:PE X o td)(he:PE X e ty)(hf:PE X f tx)(m1:attributeBase o "get" X.env (eval o X.env)=eval o X.env:=by rfl)(m2:((backTo cpos (starEach [e,f] X.env)).all (fun x=>!x.1)&&(backToKw cpos (keywordEach [] X.env)).all (fun x=>x.1.isSome)&&decide (([e,f]:List Expr).length+([]:List Keyword).length+(if ([]:List Keyword).isEmpty then 0 else 1)<30))=true:=by rfl)(m3:(apos.endLine==cpos.line)=true:=by rfl)(m4:backTo cpos (starEach [e,f] X.env)=[(false,eval e X.env),(false,eval f X.env)]:=by rfl):PE X (.Call (.Attribute o "get" apos) [e,f] [] cpos) (tDG2 td ty tx):=
 zbp9 td ty tx▸zbh5 (by omega) ho he hf ⟨m1,m2,m3,m4⟩
theorem zbo9{a:Addr}{P:Prop}{kvs:List (List Key×V)}(e:H a=some (.dT kvs))(p:P):rIsD a H P:=by unfold rIsD;exact⟨.inr ⟨kvs,.inl e⟩,p⟩
theorem zbq7{a b:Addr}{z:V}{Q:VK}{kvs:List (List Key×V)}{k:List Key}(e:H a=some (.dT kvs))(eb:H b=some (.tup (k.map kV)))(q:Q ((valV kvs k).getD z) H):rDG2 a (.ref b) z H Q:=by
 unfold rDG2
 exact⟨_,DGet.t e eb,q⟩
@[irreducible] def rDP(a:Addr)(y v:V)(H:Hp)(N:Hp->Prop):Prop:=∃ H',DPut H a y v H'/\N H'
def rDPV(x y v:V)(H:Hp)(N:Hp->Prop):Prop:=match x with
 | .ref a=>rDP a y v H N
 | _=>False
def sDP(td ty tv:TE):TS:=fun D σ H=>tv σ H fun v H1=>td σ H1 fun x H2=>ty σ H2 fun y H3=>rDPV x y v H3 (D.nx σ)
theorem sDP_eq(td ty tv:TE):sDP td ty tv=sDPut td ty tv:=by
 funext D σ H
 unfold sDP sDPut
 congr 1;funext v H1;congr 1;funext x H2;congr 1;funext y H3
 unfold rDPV
 apply propext
 cases x<;>first
  | (simp only[V.ref.injEq];unfold rDP;exact⟨fun ⟨H',g,q⟩=>⟨_,H',rfl,g,q⟩,fun ⟨a,H',e,g,q⟩=>⟨H',e▸g,q⟩⟩)
  | exact⟨fun z=>z.elim,fun ⟨a,v,e,_⟩=>nomatch e⟩
theorem psDPut{o i value:Expr}{td ty tv:TE}{pos pos':Pos}(hu:X.A.units+40<cLine)(ho:PE X o td)(hi:PE X i ty)(hv:PE X value tv)(hs:swapsWith value (some (.Subscript o i pos')) pos.line X.env=pure false:=by rfl) :
  PS X (.Assign [.Subscript o i pos'] value pos) (sDP td ty tv):=sDP_eq td ty tv▸zbu2 (by omega) ho hi hv hs
theorem dpT_rd{a b:Addr}{v:V}{N:Hp->Prop}{kvs:List (List Key×V)}{k:List Key}(e:H a=some (.dT kvs))(eb:H b=some (.tup (k.map kV)))(hl:kvs.length<sizeLine)(q:∀ H',Chg a H H'->H' a=some (.dT (putK kvs k v))->N H'):rDP a (.ref b) v H N:=by
 unfold rDP
 exact⟨_,DPut.t e eb hl,q _ Chg.upd zb1⟩
def pK(x:Int×Int):List Key:=[.inl x.1,.inl x.2]
theorem zaj5{α β:Type}{R:α->β->Prop}:∀ {as:List α}{bs:List β},Paired R as bs->∀ (i:Nat) (a:α) (b:β),as[i]?=some a->bs[i]?=some b->R a b:=by
 intro as bs h
 induction h with
 | nil=>intro i a b e;simp at e
 | cons h1 _ ih=>
  intro i a b e1 e2
  cases i with
  | zero=>simp at e1 e2;subst e1;subst e2;exact h1
  | succ j=>simp at e1 e2;exact ih j a b e1 e2
theorem zal8{α β:Type}{R:α->β->Prop}:∀ {as:List α}{bs:List β},as.length=bs.length->(∀ (i:Nat) (a:α) (b:β),as[i]?=some a->bs[i]?=some b->R a b)->Paired R as bs
 | [],[],_,_=>.nil
 | a :: as,b :: bs,hl,h=>.cons (h 0 a b rfl rfl) (zal8 (Nat.succ.inj hl) fun i x y e1 e2=>h (i+1) x y (by simpa using e1) (by simpa using e2))
end
structure Ord(lt:Nat->Nat->Bool):Prop where
 as:∀ i j,lt i j=true->lt j i=false
 tr:∀ i j k,lt j i=false->lt k j=false->lt k i=false
section
variable {lt:Nat->Nat->Bool}{n:Nat}
def gp(p:Array Nat)(i:Nat):Nat:=p.getD i 0
theorem zbf3{p q:Array Nat}(h:p[i]?=q[j]?):gp p i=gp q j:=by
 unfold gp
 rw[zch1,zch1,h]
theorem zq8{p:Array Nat}(hj:j<=p.size)(k:Nat):gp (kas_rev p i j) k=if i<=k/\k<j then gp p (i+j - 1 - k) else gp p k:=by
 have h:=getElem?_mirror_all (xs:=p) (i:=i) hj k
 split
 ·rename_i c;rw[if_pos c] at h;exact zbf3 h
 ·rename_i c;rw[if_neg c] at h;exact zbf3 h
theorem zbn7{p:Array Nat}{k l:Nat}(hk:k<p.size)(hl:l<=k)(i:Nat):gp (bubble p k (k - l)) i=if i=l then gp p k else if l<i/\i<=k then gp p (i - 1) else gp p i:=by
 have h:=getElem?_bubble hk (k - l) (by omega) i
 rw[show k - (k - l)=l by omega] at h
 split
 ·rename_i c;rw[if_pos c] at h;exact zbf3 h
 ·rename_i c
  rw[if_neg c] at h
  split
  ·rename_i c2;rw[if_pos c2] at h;exact zbf3 h
  ·rename_i c2;rw[if_neg c2] at h;exact zbf3 h
def Up(lt:Nat->Nat->Bool)(p:Array Nat)(k:Nat):Prop:=∀ i j,i<=j->j<k->lt (gp p j) (gp p i)=false
def Dn(lt:Nat->Nat->Bool)(p:Array Nat)(k:Nat):Prop:=∀ i j,i<=j->j<k->lt (gp p i) (gp p j)=false
theorem Ord.rf(O:Ord lt)(i:Nat):lt i i=false:=by
 cases h:lt i i with
 | false=>rfl
 | true=>exact absurd (O.as _ _ h) (by rw[h];exact fun w=>nomatch w)
theorem Up.snoc(O:Ord lt){p:Array Nat}{k:Nat}(u:Up lt p k)(hk:1<=k)(h:lt (gp p k) (gp p (k - 1))=false):Up lt p (k+1):=fun i j hij hj=>by
 by_cases e:j=k
 ·subst e
  by_cases e2:i=j
  ·subst e2;exact O.rf _
  ·exact O.tr _ _ _ (u i (j - 1) (by omega) (by omega)) h
 ·exact u i j hij (by omega)
theorem Dn.snoc(O:Ord lt){p:Array Nat}{k:Nat}(u:Dn lt p k)(hk:1<=k)(h:lt (gp p (k - 1)) (gp p k)=false):Dn lt p (k+1):=fun i j hij hj=>by
 by_cases e:j=k
 ·subst e
  by_cases e2:i=j
  ·subst e2;exact O.rf _
  ·exact O.tr _ _ _ h (u i (j - 1) (by omega) (by omega))
 ·exact u i j hij (by omega)
theorem Pm.size{p:Array Nat}(h:Pm n p):p.size=n:=by have:=h.length_eq;rw[zcc1,zce1] at this;exact this
theorem zay6(O:Ord lt)(hn:0<n){p:Array Nat}(h:Pm n p):∀ f m,1<=m->Up lt p m->KW lt n (fun r=>m<=r/\r<=m+f/\Up lt p r/\(r<m+f->lt (gp p r) (gp p (r - 1))=true)) (kas_asc p f m)
 | 0,m,_,u=>⟨zcb0 _,zcb0 _,u,fun z=>absurd z (zce8 _)⟩
 | f+1,m,hm,u=>by
  refine⟨h.low hn _,h.low hn _,?_⟩
  dsimp only
  cases e:lt (p.getD m 0) (p.getD (m - 1) 0) with
  | true=>rw[if_pos rfl];exact⟨zcb0 _,zcg6 _ _,u,fun _=>e⟩
  | false=>
   rw[if_neg (by decide)]
   exact KW.mono (fun r hr=>⟨by omega,by omega,hr.2.2.1,fun z=>hr.2.2.2 (by omega)⟩) (zay6 O hn h f (m+1) (by omega) (u.snoc O hm e))
def Al(lt:Nat->Nat->Bool)(p:Array Nat)(m q:Nat):Prop:=∀ i j,m - (q+1)<=i->i<=j->j<m->lt (gp p j) (gp p i)=false
theorem Dn.al_rev(O:Ord lt){p:Array Nat}{q:Nat}(hm:m<=p.size)(hq:q+1<=m)(d:Dn lt p m)(al:Al lt p m q):Dn lt (kas_rev p (m - (q+1)) m) m:=fun i j hij hj=>by
 rw[zq8 hm,zq8 hm]
 by_cases ci:m - (q+1)<=i/\i<m
 ·rw[if_pos ci,if_pos ⟨by omega,hj⟩]
  exact al _ _ (by omega) (by omega) (by omega)
 ·rw[if_neg ci]
  split
  ·exact d i _ (by omega) (by omega)
  ·exact d i j hij hj
theorem zae8(O:Ord lt)(hn:0<n):∀ f (p:Array Nat) m q,Pm n p->m+f<=n->q+1<=m->Dn lt p m->Al lt p m q->KW lt n (fun r=>Pm n r.1/\m<=r.2.1/\r.2.1<=m+f/\r.2.2+1<=r.2.1/\Dn lt r.1 r.2.1/\Al lt r.1 r.2.1 r.2.2) (kas_desc f p m q)
 | 0,p,m,q,h,hf,hq,d,al=>⟨h,zcb0 _,zcb0 _,hq,d,al⟩
 | f+1,p,m,q,h,hf,hq,d,al=>by
  have hz:=h.size
  refine⟨h.low hn _,h.low hn _,?_⟩
  dsimp only
  cases e:lt (p.getD m 0) (p.getD (m - 1) 0) with
  | true=>
   rw[if_pos rfl]
   have al0:∀ p':Array Nat,Al lt p' (m+1) 0:=fun p' i j h1 h2 h3=>by
    have:i=j:=by omega
    subst this;exact O.rf _
   split
   ·rename_i q0
    refine KW.mono (fun r hr=>⟨hr.1,by omega,by omega,hr.2.2.2⟩) (zae8 O hn f _ (m+1) 0 (h.rev _ _) (by omega) (by omega) ?_ (al0 _))
    refine (d.al_rev O (by omega) hq al).snoc O (by omega) ?_
    rw[zq8 (by omega),zq8 (by omega),if_pos (by omega),if_neg (by omega),show m - (q+1)+m - 1 - (m - 1)=m - (q+1) by omega]
    exact O.tr _ _ _ (O.as _ _ e) (d _ _ (by omega) (by omega))
   ·exact KW.mono (fun r hr=>⟨hr.1,by omega,by omega,hr.2.2.2⟩) (zae8 O hn f p (m+1) 0 h (by omega) (by omega) (d.snoc O (by omega) (O.as _ _ e)) (al0 _))
  | false=>
   rw[if_neg (by decide)]
   refine⟨h.low hn _,h.low hn _,?_⟩
   dsimp only
   cases e2:lt (p.getD (m - 1) 0) (p.getD m 0) with
   | true=>rw[if_pos rfl];exact⟨h,zcb0 _,zcg6 _ _,hq,d,al⟩
   | false=>
    rw[if_neg (by decide)]
    refine KW.mono (fun r hr=>⟨hr.1,by omega,by omega,hr.2.2.2⟩) (zae8 O hn f p (m+1) (q+1) h (by omega) (by omega) (d.snoc O (by omega) e2) ?_)
    intro i j h1 h2 h3
    by_cases ej:j=m
    ·subst ej
     by_cases ei:i=j
     ·subst ei;exact O.rf _
     ·exact O.tr _ _ _ (al i (j - 1) (by omega) (by omega) (by omega)) e
    ·exact al i j (by omega) h2 (by omega)
theorem Dn.rev{p:Array Nat}(hm:m<=p.size)(d:Dn lt p m):Up lt (kas_rev p 0 m) m:=fun i j hij hj=>by
 rw[zq8 hm,zq8 hm,if_pos (by omega),if_pos (by omega)]
 exact d _ _ (by omega) (by omega)
theorem zbd7(O:Ord lt)(hn:0<n){p:Array Nat}(h:Pm n p)(hm:m<=n)(m1:1<=m)(d:Dn lt p m):KW lt n (fun x=>Pm n x.2/\1<=x.1/\x.1<=n/\Up lt x.2 x.1) (kas_tail3 m n p):=
 KW.bd (KW.mono (fun r hr=>⟨h.rev 0 m,by omega,by omega,hr.2.2.1⟩) (zay6 O hn (h.rev 0 m) (n - m) m m1 (d.rev (by rw[h.size];exact hm))))
theorem zax9(O:Ord lt)(hn:0<n){p:Array Nat}(h:Pm n p)(hm:m+1<=n)(d:Dn lt p (m+1)):KW lt n (fun x=>Pm n x.2/\1<=x.1/\x.1<=n/\Up lt x.2 x.1) (kas_descPart m n p):=by
 refine KW.bd (KW.mono (fun r hr=>?_) (zae8 O hn (n - (m+1)) p (m+1) 0 h (by omega) (by omega) d fun i j h1 h2 h3=>?_))
 ·obtain⟨r1,r2,r3,r4,r5,r6⟩:=hr
  split
  ·exact zbd7 O hn (r1.rev _ _) (by omega) (by omega) (r5.al_rev O (by rw[Pm.size r1];omega) r4 r6)
  ·exact zbd7 O hn r1 (by omega) (by omega) r5
 ·have:i=j:=by omega
  subst this;exact O.rf _
theorem zbh9(O:Ord lt)(hn:0<n){p:Array Nat}(h:Pm n p):KW lt n (fun x=>Pm n x.2/\1<=x.1/\x.1<=n/\Up lt x.2 x.1) (kas_count n p):=by
 have u1:Up lt p 1:=fun i j h1 h2=>by
  have:i=j:=by omega
  subst this;exact O.rf _
 refine KW.bd (KW.mono (fun r hr=>?_) (zay6 O hn h (n - 1) 1 (zcb0 _) u1))
 obtain⟨r1,r2,r3,r4⟩:=hr
 by_cases c:(r==n)=true
 ·rw[if_pos c]
  exact⟨h,r1,by omega,r3⟩
 ·rw[if_neg c]
  have rn:r<n:=by
   have:r≠n:=fun z=>c (by rw[z];exact beq_self_eq_true n)
   omega
  by_cases c2:r>1
  ·rw[if_pos c2]
   refine⟨h.low hn _,h.low hn _,?_⟩
   dsimp only
   cases e:lt (p.getD 0 0) (p.getD (r - 1) 0) with
   | true=>rw[if_pos rfl];exact⟨h,r1,by omega,r3⟩
   | false=>
    rw[if_neg (by decide)]
    have hz:r<=p.size:=by rw[Pm.size h];omega
    have st:=r4 (by omega)
    refine zax9 O hn (h.rev 0 r) (by omega) (Dn.snoc O (fun i j hij hj=>?_) (by omega) ?_)
    ·rw[zq8 hz,zq8 hz,if_pos (by omega),if_pos (by omega)]
     exact r3 _ _ (by omega) (by omega)
    ·rw[zq8 hz,zq8 hz,if_pos (by omega),if_neg (by omega),show 0+r - 1 - (r - 1)=0 by omega]
     exact O.tr _ _ _ (O.as _ _ st) e
  ·rw[if_neg c2]
   have r0:r=1:=by omega
   subst r0
   have st:=r4 (by omega)
   exact zax9 O hn h (by omega) (Dn.snoc O (fun i j hij hj=>by
    have:i=j:=by omega
    subst this;exact O.rf _) (zcb0 _) (O.as _ _ st))
theorem zag9(O:Ord lt)(hn:0<n){p:Array Nat}(h:Pm n p)(k:Nat)(u:Up lt p k):∀ f l r,l<=r->r<=k->r<=l+f->(∀ i,i<l->lt (gp p k) (gp p i)=false)->(∀ i,r<=i->i<k->lt (gp p k) (gp p i)=true) ->
  KW lt n (fun x=>x<=k/\(∀ i,i<x->lt (gp p k) (gp p i)=false)/\∀ i,x<=i->i<k->lt (gp p k) (gp p i)=true) (kas_place p k f l r)
 | 0,l,r,h1,h2,h3,a,b=>by
  have:r=l:=by omega
  subst this
  exact⟨h2,a,b⟩
 | f+1,l,r,h1,h2,h3,a,b=>by
  unfold kas_place
  by_cases c:l≥r
  ·rw[if_pos c]
   have:r=l:=by omega
   subst this
   exact⟨h2,a,b⟩
  ·rw[if_neg c]
   refine⟨h.low hn _,h.low hn _,?_⟩
   dsimp only
   cases e:lt (p.getD k 0) (p.getD ((l+r) / 2) 0) with
   | true=>
    rw[if_pos rfl]
    refine zag9 O hn h k u f l ((l+r) / 2) (by omega) (by omega) (by omega) a fun i hi hk=>?_
    cases e2:lt (gp p k) (gp p i) with
    | true=>rfl
    | false=>
     have:=O.tr _ _ _ (u ((l+r) / 2) i hi hk) (show lt (gp p k) (gp p i)=false from e2)
     rw[show lt (gp p k) (gp p ((l+r) / 2))=true from e] at this
     cases this
   | false=>
    rw[if_neg (by decide)]
    refine zag9 O hn h k u f ((l+r) / 2+1) r (by omega) h2 (by omega) (fun i hi=>?_) b
    exact O.tr _ _ _ (u i ((l+r) / 2) (by omega) (by omega)) e
theorem up_bub(O:Ord lt){p:Array Nat}{k l:Nat}(hk:k<p.size)(u:Up lt p k)(hl:l<=k)(a:∀ i,i<l->lt (gp p k) (gp p i)=false)(b:∀ i,l<=i->i<k->lt (gp p k) (gp p i)=true):Up lt (bubble p k (k - l)) (k+1):=fun i j hij hj=>by
 rw[zbn7 hk hl,zbn7 hk hl]
 by_cases ci:i=l
 ·rw[if_pos ci]
  by_cases cj:j=l
  ·rw[if_pos cj];exact O.rf _
  ·rw[if_neg cj,if_pos (by omega)]
   exact O.as _ _ (b (j - 1) (by omega) (by omega))
 ·rw[if_neg ci]
  by_cases cj:j=l
  ·rw[if_pos cj,if_neg (by omega)]
   exact a i (by omega)
  ·rw[if_neg cj]
   by_cases di:l<i/\i<=k
   ·rw[if_pos di,if_pos (by omega)]
    exact u _ _ (by omega) (by omega)
   ·rw[if_neg di]
    by_cases dj:l<j/\j<=k
    ·rw[if_pos dj]
     exact u _ _ (by omega) (by omega)
    ·rw[if_neg dj]
     exact u _ _ hij (by omega)
theorem zbl9(O:Ord lt)(hn:0<n):∀ f (p:Array Nat) k,Pm n p->k+f=n->Up lt p k->KW lt n (fun p'=>Pm n p'/\Up lt p' n) (kas_bin f p k)
 | 0,p,k,h,e,u=>by
  have:k=n:=by omega
  subst this
  exact⟨h,u⟩
 | f+1,p,k,h,e,u=>by
  refine KW.bd (KW.mono (fun l hl=>?_) (zag9 O hn h k u k 0 k (zcd0 _) (zcb0 _) (by omega) (fun i hi=>absurd hi (Nat.not_lt_zero _)) fun i h1 h2=>absurd h2 (by omega)))
  exact zbl9 O hn f _ (k+1) (h.bub _ _) (by omega) (up_bub O (by rw[Pm.size h];omega) u hl.1 hl.2.1 hl.2.2)
theorem zbr9(O:Ord lt)(hn:0<n):KW lt n (fun p=>Pm n p/\Up lt p n) (kas_sort n):=by
 have h0:Pm n (List.toArray (List.range n)):=List.Perm.refl _
 refine KW.bd (KW.mono (fun r hr=>?_) (zbh9 O hn h0))
 obtain⟨r1,r2,r3,r4⟩:=hr
 by_cases c:r.1<n
 ·rw[if_pos c,show max r.1 1=r.1 by omega]
  exact zbl9 O hn _ _ _ r1 (by omega) r4
 ·rw[if_neg c]
  have e:r.1=n:=by omega
  exact⟨r1,e▸r4⟩
end
theorem zz0{x y:Int×Int}:ltP x y=true↔x.1<y.1∨(x.1=y.1/\x.2<y.2):=by
 unfold ltP
 by_cases e:x.1=y.1
 ·rw[if_pos (beq_iff_eq.mpr e)]
  by_cases e2:x.2=y.2
  ·rw[if_pos (beq_iff_eq.mpr e2)]
   exact⟨(fun h=>by cases h),fun h=>by omega⟩
  ·rw[if_neg (fun h=>e2 (beq_iff_eq.mp h)),decide_eq_true_iff]
   exact⟨fun h=>.inr ⟨e,h⟩,fun h=>by omega⟩
 ·rw[if_neg (fun h=>e (beq_iff_eq.mp h)),decide_eq_true_iff]
  exact⟨fun h=>.inl h,fun h=>by omega⟩
theorem zz9{x y:Int×Int}:ltP x y=false↔¬ (x.1<y.1∨(x.1=y.1/\x.2<y.2)):=by
 rw[← zz0]
 cases ltP x y<;>simp
theorem ord_P(xs:Nat->Int×Int):Ord (fun i j=>ltP (xs i) (xs j)) where
 as:=fun i j h=>by
  have h:=zz0.mp h
  exact zz9.mpr (by omega)
 tr:=fun i j k h1 h2=>by
  have h1:=zz9.mp h1
  have h2:=zz9.mp h2
  exact zz9.mpr (by omega)
section
variable {prog:Program}{w:World}{A:Around}{E:Value->Shared->Prop}{s:Shared}
theorem zaz5{D:Addr}{xs:Nat->Int×Int}{P:PySem.Fin->Shared->Prop}(ho:s.heap.get? D=some (seqObj "list" vs.toArray 0))(h64:vs.length<64)(H:∀ i,i<vs.length->TupI s.heap (vs.getD i Value.none) (xs i))(h:∀ (p:List Nat) (c:Nat) (hF:Heap),p.Perm (List.range vs.length)->p.Pairwise (fun i j=>ltP (xs j) (xs i)=false)->(∀ b o,b≠D->s.heap.get? b=some o->hF.get? b=some o)->hF.get? D=some (seqObj "list" (List.toArray (p.map fun i=>vs.getD i Value.none)) c)->P (.done (.ret .none)) { s with heap:=hF }) :
  wpAny (model prog w) A (Builtin.«list.sort» ⟨[.ref D],[]⟩) P E s:=by
 by_cases h2:vs.length<2
 ·refine zbk8 ho h2 ?_
  obtain⟨c,hc⟩:=zam8 (vs:=vs) (out:=vs.toArray) ho
  refine h (List.range vs.length) c _ (List.Perm.refl _) ?_ (fun b o ne e=>zac6 ne e) ?_
  ·have:vs.length=0∨vs.length=1:=by omega
   rcases this with e|e<;>rw[e]
   ·exact List.Pairwise.nil
   ·exact List.pairwise_singleton _ _
  ·rw[hc]
   have e:(List.range vs.length).map (fun i=>vs.getD i Value.none)=vs:=by
    apply zci0 (by simp)
    intro i h1 h2
    simp at h1 h2
    simp[h2]
   rw[e]
 ·have old:∀ v,v∈vs->∃ i,i<vs.length/\vs.getD i Value.none=v:=fun v hv=>by
   obtain⟨i,hi,e⟩:=List.mem_iff_getElem.mp hv
   exact⟨i,hi,by simp[hi,e]⟩
  have nD:∀ {v:Value}{x:Int×Int},TupI s.heap v x->TupI (midH s.heap D vs) v x:=fun {v x} z=>by
   obtain⟨a,o,t,u,n,e,e1,e2,e3⟩:=z
   refine⟨a,o,t,u,n,e,zba2 (fun q=>?_) e1,e2,e3⟩
   rw[q,ho] at e1
   cases e1
   have e2':Value.type "list"=Value.type "tuple":=e2
   exact absurd e2' (by decide)
  refine zbs3 (κ:=tuples' true) (lt:=fun i j=>ltP (xs i) (xs j)) ho (by omega) h64 (fun Q q=>zbe9 (s:={ s with heap:=midH s.heap D vs }) (fun v hv=>?_) (by omega) q) (fun i j C li lj q=>zbp5 (s:={ s with heap:=midH s.heap D vs }) (nD (H i li)) (nD (H j lj)) q) (zbr9 (ord_P xs) (by omega)) fun p pz pR=>?_
  ·obtain⟨i,hi,rfl⟩:=old v hv
   exact⟨_,nD (H i hi)⟩
  ·obtain⟨c,hc⟩:=zam8 (vs:=vs) (out:=List.toArray (p.toList.map fun i=>vs.getD i Value.none)) ho
   refine h p.toList c _ pR.1 ?_ (fun b o ne e=>zac6 ne e) hc
   rw[zcg0]
   intro i j hi hj hij
   rw[zcc1] at hi hj
   have:=pR.2 i j (Nat.le_of_lt hij) (by omega)
   unfold gp at this
   simpa [Array.getD,hi,hj] using this
theorem zan1{d:Addr}{es:Array DictEntry}{xs:Nat->Int×Int}(lo:(d==sysModules)=false)(hh:A.handled=none)(x:RawD s.heap d es ep)(h64:es.size<64)(H:∀ i e,es[i]?=some e->TupI s.heap e.key (xs i))(h:∀ (h1 hF:Heap) (tk c:Nat) (p:List Nat) (vs:List Value),(∀ b o,s.heap.get? b=some o->h1.get? b=some o)->(∀ b o,h1.get? b=some o->hF.get? b=some o)->p.Perm (List.range es.size)->p.Pairwise (fun i j=>ltP (xs j) (xs i)=false)->vs=es.toList.map (·.key) ->
   hF.get? h1.objs.size=some (seqObj "list" (List.toArray (p.map fun i=>vs.getD i Value.none)) c)->Q (.ref h1.objs.size) { s with heap:=hF,toks:=tk }) :
  wpAny (model prog w) A (call (.builtin "sorted") [.ref d]) Q E s:=by
 have zl:es.size<=sizeLine:=by rw[zci4];omega
 refine Calls.call_function_entry kind_sorted plain_sorted entry_sorted (args_sorted1 _) ?_
 unfold Builtin.«sorted»
 refine zci2 (m:=checkCount "sorted" 1 1 _) (zci3 (zci2 (kdu_collect (A:=A.in1) (zbs8 lo) hh x zl fun h1 tk acc k1 it=>?_)))
 have len:acc.toList.length=es.size:=by rw[zcc1];exact it.1
 have ev:acc.toList=es.toList.map (·.key):=by
  apply zci0 (by rw[len,zbz4,zcc1])
  intro i a1 a2
  rw[zcc1] at a1
  obtain⟨e,e1,e2⟩:=it.2 i acc[i] (by simp[a1])
  simp only[Array.getElem_toList,List.getElem_map]
  rw[e2]
  obtain⟨q1,q2⟩:=zcf3.mp e1
  rw[← q2]
 refine zci2 (wpAny_newList ?_ (by rw[len];exact zl))
 have hD:(h1.push (seqObj "list" acc.toList.toArray 0)).get? h1.objs.size=some (seqObj "list" acc.toList.toArray 0):=zcb8 _ rfl
 show wpAny (model prog w) _ _ _ _ { s with heap:=h1.push (seqObj "list" acc.toList.toArray 0),toks:=tk }
 refine zci2 (zci7 (wpAny_call_entry slot_list_sort ⟨_,hD,rfl⟩ entry_list_sort (zaz5 (xs:=xs) (s:={ s with heap:=h1.push (seqObj "list" acc.toList.toArray 0),toks:=tk }) hD (by rw[len];exact h64) (fun i hi=>?_) fun p c hF pp po kF eF=>⟨_,rfl,?_⟩) (args_list_sort _)))
 ·rw[len] at hi
  have z:=(H i es[i] (by simp[hi])).to k1
  have e:acc.toList.getD i Value.none=es[i].key:=by rw[ev];simp[hi]
  rw[e]
  exact z.to fun b o q=>zca1 _ q
 ·refine zci3 ⟨_,rfl,h h1 hF tk c p acc.toList k1 (fun b o e=>kF b o (zcc9 (zca7 e)) (zca1 _ e)) (by rw[← len];exact pp) po ev eF⟩
end
section
variable {X:Cx}{K:zbz7}
def OrdK(ks:List (Int×Int)):Prop:=ks.Nodup/\ks.Pairwise (fun x y=>ltP x y=true)
@[irreducible] def rSoO(a:Addr)(H:Hp)(Q:VK):Prop:=∃ kvs:List ((Int×Int)×V),H a=some (.dT (kvs.map fun z=>(pK z.1,z.2)))/\kvs.length<64 /\
 ∀ p H' (bs:List Addr) (ks:List (Int×Int)),H p=none->Same H H'->ks.Perm (kvs.map (·.1))->OrdK ks->Paired (fun b x=>H' b=some (.tup [.int x.1,.int x.2])) bs ks->H' p=some (.lst (bs.map V.ref))->Q (.ref p) H'
def rSoOM:List V->Hp->VK->Prop:=fun xs H Q=>match xs with
 | [.ref p]=>rSoO p H Q
 | _=>False
theorem soO_rd{a:Addr}{Q:VK}{kvs:List ((Int×Int)×V)}(h:H a=some (.dT (kvs.map fun z=>(pK z.1,z.2))))(hl:kvs.length<64)(q:∀ p H' (bs:List Addr) (ks:List (Int×Int)),H p=none->Same H H'->ks.Perm (kvs.map (·.1))->OrdK ks->Paired (fun b x=>H' b=some (.tup [.int x.1,.int x.2])) bs ks->H' p=some (.lst (bs.map V.ref))->Q (.ref p) H'):rSoO a H Q:=by unfold rSoO;exact⟨kvs,h,hl,q⟩
theorem zbt2{ks:List (Int×Int)}(nd:ks.Nodup)(h:ks.Pairwise (fun x y=>ltP y x=false)):OrdK ks:=by
 refine⟨nd,?_⟩
 refine List.Pairwise.imp (fun {x y} z=>?_) (List.Pairwise.and nd h)
 have z2:=zz9.mp z.2
 refine zz0.mpr ?_
 have ne:¬ (x.1=y.1/\x.2=y.2):=fun w=>z.1 (Prod.ext w.1 w.2)
 omega
theorem cSortO(hc:X.calm=true):zk4 X (.builtin "sorted") rSoOM:=fun pins s σ H xs us Q I r h=>by
 unfold rSoOM at h
 split at h
 ·rename_i p
  unfold rSoO at h
  obtain⟨kvs,h1,h2,h3⟩:=h
  obtain⟨u1,rfl,rx⟩:=zab6 r
  cases rx
  obtain⟨zl,lo,ys,kt,o,es,ep,e1,e2,e3,e4,e5⟩:=dt_of I.hok h1
  have lk:ys.length=kvs.length:=by have:=Paired.length kt;rw[zbz4] at this;exact this.symm
  have le:es.size=kvs.length:=by rw[← zcc1,e4,zbz4,lk]
  have at_:∀ i,(hi:i<kvs.length)->∃ b v,ys[i]?=some (pK kvs[i].1,b,v)/\H b=some (.tup [.int kvs[i].1.1,.int kvs[i].1.2]):=fun i hi=>by
   have hy:i<ys.length:=lk▸hi
   have z:=zaj5 kt i (pK kvs[i].1,kvs[i].2) ys[i] (by simp[hi]) (by simp[hy])
   refine⟨ys[i].2.1,ys[i].2.2,?_,z.2.1⟩
   rw[zbz5 hy]
   have z1:pK kvs[i].1=ys[i].1:=z.1
   rw[z1]
  have ke:∀ i e,es[i]?=some e->∃ hi:i<kvs.length,∃ b v,ys[i]?=some (pK kvs[i].1,b,v)/\e.key=.ref b/\H b=some (.tup [.int kvs[i].1.1,.int kvs[i].1.2]):=fun i e q=>by
   obtain⟨q1,q2⟩:=zcf3.mp q
   have hi:i<kvs.length:=le▸q1
   obtain⟨b,v,y1,y2⟩:=at_ i hi
   refine⟨hi,b,v,y1,?_,y2⟩
   rw[← zcc4,e4,zbz9,y1] at q
   simp only[Option.map_some,Option.some.injEq] at q
   rw[← q];rfl
  refine zan1 (xs:=fun i=>((kvs.map (·.1))[i]?).getD (0,0)) lo (I.ok.hd hc) (d:=p) (es:=es) (ep:=ep) ⟨o,e1,e2,e3⟩ (by omega) (fun i e q=>?_) fun h' hF tk c pm vs k1 kF pp po ev eF=>?_
  ·obtain⟨hi,b,v,_,q2,q3⟩:=ke i e q
   obtain⟨_,its,rv,ob,b1,b2,n,b3⟩:=(show zf3 X.prog X.w H s.heap b (.tup [.int kvs[i].1.1,.int kvs[i].1.2]) from I.hok b _ q3)
   obtain⟨v1,v2,rfl,w1,w2⟩:=vals2 rv
   obtain⟨t1,rfl⟩:=w1
   obtain⟨t2,rfl⟩:=w2
   have ex:((kvs.map (·.1))[i]?).getD (0,0)=kvs[i].1:=by simp[hi]
   rw[ex,q2]
   exact⟨b,ob,t1,t2,n,rfl,b1,b2,b3⟩
  ·have hp:p<s.heap.objs.size:=zca7 e1
   have I1:Inv X pins σ H { s with heap:=h',toks:=tk }:=I.kept k1
   have fr:H h'.objs.size=none:=I1.fresh
   let as:List Addr:=pm.map fun i=>((ys[i]?).map (·.2.1)).getD 0
   have mem:∀ i,i∈pm->i<kvs.length:=fun i hi=>by have:=zce6.mp (pp.mem_iff.mp hi);omega
   have vals:(pm.map fun i=>vs.getD i Value.none)=as.map Value.ref:=by
    rw[zcb4]
    refine zcb3 fun i hi=>?_
    have hi':=mem i hi
    have hes:i<es.size:=by omega
    obtain⟨_,b,v,y1,y2,_⟩:=ke i es[i] (by simp[hes])
    rw[ev]
    simp[hes,y1,y2]
   have rl:Vals (as.map V.ref) (as.map Value.ref):=by
    generalize as=l
    induction l with
    | nil=>exact .nil
    | cons a l ih=>exact .cons rfl ih
   have lz:as.length<=sizeLine:=by
    show (pm.map _).length<=_
    rw[zbz4,pp.length_eq,zce1,zci4];omega
   refine⟨.ref _,_,I1.laid (h':=hF) (t':=tk) (o:=.lst (as.map V.ref)) kF (zcb0 _) ?_,rfl,h3 _ _ as (pm.map fun i=>((kvs.map (·.1))[i]?).getD (0,0)) fr (Same.upd fr) ?_ (zbt2 ?_ ?_) ?_ zb1⟩
   ·exact⟨by rw[zbz4];exact lz,as.map Value.ref,c,rl,by rw[eF,vals]⟩
   ·have e:(List.range kvs.length).map (fun i=>((kvs.map (·.1))[i]?).getD (0,0))=kvs.map (·.1):=by
     apply zci0 (by simp)
     intro i a1 a2
     simp at a1
     simp[a1]
    have q:=(show pm.Perm (List.range kvs.length) from le▸pp).map fun i=>((kvs.map (·.1))[i]?).getD (0,0)
    rw[e] at q
    exact q
   ·have e:(List.range kvs.length).map (fun i=>((kvs.map (·.1))[i]?).getD (0,0))=kvs.map (·.1):=by
     apply zci0 (by simp)
     intro i a1 a2
     simp at a1
     simp[a1]
    have q:=(show pm.Perm (List.range kvs.length) from le▸pp).map fun i=>((kvs.map (·.1))[i]?).getD (0,0)
    rw[e] at q
    refine q.nodup_iff.mpr ?_
    have nk:((kvs.map fun z=>(pK z.1,z.2)).map (·.1)).Nodup:=by
     have:(kvs.map fun z=>(pK z.1,z.2)).map (·.1)=ys.map (·.1):=by
      apply zci0 (by rw[zbz4,zbz4,zbz4,lk])
      intro i a1 a2
      rw[zbz4,zbz4] at a1
      obtain⟨b,v,y1,_⟩:=at_ i a1
      have hy:i<ys.length:=lk▸a1
      rw[zbz5 hy] at y1
      simp only[List.getElem_map]
      rw[Option.some.inj y1]
     rw[this];exact e5.2
    rw[zcb4] at nk
    have:(kvs.map (Prod.fst∘fun z=>(pK z.1,z.2)))=(kvs.map (·.1)).map pK:=by rw[zcb4];rfl
    rw[this] at nk
    exact List.Pairwise.of_map pK (fun a b h e=>h (by rw[e])) nk
   ·rw[List.pairwise_map]
    exact po
   ·refine zal8 (by rw[zbz4,zbz4]) fun i a x q1 q2=>?_
    rw[zbz9] at q1 q2
    obtain⟨j,j1,j2⟩:=zca3.mp q1
    rw[j1] at q2
    have hj:=mem j (zca0 j1)
    obtain⟨b,v,y1,y2⟩:=at_ j hj
    rw[y1] at j2
    have j3:b=a:=j2
    have ex:kvs[j].1=x:=by simpa [hj] using q2
    rw[← j3,← ex]
    exact (Same.upd fr) b _ y2
 ·exact h.elim
end
set_option maxHeartbeats 4000000
section
variable {X:Cx}{K:zbz7}{H:Hp}{Q:VK}
def ExA(H:Hp)(e D:Addr):Prop:=H e=some (excO e (.ref D) none)∨∃ d fs,H e=some (excO e (.ref D) (some d))/\H d=some (.xd fs)
theorem ExA.same{e D:Addr}(x:ExA H e D)(s:Same H H'):ExA H' e D:=by
 rcases x with x|⟨d,fs,x,y⟩
 ·exact .inl (s _ _ x)
 ·exact .inr ⟨d,fs,s _ _ x,s _ _ y⟩
end
mutual
inductive ShV(H:Hp):V->PyData->Prop
 | non:ShV H .non .none
 | bl (b:Bool):ShV H (.bl b) (.bool b)
 | int (i:Int):ShV H (.int i) (.int i)
 | str (x:Str):ShV H (.str x) (.str x)
 | lst {a:Addr}{xs:List V}{ds:List PyData}:H a=some (.lst xs)->ShL H xs ds->ShV H (.ref a) (.list ds)
 | tup {a:Addr}{xs:List V}{ds:List PyData}:H a=some (.tup xs)->ShL H xs ds->ShV H (.ref a) (.tuple ds)
inductive ShL(H:Hp):List V->List PyData->Prop
 | nil:ShL H [] []
 | cons {x:V}{d:PyData}{xs:List V}{ds:List PyData}:ShV H x d->ShL H xs ds->ShL H (x :: xs) (d :: ds)
end
section
variable {X:Cx}{pins:List (Addr×Obj)}{σ:St}{H H':Hp}{s:Shared}{Q:VK}
mutual
theorem ShV.same{v:V}{d:PyData}(h:ShV H v d)(k:Same H H'):ShV H' v d:=match h with
 | .non=>.non
 | .bl b=>.bl b
 | .int i=>.int i
 | .str x=>.str x
 | .lst e l=>.lst (k _ _ e) (l.same k)
 | .tup e l=>.tup (k _ _ e) (l.same k)
theorem ShL.same{xs:List V}{ds:List PyData}(h:ShL H xs ds)(k:Same H H'):ShL H' xs ds:=match h with
 | .nil=>.nil
 | .cons a b=>.cons (a.same k) (b.same k)
end
theorem ShL.len{xs:List V}{ds:List PyData}(h:ShL H xs ds):xs.length=ds.length:=match h with
 | .nil=>rfl
 | .cons _ b=>by rw[zcc6,zcc6,b.len]
mutual
theorem ShV.reads(I:Inv X pins σ H s){v:V}{d:PyData}{u:Value}(h:ShV H v d)(r:RelV v u):∃ as,Reads s.heap u d as:=match h with
 | .non=>by cases (show u=Value.none from r);exact⟨_,.none⟩
 | .bl b=>by cases (show u=Value.bool b from r);exact⟨_,.bool b⟩
 | .int i=>by obtain⟨t,q⟩:=(show ∃ t,u=Value.int i t from r);cases q;exact⟨_,.int i t⟩
 | .str x=>by obtain⟨t,q⟩:=(show ∃ t,u=Value.str x t from r);cases q;exact⟨_,.str x t⟩
 | .lst (a:=a) (xs:=xs) e l=>by
  cases (show u=Value.ref a from r)
  obtain⟨_,us,n,rv,h1⟩:=(show zf3 X.prog X.w H s.heap a (.lst xs) from I.hok a _ e)
  obtain⟨as,ra⟩:=l.reads I rv
  exact⟨_,.list h1 rfl rfl (by simpa using ra)⟩
 | .tup (a:=a) (xs:=xs) e l=>by
  cases (show u=Value.ref a from r)
  obtain⟨_,us,rv,o,h1,h2,n,h3⟩:=(show zf3 X.prog X.w H s.heap a (.tup xs) from I.hok a _ e)
  obtain⟨as,ra⟩:=l.reads I rv
  exact⟨_,.tuple h1 h2 h3 (by simpa using ra)⟩
theorem ShL.reads(I:Inv X pins σ H s){xs:List V}{ds:List PyData}{us:List Value}(h:ShL H xs ds)(r:Vals xs us):∃ as,ReadsAll s.heap us ds as:=match h,r with
 | .nil,.nil=>⟨_,.nil⟩
 | .cons a b,.cons r1 r2=>by
  obtain⟨as,ra⟩:=a.reads I r1
  obtain⟨bs,rb⟩:=b.reads I r2
  exact⟨_,.cons ra rb⟩
end
structure zk7(d:PyData)(k m:Nat):Prop where
 ok:d.showable=true
 nd:d.hasDict=false
 dp:d.depth<=k
 ln:d.shown.length<=m
theorem zk7.up{d:PyData}{k k' m':Nat}(h:zk7 d k m)(h1:k<=k')(h2:m<=m'):zk7 d k' m':=⟨h.ok,h.nd,zcd9 h.dp h1,zcd9 h.ln h2⟩
theorem zae4{k m:Nat}:∀ {ds:List PyData},(∀ d∈ds,zk7 d k m)->PyData.showableAll ds=true/\PyData.hasDictAll ds=false/\PyData.depthAll ds<=k/\piled (PyData.shownAll ds)<=ds.length*(m+2)
 | [],_=>⟨rfl,rfl,zcd0 _,by simp[PyData.shownAll,piled]⟩
 | d :: ds,h=>by
  have h0:=h d (.head _)
  obtain⟨a1,a2,a3,a4⟩:=zae4 (ds:=ds) fun x hx=>h x (.tail _ hx)
  refine⟨by simp[PyData.showableAll,h0.ok,a1],by simp[PyData.hasDictAll,h0.nd,a2],?_,?_⟩
  ·have:=h0.dp
   simp only[PyData.depthAll]
   omega
  ·have:=h0.ln
   simp only[PyData.shownAll,piled_cons,zcc6,Nat.succ_mul]
   omega
theorem zaa8:∀ (ts:List Str) (k:Nat) (acc:Str),(textFrom k acc ts).length<=acc.length+piled ts
 | [],_,acc=>by simp[textFrom,piled]
 | t :: ts,k,acc=>by
  have ih:=zaa8 ts (k+1) (acc++(if k>0 then ", " else "":String)++t)
  have e:(acc++(if k>0 then ", " else "":String)++t).length=acc.length+(if k>0 then 2 else 0)+t.length:=by
   rw[strLen_append,strLen_append]
   congr 2
   split<;>rfl
  rw[piled_cons]
  show (textFrom (k+1) _ ts).length<=_
  rw[e] at ih
  have e2:(if k>0 then 2 else 0)<=2:=by split<;>omega
  omega
theorem zk7.list{ds:List PyData}{k m:Nat}(h:∀ d∈ds,zk7 d k m):zk7 (.list ds) (k+1) (ds.length*(m+2)+2):=by
 obtain⟨a1,a2,a3,a4⟩:=zae4 h
 refine⟨by simpa [PyData.showable] using a1,by simpa [PyData.hasDict] using a2,by simp only[PyData.depth];omega,?_⟩
 have:=zaa8 (PyData.shownAll ds) 0 "["
 have e1:((("[":String):Str)).length=1:=rfl
 have e2:((("]":String):Str)).length=1:=rfl
 simp only[PyData.shown,listText,strLen_append]
 omega
theorem zk7.tuple{ds:List PyData}{k m:Nat}(h:∀ d∈ds,zk7 d k m):zk7 (.tuple ds) (k+1) (ds.length*(m+2)+4):=by
 obtain⟨a1,a2,a3,a4⟩:=zae4 h
 refine⟨by simpa [PyData.showable] using a1,by simpa [PyData.hasDict] using a2,by simp only[PyData.depth];omega,?_⟩
 have e1:((("(":String):Str)).length=1:=rfl
 have e3:((if (PyData.shownAll ds).length==1 then ",)" else ")":String):Str).length<=2:=by split<;>decide
 have e4:(Str.join ", " (PyData.shownAll ds)).length<=piled (PyData.shownAll ds):=by
  by_cases z:PyData.shownAll ds=[]
  ·rw[z];decide
  ·have:=join_length_add _ z;omega
 simp only[PyData.shown,tupleText,strLen_append]
 omega
theorem zk7.int{i:Int}(h:-(10 ^ 100)<=i)(h':i<=10 ^ 100):zk7 (.int i) 0 1921:=by
 have hl:i.natAbs.log2<1920:=by
  by_cases z:i.natAbs=0
  ·rw[z];decide
  ·rw[Nat.log2_lt z]
   have h1:i.natAbs<=10 ^ 100:=by omega
   exact Nat.lt_of_le_of_lt h1 (by decide +kernel)
 exact⟨by simpa [PyData.showable] using hl,rfl,by simp[PyData.depth],by simpa only [PyData.shown] using PyProof.Rows.int_text_len_1921 hl⟩
theorem zk7.non:zk7 .none 0 4:=⟨rfl,rfl,by simp[PyData.depth],by decide⟩
theorem ShL.of{xs:List V}(f:V->PyData)(h:∀ x∈xs,ShV H x (f x)):ShL H xs (xs.map f):=by
 induction xs with
 | nil=>exact .nil
 | cons x xs ih=>exact .cons (h x (.head _)) (ih fun y hy=>h y (.tail _ hy))
end
mutual
def sml:PyData->Bool
 | .none | .bool _ | .int _ | .str _=>true
 | .list xs | .tuple xs=>decide (xs.length<=1000)&&zad9 xs
 | .dict _=>false
def zad9:List PyData->Bool
 | []=>true
 | x :: xs=>sml x&&zad9 xs
end
theorem zo6:∀ {ds:List PyData},(∀ d∈ds,sml d=true)->zad9 ds=true
 | [],_=>rfl
 | d :: ds,h=>by simp[zad9,h d (.head _),zo6 fun x hx=>h x (.tail _ hx)]
theorem zu2:∀ {ds:List PyData},zad9 ds=true->∀ d∈ds,sml d=true
 | [],_,d,h=>by cases h
 | x :: ds,h,d,hd=>by
  simp only[zad9,zca5] at h
  rcases zca6.mp hd with rfl|hd
  ·exact h.1
  ·exact zu2 h.2 d hd
section
variable {H H':Hp}{K:zbz7}{Q:VK}
theorem ShL.idx:∀ {xs:List V}{ds:List PyData},xs.length=ds.length->(∀ (i:Nat) x d,xs[i]?=some x->ds[i]?=some d->ShV H x d)->ShL H xs ds
 | [],[],_,_=>.nil
 | [],_ :: _,h,_=>by simp at h
 | _ :: _,[],h,_=>by simp at h
 | x :: xs,d :: ds,h,k=>.cons (k 0 x d rfl rfl) (ShL.idx (by simpa using h) fun i y e h1 h2=>k (i+1) y e (by simpa using h1) (by simpa using h2))
theorem ShL.get:∀ {xs:List V}{ds:List PyData}(_:ShL H xs ds) (i:Nat) (x:V),xs[i]?=some x->∃ d,ds[i]?=some d/\ShV H x d
 | _,_,.nil,i,x,e=>by simp at e
 | _,_,.cons a b,0,x,e=>by cases (show some _=some x from e);exact⟨_,rfl,a⟩
 | _,_,.cons a b,i+1,x,e=>by
  obtain⟨d,e1,e2⟩:=ShL.get b i x (by simpa using e)
  exact⟨d,by simpa using e1,e2⟩
theorem ShL.ex{P:PyData->Prop}:∀ {xs:List V},(∀ x∈xs,∃ d,ShV H x d/\P d)->∃ ds,ShL H xs ds/\∀ d∈ds,P d
 | [],_=>⟨[],.nil,fun _ h=>by cases h⟩
 | x :: xs,h=>by
  obtain⟨d,h1,h2⟩:=h x (.head _)
  obtain⟨ds,h3,h4⟩:=ShL.ex (xs:=xs) fun y hy=>h y (.tail _ hy)
  refine⟨d :: ds,.cons h1 h3,fun e he=>?_⟩
  rcases zca6.mp he with rfl|he
  ·exact h2
  ·exact h4 e he
def Rda(H:Hp)(v:V)(k m:Nat):Prop:=∃ d,ShV H v d/\sml d=true/\zk7 d k m
theorem Rda.same{v:V}{k m:Nat}(h:Rda H v k m)(s:Same H H'):Rda H' v k m:=by obtain⟨d,h1,h2,h3⟩:=h;exact⟨d,h1.same s,h2,h3⟩
theorem Rda.up{v:V}{k m k' m':Nat}(h:Rda H v k m)(h1:k<=k':=by omega)(h2:m<=m':=by omega):Rda H v k' m':=by obtain⟨d,a,b,c⟩:=h;exact⟨d,a,b,c.up h1 h2⟩
theorem Rda.int{i:Int}(h:-(10 ^ 100)<=i)(h':i<=10 ^ 100):Rda H (.int i) 0 1921:=⟨_,.int i,rfl,zk7.int h h'⟩
theorem Rda.non:Rda H .non 0 1921:=⟨_,.non,rfl,zk7.non.up (by omega) (by omega)⟩
theorem Rda.lst{a:Addr}{xs:List V}{k m:Nat}(e:H a=some (.lst xs))(l:xs.length<=1000)(h:∀ x∈xs,Rda H x k m):Rda H (.ref a) (k+1) (xs.length*(m+2)+4):=by
 obtain⟨ds,h1,h2⟩:=ShL.ex (P:=fun d=>sml d=true/\zk7 d k m) h
 have hl:=h1.len
 refine⟨.list ds,.lst e h1,?_,?_⟩
 ·simp only[sml,zca5,decide_eq_true_eq]
  exact⟨by omega,zo6 fun d hd=>(h2 d hd).1⟩
 ·have:=zk7.list (ds:=ds) (k:=k) (m:=m) fun d hd=>(h2 d hd).2
  rw[hl]
  exact this.up (zcb0 _) (by omega)
theorem Rda.tup{a:Addr}{xs:List V}{k m:Nat}(e:H a=some (.tup xs))(l:xs.length<=1000)(h:∀ x∈xs,Rda H x k m):Rda H (.ref a) (k+1) (xs.length*(m+2)+4):=by
 obtain⟨ds,h1,h2⟩:=ShL.ex (P:=fun d=>sml d=true/\zk7 d k m) h
 have hl:=h1.len
 refine⟨.tuple ds,.tup e h1,?_,?_⟩
 ·simp only[sml,zca5,decide_eq_true_eq]
  exact⟨by omega,zo6 fun d hd=>(h2 d hd).1⟩
 ·have:=zk7.tuple (ds:=ds) (k:=k) (m:=m) fun d hd=>(h2 d hd).2
  rw[hl]
  exact this
def isD(n:String):PyData->Bool
 | .none=>false
 | .bool _=>n=="bool" || n=="int"
 | .int _=>n=="int"
 | .str _=>n=="str"
 | .list _=>n=="list"
 | .tuple _=>n=="tuple"
 | .dict _=>n=="dict"
theorem zn6{v:V}{d:PyData}{n:String}(h:ShV H v d)(hn:n="int"∨n="bool"∨n="list"∨n="tuple")(q:Q (.bl (isD n d)) H):zr3 K v (.ty n) H Q:=by
 rcases hn with rfl|rfl|rfl|rfl<;>cases h
 all_goals first
  | exact zbq3 q (by rfl)
  | exact zaq2 q (by rfl)
  | exact zaq8 q (by rfl)
  | exact zbs9 q (by rfl)
  | (rename_i e l;exact zbd6 e q (by rfl))
  | (rename_i e l;exact zbc3 e q (by rfl))
end
section
variable {X:Cx}{K:zbz7}{H:Hp}{Q:VK}
end
section
variable {X:Cx}{K:zbz7}{H:Hp}{Q:VK}
@[irreducible] def rDNE(H:Hp)(Q:VK):Prop:=(∀ p H',H p=none->Same H H'->H' p=some (.dT [])->Q (.ref p) H')∨∀ p H',H p=none->Same H H'->H' p=some (.dK [])->Q (.ref p) H'
def tDNE:TE:=fun _ H Q=>rDNE H Q
theorem zbr3{pos:Pos}:PE X (.Dict [] [] pos) tDNE:=fun pins s σ H Q I h=>by
 unfold tDNE rDNE at h
 rcases h with h|h
 ·exact zbj6 (pos:=pos) pins s σ H Q I fun p hp=>h p _ hp (Same.upd hp) zb1
 ·exact zbi7 (pos:=pos) pins s σ H Q I fun p hp=>h p _ hp (Same.upd hp) zb1
theorem dnT_rd(q:∀ p H',H p=none->Same H H'->H' p=some (.dT [])->Q (.ref p) H'):rDNE H Q:=by unfold rDNE;exact .inl q
theorem dnK_rd(q:∀ p H',H p=none->Same H H'->H' p=some (.dK [])->Q (.ref p) H'):rDNE H Q:=by unfold rDNE;exact .inr q
theorem zbc6{a:Addr}{P:Prop}{kvs:List (Key×V)}(e:H a=some (.dK kvs))(p:P):rIsD a H P:=by unfold rIsD;exact⟨.inl ⟨kvs,.inl e⟩,p⟩
theorem zbc7{a:Addr}{i:Int}{z:V}{kvs:List (Key×V)}(e:H a=some (.dK kvs))(q:Q ((valV kvs (.inl i)).getD z) H):rDG2 a (.int i) z H Q:=by
 unfold rDG2
 exact⟨_,DGet.k (k:=.inl i) e,q⟩
theorem dpK_rd{a:Addr}{i:Int}{v:V}{N:Hp->Prop}{kvs:List (Key×V)}(e:H a=some (.dK kvs))(hl:kvs.length<sizeLine)(q:∀ H',Chg a H H'->H' a=some (.dK (putK kvs (.inl i) v))->N H'):rDP a (.int i) v H N:=by
 unfold rDP
 exact⟨_,DPut.k (k:=.inl i) e hl,q _ Chg.upd zb1⟩
def dI(kv:List (Int×Int)):List (Key×V):=kv.map fun z=>(.inl z.1,.int z.2)
def valI(kv:List (Int×Int))(i:Int):Option Int:=(kv.find? fun z=>decide (z.1=i)).map (·.2)
theorem zbd8(i:Int):∀ kv:List (Int×Int),valV (dI kv) (.inl i)=(valI kv i).map V.int
 | []=>rfl
 | z :: kv=>by
  by_cases e:z.1=i
  ·show valV (((.inl z.1:Key),V.int z.2) :: dI kv) (.inl i)=_
   rw[zs9 (by exact congrArg Sum.inl e)]
   unfold valI
   rw[zce7,decide_eq_true e];rfl
  ·show valV (((.inl z.1:Key),V.int z.2) :: dI kv) (.inl i)=_
   rw[zs2 (by exact fun q=>e (Sum.inl.inj q)),zbd8 i kv]
   unfold valI
   rw[zce7,decide_eq_false e]
def eqDI(ka kb:List (Int×Int)):Bool:=ka.length==kb.length&&ka.all fun z=>valI kb z.1==some z.2
theorem zap0{A:Around}{s:Shared}{kb:List (Int×Int)}{ws:List (Key×Value)}(rb:KV (dI kb) ws):∀ {ka:List (Int×Int)}{vs:List (Key×Value)},KV (dI ka) vs->KeqHits A s ws vs (ka.all fun z=>valI kb z.1==some z.2)
 | [],vs,r=>by
  unfold KV dI at r
  cases r
  exact .nil
 | z :: ka,vs,r=>by
  unfold KV dI at r
  rw[zcb1] at r
  cases r with
  | @cons p q ps qs h t=>
   obtain⟨h1,h2⟩:=h
   obtain⟨k,v⟩:=q
   cases (show (Sum.inl z.1:Key)=k from h1)
   have val:=rb.val (.inl z.1)
   rw[zbd8] at val
   rw[List.all_cons]
   cases e:valI kb z.1 with
   | none=>
    rw[e] at val
    have:valueAt ws (.inl z.1)=none:=by
     cases w:valueAt ws (.inl z.1) with
     | none=>rfl
     | some y=>rw[w] at val;exact val.elim
    have f:((none:Option Int)==some z.2)=false:=rfl
    rw[f,Bool.false_and]
    exact .miss this
   | some n=>
    rw[e] at val
    obtain⟨y,ey,ry⟩:∃ y,valueAt ws (.inl z.1)=some y/\RelV (.int n) y:=by
     cases w:valueAt ws (.inl z.1) with
     | none=>rw[w] at val;exact val.elim
     | some y=>rw[w] at val;exact⟨y,rfl,val⟩
    have q:=zbo3 (A:=A) (s:=s) (show RelV (.int z.2) v from h2) ry rfl rfl
    have e2:eqV (.int z.2) (.int n)=(some n==some z.2):=by
     by_cases d:z.2=n
     ·subst d;simp[eqV]
     ·have d':¬ n=z.2:=fun x=>d x.symm
      show (z.2==n)=(some n==some z.2)
      rw[beq_eq_false_iff_ne.mpr d]
      exact (beq_eq_false_iff_ne.mpr fun x=>d' (Option.some.inj x)).symm
    rw[e2] at q
    exact .hit ey q (zap0 rb t)
@[irreducible] def rEqX(K:zbz7)(x y:V)(H:Hp)(Q:VK):Prop:=
 (∃ a b n c,x=.ref a/\y=.ref b/\n<=40/\EqR K H n (.ref a) (.ref b) c/\Q (.bl c) H) ∨
 (∃ a b ka kb,x=.ref a/\y=.ref b/\H a=some (.dK (dI ka))/\H b=some (.dK (dI kb))/\Q (.bl (eqDI ka kb)) H) ∨
 ∃ d e,ShV H x d/\ShV H y e/\d.canLay0=true/\e.canLay0=true/\d.depth<=40/\Q (.bl (PyData.eqv d e)) H
def zbg1(K:zbz7):R2:=fun x y H Q=>match x,y with
 | .int i,.int j=>Q (.bl (decide (i=j))) H
 | .bl i,.bl j=>Q (.bl (decide (i=j))) H
 | .str i,.str j=>Q (.bl (decide (i=j))) H
 | x,y=>rEqX K x y H Q
def rNeXM(K:zbz7):R2:=fun x y H Q=>zbg1 K x y H fun v H'=>match v with
 | .bl b=>Q (.bl (!b)) H'
 | _=>False
theorem oEqX(hu:X.A.units+40<cLine):OpR X (compareOp .Eq) (zbg1 X.K):=by
 intro pins s σ H x y v u Q I rx ry h
 unfold zbg1 at h
 split at h
 ·exact zao8 pins s σ H _ _ v u Q I rx ry ⟨rfl,by rw[zn8 (f:=V.int) fun a b e=>V.int.inj e];exact h⟩
 ·exact zao8 pins s σ H _ _ v u Q I rx ry ⟨rfl,by rw[zn8 (f:=V.bl) fun a b e=>V.bl.inj e];exact h⟩
 ·exact zao8 pins s σ H _ _ v u Q I rx ry ⟨rfl,by rw[zn8 (f:=V.str) fun a b e=>V.str.inj e];exact h⟩
 ·unfold rEqX at h
  rcases h with ⟨a,b,n,c,rfl,rfl,hn,h1,h2⟩|⟨a,b,ka,kb,rfl,rfl,ea,eb,h⟩|⟨d,e,hd,he,cd,ce,dd,h⟩
  ·cases rx
   cases ry
   exact EqR.rc I h1 (A:=X.A) (by omega) _ _ _ _ ⟨.bl c,H,I,rfl,h2⟩
  ·cases rx
   cases ry
   obtain⟨_,sa,vs,ra,da⟩:=zbf0 I.hok ea
   obtain⟨_,sb,ws,rb,db⟩:=zbf0 I.hok eb
   refine keq_eq sa sb da db (by omega) (fun _=>zap0 rb ra) ⟨.bl (eqDI ka kb),H,I,?_,h⟩
   have la:vs.length=ka.length:=by rw[← ra.length];unfold dI;rw[zbz4]
   have lb:ws.length=kb.length:=by rw[← rb.length];unfold dI;rw[zbz4]
   rw[la,lb]
   rfl
  ·obtain⟨as,r1⟩:=hd.reads I rx
   obtain⟨bs,r2⟩:=he.reads I ry
   exact SeqAt.compareEq_reads r1 r2 cd ce (by have:=Nat.min_le_left d.depth e.depth;omega) ⟨.bl (PyData.eqv d e),H,I,rfl,h⟩
theorem oNeX(hu:X.A.units+40<cLine):OpR X (compareOp .NotEq) (rNeXM X.K):=by
 intro pins s σ H x y v u Q I rx ry h
 unfold rNeXM zbg1 at h
 split at h
 ·exact op_ne pins s σ H _ _ v u Q I rx ry ⟨rfl,by rw[zn8 (f:=V.int) fun a b e=>V.int.inj e];exact h⟩
 ·exact op_ne pins s σ H _ _ v u Q I rx ry ⟨rfl,by rw[zn8 (f:=V.bl) fun a b e=>V.bl.inj e];exact h⟩
 ·exact op_ne pins s σ H _ _ v u Q I rx ry ⟨rfl,by rw[zn8 (f:=V.str) fun a b e=>V.str.inj e];exact h⟩
 ·unfold rEqX at h
  rcases h with ⟨a,b,n,c,rfl,rfl,hn,h1,h2⟩|⟨a,b,ka,kb,rfl,rfl,ea,eb,h⟩|⟨d,e,hd,he,cd,ce,dd,h⟩
  ·cases rx
   cases ry
   exact EqR.rcNe I h1 (A:=X.A) (by omega) _ _ _ _ ⟨.bl (!c),H,I,rfl,h2⟩
  ·cases rx
   cases ry
   obtain⟨_,sa,vs,ra,da⟩:=zbf0 I.hok ea
   obtain⟨_,sb,ws,rb,db⟩:=zbf0 I.hok eb
   refine keq_ne sa sb da db (by omega) (fun _=>zap0 rb ra) ⟨.bl (!eqDI ka kb),H,I,?_,h⟩
   have la:vs.length=ka.length:=by rw[← ra.length];unfold dI;rw[zbz4]
   have lb:ws.length=kb.length:=by rw[← rb.length];unfold dI;rw[zbz4]
   rw[la,lb]
   rfl
  ·obtain⟨as,r1⟩:=hd.reads I rx
   obtain⟨bs,r2⟩:=he.reads I ry
   exact SeqAt.compareNe_reads r1 r2 cd ce (by have:=Nat.min_le_left d.depth e.depth;omega) ⟨.bl (!PyData.eqv d e),H,I,rfl,h⟩
theorem eqX_rd{a b:Addr}{n:Nat}{c:Bool}(h:EqR K H n (.ref a) (.ref b) c)(q:Q (.bl c) H)(hn:n<=40:=by decide):rEqX K (.ref a) (.ref b) H Q:=by unfold rEqX;exact .inl ⟨a,b,n,c,rfl,rfl,hn,h,q⟩
theorem eqD_rd{a b:Addr}{ka kb:List (Int×Int)}(ea:H a=some (.dK (dI ka)))(eb:H b=some (.dK (dI kb)))(q:Q (.bl (eqDI ka kb)) H):rEqX K (.ref a) (.ref b) H Q:=by unfold rEqX;exact .inr (.inl ⟨a,b,ka,kb,rfl,rfl,ea,eb,q⟩)
theorem zbo5{x y:V}{d e:PyData}(hd:ShV H x d)(he:ShV H y e)(cd:d.canLay0=true)(ce:e.canLay0=true)(dd:d.depth<=40)(q:Q (.bl (PyData.eqv d e)) H):rEqX K x y H Q:=by unfold rEqX;exact .inr (.inr ⟨d,e,hd,he,cd,ce,dd,q⟩)
end
theorem zbe1(l b:Addr)(x y:Int×Int)(t u t' u':Tok)(n n2:Nat)(dd dd2:Option Addr)(sl sl2:Array (Option Value)) :
  Meets (Builtin.«tuple.__lt__» ⟨[.ref l,.ref b],[]⟩)
   (fun A R s=>s.heap.get? l=some { cls:=.type "tuple",dict:=dd,data:=.seq #[.int x.1 t,.int x.2 u] n,slots:=sl }/\s.heap.get? b=some { cls:=.type "tuple",dict:=dd2,data:=.seq #[.int y.1 t',.int y.2 u'] n2,slots:=sl2 } /\
    R (.ok (.ret (.bool (ltP x y)))) s):=
 .of_wp fun prog w A R s h=>by
  obtain⟨hp,g,d,tk,os⟩:=s;obtain⟨hl,hb,h⟩:=h
  have f2:=AutoSeq1.sub_tuple_tuple
  wp_walk using wpAny_loadPart' hl,wpAny_loadPart' hb,wpAny_forIn_list _ (fun rest b s'=>b.1=none/\s'=⟨hp,g,d,tk,os⟩/\(rest=[(.int x.1 t,.int y.1 t'),(.int x.2 u,.int y.2 u')]∨(x.1=y.1/\rest=[(.int x.2 u,.int y.2 u')])∨(x.1=y.1/\x.2=y.2/\rest=[]))) _
  case turn=>
   rintro⟨p,q⟩ rest b s' ⟨hb',rfl,hz⟩
   rcases hz with hz|⟨e0,hz⟩|⟨_,_,hz⟩
   ·cases hz
    refine zci2 (wpAny_eqBool_int ?_)
    cases e:(x.1==y.1)
    ·have h':R (Except.ok (Flow.ret (Value.bool (decide (x.1<y.1))))) ⟨hp,g,d,tk,os⟩:=by
      unfold ltP at h
      rw[if_neg (by rw[e];exact zca4)] at h
      exact h
     simp only[Bool.not_false,if_true]
     refine zci2 (wpAny_rule ?_)
     refine zci2 ((lt_int (Q:=_) ?_:wpAny _ _ (compareOp .Lt _ _) _ _ _))
     wp_walk
     exact⟨_,rfl,h'⟩
    ·wp_walk
     exact⟨rfl,rfl,.inr (.inl ⟨by simpa using e,rfl⟩)⟩
   ·cases hz
    refine zci2 (wpAny_eqBool_int ?_)
    cases e:(x.2==y.2)
    ·have h':R (Except.ok (Flow.ret (Value.bool (decide (x.2<y.2))))) ⟨hp,g,d,tk,os⟩:=by
      unfold ltP at h
      rw[if_pos (by rw[e0];exact beq_self_eq_true _),if_neg (by rw[e];exact zca4)] at h
      exact h
     simp only[Bool.not_false,if_true]
     refine zci2 (wpAny_rule ?_)
     refine zci2 ((lt_int (Q:=_) ?_:wpAny _ _ (compareOp .Lt _ _) _ _ _))
     wp_walk
     exact⟨_,rfl,h'⟩
    ·wp_walk
     exact⟨rfl,rfl,.inr (.inr ⟨e0,by simpa using e,rfl⟩)⟩
   ·cases hz
  case fin=>
   rintro⟨b1,b2⟩ s' ⟨hb',rfl,hz⟩
   simp only at hb'
   subst hb'
   rcases hz with hz|⟨e0,hz⟩|⟨e0,e1,hz⟩
   ·cases hz
   ·cases hz
   ·have h':R (Except.ok (Flow.ret (Value.bool false))) ⟨hp,g,d,tk,os⟩:=by
     unfold ltP at h
     rw[if_pos (by rw[e0];exact beq_self_eq_true _),if_pos (by rw[e1];exact beq_self_eq_true _)] at h
     exact h
    wp_walk
    exact⟨_,rfl,h'⟩
  exact⟨rfl,rfl,.inl rfl⟩
section
variable {prog:Program}{w:World}{A:Around}{E:Value->Shared->Prop}{s:Shared}
theorem zbi8{v v':Value}{x y:Int×Int}(ha:TupI s.heap v x)(hb:TupI s.heap v' y)(hu:A.units<cLine)(h:Q (.bool (ltP x y)) s):wpAny (model prog w) A (compareOp .Lt v v') Q E s:=by
 obtain⟨a,⟨cls,dd,data,sl⟩,t,u,n,rfl,ho,hc,hd⟩:=ha
 obtain⟨b,⟨cls2,dd2,data2,sl2⟩,t',u',n2,rfl,ho2,hc2,hd2⟩:=hb
 simp only at hc hd hc2 hd2
 subst hc hd hc2 hd2
 exact richCompare_meets_room (op:=.Lt) ⟨_,ho,rfl⟩ ⟨_,ho2,rfl⟩ F.slot_tuple_lt F.entry_tuple_lt (F.args_tuple_lt_2 _ _) (zbe1 a b x y t u t' u' n n2 dd dd2 sl sl2)
  ⟨ho,ho2,show Value.bool (ltP x y)≠Value.notImplemented/\Q (.bool (ltP x y)) s from ⟨(fun x=>nomatch x),h⟩⟩ hu
end
section
variable {X:Cx}{K:zbz7}{H:Hp}{Q:VK}
def pV(x:Int×Int):List V:=[.int x.1,.int x.2]
@[irreducible] def rLtA(a b:Addr)(H:Hp)(Q:VK):Prop:=∃ x y:Int×Int,H a=some (.tup (pV x))/\H b=some (.tup (pV y))/\Q (.bl (ltP x y)) H
def rLtXM:R2:=fun x y H Q=>match x,y with
 | .int i,.int j=>Q (.bl (decide (i<j))) H
 | .ref a,.ref b=>rLtA a b H Q
 | _,_=>False
theorem zbb3{pins:List (Addr×Obj)}{σ:St}{a:Addr}{x:Int×Int}(I:Inv X pins σ H s)(h:H a=some (.tup (pV x))):TupI s.heap (.ref a) x:=by
 obtain⟨_,its,rv,o,h1,h2,n,h3⟩:=(show zf3 X.prog X.w H s.heap a (.tup (pV x)) from I.hok a _ h)
 unfold pV at rv
 cases rv with
 | cons r1 rv=>
  cases rv with
  | cons r2 rv=>
   cases rv
   obtain⟨t,rfl⟩:=r1
   obtain⟨u,rfl⟩:=r2
   exact⟨a,o,t,u,n,rfl,h1,h2,h3⟩
theorem oLtX(hu:X.A.units+40<cLine):OpR X (compareOp .Lt) rLtXM:=by
 intro pins s σ H x y v u Q I rx ry h
 unfold rLtXM at h
 split at h
 ·exact op_lt pins s σ H _ _ v u Q I rx ry ⟨_,_,rfl,rfl,h⟩
 ·unfold rLtA at h
  obtain⟨x,y,ea,eb,h⟩:=h
  cases rx
  cases ry
  exact zbi8 (zbb3 I ea) (zbb3 I eb) (by omega) ⟨.bl (ltP x y),H,I,rfl,h⟩
 ·exact h.elim
theorem ltP_rd{a b:Addr}{x y:Int×Int}(ha:H a=some (.tup (pV x)))(hb:H b=some (.tup (pV y)))(q:Q (.bl (ltP x y)) H):rLtA a b H Q:=by unfold rLtA;exact⟨x,y,ha,hb,q⟩
@[irreducible] def rSlX(K:zbz7)(a:Addr)(lo hi:Option Int)(H:Hp)(Q:VK):Prop:=(∃ xs,SqL K H a xs/\∀ p H',H p=none->Same H H'->H' p=some (.lst (cutV xs lo hi))->Q (.ref p) H') ∨
 ∃ xs,SqT K H a xs/\¬ (HT.sIx xs.length 0 lo=0/\HT.sIx xs.length xs.length hi=xs.length)/\∀ p H',H p=none->Same H H'->H' p=some (.tup (cutV xs lo hi))->Q (.ref p) H'
def rSlXM(K:zbz7):V->Option Int->Option Int->Hp->VK->Prop:=fun x lo hi H Q=>match x with
 | .ref a=>rSlX K a lo hi H Q
 | _=>False
theorem slX:SlR X (rSlXM X.K):=by
 intro pins s σ H x v vl vu lo hi sl Q I rx hs pl pu h
 unfold rSlXM at h
 split at h
 ·unfold rSlX at h
  rcases h with ⟨xs,h1,q⟩|⟨xs,h1,h2,q⟩
  ·exact zbt8 pins s σ H _ v vl vu lo hi sl Q I rx hs pl pu ⟨_,xs,rfl,h1,fun p hp=>q p _ hp (Same.upd hp) zb1⟩
  ·exact sl_tup pins s σ H _ v vl vu lo hi sl Q I rx hs pl pu ⟨_,xs,rfl,h1,h2,fun p hp=>q p _ hp (Same.upd hp) zb1⟩
 ·exact h.elim
theorem zas2{a:Addr}{lo hi:Option Int}(h:SqL K H a xs)(q:∀ p H',H p=none->Same H H'->H' p=some (.lst (cutV xs lo hi))->Q (.ref p) H'):rSlX K a lo hi H Q:=by unfold rSlX;exact .inl ⟨xs,h,q⟩
theorem zbm3{a:Addr}{x y z:V}(h:H a=some (.tup [x,y,z]))(q:∀ p H',H p=none->Same H H'->H' p=some (.tup [x,y])->Q (.ref p) H'):rSlX K a none (some 2) H Q:=by
 unfold rSlX
 exact .inr ⟨[x,y,z],SqT.of h,(by decide:¬ (HT.sIx 3 0 none=0/\HT.sIx 3 3 (some 2)=3)),q⟩
theorem zab5(hK:X.K=K)(hu:X.A.units+40<cLine):OpR X (compareOp .Eq) (zbg1 K):=by subst hK;exact oEqX hu
theorem zao1(hK:X.K=K)(hu:X.A.units+40<cLine):OpR X (compareOp .NotEq) (rNeXM K):=by subst hK;exact oNeX hu
theorem slXK(hK:X.K=K):SlR X (rSlXM K):=by subst hK;exact slX
theorem Wk.zipN{a b:Addr}{ys:List V}{n:Nat}{H1:Hp}(h:SqL K H1 a xs)(h':SqL K H1 b ys)(hx:n<=xs.length)(hy:n<=ys.length)(hn:xs.length=n∨ys.length=n):Wk (Itz K a b) n H1 fun i v H=>∃ p x y,v=.ref p/\H p=some (.tup [x,y])/\xs[i]?=some x/\ys[i]?=some y:=
 ⟨fun i H s hi=>⟨xs,ys,xs[i],ys[i],s.seq h,s.seq h',by simp,by simp⟩,fun H s=>⟨xs,ys,s.seq h,s.seq h',by omega⟩,fun i H v H' s _ y=>by
  obtain⟨p,x,y,rfl,y1,y2,y3,y4,y5⟩:=y
  exact⟨y2,p,x,y,rfl,y3,y4 xs (s.seq h),y5 ys (s.seq h')⟩⟩
end
set_option maxHeartbeats 2000000
set_option maxHeartbeats 4000000
set_option maxHeartbeats 2000000
section
variable {X:Cx}{K:zbz7}
end
section
variable {X:Cx}{K:zbz7}
end
set_option maxHeartbeats 4000000
section
variable {X:Cx}{K:zbz7}{H:Hp}{Q:VK}
theorem zam0:∀ {rs:List Addr}{us:List Value},Vals (rs.map V.ref) us->us=rs.map Value.ref
 | [],us,h=>by cases h;rfl
 | r :: rs,us,h=>by
  cases h with
  | cons h1 h2=>
   have h1:_=Value.ref r:=h1
   rw[zcb1,← zam0 h2,h1]
end
abbrev Pb:=SetTable.Probe
def advM(mask:Nat)(p:Pb):Pb:=
 if p.more>0 then { j:=p.j+1,more:=p.more - 1,i:=p.i,perturb:=p.perturb,dummy:=p.dummy }
 else { j:=(SetTable.leap mask p.i p.perturb).1,more:=SetTable.runEnd mask (SetTable.leap mask p.i p.perturb).1 - (SetTable.leap mask p.i p.perturb).1,i:=(SetTable.leap mask p.i p.perturb).1,perturb:=(SetTable.leap mask p.i p.perturb).2,dummy:=p.dummy }
def runS(mask:Nat)(a:Nat×Nat):Pb:={ j:=a.1,more:=SetTable.runEnd mask a.1 - a.1,i:=a.1,perturb:=a.2,dummy:=none }
def stp(mask:Nat)(h:Int):Nat->Pb
 | 0=>runS mask (SetTable.bits h % (mask+1),SetTable.bits h)
 | k+1=>advM mask (stp mask h k)
def wk(mask:Nat)(h:Int)(k:Nat):Nat:=(stp mask h k).j
theorem zai6(mask:Nat)(h:Int):∀ k,(stp mask h k).dummy=none
 | 0=>rfl
 | k+1=>by
  show (advM mask (stp mask h k)).dummy=none
  unfold advM
  split<;>exact zai6 mask h k
abbrev Msk(mask:Nat):Prop:=mask=7∨mask=31
theorem least{P:Nat->Prop}[DecidablePred P]:∀ {N:Nat},(∃ k,k<N/\P k)->∃ k,k<N/\P k/\∀ k',k'<k->¬ P k'
 | 0,h=>by obtain⟨k,hk,_⟩:=h;omega
 | N+1,h=>by
  by_cases e:∃ k,k<N/\P k
  ·obtain⟨k,hk,p,q⟩:=least e
   exact⟨k,by omega,p,q⟩
  ·obtain⟨k,hk,p⟩:=h
   have:k=N:=by
    by_cases z:k<N
    ·exact absurd ⟨k,z,p⟩ e
    ·omega
   subst this
   exact⟨k,hk,p,fun k' hk' p'=>e ⟨k',hk',p'⟩⟩
theorem zag6{xs:Array Nat}{j:Nat}(srt:xs.toList.Pairwise (· < ·)):∀ (fuel lo hi:Nat),lo<=hi->hi<=xs.size->hi - lo<=fuel->(∀ (i:Nat) x,i<lo->xs[i]?=some x->x<j)->(∀ (i:Nat) x,hi<=i->xs[i]?=some x->j<=x) ->
  (SetTable.below.go xs j fuel lo hi<=xs.size/\(∀ (i:Nat) x,i<SetTable.below.go xs j fuel lo hi->xs[i]?=some x->x<j)/\∀ (i:Nat) x,SetTable.below.go xs j fuel lo hi<=i->xs[i]?=some x->j<=x)
 | 0,lo,hi,h1,h2,h3,a,b=>by
  rw[SetTable.below.go.eq_1]
  have:lo=hi:=by omega
  subst this
  exact⟨h2,a,b⟩
 | fuel+1,lo,hi,h1,h2,h3,a,b=>by
  have mono:∀ {i k:Nat}{x y:Nat},i<k->xs[i]?=some x->xs[k]?=some y->x<y:=fun {i k x y} hik e1 e2=>by
   rw[← zcc4] at e1 e2
   obtain⟨l1,g1⟩:=zbz6.mp e1
   obtain⟨l2,g2⟩:=zbz6.mp e2
   have:=zcg0.mp srt i k l1 l2 hik
   rw[g1,g2] at this
   exact this
  rw[SetTable.below.go.eq_2]
  by_cases c:lo<hi
  ·rw[if_pos c]
   have hm:(lo+hi) / 2<xs.size:=by omega
   have em:xs[(lo+hi) / 2]?=some xs[(lo+hi) / 2]:=zcf9 hm
   have eg:xs.getD ((lo+hi) / 2) j=xs[(lo+hi) / 2]:=by rw[zch1,em];rfl
   show _/\_
   by_cases d:xs.getD ((lo+hi) / 2) j<j
   ·rw[if_pos d]
    rw[eg] at d
    refine zag6 srt fuel _ hi (by omega) h2 (by omega) (fun i x hi' e=>?_) b
    by_cases z:i=(lo+hi) / 2
    ·subst z;rw[em] at e;cases e;exact d
    ·exact Nat.lt_trans (mono (by omega) e em) d
   ·rw[if_neg d]
    rw[eg] at d
    refine zag6 srt fuel lo _ (by omega) (by omega) (by omega) a (fun i x hi' e=>?_)
    by_cases z:i=(lo+hi) / 2
    ·subst z;rw[em] at e;cases e;omega
    ·have:=mono (show (lo+hi) / 2<i by omega) em e
     omega
  ·rw[if_neg c]
   have:lo=hi:=by omega
   subst this
   exact⟨h2,a,b⟩
theorem zbj0{xs:Array Nat}(srt:xs.toList.Pairwise (· < ·))(j:Nat):SetTable.below xs j<=xs.size/\(∀ (i:Nat) x,i<SetTable.below xs j->xs[i]?=some x->x<j)/\∀ (i:Nat) x,SetTable.below xs j<=i->xs[i]?=some x->j<=x:=
 zag6 srt _ 0 xs.size (zcd0 _) (zcb0 _) (by omega) (fun i x h=>by omega) (fun i x h e=>by
  have:=(zcf3.mp e).1
  omega)
theorem zt2{xs:Array Nat}(srt:xs.toList.Pairwise (· < ·))(e:xs[i]?=some j):SetTable.below xs j=i:=by
 obtain⟨a,b,c⟩:=zbj0 srt j
 by_cases h1:i<SetTable.below xs j
 ·have:=b i j h1 e;omega
 ·by_cases h2:SetTable.below xs j<i
  ·have hs:SetTable.below xs j<xs.size:=by have:=(zcf3.mp e).1;omega
   have er:xs[SetTable.below xs j]?=some xs[SetTable.below xs j]:=zcf9 hs
   have:=c _ _ (zcb0 _) er
   rw[← zcc4] at e er
   obtain⟨l1,g1⟩:=zbz6.mp e
   obtain⟨l2,g2⟩:=zbz6.mp er
   have:=zcg0.mp srt _ _ l2 l1 h2
   rw[g1,g2] at this
   omega
  ·omega
theorem zbo7(j:Nat):SetTable.has #[] j=false:=rfl
theorem zx1{t:SetTable}(srt:t.place.toList.Pairwise (· < ·))(e:t.place[i]?=some j):t.slot j=.live i:=by
 unfold SetTable.slot
 show (if (t.place[SetTable.below t.place j]?==some j)=true then _ else _)=_
 rw[zt2 srt e,e,if_pos (beq_self_eq_true _)]
theorem zaw4{t:SetTable}(dum:t.dummies=#[])(e:j ∉ t.place.toList):t.slot j=.empty:=by
 unfold SetTable.slot
 show (if (t.place[SetTable.below t.place j]?==some j)=true then _ else if SetTable.has t.dummies j=true then _ else _)=_
 have:¬ (t.place[SetTable.below t.place j]?==some j)=true:=fun h=>by
  have h:=eq_of_beq h
  rw[← zcc4] at h
  exact e (zca0 h)
 rw[if_neg this,dum,zbo7,if_neg zca4]
structure TOk(t:SetTable)(hs:List Int):Prop where
 msk:Msk t.mask
 dum:t.dummies=#[]
 len:t.place.toList.length=hs.length
 srt:t.place.toList.Pairwise (· < ·)
 bnd:∀ j∈t.place.toList,j<=t.mask
 rch:∀ (i:Nat) h,hs[i]?=some h->∃ k,t.place.toList[i]?=some (wk t.mask h k)/\∀ k',k'<k->wk t.mask h k'∈t.place.toList
theorem zas8{t:SetTable}{hs:List Int}(T:TOk t hs){hashAt:Nat->Int}{h:Int}{k0:Nat}(free:wk t.mask h k0 ∉ t.place.toList)(full:∀ k',k'<k0->wk t.mask h k'∈t.place.toList):∀ (fuel k:Nat),k<=k0->k0 - k<fuel ->
  (∃ k1 i,k<=k1/\k1<k0/\t.place.toList[i]?=some (wk t.mask h k1)/\hashAt i=h/\SetTable.probe.go t hashAt h fuel (stp t.mask h k)=some (.candidate (wk t.mask h k1) i (stp t.mask h (k1+1)))/\∀ k',k<=k'->k'<k1->∀ i',t.place.toList[i']?=some (wk t.mask h k')->hashAt i'≠h) ∨
  (SetTable.probe.go t hashAt h fuel (stp t.mask h k)=some (.empty (wk t.mask h k0) none)/\∀ k',k<=k'->k'<k0->∀ i',t.place.toList[i']?=some (wk t.mask h k')->hashAt i'≠h)
 | 0,k,h1,h2=>by omega
 | fuel+1,k,h1,h2=>by
  rw[SetTable.probe.go.eq_2]
  by_cases e:k=k0
  ·subst e
   right
   rw[show t.slot (stp t.mask h k).j=.empty from zaw4 T.dum free]
   refine⟨?_,fun k' a b=>by omega⟩
   show some (SetTable.Met.empty (wk t.mask h k) (stp t.mask h k).dummy)=_
   rw[zai6]
  ·obtain⟨i,ei⟩:=zcd3 (full k (by omega))
   have ei':t.place[i]?=some (wk t.mask h k):=by rw[← zcc4];exact ei
   rw[show t.slot (stp t.mask h k).j=.live i from zx1 T.srt ei']
   show (∃ k1 i1,_/\_/\_/\_/\(if (hashAt i==h)=true then some (SetTable.Met.candidate (wk t.mask h k) i (stp t.mask h (k+1))) else SetTable.probe.go t hashAt h fuel (stp t.mask h (k+1)))=_/\_)∨((if (hashAt i==h)=true then some (SetTable.Met.candidate (wk t.mask h k) i (stp t.mask h (k+1))) else SetTable.probe.go t hashAt h fuel (stp t.mask h (k+1)))=_/\_)
   by_cases c:hashAt i=h
   ·left
    exact⟨k,i,zcb0 _,by omega,ei,c,by rw[if_pos (by rw[c];exact beq_self_eq_true _)],fun k' a b=>by omega⟩
   ·have nc:¬ (hashAt i==h)=true:=fun z=>c (eq_of_beq z)
    rw[if_neg nc]
    have here:∀ i',t.place.toList[i']?=some (wk t.mask h k)->hashAt i'≠h:=fun i' e'=>by
     have:i'=i:=by
      have b1:=zt2 T.srt (i:=i') (j:=wk t.mask h k) (by rw[← zcc4];exact e')
      have b2:=zt2 T.srt ei'
      omega
     rw[this];exact c
    rcases zas8 T free full fuel (k+1) (by omega) (by omega) with ⟨k1,i1,a1,a2,a3,a4,a5,a6⟩|⟨a1,a2⟩
    ·left
     refine⟨k1,i1,by omega,a2,a3,a4,a5,fun k' b1 b2 i' e'=>?_⟩
     by_cases z:k'=k
     ·subst z;exact here i' e'
     ·exact a6 k' (by omega) b2 i' e'
    ·right
     refine⟨a1,fun k' b1 b2 i' e'=>?_⟩
     by_cases z:k'=k
     ·subst z;exact here i' e'
     ·exact a2 k' (by omega) b2 i' e'
theorem TOk.of{t t2:SetTable}{hs:List Int}(T:TOk t hs)(e1:t2.mask=t.mask)(e2:t2.place=t.place)(e3:t2.dummies=t.dummies):TOk t2 hs:=
 ⟨by rw[e1];exact T.msk,by rw[e3];exact T.dum,by rw[e2];exact T.len,by rw[e2];exact T.srt,by rw[e1,e2];exact T.bnd,by rw[e1,e2];exact T.rch⟩
section
variable {prog:Program}{w:World}{A:Around}{E:Value->Shared->Prop}{s:Shared}
theorem zs7{M:Model}{α β:Type}(f:α->β->Sem (ForInStep β))(I:List α->β->Shared->Prop)(Q:β->Shared->Prop)(hs:∀ (x:α) (rest:List α) (b:β) (s:Shared),I (x :: rest) b s->wpAny M A (f x b) (fun r s'=>match r with|ForInStep.yield b'=>I rest b' s' | ForInStep.done b'=>Q b' s') E s)(hd:∀ (b:β) (s:Shared),I [] b s->Q b s):∀ (xs:List α) (b:β) (s:Shared),I xs b s->wpAny M A (forIn xs b f) Q E s
 | [],b,s,h=>by rw[List.forIn_nil];exact zci3 (hd b s h)
 | x :: xs,b,s,h=>by
  rw[List.forIn_cons]
  refine zci2 ?_
  have:=hs x xs b s h
  revert this
  generalize f x b=m
  intro this
  refine wpAny_mono this (fun r s' hr=>?_) (fun _ _ h=>h)
  cases r with
  | done b'=>exact zci3 hr
  | yield b'=>exact zs7 f I Q hs hd xs b' s' hr
theorem zay7{ks:List Int}(h:PySem.ItemsAre (intKind prog w) ks vs):∀ v∈vs,carriedByValue v=true:=by
 induction h with
 | nil=>intro v hv;cases hv
 | cons h1 h2 ih=>
  intro v hv
  rcases zca6.mp hv with rfl|hv
  ·exact (intKind prog w).byValue _ _ h1
  ·exact ih v hv
theorem noref{v:Value}(h:carriedByValue v=true):∀ a,v=Value.ref a->False:=fun a e=>by subst e;cases h
theorem zbe7{k:List Int}{p:Addr}{Q:Bool->Shared->Prop}(h:IsTupleKey (intKind prog w) s.heap k p)(q:Q false s):wpAny (model prog w) A (ofAClassStatement 8 (.ref p)) Q E s:=by
 show wpAny (model prog w) A (ofAClassStatement (7+1) (.ref p)) Q E s
 rw[ofAClassStatement.eq_2]
 refine zci2 (wpAny_typeOf h.typeIs ?_)
 obtain⟨o,items,n,ho,hc,hd,hi⟩:=h
 show wpAny (model prog w) A (if ("tuple"=="tuple")=true then _ else _) Q E s
 refine wpAny_ite_true rfl ?_
 refine zci2 (zci3 ?_)
 refine zci5 rfl ?_
 refine zci2 (wpAny_seqItems ho hd ?_)
 refine zci2 ?_
 refine wpAny_forIn_array' _ (fun rest b s'=>s'=s/\b=(none,())/\∀ v∈rest,carriedByValue v=true) _ ?_ ?_ items _ ⟨rfl,rfl,zay7 hi⟩
 ·rintro x rest b s' ⟨rfl,rfl,hv⟩
  rw[ofAClassStatement.eq_3 _ _ (noref (hv x (.head _)))]
  refine zci2 (zci3 ?_)
  refine zci5 rfl (zci3 ?_)
  exact⟨rfl,rfl,fun v h=>hv v (.tail _ h)⟩
 ·rintro b s' ⟨rfl,rfl,_⟩
  exact zci3 q
theorem zbp0{k:List Int}{q:Addr}{Q:Bool->Shared->Prop}(hk:IsTupleKey (intKind prog w) s.heap k q)(hv:∀ v∈vs,∃ p k',v=.ref p/\IsTupleKey (intKind prog w) s.heap k' p)(hQ:Q false s):wpAny (model prog w) A (searchCouldBeSeen (.ref q) vs) Q E s:=by
 unfold searchCouldBeSeen
 refine zci2 ?_
 refine zs7 _ (fun rest b s'=>s'=s/\b=(none,())/\∀ v∈rest,∃ p k',v=.ref p/\IsTupleKey (intKind prog w) s.heap k' p) _ ?_ ?_ vs _ _ ⟨rfl,rfl,hv⟩
 ·rintro x rest b s' ⟨rfl,rfl,hv⟩
  obtain⟨p,k',rfl,hp⟩:=hv x (.head _)
  have hr:∀ v∈rest,∃ p k',v=.ref p/\IsTupleKey (intKind prog w) s'.heap k' p:=fun v h=>hv v (.tail _ h)
  show wpAny (model prog w) A (if ((q==p) || carriedByValue (Value.ref q)&&carriedByValue (Value.ref p))=true then _ else _) _ E s'
  by_cases c:((q==p) || carriedByValue (Value.ref q)&&carriedByValue (Value.ref p))=true
  ·rw[if_pos c]
   exact zci3 ⟨rfl,rfl,hr⟩
  ·rw[if_neg c]
   refine zci2 (wpAny_eqIsQuiet_tuple hk ?_)
   refine zci5 rfl ?_
   refine zci2 (wpAny_eqIsQuiet_tuple hp ?_)
   refine zci5 rfl ?_
   refine zci2 (zbe7 hk ?_)
   refine zci5 rfl ?_
   refine zci2 (zbe7 hp ?_)
   refine zci5 rfl ?_
   exact zci3 ⟨rfl,rfl,hr⟩
 ·rintro b s' ⟨rfl,rfl,_⟩
  exact zci3 hQ
structure SetE(prog:Program)(w:World)(h:Heap)(a:Addr)(o:Obj)(es:Array (Int×Value))(ep:Nat)(t:SetTable)(keys:List (List Int)):Prop where
 at_:h.get? a=some o
 ex:o.ExactSet
 dat:o.data=Data.set es ep t
 tab:TOk t (es.toList.map (·.1))
 few:es.size*5<t.mask*3
 sz:es.size=keys.length
 el:∀ e∈es.toList,∃ p k,k∈keys/\e=(zci6 (intKind prog w) k,.ref p)/\IsTupleKey (intKind prog w) h k p
 all:∀ k∈keys,∃ e∈es.toList,∃ p,e=(zci6 (intKind prog w) k,.ref p)/\IsTupleKey (intKind prog w) h k p
theorem SetE.mask{h:Heap}{a:Addr}{o:Obj}{es:Array (Int×Value)}{ep:Nat}{t:SetTable}{keys:List (List Int)}(S:SetE prog w h a o es ep t keys):Msk t.mask:=S.tab.msk
theorem TOk.fits{t:SetTable}{es:Array (Int×Value)}(T:TOk t (es.toList.map (·.1)))(few:es.size<=t.mask):t.fits es.size=true:=by
 have l:=T.len
 rw[zbz4,zcc1,zcc1] at l
 unfold SetTable.fits SetTable.fill
 rw[T.dum,l]
 simp
 exact few
theorem SetE.fits{h:Heap}{a:Addr}{o:Obj}{es:Array (Int×Value)}{ep:Nat}{t:SetTable}{keys:List (List Int)}(S:SetE prog w h a o es ep t keys):t.fits es.size=true:=S.tab.fits (by have:=S.few;omega)
theorem SetE.gave{a:Addr}{t:SetTable}{keys:List (List Int)}(S:SetE prog w h a o es ep t keys):t.gaveWay=false:=by
 unfold SetTable.gaveWay
 rcases S.mask with e|e<;>rw[e]<;>rfl
theorem zas6(p:Addr):isSame (.ref p) (.ref p)=pure true:=by
 show (if (p==p)=true then pure true else _)=_
 rw[if_pos (beq_self_eq_true p)]
theorem zar6(t:SetTable):t.sameMemory t.moves t.mask=some true:=by
 unfold SetTable.sameMemory
 rw[if_pos (beq_self_eq_true _)]
theorem zbm4{a:Addr}{o:Obj}{es:Array (Int×Value)}{ep:Nat}{t:SetTable}{keys:List (List Int)}(S:SetE prog w s.heap a o es ep t keys)(hA:A.units<cLine){k:List Int}{q:Addr}(hk:IsTupleKey (intKind prog w) s.heap k q){k0:Nat}(free:wk t.mask (zci6 (intKind prog w) k) k0 ∉ t.place.toList)(full:∀ k',k'<k0->wk t.mask (zci6 (intKind prog w) k) k'∈t.place.toList)(hk0:k0<10*(t.mask+14)){Q:SetFound->Shared->Prop}(q1:k∈keys->Q (.there none) s)(q2:k ∉ keys->Q (.free (wk t.mask (zci6 (intKind prog w) k) k0) false) s) :
  ∀ (fuel n:Nat) (stand:Option SetTable.Probe),n<=k0->k0 - n<fuel->stand.getD (t.probeStart (zci6 (intKind prog w) k))=stp t.mask (zci6 (intKind prog w) k) n->(∀ k',k'<n->∀ (i:Nat) p,t.place.toList[i]?=some (wk t.mask (zci6 (intKind prog w) k) k')->es.toList[i]?=some (zci6 (intKind prog w) k,.ref p)->¬ IsTupleKey (intKind prog w) s.heap k p)->wpAny (model prog w) A (setSearchFrom a (.ref q) (zci6 (intKind prog w) k) true fuel stand) Q E s
 | 0,n,stand,h1,h2,h3,h4=>by omega
 | fuel+1,n,stand,h1,h2,h3,h4=>by
  rw[setSearchFrom.eq_2]
  refine zci2 (wpAny_setState_of S.at_ S.dat S.fits ?_)
  show wpAny (model prog w) A (if t.gaveWay=true then _ else _) Q E s
  rw[S.gave]
  refine zci5 rfl ?_
  rw[h3]
  have hl:=S.tab.len
  rw[zbz4] at hl
  rcases zas8 S.tab (hashAt:=fun i=>(Option.map (fun x=>x.fst) es[i]?).getD 0) free full (10*(t.mask+15)) n h1 (by omega) with ⟨k1,i,b1,b2,b3,b4,b5,b6⟩|⟨b1,b2⟩
  ·have b5:t.probe (fun i=>(Option.map (fun x=>x.fst) es[i]?).getD 0) (zci6 (intKind prog w) k) (stp t.mask (zci6 (intKind prog w) k) n)=_:=b5
   show wpAny (model prog w) A (match t.probe (fun i=>(Option.map (fun x=>x.fst) es[i]?).getD 0) (zci6 (intKind prog w) k) (stp t.mask (zci6 (intKind prog w) k) n) with|some met=>_|_=>_) Q E s
   rw[b5]
   have hi:i<es.size:=by
    have:=(zbz6.mp b3).1
    rw[hl,zcc1] at this
    exact this
   have ei:es[i]?=some es[i]:=zcf9 hi
   have em:es[i]∈es.toList:=by rw[zch5];exact Array.getElem_mem hi
   obtain⟨p,k',hk',eq,hp⟩:=S.el _ em
   rw[eq] at ei em
   have hh:zci6 (intKind prog w) k'=zci6 (intKind prog w) k:=by
    rw[ei] at b4
    exact b4
   have inv:¬ k'=k->∀ k'',k''<k1+1->∀ (i':Nat) p',t.place.toList[i']?=some (wk t.mask (zci6 (intKind prog w) k) k'')->es.toList[i']?=some (zci6 (intKind prog w) k,.ref p')->¬ IsTupleKey (intKind prog w) s.heap k p':=fun ne k'' hk'' i' p' e1 e2 hp'=>by
    by_cases c1:k''<n
    ·exact h4 k'' c1 i' p' e1 e2 hp'
    ·by_cases c2:k''<k1
     ·have:=b6 k'' (by omega) c2 i' e1
      rw[← zcc4,e2] at this
      exact this rfl
     ·have:k''=k1:=by omega
      subst this
      have x1:=zt2 S.tab.srt (i:=i') (by rw[← zcc4];exact e1)
      have x2:=zt2 S.tab.srt (i:=i) (by rw[← zcc4];exact b3)
      have:i'=i:=by omega
      subst this
      rw[zcc4,ei] at e2
      have:=(Prod.mk.inj (Option.some.inj e2)).2
      cases this
      exact ne (IsTupleKey.inj hp hp')
   refine wpAny_ite ?_
   split
   ·refine zci2 (zbp0 hk (fun v hv=>?_) ?_)
    ·obtain⟨z,hz,rfl⟩:=zca9.mp hv
     obtain⟨hz,_⟩:=Array.mem_filter.mp (zch5.mp hz)
     obtain⟨p2,k2,_,e2,h2⟩:=S.el z (zch5.mpr hz)
     exact⟨p2,k2,by rw[e2],h2⟩
    refine zci5 rfl ?_
    rw[ei]
    refine zci2 (zci7 (wpAny_eqBool_tuple hA hp hk ?_))
    refine zci2 (wpAny_setState_of S.at_ S.dat S.fits ?_)
    by_cases e:k'=k
    ·rw[decide_eq_true e]
     exact wpAny_ite_true rfl (zci3 (q1 (e▸hk')))
    ·rw[decide_eq_false e]
     refine zci5 rfl ?_
     rw[zar6]
     show wpAny (model prog w) A (match t.slot (wk t.mask (zci6 (intKind prog w) k) k1) with|SetTable.Slot.live i'=>_|x=>_) Q E s
     rw[zx1 S.tab.srt (i:=i) (by rw[← zcc4];exact b3)]
     show wpAny (model prog w) A (match es[i]? with|some (fst,y')=>_|none=>_) Q E s
     rw[ei]
     refine zci2 (wpAny_of_eq (zas6 p) ?_)
     refine zci2 (zci3 ?_)
     refine zci5 rfl ?_
     exact zbm4 S hA hk free full hk0 q1 q2 fuel (k1+1) (some _) (by omega) (by omega) rfl (inv e)
   ·rw[ei]
    refine zci2 (zci7 (wpAny_eqBool_tuple hA hp hk ?_))
    refine zci2 (wpAny_setState_of S.at_ S.dat S.fits ?_)
    by_cases e:k'=k
    ·rw[decide_eq_true e]
     exact wpAny_ite_true rfl (zci3 (q1 (e▸hk')))
    ·rw[decide_eq_false e]
     refine zci5 rfl ?_
     rw[zar6]
     show wpAny (model prog w) A (match t.slot (wk t.mask (zci6 (intKind prog w) k) k1) with|SetTable.Slot.live i'=>_|x=>_) Q E s
     rw[zx1 S.tab.srt (i:=i) (by rw[← zcc4];exact b3)]
     show wpAny (model prog w) A (match es[i]? with|some (fst,y')=>_|none=>_) Q E s
     rw[ei]
     refine zci2 (wpAny_of_eq (zas6 p) ?_)
     refine zci2 (zci3 ?_)
     refine zci5 rfl ?_
     exact zbm4 S hA hk free full hk0 q1 q2 fuel (k1+1) (some _) (by omega) (by omega) rfl (inv e)
  ·have b1:t.probe (fun i=>(Option.map (fun x=>x.fst) es[i]?).getD 0) (zci6 (intKind prog w) k) (stp t.mask (zci6 (intKind prog w) k) n)=_:=b1
   show wpAny (model prog w) A (match t.probe (fun i=>(Option.map (fun x=>x.fst) es[i]?).getD 0) (zci6 (intKind prog w) k) (stp t.mask (zci6 (intKind prog w) k) n) with|some met=>_|_=>_) Q E s
   rw[b1]
   refine zci3 (q2 fun hin=>?_)
   obtain⟨e,he,p,rfl,hp⟩:=S.all k hin
   obtain⟨i,ei⟩:=zcd3 he
   obtain⟨kx,r1,r2⟩:=S.tab.rch i (zci6 (intKind prog w) k) (by rw[zbz9,ei];rfl)
   have lt:kx<k0:=by
    by_cases z:kx<k0
    ·exact z
    ·exfalso
     by_cases z2:kx=k0
     ·subst z2
      exact free (zca0 r1)
     ·exact free (r2 k0 (by omega))
   by_cases c:kx<n
   ·exact h4 kx c i p r1 ei hp
   ·have:=b2 kx (by omega) lt i r1
    rw[← zcc4,ei] at this
    exact this rfl
end
section
variable {prog:Program}{w:World}{A:Around}{E:Value->Shared->Prop}{s:Shared}
theorem zay1{k:List Int}{p:Addr}(hk:IsTupleKey (intKind prog w) h k p)(m:∀ o,h.get? p=some o->h'.get? p=some o):IsTupleKey (intKind prog w) h' k p:=by
 obtain⟨o,i,n,g,c,d,x⟩:=hk
 exact⟨o,i,n,m o g,c,d,x⟩
theorem SetE.mono{a:Addr}{t:SetTable}{keys:List (List Int)}(S:SetE prog w h a o es ep t keys)(m:∀ b o,h.get? b=some o->h'.get? b=some o):SetE prog w h' a o es ep t keys:=
 ⟨m _ _ S.at_,S.ex,S.dat,S.tab,S.few,S.sz,fun e he=>by obtain⟨p,k,h1,h2,h3⟩:=S.el e he;exact⟨p,k,h1,h2,zay1 h3 fun o g=>m _ o g⟩,fun k hk=>by obtain⟨e,he,p,h2,h3⟩:=S.all k hk;exact⟨e,he,p,h2,zay1 h3 fun o g=>m _ o g⟩⟩
end
set_option maxHeartbeats 2000000
section
variable {X:Cx}{K:zbz7}
end
section
variable {X:Cx}{K:zbz7}
theorem zag4{v:Value}{o:Option Int}(p:IsPart v o):∃ q:Option (Int×Tok),v=partValue q/\q.map (·.1)=o:=by
 cases p with
 | none=>exact⟨none,rfl,rfl⟩
 | int i t=>exact⟨some (i,t),rfl,rfl⟩
end
section
variable {X:Cx}{K:zbz7}
end
set_option maxHeartbeats 4000000
open PySem.Calls PySem.NumText
set_option maxHeartbeats 2000000
set_option maxHeartbeats 4000000
set_option maxHeartbeats 1000000
set_option maxHeartbeats 2000000
theorem zf3.there{P:Program}{w:World}{a:Addr}{o:HO}(x:zf3 P w H h a o):∃ u,h.get? a=some u:=by
 cases o with
 | lst xs=>obtain⟨_,_,_,_,e⟩:=x;exact⟨_,e⟩
 | tup xs=>obtain⟨_,_,_,o,e,_⟩:=x;exact⟨_,e⟩
 | dK kvs=>obtain⟨_,_,_,_,o,_,_,e,_⟩:=x;exact⟨_,e⟩
 | dT kvs=>obtain⟨_,_,_,_,o,_,_,e,_⟩:=x;exact⟨_,e⟩
 | set S n=>obtain⟨o,_,_,_,e,_⟩:=x;exact⟨_,e⟩
 | ins C dx fs=>obtain⟨_,_,_,e,_⟩:=x;exact⟨_,e⟩
 | own y=>obtain⟨_,e⟩:=x;exact⟨_,e⟩
 | xd fs=>obtain⟨_,⟨_,_,_,e,_⟩,_⟩:=x;exact⟨_,e⟩
 | rng lo hi=>obtain⟨_,_,_,e⟩:=x;exact⟨_,e⟩
 | frz ob u=>obtain⟨e,_⟩:=x;exact⟨_,e⟩
 | tbl ps=>exact⟨_,show h.get? a=some _ from x⟩
 | met f y=>exact⟨_,show h.get? a=some _ from x⟩
 | ext φ=>obtain⟨_,⟨_,e⟩,_⟩:=x;exact⟨_,e⟩
def zo5(T:Addr)(ln co:Nat)(qual:Str)(H:Hp):Prop:=∃ tab,H T=some (.tbl tab) /\
 (tab=#[]∨∃ c oc vs t,tab=#[rawInt ln,rawInt co,.ref c]/\H c=some (.frz oc (.own c))/\oc.data=.fields vs/\vs[1]?=some (.str qual t))
theorem zo5.same{ln co:Nat}(x:zo5 T ln co qual H)(s:Same H H'):zo5 T ln co qual H':=by
 obtain⟨tab,e,r⟩:=x
 refine⟨tab,s _ _ e,?_⟩
 rcases r with r|⟨c,oc,vs,t,e1,e2,r⟩
 ·exact .inl r
 ·exact .inr ⟨c,oc,vs,t,e1,s _ _ e2,r⟩
def Bm(mg:Str->Option Value)(base:Heap):Prop:=∃ bm ob,mg "__builtins__"=some (.ref bm)/\bm≠builtinsNs/\base.get? bm=some ob/\ob.cls=.type "module"/\ob.dict=some builtinsNs/\ob.data=.plain
section
variable {prog:Program}{w:World}{A:Around}{E:Value->Shared->Prop}{s:Shared}{env:Env}{m mg mb:Str->Option Value}{b l cA:Addr}{hv:Int}{th:Tok}{its ws:List Value}{ns:List Int}{p1 p2 p3 p4 p5 p6 p7:Pos}
theorem zbj8(hh:A.handled=none)(hk:env.scope.kind=.function)(k1:env.kindOf "hosts"=some .free)(k2:env.kindOf "part"=some .local)(k3:env.kindOf "sum"=some .globalImplicit)(hc:env.cells.lookup ("hosts":Str)=some cA)(hcell:s.heap.IsCell cA (some (.int hv th)))(hn:s.heap.Ns env.locals m)(hp:m "part"=some (.ref b))(hg:s.heap.Ns env.globals mg)(hm:mg "sum"=none)(hb:s.heap.Ns env.builtins mb)(hbs:mb "sum"=some (.builtin "sum"))(ht:IsTup s.heap b its.toArray)(h0:its[0]?=some (.ref l))(hl:s.heap.IsList l ws.toArray)(hi:IntsAre ws ns) :
  wpAny (model prog w) A (eval (.BinOp (.Name "hosts" p1) .Sub (.Call (.Name "sum" p2) [.Subscript (.Name "part" p3) (.Constant (.int 0) 0 p4) p5] [] p6) p7) env)
   (fun v s'=>∃ h' tk t,s'={ s with heap:=h',toks:=tk }/\v=.int (hv - ns.sum) t/\∀ b o,s.heap.get? b=some o->h'.get? b=some o) E s:=by
 refine wpAny_BinOp (wpAny_Name (wpAny_loadName_free hk k1 hc hcell ?_) (by decide))
 refine wpAny_Call_Name_kw (Calls.Name_function_global hk k3 (Calls.loadGlobal_builtin hg hm hb hbs ?_) (by decide))
 refine PyProof.Rows.callWith_builtin1 ?_ rfl rfl
 show wpAny _ _ (spliced ((false,eval _ env) :: [])) _ _ s
 refine Calls.spliced_cons ?_
 refine Subscript_ (wpAny_Name (wpAny_loadName_local hk k2 hn hp ?_) (by decide))
 refine wpAny_Constant_int ?_
 refine subscriptTail_builtinR (x:=.ref l) (s:={ s with toks:=s.toks+1 }) (T:="tuple") ht.typeIs slot_tuple_getitem.lookup
  (PyProof.Rows.getItem_tuple (j:=0) (x:=.ref l) ht (by decide) (by decide) ?_ (by simpa using h0) ⟨rfl,?_⟩) (by with_unfolding_all rfl)
 ·have:0<its.length:=(zbz6.mp h0).1
  rw[zca2,seqIndex_of (by decide) (by omega)]
  rfl
 ·refine Calls.spliced_nil ?_
  obtain⟨ys,hx⟩:=hi.allInts.items
  have hl':s.heap.IsList l (intItems ys):=hx▸hl
  refine sum_intListG (s:={ s with toks:=s.toks+1 }) hh hl' fun h' tk t' hk'=>?_
  have e1:ns=ys.toList.map (·.1):=by
   rw[← nums_intItems,← hx]
   exact (show numsOf ws.toArray.toList=ns from hi.numsOf).symm
  have e2:preSum (numAt ys) ys.size=ns.sum:=by
   rw[preSum_eq,zce0 (by simp),e1]
  rw[e2]
  exact PyProof.Rows.sub_int ⟨h',_,_,rfl,rfl,hk'⟩
end
section
variable {X:Cx}{K:zbz7}{pins:List (Addr×Obj)}{σ:St}{H:Hp}{s:Shared}
theorem Inv.tab{T c':Addr}{tab more:Array Value}{oc:Obj}{h':Heap}{tk:Nat}(I:Inv X pins σ H s)(hT:H T=some (.tbl tab))(hx:Heap.ExtBut T s.heap h')(hge:s.heap.objs.size<=c')(hc:h'.get? c'=some oc)(ht:h'.get? T=some (PySem.W.tabObj (tab++more))):Inv X pins σ (upd (upd H T (.tbl (tab++more))) c' (.frz oc (.own c'))) { s with heap:=h',toks:=tk }:=by
 have fc:H c'=none:=I.hok.fresh hge
 have nT:c'≠T:=fun z=>by rw[z,hT] at fc;cases fc
 have at1:∀ b o,b≠T->H b=some o->upd (upd H T (.tbl (tab++more))) c' (.frz oc (.own c')) b=some o:=fun b o n e=>by rw[zb3 (za5 e fc),zb3 n];exact e
 have at0:∀ b o,s.heap.get? b=some o->H b=none->upd (upd H T (.tbl (tab++more))) c' (.frz oc (.own c')) b=none:=fun b o e n=>by
  rw[zb3 (zcc9 (zcb5 (zca7 e) hge)),zb3 (fun z=>by rw[z,hT] at n;cases n)];exact n
 have kp:∀ b o,s.heap.get? b=some o->H b=none->h'.get? b=some o:=fun b o e n=>hx b o (fun z=>by rw[z,hT] at n;cases n) e
 refine I.un ⟨fun b o e n _ _=>kp b o e n,fun b o e n _ _=>⟨o.slots,kp b o e n⟩,fun b o e n _=>at0 b o e n,fun b o e _=>?_,fun b xs e=>at1 b _ (fun z=>by rw[z,hT] at e;cases e) e,fun b o u e=>at1 b _ (fun z=>by rw[z,hT] at e;cases e) e,fun b ps e=>?_⟩ fun b u e=>?_
 ·by_cases z:b=T
  ·exact⟨_,z▸ht⟩
  ·exact⟨o,hx b o z e⟩
 ·by_cases z:b=T
  ·subst z
   rw[hT] at e;cases e
   exact⟨more,by rw[zb3 nT.symm,zb1]⟩
  ·exact⟨#[],by rw[Array.append_empty];exact at1 b _ z e⟩
 ·by_cases z:b=c'
  ·subst z
   rw[zb1] at e;cases e
   exact⟨hc,oc,hc⟩
  ·rw[zb3 z] at e
   by_cases z2:b=T
   ·subst z2
    rw[zb1] at e;cases e
    exact ht
   ·rw[zb3 z2] at e
    refine (I.hok b u e).stay (fun d v hd q=>hx d v (fun z3=>?_) q) (fun d q=>at1 d _ (fun z3=>by rw[z3,hT] at q;cases q) q) fun d xs q=>at1 d _ (fun z3=>by rw[z3,hT] at q;cases q) q
    rcases hd with hd|hd
    ·exact z2 (hd.symm.trans z3)
    ·rw[z3,hT] at hd;cases hd
@[irreducible] def rSoK(K:zbz7)(T:Addr)(ln co:Nat)(qual:Str)(hv:Int)(a:Addr)(H:Hp)(Q:VK):Prop:=∃ (bs:List Addr) (kz:List Int),SqL K H a (bs.map V.ref)/\bs.length<64/\kz.length=bs.length /\
 (∀ (i:Nat) b k,bs[i]?=some b->kz[i]?=some k->∃ l v ns,H b=some (.tup [.ref l,v])/\H l=some (.lst (List.map V.int ns))/\k=hv - ns.sum)/\zo5 T ln co qual H /\
 ∀ p H' (ps:List (Int×Addr)),H p=none->Chg T H H'->zo5 T ln co qual H'->ps.Perm (kz.zip bs)->ps.Pairwise (fun x y=>x.1<=y.1)->H' p=some (.lst (ps.map fun x=>V.ref x.2))->Q (.ref p) H'
def qSoK(K:zbz7)(T:Addr)(ln co:Nat)(qual:Str)(i:Nat)(t:TA):TE:=fun σ H Q=>t σ H fun xs H1=>match xs with
 | [.ref a]=>(match σ[i]? with
  | some (some (.int hv))=>rSoK K T ln co qual hv a H1 Q
  | _=>False)
 | _=>False
theorem zaz2:∀ {bs:List Addr}{us:List Value},Vals (bs.map V.ref) us->us=bs.map Value.ref
 | [],us,r=>by rw[zci1] at r;cases r;rfl
 | b :: bs,us,r=>by
  rw[zcb1] at r
  cases r with
  | cons r1 r2=>cases r1;rw[zaz2 r2];rfl
theorem zat7{E:Value->Shared->Prop}{q c' a cA:Addr}{la:Arguments}{lsc:Scope}{pm ctv:Value}{hv:Int}{th:Tok}{bs:List Addr}{kz:List Int}{Q:VK}{p1 p2 p3 p4 p5 p6 p7:Pos}(hr:Room 3 X.A)(I:Inv X pins σ H s)(hq:s.heap.get? q=some (PySem.W.kla_obj "<lambda>" qual la (.BinOp (.Name "hosts" p1) .Sub (.Call (.Name "sum" p2) [.Subscript (.Name "part" p3) (.Constant (.int 0) 0 p4) p5] [] p6) p7) lsc [("hosts",cA)] pm c' ctv))(hcr:s.heap.CodeRec (.ref c') qual)(hb:∀ u:Value,bindArgs (PySem.W.kla_fn "<lambda>" qual la (.BinOp (.Name "hosts" p1) .Sub (.Call (.Name "sum" p2) [.Subscript (.Name "part" p3) (.Constant (.int 0) 0 p4) p5] [] p6) p7) lsc [("hosts",cA)] pm (.ref c') ctv) ⟨[u],[]⟩=pure [(("part":Str),u)])(s1:lsc.kind=.function)(s2:lsc.isCoroutine=false)(s3:lsc.isGenerator=false)(s4:lsc.names.lookup ("hosts":Str)=some .free)(s5:lsc.names.lookup ("part":Str)=some .local)(s6:lsc.names.lookup ("sum":Str)=some .globalImplicit)(s7:∀ x∈lsc.names,x.2≠.cell)(hm:X.mg "sum"=none)(hcell:s.heap.IsCell cA (some (.int hv th)))(hcL:cA≠X.env.locals)(h1:SqL X.K H a (bs.map V.ref))(h2:bs.length<64)(h3:kz.length=bs.length)(h4:∀ (i:Nat) b k,bs[i]?=some b->kz[i]?=some k->∃ l v ns,H b=some (.tup [.ref l,v])/\H l=some (.lst (List.map V.int ns))/\k=hv - ns.sum)(h5:∀ p H' (ps:List (Int×Addr)),H p=none->Same H H'->ps.Perm (kz.zip bs)->ps.Pairwise (fun x y=>x.1<=y.1)->H' p=some (.lst (ps.map fun x=>V.ref x.2))->Q (.ref p) H') :
  wpAny (model X.prog X.w) X.A (call (.builtin "sorted") [.ref a] [(Str.ofString "key",.ref q)]) (EP X pins σ Q) E s:=by
 obtain⟨m,hn,hl⟩:=id I.loc
 obtain⟨its,r',pl,hz⟩:=I.list h1
 have eits:=zaz2 r'
 have hqL:q≠X.env.locals:=fun z=>by
  obtain⟨o,es,ep,e,d,_⟩:=hn
  rw[← z,hq] at e;cases e;cases d
 have hcrL:∀ b,Value.ref c'=.ref b->b≠X.env.locals:=fun b eb z=>by
  obtain⟨o,es,ep,e,d,_⟩:=hn
  obtain⟨c2,oc,vs,t,e1,e2,e3,_⟩:=hcr
  cases e1;cases eb
  rw[z,e] at e2;cases e2;rw[d] at e3;cases e3
 have old:∀ {h:Heap}{own:List (Addr×Obj)},News (Att.noObjs s.heap) X.env.locals h (Att.ledger s.heap X.env.locals X.env.locals++own)->∀ b o,b≠X.env.locals->s.heap.get? b=some o->h.get? b=some o:=
  fun N b o nb e=>(N (b,o) (zch3 _ (Att.mem_ledger.mpr ⟨nb,nb,e⟩))).1
 have tracked:∀ {b:Addr}{o:HO},H b=some o->b≠X.env.locals:=fun e z=>by rw[z,I.free] at e;cases e
 refine ksk_sorted (h₀:=Att.noObjs s.heap) (L:=X.env.locals) (m:=m) (news:=Att.ledger s.heap X.env.locals X.env.locals) (kz:=kz) (f:=.ref q) (b:=false) (vs:=its) (Att.fr_all hn) (fun p hp=>by
   obtain⟨n1,_,e⟩:=Att.mem_ledger.mp hp
   exact⟨e,n1,Att.noObjs_get _ _⟩) pl.isList (by rw[eits,zbz4];exact h3) (by rw[eits,zbz4];exact h2) (ksk_s1 _ _) (fun x=>ksk_l1 _ _) (fun x=>ksk_t1 _ _) (fun i v k hv' hk h tk own F N=>?_) fun D h' tk out c F N lt ko=>?_
 ·rw[eits,zbz9] at hv'
  obtain⟨b,eb,rfl⟩:=zca3.mp hv'
  obtain⟨l,v,ns,e1,e2,rfl⟩:=h4 i b k eb hk
  have kp:=old N
  have ks:∀ b o,X.base.get? b=some o->h.get? b=some o:=fun b o e=>kp b o (fun z=>by
   have:=zca7 e
   rw[z] at this
   exact absurd (zcb5 this (zcd9 I.ok.bsz I.ok.above)) (zce8 _)) (I.bk b o e)
  refine wpAny_call (PySem.W.kla_callFunE (o:=PySem.W.kla_obj "<lambda>" qual la _ lsc [("hosts",cA)] pm c' ctv) (by have:=hr.dp;show X.A.depth<_;omega) (kp q _ hqL hq) rfl s2 s3 rfl ?_ ?_)
  ·obtain⟨c2,oc,vs,t,e1,e2,e3⟩:=hcr
   cases e1
   exact⟨c',oc,vs,t,rfl,kp c' _ (hcrL c' rfl) e2,e3⟩
  ·rw[hb]
   refine zci3 (wpAny_newFunctionEnv s7 (fun x hx=>by rw[zch0.mp hx];exact s5) (fun h₁ hns hsb=>?_) s1)
   have hk₁:∀ b o,h.get? b=some o->h₁.get? b=some o:=fun b o e=>hsb.extBut b o (zcc9 (zca7 e)) (zca1 _ e)
   refine⟨(I.mod.nolimit.keeps ks).keeps hk₁,?_⟩
   show codeAny _ _ (.expr _ (PySem.W.envX qual lsc h.objs.size q (.ref c') [("hosts",cA)])) _ _
   obtain⟨mb,b1,b2⟩:=I.mod.blt
   obtain⟨zt,itt,rt,tt⟩:=I.hok b _ e1
   obtain⟨zl,itl,nl,rl,el⟩:=I.hok l _ e2
   have rt0:∃ u,itt=[.ref l,u]:=by
    cases rt with
    | cons r1 r2=>cases r1;cases r2 with
     | cons r3 r4=>cases r4;exact⟨_,rfl⟩
   obtain⟨u0,rfl⟩:=rt0
   have ht:IsTup h₁ b ([.ref l,u0]:List Value).toArray:=by
    obtain⟨o,e,c⟩:=tt
    exact⟨o,hk₁ _ _ (kp _ _ (tracked e1) e),c⟩
   have hll:h₁.get? l=some { cls:=.type "list",data:=.seq itl.toArray nl }:=hk₁ _ _ (kp _ _ (tracked e2) el)
   refine PySem.W.kla_codeExpr (wpAny_mono (zbj8 (s:={ s with heap:=h₁,toks:=tk+1 }) (cA:=cA) (m:=fun y=>[(("part":Str),Value.ref b)].reverse.lookup y) (mg:=X.mg) (mb:=mb) (by exact hr.hd) s1 s4 s5 s6 rfl
    (by obtain⟨oc,q1,q2⟩:=hcell;exact⟨oc,hk₁ _ _ (kp _ _ hcL q1),q2⟩) hns rfl ((I.mod.glob.keeps ks).keeps hk₁) hm ((b1.keeps ks).keeps hk₁) ((b2 "sum" (by decide)).trans zw3) ht rfl ⟨_,hll,rfl,_,rfl⟩ (zt6 rl)) (fun v s' hv=>?_) fun _ _ hF=>hF)
   obtain⟨h2',tk2,t2,rfl,rfl,kp2⟩:=hv
   exact KskEnd.intro (s₁:={ s with heap:=h,toks:=tk }) ((F.kept hk₁).kept kp2) ((N.grown hk₁).grown kp2) fun _ hp=>hp
 ·have ND:=N (D,seqObj "list" out c) zce2
  have kp:∀ b o,b≠X.env.locals->s.heap.get? b=some o->h'.get? b=some o:=fun b o nb e=>(N (b,o) (zcd2 _ (Att.mem_ledger.mpr ⟨nb,nb,e⟩))).1
  have nD:∀ b o,s.heap.get? b=some o->b≠D:=fun b o e z=>by
   by_cases nb:b=X.env.locals
   ·exact ND.2.1 (z.symm.trans nb)
   ·have q':b<D:=lt (b,o) (Att.mem_ledger.mpr ⟨nb,nb,e⟩)
    rw[z] at q'
    exact absurd q' (zce8 _)
  have fD:H D=none:=by
   cases e:H D with
   | none=>rfl
   | some u=>obtain⟨o,ho⟩:=(I.hok D u e).there;exact absurd rfl (nD D o ho)
  obtain⟨ps,hp,ho,hs⟩:=ko
  have ez:kz.zip its=(kz.zip bs).map fun x=>(x.1,Value.ref x.2):=by
   rw[eits,List.zip_map_right]
   rfl
  rw[ez] at hp
  obtain⟨g,hg⟩:∃ g:Value->Addr,∀ b,g (.ref b)=b:=⟨fun v=>match v with|.ref b=>b|_=>0,fun _=>rfl⟩
  have hp':(ps.map fun x=>(x.1,g x.2)).Perm (kz.zip bs):=by
   have:=hp.map fun x:Int×Value=>(x.1,g x.2)
   rw[zcb4] at this
   have e2:(kz.zip bs).map ((fun x:Int×Value=>(x.1,g x.2))∘fun x=>(x.1,Value.ref x.2))=kz.zip bs:=by
    conv=>rhs;rw[← List.map_id (kz.zip bs)]
    exact zcb3 fun x _=>by show (x.1,g (.ref x.2))=x;rw[hg]
   rw[e2] at this
   exact this
  have ho':out.toList=((ps.map fun x=>(x.1,g x.2)).map fun x=>x.2).map Value.ref:=by
   rw[ho,zcb4,zcb4]
   refine zcb3 fun x hx=>?_
   obtain⟨y,_,rfl⟩:=zca9.mp (hp.mem_iff.mp hx)
   show Value.ref y.2=Value.ref (g (.ref y.2))
   rw[hg]
  have hs':(ps.map fun x=>(x.1,g x.2)).Pairwise (fun x y=>x.1<=y.1):=by
   rw[List.pairwise_map]
   exact hs.imp fun hr=>by simpa using hr
  generalize (ps.map fun x=>(x.1,g x.2))=ps' at hp' ho' hs'
  have lenO:ps'.length<64:=by
   have:=hp'.length_eq
   rw[List.length_zip] at this
   omega
  have vl:∀ l:List (Int×Addr),Vals (l.map fun x=>V.ref x.2) ((l.map fun x=>x.2).map Value.ref):=by
   intro l
   induction l with
   | nil=>exact .nil
   | cons x l ih=>exact .cons rfl ih
  have hD:h'.get? D=some { cls:=.type "list",data:=.seq ((ps'.map fun x=>x.2).map Value.ref).toArray c }:=by
   have:=ND.1
   rw[← ho',Array.toArray_toList]
   exact this
  have at1:∀ b o,H b=some o->upd H D (.lst (ps'.map fun x=>V.ref x.2)) b=some o:=fun b o e=>by rw[zb3 (za5 e fD)];exact e
  refine⟨.ref D,upd H D (.lst (ps'.map fun x=>V.ref x.2)),?_,rfl,h5 D _ ps' fD (Same.upd fD) hp' hs' zb1⟩
  refine I.step (h':=h') (t':=tk) (g':=s.gens) (d':=s.drawn) (ch:=[]) (fun _ z=>nomatch z) (fun b o n1 _ _ e _=>kp b o n1 e) (fun b o n1 _ _ e _=>⟨o.slots,kp b o n1 e⟩) (fun b o _ e n=>by rw[zb3 (nD b o e)];exact n) (fun b o _ e=>?_)
   (fun b xs e=>at1 b _ e) (fun b o u e=>at1 b _ e) (fun b ps e=>⟨#[],by rw[Array.append_empty];exact at1 b _ e⟩) (fun m' hm'=>?_) (fun b u e=>?_) I.bare
  ·by_cases z:b=X.env.locals
   ·obtain⟨o',_,_,e',_⟩:=F.ns
    exact⟨o',z▸e'⟩
   ·exact⟨o,kp b o z e⟩
  ·have:m'=m:=funext fun x=>hm'.agree hn x
   rw[this]
   exact F.ns
  ·by_cases z:b=D
   ·subst z
    rw[zb1] at e;cases e
    refine⟨by rw[zbz4];exact zcd9 (Nat.le_of_lt lenO) (by decide),_,c,vl ps',hD⟩
   ·rw[zb3 z] at e
    refine (I.hok b u e).stay (fun d v hd q=>kp d v (fun z3=>?_) q) (fun d q=>at1 d _ q) fun d xs q=>at1 d _ q
    rcases hd with hd|hd
    ·exact tracked e (hd.symm.trans z3)
    ·exact tracked hd z3
end
section
variable {X:Cx}{K:zbz7}
theorem peSoK{cA:Addr}{ln co:Nat}{la:Arguments}{lsc:Scope}{p p1 p2 p3 p4 p5 p6 p7 kp pos lpos:Pos}{e:Expr}{t:TA}(hK:X.K=K)(hr:Room 3 X.A)(hm:X.mg "sorted"=none)(hms:X.mg "sum"=none)(hC:PySem.W.CodeHd X.base c T)(hB:Bm X.mg X.base)(ha:PA X [e] t)(hcode:X.env.code=.ref c)(hN:X.N[i]?=some ("hosts":Str))(hkd:X.env.kindOf ("hosts":Str)=some .cell)(hcA:X.env.cells.lookup ("hosts":Str)=some cA)(hcl:closureFor lsc X.env=pure [(("hosts":Str),cA)])(hql:X.env.qual++"<lambda>"=qual)(hln:lpos.line=ln)(hco:lpos.col=co)(hb:∀ (pm cv ctv u:Value),bindArgs (PySem.W.kla_fn "<lambda>" qual la (.BinOp (.Name "hosts" p1) .Sub (.Call (.Name "sum" p2) [.Subscript (.Name "part" p3) (.Constant (.int 0) 0 p4) p5] [] p6) p7) lsc [("hosts",cA)] pm cv ctv) ⟨[u],[]⟩=pure [(("part":Str),u)])(s1:lsc.kind=.function:=by rfl)(s2:lsc.isCoroutine=false:=by rfl)(s3:lsc.isGenerator=false:=by rfl)(s4:lsc.names.lookup ("hosts":Str)=some .free:=by rfl)(s5:lsc.names.lookup ("part":Str)=some .local:=by rfl)(s6:lsc.names.lookup ("sum":Str)=some .globalImplicit:=by rfl)(s7:∀ x∈lsc.names,x.2≠.cell:=by decide)(hdf:defaultsOf la X.env=([],[]):=by rfl)(hg:Gl X "sorted":=by rfl)(he:backTo pos (starEach [e] X.env)=(false,eval e X.env) :: backTo pos (starEach [] X.env):=by rfl)(hpl:(backTo pos (starEach [e] X.env)).any (·.1)=false:=by rfl) :
  PE X (.Call (.Name "sorted" p) [e] [⟨some "key",.Lambda la (.BinOp (.Name "hosts" p1) .Sub (.Call (.Name "sum" p2) [.Subscript (.Name "part" p3) (.Constant (.int 0) 0 p4) p5] [] p6) p7) lsc lpos,kp⟩] pos) (qSoK K T ln co qual i t):=by
 subst hK hql hln hco
 intro pins s σ H Q I h
 refine wpAny_Call_Name_kw (zac9 I hg hm zam2 ?_ (by decide) (by decide))
 refine callWith_kw (thn (ha pos pins s σ H _ I h) fun us s1' ⟨vs,H1,I1,r,q⟩=>?_) he hpl
 dsimp only at q
 split at q
 case h_2=>exact q.elim
 rename_i a
 split at q
 case h_2=>exact q.elim
 rename_i hv ei
 unfold rSoK at q
 obtain⟨bs,kz,h1,h2,h3,h4,⟨tab,hT,htab⟩,h5⟩:=q
 obtain⟨u1,rfl,rx⟩:=zab6 r
 cases rx
 have hTs:s1'.heap.get? T=some (PySem.W.tabObj tab):=I1.hok T _ hT
 obtain⟨m1,hn1,hl1⟩:=id I1.loc
 obtain⟨u,ru,lk⟩:=hl1 i _ _ hN ei (.inr (.inl hkd))
 obtain⟨th,rfl⟩:=ru
 have hcell:s1'.heap.IsCell cA (some (.int hv th)):=by
  rcases lk with ⟨k,_⟩|⟨_,c2,e2,hc2⟩
  ·rw[hkd] at k;cases k
  ·rw[hcA] at e2;cases e2;exact hc2
 have hcL:=I1.cne _ _ hcA
 have gl:=I1.mod.glob.keeps I1.bk
 have hbT:∀ b o,X.base.get? b=some o->b≠T:=fun b o e z=>by
  have:=(I1.bs b o e).2
  rw[z,hT] at this;cases this
 have hgT:zci8≠T:=by
  obtain⟨o,_,_,e,_⟩:=I1.mod.glob
  exact hbT _ _ e
 have hBT:s1'.heap.BuiltinsAt X.mg T:=by
  obtain⟨bm,ob,b1,b2,b3,b4,b5,b6⟩:=hB
  refine⟨bm,ob,b1,b2,fun z=>?_,hbT _ _ b3,I1.bk _ _ b3,b4,b5,b6⟩
  obtain⟨o,_,_,e,d,_⟩:=I1.mod.glob
  rw[z,e] at b3;cases b3;rw[d] at b6;cases b6
 have hCs:=hC.keeps I1.bk
 refine kws_cons (PySem.W.kla_eval hdf ?_)
 rcases htab with rfl|⟨c0,oc,vs,t0,rfl,ec,ed,ev⟩
 ·refine PySem.W.kla_makeFunction (mg:=X.mg) hcl I1.ok.glob gl hcode hCs hTs trivial rfl hgT hBT fun c' ctv h' tk hx hge hlt hrec htb=>?_
  obtain⟨c2,oc,vs,t0,e2,hoc,ed,ev⟩:=hrec
  cases e2
  have I2:=I1.tab (tk:=tk) (more:=#[rawInt lpos.line,rawInt lpos.col,.ref c']) hT hx hge hoc htb
  have fc:H1 c'=none:=I1.hok.fresh hge
  have nT:c'≠T:=fun z=>by rw[z,hT] at fc;cases fc
  generalize hF:PySem.W.kla_obj "<lambda>" (X.env.qual++"<lambda>") la _ lsc [(("hosts":Str),cA)] ((X.mg "__name__").getD .none) c' ctv=fo
  have I3:=I2.kept (t':=tk) (h':=h'.push fo) (fun b o e=>zca1 _ e)
  generalize hH3:upd (upd H1 T (.tbl (#[]++#[rawInt lpos.line,rawInt lpos.col,.ref c']))) c' (.frz oc (.own c'))=H3 at I3
  have at1:∀ b o,b≠T->H1 b=some o->H3 b=some o:=fun b o n e=>by rw[← hH3,zb3 (za5 e fc),zb3 n];exact e
  have none1:∀ b,H3 b=none->H1 b=none:=fun b e=>by
   by_cases z:b=T
   ·subst z;rw[← hH3,zb3 nT.symm,zb1] at e;cases e
   ·cases e1:H1 b with
    | none=>rfl
    | some o=>rw[at1 b o z e1] at e;cases e
  have tb3:zo5 T lpos.line lpos.col (X.env.qual++"<lambda>") H3:=⟨_,by rw[← hH3,zb3 nT.symm,zb1,Array.empty_append],.inr ⟨c',oc,vs,t0,rfl,by rw[← hH3,zb1],ed,ev⟩⟩
  have sq3:SqL X.K H3 a (bs.map V.ref):=by
   rcases h1 with h1|h1
   ·rcases h1 with h1|⟨o,h1⟩
    ·exact .inl (.inl (at1 _ _ (fun z=>by rw[z,hT] at h1;cases h1) h1))
    ·exact .inl (.inr ⟨o,at1 _ _ (fun z=>by rw[z,hT] at h1;cases h1) h1⟩)
   ·exact .inr h1
  refine kws_nil ?_
  subst hF
  refine zat7 (c':=c') (cA:=cA) (hv:=hv) (th:=th) hr I3 (zcb8 _ rfl) ⟨c',oc,vs,t0,rfl,zca1 _ hoc,ed,ev⟩ (fun u=>hb _ _ _ u) s1 s2 s3 s4 s5 s6 s7 hms ?_ hcL sq3 h2 h3 (fun j b k e1 e2=>?_) fun p H' ps n1 n2 n3 n4 n5=>?_
  ·obtain⟨o,q1,q2⟩:=hcell
   exact⟨o,zca1 _ (hx _ _ (fun z=>by rw[z,hTs] at q1;cases q1;cases q2) q1),q2⟩
  ·obtain⟨l,v,ns,a1,a2,a3⟩:=h4 j b k e1 e2
   exact⟨l,v,ns,at1 _ _ (fun z=>by rw[z,hT] at a1;cases a1) a1,at1 _ _ (fun z=>by rw[z,hT] at a2;cases a2) a2,a3⟩
  ·exact h5 p H' ps (none1 p n1) (fun b o nb e=>n2 b o (at1 b o nb e)) (tb3.same n2) n3 n4 n5
 ·have hcs:s1'.heap.get? c0=some oc:=(I1.hok c0 _ ec).1
  refine PySem.W.kla_makeFunctionHit (mg:=X.mg) (cv:=.ref c0) hcl I1.ok.glob gl hcode hCs hTs ?_ ?_ hBT fun ctv h' tk hk hsz=>?_
  ·simp[TriplesOk,rawInt]
  ·simp[codeAmong,rawInt]
  ·generalize hF:({ cls:=.type "function",data:=.func (PySem.W.kla_fn "<lambda>" (X.env.qual++"<lambda>") la _ lsc [(("hosts":Str),cA)] ((X.mg "__name__").getD .none) (.ref c0) ctv) }:Obj)=fo
   have I3:=I1.kept (t':=tk) (h':=h'.push fo) (fun b o e=>zca1 _ (hk b o e))
   refine kws_nil ?_
   subst hF
   refine zat7 (c':=c0) (cA:=cA) (hv:=hv) (th:=th) hr I3 (zcb8 _ rfl) ⟨c0,oc,vs,t0,rfl,zca1 _ (hk _ _ hcs),ed,ev⟩ (fun u=>hb _ _ _ u) s1 s2 s3 s4 s5 s6 s7 hms ?_ hcL h1 h2 h3 h4 fun p H' ps n1 n2 n3 n4 n5=>?_
   ·obtain⟨o,q1,q2⟩:=hcell
    exact⟨o,zca1 _ (hk _ _ q1),q2⟩
   ·have tb:zo5 T lpos.line lpos.col (X.env.qual++"<lambda>") H1:=⟨_,hT,.inr ⟨c0,oc,vs,t0,rfl,ec,ed,ev⟩⟩
    exact h5 p H' ps n1 (fun b o _ e=>n2 b o e) (tb.same n2) n3 n4 n5
theorem soK_rd{ln co:Nat}{hv:Int}{a:Addr}{Q:VK}{bs:List Addr}{kz:List Int}(h1:H a=some (.lst (bs.map V.ref)))(h2:bs.length<64)(h3:kz.length=bs.length)(h4:∀ (i:Nat) b k,bs[i]?=some b->kz[i]?=some k->∃ l v ns,H b=some (.tup [.ref l,v])/\H l=some (.lst (List.map V.int ns))/\k=hv - ns.sum)(h5:zo5 T ln co qual H)(q:∀ p H' (ps:List (Int×Addr)),H p=none->Chg T H H'->zo5 T ln co qual H'->ps.Perm (kz.zip bs)->ps.Pairwise (fun x y=>x.1<=y.1)->H' p=some (.lst (ps.map fun x=>V.ref x.2))->Q (.ref p) H') :
  rSoK K T ln co qual hv a H Q:=by unfold rSoK;exact⟨bs,kz,SqL.of h1,h2,h3,h4,h5,q⟩
end
section
variable {P:Program}{w:World}{K:zbz7}{mg:Str->Option Value}{base:Heap}
theorem Fun.okRC{x:Str}{st:Stmt}{f:Addr}{fd:FuncData}{N ps:List Str}{k:Nat}{sp:Sp}(F:Fun K x qual st f fd)(hc:fd.code=.ref c)(S:za9 N ps (za4 st))(len:∀ vs H Q E,sp vs H Q E->vs.length=ps.length)(hbody:∀ (A:Around) (outer:List Env) (s:Shared) (H:Hp) (vs:List V) (Q:VK) (E:XK),Room k (A.deeper (envOfC qual (za4 st) s.heap.objs.size f (.ref c)))->XOut (cxOf (CXR P w) P w K mg base N qual (za4 st) f (.ref c) A outer s H E) E->sp vs H Q E ->
   ∃ t,PSs (cxOf (CXR P w) P w K mg base N qual (za4 st) f (.ref c) A outer s H E) (zh4 st) t/\t { nx:=fun _ H'=>Q .non H',rt:=Q } (zac0 N vs) H):FnOk P w K mg base (CXR P w) (k+1) f fd ps sp:=by
 obtain⟨oc,od,kV,doc,pm,an,cdv,ct,osl,rfl,lk,hcd⟩:=F.ex
 have:cdv=.ref c:=hc
 subst this
 refine fn_of lk hcd S len fun A outer s H vs Q E hr hsp=>?_
 exact hbody A outer s H vs Q E hr xout hsp
end
theorem zay2{P:Program}{w:World}{K:zbz7}{mg mb:Str->Option Value}{CX:CXT}{k:Nat}{fa a:Addr}{fd:FuncData}{x:Str}{sp:Sp}{s₁:Shared}{ns:List Int}(KX:K.In s₁.heap)(hnt:PySem.W.noTabs K=true)(hns:s₁.heap.Ns zci8 mg)(hb:s₁.heap.Ns builtinsNs mb)(hbb:∀ x:Str,x≠"__name__"->mb x=bootBuiltins x)(hlim:s₁.heap.NoLimit)(hg:s₁.gens=#[])(hC:PySem.W.CodeHd s₁.heap c T)(hT:s₁.heap.get? T=some (PySem.W.tabObj #[]))(hB:Bm mg s₁.heap)(ha:s₁.heap.get? a=some { cls:=.type "list",data:=.seq vs.toArray })(hi:IntsAre vs ns)(hl:ns.length<=sizeLine)(hr:Room k callerA)(F:∀ base:Heap,K.In base->base.Ns zci8 mg->PySem.W.CodeHd base c T->Bm mg base->FnOk P w K mg base CX k fa fd [x] sp)(hbind:∀ (s:Shared) (u:Value),BindsTo s fd ⟨[u],[]⟩ [(x,u)])(hsp:∀ H:Hp,H T=some (.tbl #[])->SqL K H a (ns.map V.int)->sp [.ref a] H (fun v _=>v=.bl true) fun _ _ _=>False)(hCX:∀ H e s',CX [] H s₁ (fun _ _ _=>False) e s'->False) :
  codeAny (model P w) callerA (.call (.ref fa) ⟨[.ref a],[]⟩) (fun r s'=>r=.ok (.ret (.bool true))/\OldK s₁.heap s'.heap/\s'.os=s₁.os/\AllBare s'.gens) s₁:=by
 have rv:=zai1 hi
 have lenV:=hi.length
 have hKT:K.lookup T=none:=by
  cases e:K.lookup T with
  | none=>rfl
  | some o=>
   have e1:=KX T o e
   rw[hT] at e1;cases e1
   have h2:=zcb2.mp hnt _ (PySem.W.mem_of_lookupK e)
   exact absurd (show false=true from h2) zca4
 have haT:a≠T:=fun z=>by rw[z,hT] at ha;cases ha
 have core:∀ H:Hp,H T=some (.tbl #[])->(∀ b,b=T∨H b=none∨∃ o xs,H b=some (.frz o (.lst xs)))->SqL K H a (ns.map V.int)->HOk P w H s₁.heap->(∀ b,H b≠none->b=a∨b=T)->(H a≠none->K.lookup a=none) ->
   codeAny (model P w) callerA (.call (.ref fa) ⟨[.ref a],[]⟩) (fun r s'=>r=.ok (.ret (.bool true))/\OldK s₁.heap s'.heap/\s'.os=s₁.os/\AllBare s'.gens) s₁:=by
  intro H hHT hO hS hok hA hK
  have base_of:∀ {b:Addr}{o:Obj},s₁.heap.get? b=some o->H b=none->(hidT s₁.heap H).get? b=some o:=fun e n=>zbk9 e n
  have noF:∀ {b:Addr}{o:Obj},s₁.heap.get? b=some o->(∀ xs n,o.data≠.seq xs n)->o≠PySem.W.tabObj #[]->H b=none:=fun {b o} e d1 d2=>by
   cases q:H b with
   | none=>rfl
   | some u=>
    rcases hA b (by rw[q];simp) with e' | e'
    ·subst e'
     rw[ha] at e;cases e
     exact absurd rfl (d1 _ _)
    ·subst e'
     rw[hT] at e;cases e
     exact absurd rfl d2
  have nsK:∀ {b:Addr}{m:Str->Option Value},s₁.heap.Ns b m->(hidT s₁.heap H).Ns b m:=fun {b m} ⟨o,es,ep,e,d,r⟩=>⟨o,es,ep,base_of e (noF e (fun _ _ z=>by rw[d] at z;cases z) (fun z=>by rw[z] at d;cases d)),d,r⟩
  have hKb:K.In (hidT s₁.heap H):=fun b o e=>base_of (KX b o e) (by
   cases q:H b with
   | none=>rfl
   | some u=>
    rcases hA b (by rw[q];simp) with e' | e'
    ·subst e'
     rw[hK (by rw[q];simp)] at e;cases e
    ·subst e'
     rw[hKT] at e;cases e)
  have hM:Mod K mg (hidT s₁.heap H):=⟨hKb,nsK hns,⟨mb,nsK hb,hbb⟩,let ⟨mc,h1,h2⟩:=hlim;⟨mc,nsK h1,h2⟩⟩
  have hCb:PySem.W.CodeHd (hidT s₁.heap H) c T:=by
   obtain⟨o,vs,file,tf,flags,tg,inF,text,tt,e1,r1,r2,r⟩:=hC
   exact⟨o,vs,file,tf,flags,tg,inF,text,tt,base_of e1 (noF e1 (fun _ _ z=>by rw[r2] at z;cases z) (fun z=>by rw[z] at r1;cases r1)),r1,r2,r⟩
  have hBb:Bm mg (hidT s₁.heap H):=by
   obtain⟨bm,ob,b1,b2,b3,b4,b5,b6⟩:=hB
   exact⟨bm,ob,b1,b2,base_of b3 (noF b3 (fun _ _ z=>by rw[b6] at z;cases z) (fun z=>by rw[z] at b4;cases b4)),b4,b5,b6⟩
  have e0:Env0 P w K mg (hidT s₁.heap H) callerA [] s₁ H:=⟨rfl,hM,fun b o e=>zbt6 e,Nat.le_of_eq (zbb7 _ _),trivial,fun b hb=>absurd (show b∈([]:List Addr) from hb) (by simp),hok,.of_eq hg⟩
  refine codeAny_mono ((F _ hKb (nsK hns) hCb hBb).run callerA [] s₁ H ⟨[.ref a],[]⟩ [.ref a] [.ref a] _ _ hr e0 (hbind s₁ (.ref a)) (.cons rfl .nil) (hsp H hHT hS)) fun r s' h=>?_
  cases r with
  | error e=>exact (hCX H e s' h).elim
  | ok fl=>
   cases fl with
   | next=>exact False.elim h
   | brk=>exact False.elim h
   | cont=>exact False.elim h
   | ret u=>
    obtain⟨v,H',os,bare,un,hok',r',q⟩:=h
    have q':v=.bl true:=q
    subst q'
    obtain rfl:u=Value.bool true:=r'
    obtain⟨more,eT⟩:=un.tbls T _ hHT
    have eT2:s'.heap.get? T=some (PySem.W.tabObj (#[]++more)):=hok' T _ eT
    have keep:∀ b o,b≠T->s₁.heap.get? b=some o->s'.heap.get? b=some o:=fun b o nb e=>by
     cases q:H b with
     | none=>exact un.keep b o e q (by intro z;exact absurd (show b∈([]:List Addr) from z) (by simp)) (by simp)
     | some u=>
      rcases hO b with z|z|⟨ob,xs,z⟩
      ·exact absurd z nb
      ·rw[q] at z;cases z
      ·have z2:=un.frzs b ob _ z
       obtain⟨e1,_⟩:=hok b _ z
       obtain⟨e2,_⟩:=hok' b _ z2
       rw[e] at e1;cases e1
       exact e2
    refine⟨rfl,⟨fun b o e=>?_,fun b o e=>?_⟩,os,bare⟩
    ·by_cases hb:b=T
     ·subst hb
      rw[hT] at e;cases e
      exact .inr (.inl ⟨(hC.tab hT).isCodeTable,rfl,#[],more,rfl,eT2⟩)
     ·exact .inl (keep b o hb e)
    ·by_cases hb:b=T
     ·subst hb;exact⟨_,eT2⟩
     ·exact⟨o,keep b o hb e⟩
 cases hk:K.lookup a with
 | some o=>
  have e:=KX a o hk
  rw[ha] at e
  cases e
  refine core (fun b=>if b=T then some (.tbl #[]) else none) (if_pos rfl) (fun b=>?_) (.inr ⟨_,vs.toArray,_,hk,rfl,rfl,rfl,by rw[zca2,lenV];exact hl,by simpa using rv⟩) (fun b u z=>?_) (fun b z=>?_) fun z=>absurd (if_neg haT) z
  ·by_cases hb:b=T
   ·exact .inl hb
   ·exact .inr (.inl (if_neg hb))
  ·by_cases hb:b=T
   ·have z':=(if_pos hb).symm.trans z
    cases z'
    subst hb
    exact hT
   ·have z':=(if_neg hb).symm.trans z
    cases z'
  ·by_cases hb:b=T
   ·exact .inr hb
   ·exact absurd (if_neg hb) z
 | none=>
  refine core (fun b=>if b=T then some (.tbl #[]) else if b=a then some (.frz { cls:=.type "list",data:=.seq vs.toArray } (.lst (ns.map V.int))) else none) (if_pos rfl) (fun b=>?_) (.inl (.inr ⟨{ cls:=.type "list",data:=.seq vs.toArray },(if_neg haT).trans (if_pos rfl)⟩)) (fun b u z=>?_) (fun b z=>?_) fun _=>hk
  ·by_cases hb:b=T
   ·exact .inl hb
   ·by_cases hb2:b=a
    ·exact .inr (.inr ⟨_,_,(if_neg hb).trans (if_pos hb2)⟩)
    ·exact .inr (.inl ((if_neg hb).trans (if_neg hb2)))
  ·by_cases hb:b=T
   ·have z':=(if_pos hb).symm.trans z
    cases z'
    subst hb
    exact hT
   ·have z':=(if_neg hb).symm.trans z
    by_cases hb2:b=a
    ·have z'':=(if_pos hb2).symm.trans z'
     cases z''
     subst hb2
     exact⟨ha,by rw[zbz4];exact hl,vs,_,rv,ha⟩
    ·have z'':=(if_neg hb2).symm.trans z'
     cases z''
  ·by_cases hb:b=T
   ·exact .inr hb
   ·by_cases hb2:b=a
    ·exact .inl hb2
    ·exact absurd ((if_neg hb).trans (if_neg hb2)) z
theorem walk_ofT{l:PySem.W.OpenLaw}{n k:Nat}{q:Program}{loose:List Str}{XP:(Str->Option Value)->Heap->Prop}{YP:World->Heap->Prop}{d d9:DefRec}{K:Params->zbz7}{CX:World->CXT}{sp:World->Addr->Sp}{x:Str}(hn:l.most=some n)(hn2:n<=sizeLine)(hdf:d.params.defaults=[])(hr:Room k callerA)(hY:∀ (w:World) (h:Heap),YP w h->(K w.params).In h)(xx:Str)(hnt:∀ w:World,PySem.W.noTabs (K w.params)=true)(hrec:(recsOf q).find? (fun e=>e.name==xx)=some d9)(F:∀ (w:World) (mg:Str->Option Value) (fa:Addr) (h:Heap),(K w.params).In h->h.Ns zci8 mg->mg d.name=some (.ref fa) ->
   ∃ (c T:Addr) (fd:FuncData),zch7 (K w.params) xx=some (c,T)/\(∀ (s:Shared) (u:Value),BindsTo s fd ⟨[u],[]⟩ [(x,u)]) /\
    ∀ base:Heap,(K w.params).In base->base.Ns zci8 mg->PySem.W.CodeHd base c T->Bm mg base->FnOk l.prog w (K w.params) mg base (CX w) k fa fd [x] (sp w T))(hsp:∀ (w:World) (T:Addr) (H:Hp) (a:Addr) (ns:List Int),ns.length<=n->H T=some (.tbl #[])->SqL (K w.params) H a (ns.map V.int)->sp w T [.ref a] H (fun v _=>v=.bl true) fun _ _ _=>False)(hCX:∀ (w:World) (H:Hp) (s:Shared) (e:Value) (s':Shared),CX w [] H s (fun _ _ _=>False) e s'->False) :
  PySem.W.WalkO q loose XP YP l.row.toRowW d [] (fun f vs=>PySem.call f vs):=by
 refine Att.attach_call hn hdf fun w s₀ s₁ mg mb fa o pm cd doc a vs ns G Y ho hd hcd hmg hobj hints hlen hg=>?_
 have KX:=hY w _ Y
 obtain⟨c,T,fd,htab,hb,hF⟩:=F w mg fa _ KX G.T.g hmg
 obtain⟨hC,hT⟩:=PySem.W.tab_of G.T KX hrec htab
 exact zay2 KX (hnt w) G.T.g G.T.b G.T.builtins G.T.nolimit hg hC hT G.T.bmain hobj hints (zcd9 hlen hn2) hr hF hb (fun H hO hS=>hsp w T H a ns hlen hO hS) fun H e s'=>hCX w H s₁ e s'
theorem zbh8{K:zbz7}{x:Str}{f:Addr}{oc:Value}{od:Option Addr}{fd:FuncData}{sl:Array (Option Value)}(hT:zch7 K x=some (c,T))(a:zcd5 K zci8 x=some (some (.ref f)))(l:K.lookup f=some ⟨oc,od,.func fd,sl⟩):fd.code=.ref c:=by
 unfold zch7 at hT
 rw[a] at hT
 dsimp only at hT
 rw[l] at hT
 dsimp only at hT
 split at hT
 ·rename_i c2 e
  split at hT
  ·split at hT
   ·cases hT;exact e
   ·cases hT
  ·cases hT
 ·cases hT
section
variable {X:Cx}{K:zbz7}
def refU(g:Addr->Bool):Value->Bool
 | .ref a=>g a
 | _=>false
@[irreducible] def rCntR(K:zbz7)(p t:Addr)(H:Hp)(Q:VK):Prop:=∃ (rs:List Addr) (g:Addr->Bool) (n:Nat),H p=some (.lst (rs.map V.ref))/\n<=30/\(∀ r∈rs,EqR K H n (.ref r) (.ref t) (g r))/\Q (.int (rs.countP g:Nat)) H
def zbb0(K:zbz7):Addr->List V->Hp->VK->Prop:=fun p vs H Q=>match vs with
 | [.ref t]=>rCntR K p t H Q
 | _=>False
theorem zbp2(hK:X.K=K)(hu:X.A.units+40<cLine):MtA X "list.count" (zbb0 K):=fun pins s σ H p xs us Q I r h=>by
 subst hK
 unfold zbb0 at h
 split at h
 ·rename_i t
  unfold rCntR at h
  obtain⟨rs,g,n,h1,hn,h2,h3⟩:=h
  obtain⟨u,rfl,ru⟩:=r.one
  cases ru
  obtain⟨z,its,m,r',hl,e⟩:=I.lstM h1
  have ei:=zam0 r'
  refine call_meets F.slot_list_count ⟨_,e,rfl⟩ F.entry_list_count (F.args_list_count_2 _ _) (SeqAt.list_countAt p its.toArray m none #[] (.ref t) (refU g)) ⟨e,fun y hy=>?_,?_⟩
  ·have hy:y∈its:=by simpa using hy
   rw[ei] at hy
   obtain⟨b,hb,rfl⟩:=zca9.mp hy
   exact EqR.at I (h2 b hb) rfl rfl (by rw[zp8];omega)
  ·have ec:its.toArray.toList.countP (refU g)=rs.countP g:=by
    show its.countP (refU g)=rs.countP g
    rw[ei,List.countP_map]
    rfl
   exact⟨.int _,H,I.tok _,⟨_,by rw[ec]⟩,h3⟩
 ·exact h.elim
theorem zbp6{p t:Addr}{Q:VK}{rs:List Addr}{n:Nat}(g:Addr->Bool)(h:H p=some (.lst (rs.map V.ref)))(h1:∀ r∈rs,EqR K H n (.ref r) (.ref t) (g r))(q:Q (.int (rs.countP g:Nat)) H)(hn:n<=30:=by decide):rCntR K p t H Q:=by unfold rCntR;exact⟨rs,g,n,h,hn,h1,q⟩
theorem zax4{o e:Expr}{to:TE}{t:TA}{apos cpos:Pos}(hK:X.K=K)(hu:X.A.units+40<cLine)(ho:PE X o to)(ha:PA X [e] t)(hbase:attributeBase o "count" X.env (eval o X.env)=eval o X.env:=by rfl)(hfew:((backTo cpos (starEach [e] X.env)).all (fun x=>!x.1)&&(backToKw cpos (keywordEach [] X.env)).all (fun x=>x.1.isSome)
   && decide ([e].length+([]:List Keyword).length+(if ([]:List Keyword).isEmpty then 0 else 1)<30))=true:=by rfl)(hline:(apos.endLine==cpos.line)=true:=by rfl)(hs:starEach [e] X.env=(false,eval e X.env) :: starEach [] X.env:=by rfl)(hplain:(backTo cpos (starEach [] X.env)).any (·.1)=false:=by rfl):PE X (.Call (.Attribute o "count" apos) [e] [] cpos) (qBM K (zbb0 K) to t):=by
 subst hK
 exact peBM PySem.F.slot_list_count PySem.F.type_list_count (zbp2 rfl hu) ho ha hbase hfew hline hs hplain
end
end L2
set_option maxHeartbeats 1000000
set_option maxHeartbeats 0
namespace G
local macro_rules | `(tactic| eq_refl)=>`(tactic| first|exact Or.inl rfl|exact Or.inr rfl)
local macro_rules | `(tactic| ac_rfl)=>`(tactic| exact⟨rfl,rfl,rfl,by decide +kernel,rfl,by decide +kernel,by decide +kernel⟩)
open PySem L2
variable {H H':Hp}{Q:VK}{E:XK}{T f m:Addr}{fd:FuncData}{h l:Int}{ds:List PyData}{i:Nat}{ts:List (Addr×Addr)}{ms:List (List Int×Int)}{xs:List (Int×Int×Int)}{xss:List (List (Int×Int×Int))}
def top(i:Nat):Stmt:=PySem.Challenge.pw_hostfields_k72_whole_played_as_often.main.body.getD i (.Pass ⟨0,0,0,0⟩)
abbrev zv4:Stmt:=top 6
theorem zaq9:za9 ["thing"] ["thing"] (za4 zv4):=by ac_rfl
abbrev zy0:Stmt:=top 7
theorem zax0:za9 ["thing","least"] ["thing","least"] (za4 zy0):=by ac_rfl
abbrev zp9:Stmt:=top 8
theorem zah2:za9 ["thing","least","most"] ["thing","least","most"] (za4 zp9):=by ac_rfl
abbrev zy6:Stmt:=top 12
theorem zau8:za9 ["hosts","fields","plan"] ["hosts","fields","plan"] (za4 zy6):=by ac_rfl
abbrev zm8:Stmt:=top 13
theorem zac3:za9 ["plan"] ["plan"] (za4 zm8):=by ac_rfl
abbrev zaa2:Stmt:=top 14
theorem zax1:za9 ["hosts","fields"] ["hosts","fields"] (za4 zaa2):=by ac_rfl
abbrev zah0:Stmt:=top 16
theorem zz2:za9 ["mix","hosts","fields"] ["mix"] (za4 zah0):=by ac_rfl
abbrev zaa6:Stmt:=top 17
theorem zau6:za9 ["part"] ["part"] (za4 zaa6):=by ac_rfl
abbrev zv1:Stmt:=top 18
theorem zap3:za9 ["mix"] ["mix"] (za4 zv1):=by ac_rfl
abbrev zr5:Stmt:=top 19
theorem zo4:za9 ["hosts","fields","stream","comes_full","goes_empty"] ["hosts","fields","stream"] (za4 zr5):=by ac_rfl
abbrev zaf5:Stmt:=top 20
theorem zaz7:za9 ["stream"] ["stream"] (za4 zaf5):=by ac_rfl
abbrev zaf7:Stmt:=top 21
theorem zba4:za9 ["row"] ["row"] (za4 zaf7):=by ac_rfl
abbrev zy8:Stmt:=top 22
theorem zav7:za9 ["thing"] ["thing"] (za4 zy8):=by ac_rfl
abbrev zao5:Stmt:=top 23
theorem zar2:za9 ["ahead","row","leaving"] ["ahead","row"] (za4 zao5):=by ac_rfl
abbrev zah5:Stmt:=top 24
theorem zr9:za9 ["pairs","sums","key","amount"] ["pairs"] (za4 zah5):=by ac_rfl
abbrev zt9:Stmt:=top 25
theorem zap2:za9 ["stream"] ["stream"] (za4 zt9):=by ac_rfl
abbrev zk2:Stmt:=top 26
theorem zw4:za9 ["stream"] ["stream"] (za4 zk2):=by ac_rfl
abbrev zn1:Stmt:=top 27
theorem zab4:za9 ["stream"] ["stream"] (za4 zn1):=by ac_rfl
abbrev zv3:Stmt:=top 28
theorem zao7:za9 ["stream"] ["stream"] (za4 zv3):=by ac_rfl
abbrev zr1:Stmt:=top 29
theorem zal5:za9 ["mix"] ["mix"] (za4 zr1):=by ac_rfl
abbrev zae5:Stmt:=top 30
theorem zaj4:za9 ["mix","field","flows"] ["mix","field"] (za4 zae5):=by ac_rfl
abbrev zm7:Stmt:=top 31
theorem zg1:za9 ["stream","hosts","begun","row"] ["stream"] (za4 zm7):=by ac_rfl
abbrev zaa9:Stmt:=top 32
theorem zc8:za9 ["begun","row","told","place","used","plan","weight","rest","taken"] ["begun","row"] (za4 zaa9):=by ac_rfl
abbrev zr4:Stmt:=top 33
theorem zak1:za9 ["stream"] ["stream"] (za4 zr4):=by ac_rfl
abbrev zo3:Stmt:=top 34
theorem zs8:za9 ["hosts","row","flows"] ["hosts","row"] (za4 zo3):=by ac_rfl
abbrev zv2:Stmt:=top 36
theorem zao2:za9 ["mix"] ["mix"] (za4 zv2):=by ac_rfl
abbrev zl2:Stmt:=top 37
theorem zaa5:za9 ["mix"] ["mix"] (za4 zl2):=by ac_rfl
abbrev zag8:Stmt:=top 38
theorem zo9:za9 ["mix","number","place","upto"] ["mix","number"] (za4 zag8):=by ac_rfl
abbrev zl1:Stmt:=top 40
theorem zp1:za9 ["_law_number","_law_k","_law_mixed"] ["_law_number","_law_k"] (za4 zl1):=by ac_rfl
abbrev zm9:Stmt:=top 41
theorem zab1:za9 ["_law_cell"] ["_law_cell"] (za4 zm9):=by ac_rfl
abbrev zr2:Stmt:=top 42
theorem zg2:za9 ["_law_left","_law_base","_law_digit","_law_number","_law_turn","_law_mixed"] ["_law_left","_law_base"] (za4 zr2):=by ac_rfl
abbrev zh7:Stmt:=top 43
theorem zb7:za9 ["_law_left","_law_hosts","_law_many","_law_found","_law_rest","_law_k","_law_sent"] ["_law_left","_law_hosts","_law_many"] (za4 zh7):=by ac_rfl
abbrev zj0:Stmt:=top 44
theorem zh6:za9 ["_law_left","_law_hosts","_law_many","_law_most","_law_found","_law_k"] ["_law_left","_law_hosts","_law_many","_law_most"] (za4 zj0):=by ac_rfl
abbrev zi6:Stmt:=top 45
theorem zu6:za9 ["_law_mix","_law_whole"] ["_law_mix","_law_whole"] (za4 zi6):=by ac_rfl
abbrev zn5:Stmt:=top 46
theorem zl4:za9 ["_law_plays","_law_hosts","_law_found","_law_k"] ["_law_plays","_law_hosts"] (za4 zn5):=by ac_rfl
abbrev zan0:Stmt:=top 47
theorem zo0:za9 ["_law_script","_law_cell","_law_left","_law_hosts","_law_mix","_law_whole","_law_plays","_law_plan","_law_weight","_law_due","_law_stream","_law_again"] ["_law_script"] (za4 zan0):=by ac_rfl
theorem nb_0:(["sent"]:List Str).Nodup:=by decide +kernel
theorem nb_1:(["part"]:List Str).Nodup:=by decide +kernel
theorem nb_2:(["plan","weight","hosts","fields"]:List Str).Nodup:=by decide +kernel
theorem nb_3:(["thing"]:List Str).Nodup:=by decide +kernel
theorem nb_4:(["one","other"]:List Str).Nodup:=by decide +kernel
theorem nb_5:(["left","sent","flow"]:List Str).Nodup:=by decide +kernel
theorem nb_6:(["row"]:List Str).Nodup:=by decide +kernel
theorem nb_7:(["left","sent","flow","hosts"]:List Str).Nodup:=by decide +kernel
theorem nb_8:(["left","sent","flow"]:List Str).Nodup:=by decide +kernel
theorem nb_9:(["ahead","row"]:List Str).Nodup:=by decide +kernel
theorem nb_10:(["left","sent","flow"]:List Str).Nodup:=by decide +kernel
theorem nb_11:(["plan","weight","field"]:List Str).Nodup:=by decide +kernel
theorem nb_12:(["left","sent","flows"]:List Str).Nodup:=by decide +kernel
theorem nb_13:(["field","mix"]:List Str).Nodup:=by decide +kernel
theorem nb_14:(["left","sent","flow"]:List Str).Nodup:=by decide +kernel
theorem nb_15:(["count","flows"]:List Str).Nodup:=by decide +kernel
theorem nb_16:(["row","stream"]:List Str).Nodup:=by decide +kernel
theorem nb_17:(["plan","weight"]:List Str).Nodup:=by decide +kernel
theorem nb_18:(["_law_number","_law_mix"]:List Str).Nodup:=by decide +kernel
theorem nb_19:(["_law_sent","_law_plays","_law_k"]:List Str).Nodup:=by decide +kernel
theorem nb_20:(["_law_plan","_law_k","_law_sent"]:List Str).Nodup:=by decide +kernel
theorem nb_21:(["_law_plan","_law_weight"]:List Str).Nodup:=by decide +kernel
theorem nb_22:(["_law_other","_law_often","_law_plan"]:List Str).Nodup:=by decide +kernel
structure Cz(K:zbz7)(mg:Str->Option Value)(base:Heap)(zbv0 zbu9 zbu7 zbu8:Addr):Prop where
 g_HostError:mg "HostError"=some (.ref zbv0)
 g_NoMix:mg "NoMix"=some (.ref zbu9)
 g_NoStream:mg "NoStream"=some (.ref zbu7)
 g_NoNumber:mg "NoNumber"=some (.ref zbu8)
 o_NoMix:PyProof.Rows.OwnCls "NoMix" zbu9 bmV newV mg base
 k_NoMix:ExcK K zbu9
 c_NoMix:(zch8 K zbu9).isSome=true
 m_NoMix:PySem.W.exmOne K (.ref zbu9) (.ref zbv0)=some true
 v_NoMix:zcb6 K (.ref zbu9) (.type "ValueError")=some true
 i_NoMix_HostError:zcb6 K (.ref zbu9) (.ref zbv0)=some true
 i_NoMix_NoMix:zcb6 K (.ref zbu9) (.ref zbu9)=some true
 i_NoMix_NoStream:zcb6 K (.ref zbu9) (.ref zbu7)=some false
 i_NoMix_NoNumber:zcb6 K (.ref zbu9) (.ref zbu8)=some false
 o_NoStream:PyProof.Rows.OwnCls "NoStream" zbu7 bmV newV mg base
 k_NoStream:ExcK K zbu7
 c_NoStream:(zch8 K zbu7).isSome=true
 m_NoStream:PySem.W.exmOne K (.ref zbu7) (.ref zbv0)=some true
 v_NoStream:zcb6 K (.ref zbu7) (.type "ValueError")=some true
 i_NoStream_HostError:zcb6 K (.ref zbu7) (.ref zbv0)=some true
 i_NoStream_NoMix:zcb6 K (.ref zbu7) (.ref zbu9)=some false
 i_NoStream_NoStream:zcb6 K (.ref zbu7) (.ref zbu7)=some true
 i_NoStream_NoNumber:zcb6 K (.ref zbu7) (.ref zbu8)=some false
 o_NoNumber:PyProof.Rows.OwnCls "NoNumber" zbu8 bmV newV mg base
 k_NoNumber:ExcK K zbu8
 c_NoNumber:(zch8 K zbu8).isSome=true
 m_NoNumber:PySem.W.exmOne K (.ref zbu8) (.ref zbv0)=some true
 v_NoNumber:zcb6 K (.ref zbu8) (.type "ValueError")=some true
 i_NoNumber_HostError:zcb6 K (.ref zbu8) (.ref zbv0)=some true
 i_NoNumber_NoMix:zcb6 K (.ref zbu8) (.ref zbu9)=some false
 i_NoNumber_NoStream:zcb6 K (.ref zbu8) (.ref zbu7)=some false
 i_NoNumber_NoNumber:zcb6 K (.ref zbu8) (.ref zbu8)=some true
 n_HostError:zcb6 K (.type "NoneType") (.ref zbv0)=some false
 n_NoMix:zcb6 K (.type "NoneType") (.ref zbu9)=some false
 n_NoStream:zcb6 K (.type "NoneType") (.ref zbu7)=some false
 n_NoNumber:zcb6 K (.type "NoneType") (.ref zbu8)=some false
structure Nm(mg:Str->Option Value):Prop where
 all_:mg "all"=none
 bool_:mg "bool"=none
 int_:mg "int"=none
 isinstance_:mg "isinstance"=none
 len_:mg "len"=none
 list_:mg "list"=none
 min_:mg "min"=none
 range_:mg "range"=none
 sorted_:mg "sorted"=none
 sum_:mg "sum"=none
 tuple_:mg "tuple"=none
 zip_:mg "zip"=none
local macro_rules | `(tactic| walk_at "hp")=>`(tactic| first|assumption|(refine Same.at (H:=?H) ?s ?e;(case s=>assumption);(case e=>walk_at "hp"))|(refine Chg.at (a:=?a) (H:=?H) ?c ?e ?n;(case c=>assumption);(case n=>walk_at "ne");(case e=>walk_at "hp"))|fail "hp")
local macro_rules | `(tactic| walk_at "ne")=>`(tactic| first|assumption|(apply Ne.symm;assumption)|fail "ne")
local macro_rules | `(tactic| ac_nf)=>`(tactic| (conv=>whnf))
local macro_rules | `(tactic| walk_at "st")=>`(tactic| (conv=>whnf);first
 | refine zbs6 (by omega) (by omega) ?_
 | refine zbt9 (by omega) (by omega) ?_
 | refine zbp8 (by omega) (fun r h0 h1=>?_)
 | refine div_rd (by omega) (by omega) ?_
 | (refine pow_rd ⟨by decide,by decide,by decide⟩ ?_;simp only[Int.reduceToNat,Int.reducePow])
 | (refine zh1 (xs:=?xs) (v:=?v) ?hp ?ev ?_;(case hp=>walk_at "hp");(case ev=>rfl))
 | (refine zf6 (xs:=?xs) (v:=?v) ?hp ?ev ?_;(case hp=>walk_at "hp");(case ev=>rfl))
 | refine zi5 (fun p H' hf hs ha=>?_)
 | refine zi7 (fun p H' hf hs ha=>?_)
 | refine zaq8 ?_
 | (refine zbc3 (xs:=?xs) ?hp ?_;(case hp=>walk_at "hp"))
 | (refine zbd6 (xs:=?xs) ?hp ?_;(case hp=>walk_at "hp"))
 | (refine zan8 (xs:=?xs) ?hp ?_;(case hp=>walk_at "hp"))
 | (refine zi9 (xs:=?xs) ?hp ?_;(case hp=>walk_at "hp"))
 | refine zaq2 ?_
 | refine br_T ?_
 | refine br_F ?_
 | refine zax7 (by omega) ?_
 | refine br_dF (by omega) ?_
 | fail "st")
def stp(g:Nat->Nat->Int)(c:Nat):Nat->Nat->Int
 | 0,t=>g 0 t
 | f+1,t=>g (f+1) t+if c<=t then stp g c f (t - c) else 0
def g0(f t:Nat):Int:=if f=0/\t=0 then 1 else 0
def pl(ns:List Nat):List V:=ns.map fun (n:Nat)=>V.int (n:Int)
def il(ns:List Nat):List Int:=ns.map fun (n:Nat)=>(n:Int)
local macro_rules | `(tactic| rfl')=>`(tactic| first|decide|omega)
section
variable {P:Program}{w:World}{K:zbz7}{mg:Str->Option Value}{base:Heap}{zbv0:Addr}{zbu9:Addr}{zbu7:Addr}{zbu8:Addr}{a_tab:Addr}{a_cod:Addr}
def isW:PyData->Bool
 | .int _=>true
 | _=>false
def zh0(l:Int):PyData->Bool
 | .int i=>decide (l<=i)
 | _=>false
def zy3(l m:Int):PyData->Bool
 | .int i=>decide (l<=i/\i<=m)
 | _=>false
theorem zbk0{p q:Prop}[Decidable p][Decidable q](h:p):decide (p/\q)=decide q:=by simp[h]
theorem zbi9{p q:Prop}[Decidable p][Decidable q](h:¬ p):decide (p/\q)=false:=by simp[h]
@[irreducible] def zh8:Sp:=fun vs H Q _=>∃ (v:V) (d:PyData),vs=[v]/\ShV H v d/\Q (.bl (isW d)) H
theorem zbp1{v:V}{d:PyData}(h:ShV H v d)(q:Q (.bl (isW d)) H):zh8 [v] H Q E:=by unfold zh8;exact⟨v,d,rfl,h,q⟩
theorem zan7(F:Fun K "is_whole" "is_whole" zv4 f fd)(N:Nm mg):FnOk P w K mg base CX0 1 f fd ["thing"] zh8:=by
 refine F.ok zaq9 (fun vs H Q E h=>by unfold zh8 at h;obtain⟨_,_,rfl,_⟩:=h;rfl) fun _ _ _ s H vs Q E hr h=>?_
 unfold zh8 at h
 obtain⟨v,d,rfl,h,q⟩:=h
 refine⟨_,(za6 (zb2 (zo2 (pB (zal2 (K:=K) rfl) N.isinstance_ zd0 (za0 (pq 0) (za0 (pTy N.int_ zbn6) za1))) (zp2 (peNot (pB (zal2 (K:=K) rfl) N.isinstance_ zd0 (za0 (pq 0) (za0 (pTy N.bool_ zbu6) za1)))))))),?_⟩
 refine zn6 h (.inl rfl) ?_
 cases h
 case int i=>
  refine br_T ?_
  refine zaq8 ?_
  ac_nf
  exact q
 case bl b=>
  refine br_T ?_
  refine zaq2 ?_
  ac_nf
  exact q
 all_goals (ac_nf;refine br_F ?_;ac_nf;exact q)
@[irreducible] def zf4:Sp:=fun vs H Q _=>∃ (v:V) (d:PyData) (l:Int),vs=[v,.int l]/\ShV H v d/\Q (.bl (zh0 l d)) H
theorem zx5{v:V}{d:PyData}(h:ShV H v d)(q:Q (.bl (zh0 l d)) H):zf4 [v,.int l] H Q E:=by unfold zf4;exact⟨v,d,l,rfl,h,q⟩
theorem zau7(F:Fun K "is_from" "is_from" zy0 f fd)(N:Nm mg)(zbx8:Def P w K mg base CX0 1 "is_whole" ["thing"] zh8):FnOk P w K mg base CX0 2 f fd ["thing","least"] zf4:=by
 refine F.ok zax0 (fun vs H Q E h=>by unfold zf4 at h;obtain⟨_,_,_,rfl,_⟩:=h;rfl) fun _ _ _ s H vs Q E hr h=>?_
 unfold zf4 at h
 obtain⟨v,d,l,rfl,h,q⟩:=h
 refine⟨_,(za6 (zb2 (zo2 (pD zbx8 hr zb6 (za0 (pq 0) za1)) (zp2 (peC oLe (pq 1) (pq 0)))))),?_⟩
 refine zbp1 h ?_
 cases h
 case int i=>
  refine br_T ?_
  ac_nf
  exact q
 all_goals (ac_nf;refine br_F ?_;ac_nf;exact q)
@[irreducible] def zb9:Sp:=fun vs H Q _=>∃ (v:V) (d:PyData) (l m:Int),vs=[v,.int l,.int m]/\ShV H v d/\Q (.bl (zy3 l m d)) H
theorem zaq4{v:V}{d:PyData}{m:Int}(h:ShV H v d)(q:Q (.bl (zy3 l m d)) H):zb9 [v,.int l,.int m] H Q E:=by unfold zb9;exact⟨v,d,l,m,rfl,h,q⟩
theorem zbm7{i m:Int}(q:Q (.bl (decide (l<=i/\i<=m))) H):zb9 [.int i,.int l,.int m] H Q E:=zaq4 (.int i) q
theorem zae6(F:Fun K "is_between" "is_between" zp9 f fd)(N:Nm mg)(zbv3:Def P w K mg base CX0 2 "is_from" ["thing","least"] zf4):FnOk P w K mg base CX0 3 f fd ["thing","least","most"] zb9:=by
 refine F.ok zah2 (fun vs H Q E h=>by unfold zb9 at h;obtain⟨_,_,_,_,rfl,_⟩:=h;rfl) fun _ _ _ s H vs Q E hr h=>?_
 unfold zb9 at h
 obtain⟨v,d,l,m,rfl,h,q⟩:=h
 refine⟨_,(za6 (zb2 (zo2 (pD zbv3 hr zb6 (za0 (pq 0) (za0 (pq 1) za1))) (zp2 (peC oLe (pq 0) (pq 2)))))),?_⟩
 refine zx5 h ?_
 cases h
 case int i=>
  have q:Q (.bl (decide (l<=i/\i<=m))) H:=q
  refine zj9 (fun h=>?_) (fun h=>?_)
  ·ac_nf
   rw[zbk0 h] at q
   exact q
  ·ac_nf
   rw[zbi9 h] at q
   exact q
 all_goals (ac_nf;refine br_F ?_;ac_nf;exact q)
def za8:PyData->List PyData
 | .list ds=>ds
 | _=>[]
def intD:PyData->Int
 | .int i=>i
 | _=>0
def zm0:PyData->Bool
 | .list ds=>ds.all (zh0 0)
 | _=>false
theorem zi2{d:PyData}(h:zh0 l d=true):∃ i:Int,d=.int i/\l<=i:=by
 cases d with
 | int i=>exact⟨i,rfl,of_decide_eq_true h⟩
 | _=>simp[zh0] at h
theorem zl0(h:sml (.list ds)=true):ds.length<=1000/\∀ d∈ds,sml d=true:=by
 simp only[sml,zca5,decide_eq_true_eq] at h
 exact⟨h.1,zu2 h.2⟩
theorem zat8(h:sml (.tuple ds)=true):ds.length<=1000/\∀ d∈ds,sml d=true:=by
 simp only[sml,zca5,decide_eq_true_eq] at h
 exact⟨h.1,zu2 h.2⟩
theorem zm3(g:PyData->Bool):(List.range ds.length).map (fun i=>V.bl (g (ds.getD i .none)))=(ds.map g).map V.bl:=by
 apply zch2
 intro i
 rw[zbz9,zbz9,zbz9]
 by_cases h:i<ds.length
 ·rw[zcg5 h,zbz5 h]
  simp[h]
 ·rw[zcd4 (by simp;omega),zcd4 (by rfl')]
  rfl
theorem zs5(g:PyData->Bool):(ds.map g).all id=ds.all g:=by rw[zcg2];rfl
@[irreducible] def zd2:Sp:=fun vs H Q _=>∃ (v:V) (d:PyData),vs=[v]/\ShV H v d/\sml d=true/\∀ H',Same H H'->Q (.bl (zm0 d)) H'
theorem zai3{v:V}{d:PyData}(h:ShV H v d)(hs:sml d=true)(q:∀ H',Same H H'->Q (.bl (zm0 d)) H'):zd2 [v] H Q E:=by unfold zd2;exact⟨v,d,rfl,h,hs,q⟩
theorem zac2(F:Fun K "sends_hosts" "sends_hosts" zm8 f fd)(N:Nm mg)(zbv3:Def P w K mg base CX0 2 "is_from" ["thing","least"] zf4):FnOk P w K mg base CX0 3 f fd ["plan"] zd2:=by
 refine F.ok zac3 (fun vs H Q E h=>by unfold zd2 at h;obtain⟨_,_,rfl,_⟩:=h;rfl) fun _ _ _ s H vs Q E hr h=>?_
 unfold zd2 at h
 obtain⟨v,d,rfl,h,hs,q⟩:=h
 refine⟨_,(za6 (zb2 (zo2 (pB (zal2 (K:=K) rfl) N.isinstance_ zd0 (za0 (pq 0) (za0 (pTy N.list_ zu9) za1))) (zp2 (pB (zaf3 (K:=K) rfl rfl) N.all_ zs0 (za0 (zf0 (N:=["sent"]) (ks:=[none]) (zf1 (K:=K) rfl (pq 0)) (fun _ _ _ _ _=>(za7 (i:=0) nb_0 rfl (by eq_refl))) (fun _ _ _ _ _=>zc6) (fun _ _ _ _ _=>(pD zbv3 hr zb6 (za0 (pq 0) (za0 za3 za1)))) (.skip .nil)) za1)))))),?_⟩
 refine zn6 h (.inr (.inr (.inl rfl))) ?_
 cases h
 case lst a xs ds e l=>
  have ll:=l.len
  obtain⟨dl,dm⟩:=zl0 hs
  refine br_T ?_
  refine zb4 e ?_
  refine zj1 (Wk.list (SqL.of e)) (by rw[zci4];omega) (fun i=>.bl (zh0 0 (ds.getD i .none))) (fun _=>true) (fun j σ=>∃ t:Option V,σ=[t]) ⟨none,rfl⟩ ?_ ?_
  ·rintro j x σ H1 R S hj s1 hx ⟨t,rfl⟩ k _
   obtain⟨d,ed,hd⟩:=l.get j x hx
   have eg:ds.getD j .none=d:=by rw[zbz8,ed];rfl
   refine br_T ?_
   refine zx5 (hd.same s1) ?_
   ac_nf
   rw[← eg]
   exact k rfl _ _ (Same.refl _) ⟨_,rfl⟩
  intro acc H1 f1 s1 h1
  rw[ze7,ll,zm3 (zh0 0)] at h1
  refine zt0 h1 ?_
  rw[zs5]
  ac_nf
  exact q _ s1
 all_goals (ac_nf;refine br_F ?_;ac_nf;exact q _ (Same.refl _))
theorem zau3{H:Hp}:∀ {xs:List V}{ds:List PyData},ShL H xs ds->(∀ d∈ds,zh0 0 d=true)->∃ ns:List Int,xs=ns.map V.int/\ds=ns.map PyData.int/\∀ x∈ns,0<=x
 | _,_,.nil,_=>⟨[],rfl,rfl,fun _ h=>by cases h⟩
 | _,_,.cons (x:=x) (d:=d) a b,h=>by
  obtain⟨i,rfl,hi⟩:=zi2 (h d (.head _))
  obtain⟨ns,e1,e2,e3⟩:=zau3 b fun y hy=>h y (.tail _ hy)
  cases a
  refine⟨i :: ns,by rw[e1];rfl,by rw[e2];rfl,fun y hy=>?_⟩
  rcases zca6.mp hy with rfl|hy
  ·exact hi
  ·exact e3 y hy
theorem zae2{v:V}{d:PyData}(h:ShV H v d)(e:zm0 d=true):∃ (a:Addr) (ns:List Int),v=.ref a/\H a=some (.lst (ns.map V.int))/\d=.list (ns.map PyData.int)/\∀ x∈ns,0<=x:=by
 cases h
 case lst a xs ds e1 l=>
  have e:ds.all (zh0 0)=true:=e
  rw[zcb2] at e
  obtain⟨ns,rfl,rfl,e3⟩:=zau3 l e
  exact⟨a,ns,rfl,e1,rfl,e3⟩
 all_goals simp[zm0] at e
def zab9(d:PyData):List Int:=(za8 d).map intD
theorem zv5(ns:List Int):zab9 (.list (ns.map PyData.int))=ns:=by
 unfold zab9 za8
 rw[zcb4]
 exact (zcb3 fun x _=>rfl).trans (List.map_id _)
def zu1(h f:Int)(d:PyData):Bool:=zm0 d&&decide (((zab9 d).length:Int)=f)&&decide ((zab9 d).sum=h)
@[irreducible] def zj5:Sp:=fun vs H Q _=>∃ (h f:Int) (v:V) (d:PyData),vs=[.int h,.int f,v]/\ShV H v d/\sml d=true/\∀ H',Same H H'->Q (.bl (zu1 h f d)) H'
theorem zbj3{f:Int}{v:V}{d:PyData}(hv:ShV H v d)(hs:sml d=true)(q:∀ H',Same H H'->Q (.bl (zu1 h f d)) H'):zj5 [.int h,.int f,v] H Q E:=by unfold zj5;exact⟨h,f,v,d,rfl,hv,hs,q⟩
theorem zau5(F:Fun K "is_plan" "is_plan" zy6 f fd)(N:Nm mg)(zbv6:Def P w K mg base CX0 3 "sends_hosts" ["plan"] zd2):FnOk P w K mg base CX0 4 f fd ["hosts","fields","plan"] zj5:=by
 refine F.ok zau8 (fun vs H Q E h=>by unfold zj5 at h;obtain⟨_,_,_,_,rfl,_⟩:=h;rfl) fun _ _ _ s H vs Q E hr h=>?_
 unfold zj5 at h
 obtain⟨h,f,v,d,rfl,hv,hs,q⟩:=h
 have hu:=hu40 hr
 refine⟨_,(za6 (zb2 (zo2 (pD zbv6 hr zb6 (za0 (pq 2) za1)) (zo2 (peC (zab5 (K:=K) rfl (by exact hu)) (pB (zv6 (K:=K) rfl) N.len_ zl7 (za0 (pq 2) za1)) (pq 1)) (zp2 (peC (zab5 (K:=K) rfl (by exact hu)) (pB (zap7 (K:=K) rfl rfl) N.sum_ zw3 (za0 (pq 2) za1)) (pq 0))))))),?_⟩
 refine zai3 hv hs (fun H1 s1=>?_)
 have q:=q _ s1
 cases es:zm0 d
 ·ac_nf
  refine br_F ?_
  ac_nf
  unfold zu1 at q
  rw[es] at q
  exact q
 ·obtain⟨a,ns,rfl,ha,rfl,nn⟩:=zae2 hv es
  have q:Q (.bl (decide ((ns.length:Int)=f)&&decide (ns.sum=h))) H1:=by
   unfold zu1 at q
   rw[es,zv5,zcd1] at q
   exact q
  refine br_T ?_
  refine zi9 (s1 _ _ ha) ?_
  rw[zbz4]
  refine zj9 (fun h2=>?_) (fun h2=>?_)
  ·rw[decide_eq_true h2,zcd1] at q
   refine zaa3 (s1 _ _ ha) ?_
   ac_nf
   exact q
  ·rw[decide_eq_false h2,Bool.false_and] at q
   ac_nf
   exact q
def zq7:PyData->Bool
 | .tuple [a,b]=>zm0 a&&zh0 1 b
 | _=>false
@[irreducible] def zj4:Sp:=fun vs H Q _=>∃ (v:V) (d:PyData),vs=[v]/\ShV H v d/\sml d=true/\∀ H',Same H H'->Q (.bl (zq7 d)) H'
theorem zbi4{v:V}{d:PyData}(h:ShV H v d)(hs:sml d=true)(q:∀ H',Same H H'->Q (.bl (zq7 d)) H'):zj4 [v] H Q E:=by unfold zj4;exact⟨v,d,rfl,h,hs,q⟩
theorem zan4{xs:List V}(l:ShL H xs ds)(e:xs.length=2):∃ x y a b,xs=[x,y]/\ds=[a,b]/\ShV H x a/\ShV H y b:=by
 cases l with
 | nil=>simp at e
 | cons h1 l=>
  cases l with
  | nil=>simp at e
  | cons h2 l=>
   cases l with
   | nil=>exact⟨_,_,_,_,rfl,rfl,h1,h2⟩
   | cons _ _=>simp at e
theorem zah1(h:ds.length≠2):zq7 (.tuple ds)=false:=by
 match ds,h with
 | [],_=>rfl
 | [_],_=>rfl
 | [_,_],h=>simp at h
 | _ :: _ :: _ :: _,_=>rfl
theorem zaw5(F:Fun K "is_part" "is_part" zaa6 f fd)(N:Nm mg)(zbv3:Def P w K mg base CX0 2 "is_from" ["thing","least"] zf4)(zbv6:Def P w K mg base CX0 3 "sends_hosts" ["plan"] zd2):FnOk P w K mg base CX0 4 f fd ["part"] zj4:=by
 refine F.ok zau6 (fun vs H Q E h=>by unfold zj4 at h;obtain⟨_,_,rfl,_⟩:=h;rfl) fun _ _ _ s H vs Q E hr h=>?_
 unfold zj4 at h
 obtain⟨v,d,rfl,h,hs,q⟩:=h
 have hu:=hu40 hr
 refine⟨_,(za6 (zb2 (zo2 (pB (zal2 (K:=K) rfl) N.isinstance_ zd0 (za0 (pq 0) (za0 (pTy N.tuple_ zar9) za1))) (zo2 (peC (zab5 (K:=K) rfl (by exact hu)) (pB (zv6 (K:=K) rfl) N.len_ zl7 (za0 (pq 0) za1)) za3) (zo2 (pD zbv6 hr zb6 (za0 (zc7 (K:=K) rfl (pq 0) za3) za1)) (zp2 (pD zbv3 hr zb6 (za0 (zc7 (K:=K) rfl (pq 0) za3) (za0 za3 za1))))))))),?_⟩
 refine zn6 h (.inr (.inr (.inr rfl))) ?_
 cases h
 case tup t xs ds e l=>
  have ll:=l.len
  obtain⟨dl,dm⟩:=zat8 hs
  refine br_T ?_
  refine zan8 e ?_
  refine zj9 (fun h2=>?_) (fun h2=>?_)
  ·obtain⟨x,y,a,b,rfl,rfl,ha,hb⟩:=zan4 l (by rfl')
   refine zh1 (v:=x) e rfl ?_
   refine zai3 ha (dm a (by simp)) (fun H1 s1=>?_)
   have q:Q (.bl (zm0 a&&zh0 1 b)) H1:=q _ s1
   cases es:zm0 a
   ·rw[es] at q
    refine br_F ?_
    ac_nf
    exact q
   ·rw[es,zcd1] at q
    refine br_T ?_
    refine zh1 (v:=y) (s1 _ _ e) rfl ?_
    refine zx5 (hb.same s1) ?_
    ac_nf
    exact q
  ·have q:=q _ (Same.refl _)
   rw[zah1 (by rfl')] at q
   ac_nf
   exact q
 all_goals (ac_nf;refine br_F ?_;ac_nf;exact q _ (Same.refl _))
theorem zag4{v:V}{d:PyData}(h:ShV H v d)(e:zq7 d=true):∃ (t l:Addr) (w:Int) (ns:List Int),v=.ref t/\H t=some (.tup [.ref l,.int w])/\H l=some (.lst (ns.map V.int))/\d=.tuple [.list (ns.map PyData.int),.int w]/\(∀ x∈ns,0<=x)/\1<=w:=by
 cases h
 case tup t xs ds e1 l=>
  have l2:ds.length=2:=Classical.byContradiction fun z=>by rw[zah1 z] at e;cases e
  obtain⟨x,y,a,b,rfl,rfl,ha,hb⟩:=zan4 l (by rw[l.len];exact l2)
  have e:(zm0 a&&zh0 1 b)=true:=e
  rw[zca5] at e
  obtain⟨p,ns,rfl,h1,rfl,nn⟩:=zae2 ha e.1
  obtain⟨w,rfl,hw⟩:=zi2 e.2
  cases hb
  exact⟨t,p,w,ns,rfl,e1,h1,rfl,nn,hw⟩
 all_goals simp[zq7] at e
def zk6:PyData->PyData
 | .tuple (a :: _)=>a
 | _=>.none
def zo7(h f:Int):Bool:=decide (0<=h/\h<=40)&&decide (1<=f/\f<=8)
def zh2(ds:List PyData):List Int:=zab9 (zk6 (ds.getD 0 .none))
def mixD:PyData->Bool
 | .list ds=>decide (ds.length≠0)&&ds.all zq7&&zo7 (zh2 ds).sum (zh2 ds).length&&ds.all fun d=>zu1 (zh2 ds).sum (zh2 ds).length (zk6 d)
 | _=>false
@[irreducible] def zh9:Sp:=fun vs H Q _=>∃ i l:Int,vs=[.int i,.int l]/\Q (.bl (zo7 i l)) H
theorem zas3{i:Int}(q:Q (.bl (zo7 i l)) H):zh9 [.int i,.int l] H Q E:=by unfold zh9;exact⟨i,l,rfl,q⟩
theorem zav1(F:Fun K "is_size" "is_size" zaa2 f fd)(N:Nm mg){zbw5:Tok}(c_MOST_FIELDS:mg "MOST_FIELDS"=some (.int 8 zbw5)){zbw8:Tok}(c_MOST_HOSTS:mg "MOST_HOSTS"=some (.int 40 zbw8))(zbv2:Def P w K mg base CX0 3 "is_between" ["thing","least","most"] zb9):FnOk P w K mg base CX0 4 f fd ["hosts","fields"] zh9:=by
 refine F.ok zax1 (fun vs H Q E h=>by unfold zh9 at h;obtain⟨_,_,rfl,_⟩:=h;rfl) fun _ _ _ s H vs Q E hr h=>?_
 unfold zh9 at h
 obtain⟨i,l,rfl,q⟩:=h
 refine⟨_,(za6 (zb2 (zo2 (pD zbv2 hr zb6 (za0 (pq 0) (za0 za3 (za0 (zay9 (v:=.int 40) rfl c_MOST_HOSTS ⟨_,rfl⟩) za1)))) (zp2 (pD zbv2 hr zb6 (za0 (pq 1) (za0 za3 (za0 (zay9 (v:=.int 8) rfl c_MOST_FIELDS ⟨_,rfl⟩) za1)))))))),?_⟩
 refine zbm7 ?_
 ac_nf
 unfold zo7 at q
 refine zj9 (fun h=>?_) (fun h=>?_)
 ·rw[decide_eq_true h,zcd1] at q
  refine zbm7 ?_
  ac_nf
  exact q
 ·rw[decide_eq_false h,Bool.false_and] at q
  ac_nf
  exact q
theorem getD_some{d:PyData}(h:ds[i]?=some d):ds.getD i .none=d:=by rw[zbz8,h];rfl
theorem zp4(ds:List PyData):mixD (.list ds)=(decide (ds.length≠0)&&ds.all zq7&&zo7 (zh2 ds).sum (zh2 ds).length&&ds.all fun d=>zu1 (zh2 ds).sum (zh2 ds).length (zk6 d)):=rfl
@[irreducible] def zm1:Sp:=fun vs H Q _=>∃ (v:V) (d:PyData),vs=[v]/\ShV H v d/\sml d=true/\∀ H',Same H H'->Q (.bl (mixD d)) H'
theorem zbt3{v:V}{d:PyData}(h:ShV H v d)(hs:sml d=true)(q:∀ H',Same H H'->Q (.bl (mixD d)) H'):zm1 [v] H Q E:=by unfold zm1;exact⟨v,d,rfl,h,hs,q⟩
theorem zax8(F:Fun K "is_mix" "is_mix" zah0 f fd)(N:Nm mg)(zby0:Def P w K mg base CX0 4 "is_part" ["part"] zj4)(zby1:Def P w K mg base CX0 4 "is_plan" ["hosts","fields","plan"] zj5)(zbw7:Def P w K mg base CX0 4 "is_size" ["hosts","fields"] zh9):FnOk P w K mg base CX0 5 f fd ["mix"] zm1:=by
 refine F.ok zz2 (fun vs H Q E h=>by unfold zm1 at h;obtain⟨_,_,rfl,_⟩:=h;rfl) fun _ _ _ s H vs Q E hr h=>?_
 unfold zm1 at h
 obtain⟨v,d,rfl,h,hs,q⟩:=h
 have hu:=hu40 hr
 refine⟨_,(za2 (psIf (ptW (pwOr (zo1 (ptV (pB (zal2 (K:=K) rfl) N.isinstance_ zd0 (za0 (pq 0) (za0 (pTy N.list_ zu9) za1))))) (pwOr (ptC (zab5 (K:=K) rfl (by exact hu)) (pB (zv6 (K:=K) rfl) N.len_ zl7 (za0 (pq 0) za1)) za3) (zad8 (zo1 (ptV (pB (zaf3 (K:=K) rfl rfl) N.all_ zs0 (za0 (zf0 (N:=["part"]) (ks:=[none]) (zf1 (K:=K) rfl (pq 0)) (fun _ _ _ _ _=>(za7 (i:=0) nb_1 rfl (by eq_refl))) (fun _ _ _ _ _=>zc6) (fun _ _ _ _ _=>(pD zby0 hr zb6 (za0 (pq 0) za1))) (.skip .nil)) za1)))))))) (za6 (zb2 zab2)) zf8)
   (za2 (psS (i:=1) zz2.nd (pB (zap7 (K:=K) rfl rfl) N.sum_ zw3 (za0 (zc7 (K:=K) rfl (zc7 (K:=K) rfl (pq 0) za3) za3) za1)))
   (za2 (psS (i:=2) zz2.nd (pB (zv6 (K:=K) rfl) N.len_ zl7 (za0 (zc7 (K:=K) rfl (zc7 (K:=K) rfl (pq 0) za3) za3) za1)))
   (za6 (zb2 (zo2 (pD zbw7 hr zb6 (za0 (pq 1) (za0 (pq 2) za1))) (zp2 (pB (zaf3 (K:=K) rfl rfl) N.all_ zs0 (za0 (zf0 (N:=["plan","weight","hosts","fields"]) (ks:=[none,none,some 1,some 2]) (zf1 (K:=K) rfl (pq 0)) (fun _ _ _ _ _=>(zi3 (K:=K) (n:=2) rfl rfl (zb0 (za7 (i:=0) nb_2 rfl (by eq_refl)) (zb0 (za7 (i:=1) nb_2 rfl (by eq_refl)) zi4)))) (fun _ _ _ _ _=>zc6) (fun _ _ _ _ _=>(pD zby1 hr zb6 (za0 (pq 2) (za0 (pq 3) (za0 (pq 0) za1))))) (.skip (.skip (.take rfl rfl (by eq_refl) (.take rfl rfl (by eq_refl) .nil))))) za1))))))))),?_⟩
 refine zn6 h (.inr (.inr (.inl rfl))) ?_
 cases h
 case lst a xs ds e l=>
  have ll:=l.len
  obtain⟨dl,dm⟩:=zl0 hs
  refine zd4 (br_T ?_)
  refine zi9 e ?_
  rw[ll]
  refine zj9 (fun h0=>?_) (fun h0=>?_)
  ·ac_nf
   refine br_T ?_
   ac_nf
   have q:=q _ (Same.refl _)
   rw[zp4,decide_eq_false (by rfl')] at q
   exact q
  have d0:decide (ds.length≠0)=true:=decide_eq_true (by rfl')
  refine zb4 e ?_
  refine zj1 (Wk.list (SqL.of e)) (by rw[zci4];omega) (fun i=>.bl (zq7 (ds.getD i .none))) (fun _=>true) (fun j σ=>∃ t:Option V,σ=[t]) ⟨none,rfl⟩ ?_ ?_
  ·rintro j x σ H1 R S hj s1 hx ⟨t,rfl⟩ k _
   obtain⟨d,ed,hd⟩:=l.get j x hx
   refine br_T ?_
   refine zbi4 (hd.same s1) (dm d (zca0 ed)) (fun H2 s2=>?_)
   ac_nf
   rw[← getD_some ed]
   exact k rfl _ _ s2 ⟨_,rfl⟩
  intro acc H1 f1 s1 h1
  rw[ze7,ll,zm3 zq7] at h1
  refine zt0 h1 ?_
  rw[zs5]
  cases ea:ds.all zq7
  ·ac_nf
   refine zd4 (br_F ?_)
   ac_nf
   have q:=q _ s1
   rw[zp4,d0,ea] at q
   exact q
  have ea':∀ d∈ds,zq7 d=true:=zcb2.mp ea
  refine zd4 (br_T ?_)
  obtain⟨x0,ex0⟩:∃ x,xs[0]?=some x:=⟨_,zbz5 (by rfl')⟩
  obtain⟨dd0,ed0,hd0⟩:=l.get 0 x0 ex0
  obtain⟨t,p,w,ns,rfl,ht,hp,rfl,nn,hw⟩:=zag4 hd0 (ea' dd0 (zca0 ed0))
  have fp:zh2 ds=ns:=by unfold zh2;rw[getD_some ed0];exact zv5 ns
  have at0:atI xs 0=some (.ref t):=zh3 (j:=0) ex0
  refine zf6 (v:=.ref t) (s1 _ _ e) at0 ?_
  refine zh1 (v:=.ref p) (s1 _ _ ht) rfl ?_
  refine zaa3 (s1 _ _ hp) ?_
  refine zf6 (v:=.ref t) (s1 _ _ e) at0 ?_
  refine zh1 (v:=.ref p) (s1 _ _ ht) rfl ?_
  refine zi9 (s1 _ _ hp) ?_
  rw[zbz4]
  refine zas3 ?_
  have qq:∀ H',Same H1 H'->Q (.bl (zo7 ns.sum ns.length&&ds.all fun d=>zu1 ns.sum ns.length (zk6 d))) H':=fun H' s'=>by
   have q:=q _ (s1.trans s')
   rw[zp4,d0,ea,fp,zcd1,zcd1] at q
   exact q
  cases es:zo7 ns.sum ns.length
  ·have qq:=qq _ (Same.refl _)
   rw[es] at qq
   refine br_F ?_
   ac_nf
   exact qq
  refine br_T ?_
  refine zb4 (s1 _ _ e) ?_
  refine zj1 (Wk.list (SqL.of (s1 _ _ e))) (by rw[zci4];omega) (fun i=>.bl (zu1 ns.sum ns.length (zk6 (ds.getD i .none)))) (fun _=>true) (fun j σ=>∃ t u:Option V,σ=[t,u,some (.int ns.sum),some (.int ns.length)]) ⟨none,none,rfl⟩ ?_ ?_
  ·rintro j x σ H2 R S hj s2 hx ⟨t',u',rfl⟩ k _
   obtain⟨d,ed,hd⟩:=l.get j x hx
   have hd:=hd.same (s1.trans s2)
   have hm:=dm d (zca0 ed)
   obtain⟨t,p,w,ns',rfl,ht,hp,rfl,nn',hw'⟩:=zag4 hd (ea' d (zca0 ed))
   have sp:sml (.list (ns'.map PyData.int))=true:=(zat8 hm).2 _ (by simp)
   have hv:ShV H2 (.ref p) (.list (ns'.map PyData.int)):=.lst hp (ShL.idx (by rw[zbz4,zbz4]) fun i x d h1 h2=>by
    rw[zbz9] at h1 h2
    obtain⟨n,en,rfl⟩:=zca3.mp h1
    rw[en] at h2
    cases h2
    exact .int n)
   refine ze6 ht ?_
   refine br_T ?_
   refine zbj3 hv sp (fun H3 s3=>?_)
   ac_nf
   have e1:=getD_some ed
   rw[e1] at k
   exact k rfl _ _ s3 ⟨_,_,rfl⟩
  intro acc2 H2 f2 s2 h2
  rw[ze7,ll,zm3 fun d=>zu1 ns.sum ns.length (zk6 d)] at h2
  refine zt0 h2 ?_
  rw[zs5]
  ac_nf
  have qq:=qq _ s2
  rw[es,zcd1] at qq
  exact qq
 all_goals (ac_nf;refine zd4 (br_F ?_);ac_nf;refine br_T ?_;ac_nf;exact q _ (Same.refl _))
@[irreducible] def ze9(zbu9:Addr):Sp:=fun vs H Q E=>∃ (v:V) (d:PyData),vs=[v]/\ShV H v d/\sml d=true/\(mixD d=true->∀ H',Same H H'->Q .non H')/\(mixD d=false->∀ H',Same H H'->E (.ref zbu9) none H')
theorem zp7{zbu9:Addr}{v:V}{d:PyData}(h:ShV H v d)(hs:sml d=true)(q:mixD d=true->∀ H',Same H H'->Q .non H')(qe:mixD d=false->∀ H',Same H H'->E (.ref zbu9) none H'):ze9 zbu9 [v] H Q E:=by unfold ze9;exact⟨v,d,rfl,h,hs,q,qe⟩
theorem zap9(F:Fun K "look_mix" "look_mix" zv1 f fd)(N:Nm mg)(zby4:Def P w K mg base CX0 5 "is_mix" ["mix"] zm1)(Z:Cz K mg base zbv0 zbu9 zbu7 zbu8):FnOk P w K mg base (CXR P w) 6 f fd ["mix"] (ze9 zbu9):=by
 refine F.okR zap3 (fun vs H Q E h=>by unfold ze9 at h;obtain⟨_,_,rfl,_⟩:=h;rfl) (fun cdv A outer s H vs Q E hr hX h=>?_)
 unfold ze9 at h
 obtain⟨v,d,rfl,h,hs,q,qe⟩:=h
 refine⟨_,(za6 (psIf (zo1 (ptV (pD zby4 hr zb6 (za0 (pq 0) za1)))) (za6 (zap1 Z.o_NoMix PySem.F.excBase_ValueError rfl hX (za0 zbb2 za1))) zf8)),?_⟩
 refine zbt3 h hs (fun H1 s1=>?_)
 cases em:mixD d
 ·ac_nf
  refine zd4 (br_F ?_)
  ac_nf
  exact⟨by decide,qe em _ s1⟩
 ·ac_nf
  refine zd4 (br_T ?_)
  ac_nf
  exact q em _ s1
def wtD:PyData->Int
 | .tuple [_,b]=>intD b
 | _=>0
theorem mix_of{v:V}{d:PyData}(h:ShV H v d)(e:mixD d=true):∃ (a:Addr) (xs:List V) (ds:List PyData),v=.ref a/\d=.list ds/\H a=some (.lst xs)/\ShL H xs ds/\ds.length≠0/\∀ d∈ds,zq7 d=true:=by
 cases h
 case lst a xs ds e1 l=>
  unfold mixD at e
  simp only[zca5,decide_eq_true_eq] at e
  exact⟨a,xs,ds,rfl,rfl,e1,l,e.1.1.1,zcb2.mp e.1.1.2⟩
 all_goals simp[mixD] at e
theorem zap4{d:PyData}(h:zq7 d=true):∃ (ns:List Int) (w:Int),d=.tuple [.list (ns.map PyData.int),.int w]/\(∀ x∈ns,0<=x)/\1<=w:=by
 cases d with
 | tuple ds=>
  have l2:ds.length=2:=Classical.byContradiction fun z=>by rw[zah1 z] at h;cases h
  match ds,l2 with
  | [a,b],_=>
   have h:(zm0 a&&zh0 1 b)=true:=h
   rw[zca5] at h
   obtain⟨w,rfl,hw⟩:=zi2 h.2
   cases a with
   | list es=>
    have h1:es.all (zh0 0)=true:=h.1
    rw[zcb2] at h1
    have:∀ {es:List PyData},(∀ d∈es,zh0 0 d=true)->∃ ns:List Int,es=ns.map PyData.int/\∀ x∈ns,0<=x:=fun {es} h1=>by
     induction es with
     | nil=>exact⟨[],rfl,fun _ h=>by cases h⟩
     | cons d es ih=>
      obtain⟨i,rfl,hi⟩:=zi2 (h1 d (.head _))
      obtain⟨ns,rfl,hn⟩:=ih fun d hd=>h1 d (.tail _ hd)
      refine⟨i :: ns,rfl,fun x hx=>?_⟩
      rcases zca6.mp hx with rfl|hx
      ·exact hi
      ·exact hn x hx
    obtain⟨ns,rfl,hn⟩:=this h1
    exact⟨ns,w,rfl,hn,hw⟩
   | _=>simp[zm0] at h
 | _=>simp[zq7] at h
theorem zm4(ns:List Int)(w:Int):zab9 (zk6 (.tuple [.list (ns.map PyData.int),.int w]))=ns:=zv5 ns
structure zc3(H:Hp)(m:Addr)(ts:List (Addr×Addr))(ms:List (List Int×Int)):Prop where
 out:H m=some (.lst (ts.map fun t=>V.ref t.1))
 len:ts.length=ms.length
 part:∀ (i:Nat) t x,ts[i]?=some t->ms[i]?=some x->H t.1=some (.tup [.ref t.2,.int x.2])/\H t.2=some (.lst (x.1.map V.int))
abbrev OkM(h f:Int)(ms:List (List Int×Int)):Prop:=1<=ms.length/\ms.length<=100/\((0<=h/\h<=40)/\1<=f/\f<=8)/\∀ x∈ms,(∀ n∈x.1,0<=n)/\(x.1.length:Int)=f/\x.1.sum=h/\1<=x.2
theorem zc3.same(M:zc3 H m ts ms)(s:Same H H'):zc3 H' m ts ms:=⟨s _ _ M.out,M.len,fun i t x h1 h2=>⟨s _ _ (M.part i t x h1 h2).1,s _ _ (M.part i t x h1 h2).2⟩⟩
theorem zc3.get(M:zc3 H m ts ms)(hi:i<ms.length):∃ t x,ts[i]?=some t/\ms[i]?=some x/\H t.1=some (.tup [.ref t.2,.int x.2])/\H t.2=some (.lst (x.1.map V.int)):=
 ⟨_,_,zbz5 (by have:=M.len;omega),zbz5 hi,M.part i _ _ (zbz5 (by have:=M.len;omega)) (zbz5 hi)⟩
theorem zc3.elt(M:zc3 H m ts ms){v:V}(e:(ts.map fun t=>V.ref t.1)[i]?=some v):∃ t x,v=.ref t.1/\ts[i]?=some t/\ms[i]?=some x/\H t.1=some (.tup [.ref t.2,.int x.2])/\H t.2=some (.lst (x.1.map V.int)):=by
 rw[zbz9] at e
 obtain⟨t,et,rfl⟩:=zca3.mp e
 obtain⟨t',x,h1,h2,h3⟩:=M.get (i:=i) (by have:=(zbz6.mp et).1;have:=M.len;omega)
 rw[et] at h1
 cases h1
 exact⟨t,x,rfl,et,h2,h3⟩
theorem zc3.ix(M:zc3 H m ts ms){k:Nat}{x:List Int×Int}(e:ms[k]?=some x):∃ t,ts[k]?=some t/\atI (ts.map fun t=>V.ref t.1) (k:Int)=some (.ref t.1)/\H t.1=some (.tup [.ref t.2,.int x.2])/\H t.2=some (.lst (x.1.map V.int)):=by
 obtain⟨t,x',h1,h2,h3⟩:=M.get (i:=k) ((zbz6.mp e).1)
 rw[e] at h2
 cases h2
 exact⟨t,h1,zh3 (by rw[zbz9,h1];rfl),h3⟩
def rm(p:Addr)(H:Hp):Hp:=fun b=>if b=p then none else H b
def nw(H H':Hp):Hp:=fun b=>match H b with
 | none=>H' b
 | some _=>none
theorem zav0{p b:Addr}{o:HO}(n:b≠p)(h:H b=some o):rm p H b=some o:=by unfold rm;rw[if_neg n];exact h
theorem zap8{p b:Addr}{o:HO}(h:rm p H b=some o):b≠p/\H b=some o:=by
 unfold rm at h
 by_cases e:b=p
 ·rw[if_pos e] at h;cases h
 ·rw[if_neg e] at h;exact⟨e,h⟩
theorem zaq5{b:Addr}{o:HO}(n:H b=none)(h:H' b=some o):nw H H' b=some o:=by unfold nw;rw[n];exact h
theorem zam4{b:Addr}{o:HO}(h:nw H H' b=some o):H b=none/\H' b=some o:=by
 unfold nw at h
 cases e:H b with
 | none=>rw[e] at h;exact⟨rfl,h⟩
 | some v=>rw[e] at h;cases h
theorem zae9(p:Addr)(H:Hp):Same (rm p H) H:=fun b o h=>(zap8 h).2
theorem zay3(H H':Hp):Same (nw H H') H':=fun b o h=>(zam4 h).2
theorem Same.rm{p:Addr}{H H':Hp}(s:Same H H'):Same (rm p H) (G.rm p H'):=fun b o h=>zav0 (zap8 h).1 (s _ _ (zap8 h).2)
theorem Chg.rm{p:Addr}{H H':Hp}(s:Chg p H H'):Same (rm p H) (G.rm p H'):=fun b o h=>zav0 (zap8 h).1 (s _ _ (zap8 h).1 (zap8 h).2)
theorem nw_up{H'':Hp}(s:Same H' H''):Same (nw H H') (nw H H''):=fun b o h=>zaq5 (zam4 h).1 (s _ _ (zam4 h).2)
theorem zbr7{H0:Hp}(s:Same H0 H):Same (nw H H') (nw H0 H'):=fun b o h=>zaq5 (s.free (zam4 h).1) (zam4 h).2
def zp5:PyData->Bool
 | .tuple [a,b,c]=>zh0 0 a&&zy3 0 (intD a) b&&zh0 1 c
 | _=>false
theorem zaf0(h:ds.length≠3):zp5 (.tuple ds)=false:=by
 match ds,h with
 | [],_=>rfl
 | [_],_=>rfl
 | [_,_],_=>rfl
 | [_,_,_],h=>simp at h
 | _ :: _ :: _ :: _ :: _,_=>rfl
theorem zal9{xs:List V}(l:ShL H xs ds)(e:xs.length=3):∃ x y z a b c,xs=[x,y,z]/\ds=[a,b,c]/\ShV H x a/\ShV H y b/\ShV H z c:=by
 cases l with
 | nil=>simp at e
 | cons h1 l=>
  obtain⟨y,z,b,c,rfl,rfl,h2,h3⟩:=zan4 l (by simpa using e)
  exact⟨_,_,_,_,_,_,rfl,rfl,h1,h2,h3⟩
@[irreducible] def zj6:Sp:=fun vs H Q _=>∃ (v:V) (d:PyData),vs=[v]/\ShV H v d/\Q (.bl (zp5 d)) H
theorem zbk3{v:V}{d:PyData}(h:ShV H v d)(q:Q (.bl (zp5 d)) H):zj6 [v] H Q E:=by unfold zj6;exact⟨v,d,rfl,h,q⟩
theorem zaw1(F:Fun K "is_flow" "is_flow" zy8 f fd)(N:Nm mg)(zbv2:Def P w K mg base CX0 3 "is_between" ["thing","least","most"] zb9)(zbv3:Def P w K mg base CX0 2 "is_from" ["thing","least"] zf4):FnOk P w K mg base CX0 4 f fd ["thing"] zj6:=by
 refine F.ok zav7 (fun vs H Q E h=>by unfold zj6 at h;obtain⟨_,_,rfl,_⟩:=h;rfl) fun _ _ _ s H vs Q E hr h=>?_
 unfold zj6 at h
 obtain⟨v,d,rfl,h,q⟩:=h
 have hu:=hu40 hr
 refine⟨_,(za2 (psIf (ptW (pwOr (zo1 (ptV (pB (zal2 (K:=K) rfl) N.isinstance_ zd0 (za0 (pq 0) (za0 (pTy N.tuple_ zar9) za1))))) (zad8 (ptC (zao1 (K:=K) rfl (by exact hu)) (pB (zv6 (K:=K) rfl) N.len_ zl7 (za0 (pq 0) za1)) za3)))) (za6 (zb2 zab2)) zf8)
   (za6 (zb2 (zo2 (pD zbv3 hr zb6 (za0 (zc7 (K:=K) rfl (pq 0) za3) (za0 za3 za1))) (zo2 (pD zbv2 hr zb6 (za0 (zc7 (K:=K) rfl (pq 0) za3) (za0 za3 (za0 (zc7 (K:=K) rfl (pq 0) za3) za1)))) (zp2 (pD zbv3 hr zb6 (za0 (zc7 (K:=K) rfl (pq 0) za3) (za0 za3 za1))))))))),?_⟩
 refine zn6 h (.inr (.inr (.inr rfl))) ?_
 cases h
 case tup t xs ds e l=>
  have ll:=l.len
  refine zd4 (br_T ?_)
  refine zan8 e ?_
  refine zd4 (zj9 (fun h3=>?_) (fun h3=>?_))
  ·obtain⟨x,y,z,a,b,c,rfl,rfl,ha,hb,hc⟩:=zal9 l (by rfl')
   have q:Q (.bl (zh0 0 a&&zy3 0 (intD a) b&&zh0 1 c)) H:=q
   refine zh1 (v:=x) e rfl ?_
   refine zx5 ha ?_
   cases e1:zh0 0 a
   ·rw[e1] at q
    refine br_F ?_
    ac_nf
    exact q
   ·rw[e1,zcd1] at q
    obtain⟨i,rfl,hi⟩:=zi2 e1
    cases ha
    refine br_T ?_
    refine zh1 (v:=y) e rfl ?_
    refine zh1 (v:=.int i) e rfl ?_
    refine zaq4 hb ?_
    have q:Q (.bl (zy3 0 i b&&zh0 1 c)) H:=q
    cases e2:zy3 0 i b
    ·rw[e2] at q
     refine br_F ?_
     ac_nf
     exact q
    ·rw[e2,zcd1] at q
     refine br_T ?_
     refine zh1 (v:=z) e rfl ?_
     refine zx5 hc ?_
     ac_nf
     exact q
  ·rw[zaf0 (by rfl')] at q
   ac_nf
   exact q
 all_goals (ac_nf;refine zd4 (br_F ?_);ac_nf;refine br_T ?_;ac_nf;exact q)
theorem zbb5{m:Int}{d:PyData}(h:zy3 l m d=true):∃ i,d=.int i/\l<=i/\i<=m:=by
 cases d with
 | int i=>have:=of_decide_eq_true h;exact⟨i,rfl,this⟩
 | _=>simp[zy3] at h
theorem zao6{v:V}{d:PyData}(h:ShV H v d)(e:zp5 d=true):∃ (t:Addr) (i j w:Int),v=.ref t/\H t=some (.tup [.int i,.int j,.int w])/\d=.tuple [.int i,.int j,.int w]/\0<=j/\j<=i/\1<=w:=by
 cases h
 case tup t xs ds e1 l=>
  have l3:ds.length=3:=Classical.byContradiction fun z=>by rw[zaf0 z] at e;cases e
  obtain⟨x,y,z,a,b,c,rfl,rfl,ha,hb,hc⟩:=zal9 l (by rw[l.len];exact l3)
  have e:(zh0 0 a&&zy3 0 (intD a) b&&zh0 1 c)=true:=e
  rw[zca5,zca5] at e
  obtain⟨i,rfl,hi⟩:=zi2 e.1.1
  obtain⟨j,rfl,hj1,hj2⟩:=zbb5 e.1.2
  obtain⟨w,rfl,hw⟩:=zi2 e.2
  cases ha
  cases hb
  cases hc
  exact⟨t,i,j,w,rfl,e1,rfl,hj1,hj2,hw⟩
 all_goals simp[zp5] at e
def keyD:PyData->Int×Int
 | .tuple (a :: b :: _)=>(intD a,intD b)
 | _=>(0,0)
def incD(ds:List PyData):Bool:=(List.range (ds.length - 1)).all fun i=>ltP (keyD (ds.getD i .none)) (keyD (ds.getD (i+1) .none))
def rowD:PyData->Bool
 | .list ds=>ds.all zp5&&incD ds
 | _=>false
@[irreducible] def zk1:Sp:=fun vs H Q _=>∃ (v:V) (d:PyData),vs=[v]/\ShV H v d/\sml d=true/\∀ H',Same H H'->Q (.bl (rowD d)) H'
theorem zaz9{v:V}{d:PyData}(h:ShV H v d)(hs:sml d=true)(q:∀ H',Same H H'->Q (.bl (rowD d)) H'):zk1 [v] H Q E:=by unfold zk1;exact⟨v,d,rfl,h,hs,q⟩
theorem zaz3(F:Fun K "is_row" "is_row" zaf7 f fd)(N:Nm mg)(zby2:Def P w K mg base CX0 4 "is_flow" ["thing"] zj6):FnOk P w K mg base CX0 5 f fd ["row"] zk1:=by
 refine F.ok zba4 (fun vs H Q E h=>by unfold zk1 at h;obtain⟨_,_,rfl,_⟩:=h;rfl) fun _ _ _ s H vs Q E hr h=>?_
 unfold zk1 at h
 obtain⟨v,d,rfl,h,hs,q⟩:=h
 have hu:=hu40 hr
 refine⟨_,(za2 (psIf (ptW (pwOr (zo1 (ptV (pB (zal2 (K:=K) rfl) N.isinstance_ zd0 (za0 (pq 0) (za0 (pTy N.list_ zu9) za1))))) (zad8 (zo1 (ptV (pB (zaf3 (K:=K) rfl rfl) N.all_ zs0 (za0 (zf0 (N:=["thing"]) (ks:=[none]) (zf1 (K:=K) rfl (pq 0)) (fun _ _ _ _ _=>(za7 (i:=0) nb_3 rfl (by eq_refl))) (fun _ _ _ _ _=>zc6) (fun _ _ _ _ _=>(pD zby2 hr zb6 (za0 (pq 0) za1))) (.skip .nil)) za1))))))) (za6 (zb2 zab2)) zf8)
   (za6 (zb2 (pB (zaf3 (K:=K) rfl rfl) N.all_ zs0 (za0 (zf0 (N:=["one","other"]) (ks:=[none,none]) (zbo1 (K:=K) rfl N.zip_ (za0 (pq 0) (za0 (zq2 (slXK (K:=K) rfl) (pq 0) (zad5 za3) zu0) za1))) (fun _ _ _ _ _=>(zi3 (K:=K) (n:=2) rfl rfl (zb0 (za7 (i:=0) nb_4 rfl (by eq_refl)) (zb0 (za7 (i:=1) nb_4 rfl (by eq_refl)) zi4)))) (fun _ _ _ _ _=>zc6) (fun _ _ _ _ _=>(peC (oLtX (by exact hu)) (zq2 (slXK (K:=K) rfl) (pq 0) zu0 (zad5 za3)) (zq2 (slXK (K:=K) rfl) (pq 1) zu0 (zad5 za3)))) (.skip (.skip .nil))) za1))))),?_⟩
 refine zn6 h (.inr (.inr (.inl rfl))) ?_
 cases h
 case lst a xs ds e l=>
  have ll:=l.len
  obtain⟨dl,dm⟩:=zl0 hs
  refine zd4 (br_T ?_)
  refine zb4 e ?_
  refine zj1 (Wk.list (SqL.of e)) (by rw[zci4];omega) (fun i=>.bl (zp5 (ds.getD i .none))) (fun _=>true) (fun j σ=>∃ t:Option V,σ=[t]) ⟨none,rfl⟩ ?_ ?_
  ·rintro j x σ H1 R S hj s1 hx ⟨t,rfl⟩ k _
   obtain⟨d,ed,hd⟩:=l.get j x hx
   refine br_T ?_
   refine zbk3 (hd.same s1) ?_
   ac_nf
   rw[← getD_some ed]
   exact k rfl _ _ (Same.refl _) ⟨_,rfl⟩
  intro acc H1 f1 s1 h1
  rw[ze7,ll,zm3 zp5] at h1
  refine zt0 h1 ?_
  rw[zs5]
  cases ea:ds.all zp5
  ·ac_nf
   refine zd4 (br_F ?_)
   ac_nf
   have q:Q (.bl (ds.all zp5&&incD ds)) H1:=q _ s1
   rw[ea] at q
   exact q
  have ea':∀ d∈ds,zp5 d=true:=zcb2.mp ea
  refine zd4 (br_T ?_)
  have e1:=s1 _ _ e
  refine zas2 (SqL.of e1) (fun p2 H2 f2 s2 h2=>?_)
  rw[zag5 (by rfl')] at h2
  refine zbn8 (SqL.of (s2 _ _ e1)) (SqL.of h2) ?_
  refine zj1 (Wk.zipN (n:=ds.length - 1) (SqL.of (s2 _ _ e1)) (SqL.of h2) (by rfl') (by rw[zcf7];show _<=_ - 1;omega) (.inr (by rw[zcf7,ll];rfl))) (by rw[zci4];omega) (fun i=>.bl (ltP (keyD (ds.getD i .none)) (keyD (ds.getD (i+1) .none)))) (fun _=>true) (fun j σ=>∃ t u:Option V,σ=[t,u]) ⟨none,none,rfl⟩ ?_ ?_
  ·rintro j v σ H3 R S hj s3 ⟨p,x,y,rfl,hp,hx,hy⟩ ⟨t,u,rfl⟩ k _
   rw[List.getElem?_drop,show (1:Int).toNat+j=j+1 by show 1+j=j+1;omega] at hy
   obtain⟨d,ed,hd⟩:=l.get j x hx
   obtain⟨d',ed',hd'⟩:=l.get (j+1) y hy
   have s03:=(s1.trans s2).trans s3
   obtain⟨t1,i1,j1,w1,rfl,ht1,rfl,_⟩:=zao6 (hd.same s03) (ea' d (zca0 ed))
   obtain⟨t2,i2,j2,w2,rfl,ht2,rfl,_⟩:=zao6 (hd'.same s03) (ea' d' (zca0 ed'))
   rw[getD_some ed,getD_some ed'] at k
   refine ze6 hp ?_
   refine br_T ?_
   refine zbm3 ht1 (fun p4 H4 f4 s4 h4=>?_)
   refine zbm3 (s4 _ _ ht2) (fun p5 H5 f5 s5 h5=>?_)
   refine ltP_rd (x:=(i1,j1)) (y:=(i2,j2)) (s5 _ _ h4) h5 ?_
   ac_nf
   exact k rfl _ _ (s4.trans s5) ⟨_,_,rfl⟩
  intro acc2 H3 f3 s3 h3
  rw[ze7] at h3
  have h3:H3 acc2=some (.lst (((List.range (ds.length - 1)).map fun i=>ltP (keyD (ds.getD i .none)) (keyD (ds.getD (i+1) .none))).map V.bl)):=by rw[h3,zcb4];rfl
  refine zt0 h3 ?_
  have q:Q (.bl (ds.all zp5&&incD ds)) H3:=q _ ((s1.trans s2).trans s3)
  rw[ea,zcd1] at q
  rw[zcg2]
  exact q
 all_goals (ac_nf;refine zd4 (br_F ?_);ac_nf;refine br_T ?_;ac_nf;exact q _ (Same.refl _))
def valG{κ:Type}[DecidableEq κ](kv:List (κ×Int))(k:κ):Option Int:=(kv.find? fun z=>decide (z.1=k)).map (·.2)
def putG{κ:Type}[DecidableEq κ](kv:List (κ×Int))(k:κ)(n:Int):List (κ×Int):=if (kv.any fun z=>decide (z.1=k))=true then kv.map (fun z=>if z.1=k then (z.1,n) else z) else kv++[(k,n)]
def addG{κ:Type}[DecidableEq κ](s:List (κ×Int))(z:κ×Int):List (κ×Int):=putG s z.1 ((valG s z.1).getD 0+z.2)
def sumG{κ:Type}[DecidableEq κ](zs:List (κ×Int)):List (κ×Int):=zs.foldl addG []
def dF{κ κ':Type}(f:κ->κ')(kv:List (κ×Int)):List (κ'×V):=kv.map fun z=>(f z.1,V.int z.2)
section
variable {κ κ':Type}[DecidableEq κ] [DecidableEq κ']
theorem zj2{z:κ×Int}{kv:List (κ×Int)}{k:κ}(e:z.1=k):valG (z :: kv) k=some z.2:=by unfold valG;rw[zce7,decide_eq_true e];rfl
theorem zj3{z:κ×Int}{kv:List (κ×Int)}{k:κ}(e:¬ z.1=k):valG (z :: kv) k=valG kv k:=by unfold valG;rw[zce7,decide_eq_false e]
theorem zy9{f:κ->κ'}(hf:∀ a b,f a=f b->a=b)(k:κ):∀ kv:List (κ×Int),valV (dF f kv) (f k)=(valG kv k).map V.int
 | []=>rfl
 | z :: kv=>by
  show valV ((f z.1,V.int z.2) :: dF f kv) (f k)=_
  by_cases e:z.1=k
  ·rw[zs9 (p:=(f z.1,V.int z.2)) (congrArg f e),zj2 e];rfl
  ·rw[zs2 (p:=(f z.1,V.int z.2)) (fun q=>e (hf _ _ q)),zy9 hf k kv,zj3 e]
theorem zbe4{f:κ->κ'}(hf:∀ a b,f a=f b->a=b)(kv:List (κ×Int))(k:κ)(n:Int):putK (dF f kv) (f k) (.int n)=dF f (putG kv k n):=by
 unfold putK putG dF
 have e1:((kv.map fun z=>(f z.1,V.int z.2)).any fun kv=>decide (kv.1=f k))=kv.any fun z=>decide (z.1=k):=by
  rw[List.any_map]
  congr 1;funext z
  exact decide_eq_decide.mpr ⟨hf _ _,congrArg f⟩
 rw[e1]
 split
 ·rw[zcb4,zcb4]
  refine zcb3 fun z _=>?_
  show (if f z.1=f k then (f z.1,V.int n) else (f z.1,V.int z.2))=(f (if z.1=k then (z.1,n) else z).1,V.int (if z.1=k then (z.1,n) else z).2)
  by_cases e:z.1=k
  ·rw[if_pos (congrArg f e),if_pos e]
  ·rw[if_neg (fun q=>e (hf _ _ q)),if_neg e]
 ·rw[zcb7];rfl
theorem zbi1(kv:List (κ×Int))(k:κ)(n:Int):(putG kv k n).length<=kv.length+1:=by
 unfold putG
 split
 ·rw[zbz4];omega
 ·rw[zca8];exact zcb0 _
theorem zy7(zs:List (κ×Int))(z:κ×Int):sumG (zs++[z])=addG (sumG zs) z:=by unfold sumG;rw[List.foldl_append];rfl
theorem zaf6(zs:List (κ×Int)):(sumG zs).length<=zs.length:=by
 have:∀ (zs s:List (κ×Int)),(zs.foldl addG s).length<=s.length+zs.length:=fun zs=>by
  induction zs with
  | nil=>exact fun s=>zcb0 _
  | cons z zs ih=>
   intro s
   have h1:=ih (addG s z)
   have h2:(addG s z).length<=s.length+1:=zbi1 _ _ _
   rw[List.foldl_cons,zcc6]
   omega
 have:=this zs []
 unfold sumG
 simpa using this
theorem zak2{zs:List (κ×Int)}{z:κ×Int}(h:zs[i]?=some z):sumG (zs.take (i+1))=addG (sumG (zs.take i)) z:=by
 rw[List.take_succ,h];exact zy7 _ _
end
theorem zag7(a b:Int)(h:(Sum.inl a:Key)=Sum.inl b):a=b:=Sum.inl.inj h
theorem zaq1(a b:Int×Int)(h:pK a=pK b):a=b:=by
 unfold pK at h
 simp only[List.cons.injEq,Sum.inl.injEq,and_true] at h
 exact Prod.ext h.1 h.2
@[irreducible] def zg0:Sp:=fun vs H Q _=>
 (∃ (p:Addr) (ts:List Addr) (zs:List (Int×Int)),vs=[.ref p]/\H p=some (.lst (ts.map V.ref))/\ts.length=zs.length/\zs.length<=2000/\(∀ (i:Nat) t z,ts[i]?=some t->zs[i]?=some z->H t=some (.tup [.int z.1,.int z.2]))/\∀ r H',H r=none->Same H H'->H' r=some (.dK (dF Sum.inl (sumG zs)))->Q (.ref r) H') ∨
 ∃ (p:Addr) (ts:List (Addr×Addr)) (zs:List ((Int×Int)×Int)),vs=[.ref p]/\H p=some (.lst (ts.map fun t=>V.ref t.1))/\ts.length=zs.length/\zs.length<=2000/\(∀ (i:Nat) t z,ts[i]?=some t->zs[i]?=some z->H t.1=some (.tup [.ref t.2,.int z.2])/\H t.2=some (.tup (pV z.1)))/\∀ r H',H r=none->Same H H'->H' r=some (.dT (dF pK (sumG zs)))->Q (.ref r) H'
theorem zt7{p:Addr}{ts:List Addr}{zs:List (Int×Int)}(hp:H p=some (.lst (ts.map V.ref)))(hl:ts.length=zs.length)(hz:zs.length<=2000)(ht:∀ (i:Nat) t z,ts[i]?=some t->zs[i]?=some z->H t=some (.tup [.int z.1,.int z.2]))(q:∀ r H',H r=none->Same H H'->H' r=some (.dK (dF Sum.inl (sumG zs)))->Q (.ref r) H'):zg0 [.ref p] H Q E:=by
 unfold zg0;exact .inl ⟨p,ts,zs,rfl,hp,hl,hz,ht,q⟩
theorem zax5{p:Addr}{zs:List ((Int×Int)×Int)}(hp:H p=some (.lst (ts.map fun t=>V.ref t.1)))(hl:ts.length=zs.length)(hz:zs.length<=2000)(ht:∀ (i:Nat) t z,ts[i]?=some t->zs[i]?=some z->H t.1=some (.tup [.ref t.2,.int z.2])/\H t.2=some (.tup (pV z.1)))(q:∀ r H',H r=none->Same H H'->H' r=some (.dT (dF pK (sumG zs)))->Q (.ref r) H'):zg0 [.ref p] H Q E:=by
 unfold zg0;exact .inr ⟨p,ts,zs,rfl,hp,hl,hz,ht,q⟩
theorem zbg4(F:Fun K "summed" "summed" zah5 f fd)(N:Nm mg):FnOk P w K mg base CX0 1 f fd ["pairs"] zg0:=by
 refine F.ok zr9 (fun vs H Q E h=>by unfold zg0 at h;rcases h with ⟨_,_,_,rfl,_⟩|⟨_,_,_,rfl,_⟩<;>rfl) fun _ _ _ s H vs Q E hr h=>?_
 unfold zg0 at h
 have hu:=hu40 hr
 refine⟨_,(za2 (psS (i:=1) zr9.nd zbr3)
   (za2 (zah4 PassesOwn.never rfl (zf1 (K:=K) rfl (pq 0)) (zi3 (K:=K) (n:=2) rfl rfl (zb0 (za7 (i:=2) zr9.nd rfl (by eq_refl)) (zb0 (za7 (i:=3) zr9.nd rfl (by eq_refl)) zi4))) (za6 (psDPut (by exact hu) (pq 1) (pq 2) (zd8 oAdd (zat2 (by exact hu) (pq 1) (pq 2) za3) (pq 3)))))
   (za6 (zb2 (pq 1))))),?_⟩
 rcases h with ⟨p,ts,zs,rfl,hp,hl,hz,ht,q⟩|⟨p,ts,zs,rfl,hp,hl,hz,ht,q⟩
 ·ac_nf
  refine dnK_rd (fun r H1 f1 s1 h1=>?_)
  have npr:p≠r:=za5 hp f1
  refine zb4 (s1 _ _ hp) ?_
  refine zl8 (xs:=ts.map V.ref) (fun i σ I=>∃ t u:Option V,σ=[some (.ref p),some (.ref r),t,u]/\Chg r H1 I/\I r=some (.dK (dF Sum.inl (sumG (zs.take i))))) ?_ ?_ ?_ ?_
  ·exact⟨_,_,rfl,Chg.refl _ _,h1⟩
  ·rintro i σ I _ ⟨_,_,_,c,_⟩
   exact SqL.of (c _ _ npr (s1 _ _ hp))
  ·rintro i v σ I hi ⟨t',u',rfl,c,hr'⟩
   rw[zbz9] at hi
   obtain⟨t,et,rfl⟩:=zca3.mp hi
   obtain⟨z,ez⟩:∃ z,zs[i]?=some z:=⟨_,zbz5 (by have:=(zbz6.mp et).1;omega)⟩
   have e0:=ht i t z et ez
   have e1:=c _ _ (za5 e0 f1) (s1 _ _ e0)
   refine ze6 e1 ?_
   refine zbc6 hr' ?_
   refine zbc7 hr' ?_
   have ev:(valV (dF Sum.inl (sumG (zs.take i))) (Sum.inl z.1:Key)).getD (V.int 0)=.int ((valG (sumG (zs.take i)) z.1).getD 0):=by
    rw[zy9 zag7]
    cases valG (sumG (zs.take i)) z.1<;>rfl
   rw[ev]
   refine dpK_rd hr' (by unfold dF;rw[zbz4,zci4];have:=zaf6 (zs.take i);rw[zcf6] at this;omega) (fun I2 c2 h2=>?_)
   rw[zbe4 zag7] at h2
   ac_nf
   exact⟨_,_,rfl,c.trans c2,by rw[zak2 ez];exact h2⟩
  ·rintro σ I ⟨t',u',rfl,c,hr'⟩
   rw[zbz4,hl,List.take_length] at hr'
   ac_nf
   exact q r I f1 (s1.chg f1 c) hr'
 ·ac_nf
  refine dnT_rd (fun r H1 f1 s1 h1=>?_)
  have npr:p≠r:=za5 hp f1
  refine zb4 (s1 _ _ hp) ?_
  refine zl8 (xs:=ts.map fun t=>V.ref t.1) (fun i σ I=>∃ t u:Option V,σ=[some (.ref p),some (.ref r),t,u]/\Chg r H1 I/\I r=some (.dT (dF pK (sumG (zs.take i))))) ?_ ?_ ?_ ?_
  ·exact⟨_,_,rfl,Chg.refl _ _,h1⟩
  ·rintro i σ I _ ⟨_,_,_,c,_⟩
   exact SqL.of (c _ _ npr (s1 _ _ hp))
  ·rintro i v σ I hi ⟨t',u',rfl,c,hr'⟩
   rw[zbz9] at hi
   obtain⟨t,et,rfl⟩:=zca3.mp hi
   obtain⟨z,ez⟩:∃ z,zs[i]?=some z:=⟨_,zbz5 (by have:=(zbz6.mp et).1;omega)⟩
   obtain⟨e0,e0'⟩:=ht i t z et ez
   have e1:=c _ _ (za5 e0 f1) (s1 _ _ e0)
   have e2:=c _ _ (za5 e0' f1) (s1 _ _ e0')
   refine ze6 e1 ?_
   refine zbo9 hr' ?_
   refine zbq7 hr' (k:=pK z.1) e2 ?_
   have ev:(valV (dF pK (sumG (zs.take i))) (pK z.1)).getD (V.int 0)=.int ((valG (sumG (zs.take i)) z.1).getD 0):=by
    rw[zy9 zaq1]
    cases valG (sumG (zs.take i)) z.1<;>rfl
   rw[ev]
   refine dpT_rd hr' (k:=pK z.1) e2 (by unfold dF;rw[zbz4,zci4];have:=zaf6 (zs.take i);rw[zcf6] at this;omega) (fun I2 c2 h2=>?_)
   rw[zbe4 zaq1] at h2
   ac_nf
   exact⟨_,_,rfl,c.trans c2,by rw[zak2 ez];exact h2⟩
  ·rintro σ I ⟨t',u',rfl,c,hr'⟩
   rw[zbz4,hl,List.take_length] at hr'
   ac_nf
   exact q r I f1 (s1.chg f1 c) hr'
def triD:PyData->Int×Int×Int
 | .tuple [a,b,c]=>(intD a,intD b,intD c)
 | _=>(0,0,0)
def rowF(d:PyData):List (Int×Int×Int):=(za8 d).map triD
def zf2:PyData->Bool
 | .list ds=>decide (0<ds.length)&&rowD (ds.getD 0 .none)&&decide (0<(za8 (ds.getD 0 .none)).length)
 | _=>false
theorem zs1{v:V}{d:PyData}(h:ShV H v d)(e:rowD d=true):∃ (a:Addr) (ts:List Addr) (ds:List PyData),v=.ref a/\d=.list ds/\H a=some (.lst (ts.map V.ref))/\ts.length=ds.length/\(∀ (i:Nat) t x,ts[i]?=some t->(rowF d)[i]?=some x->H t=some (.tup [.int x.1,.int x.2.1,.int x.2.2]))/\∀ x∈rowF d,0<=x.2.1/\x.2.1<=x.1/\1<=x.2.2:=by
 cases h
 case lst a xs ds e1 l=>
  have e:(ds.all zp5&&incD ds)=true:=e
  have ea:=zcb2.mp (Bool.and_eq_true_iff.mp e).1
  have key:∀ {xs:List V}{ds:List PyData},ShL H xs ds->(∀ d∈ds,zp5 d=true)->∃ ts:List Addr,xs=ts.map V.ref/\(∀ (i:Nat) t x,ts[i]?=some t->(ds.map triD)[i]?=some x->H t=some (.tup [.int x.1,.int x.2.1,.int x.2.2]))/\∀ x∈ds.map triD,0<=x.2.1/\x.2.1<=x.1/\1<=x.2.2:=fun {xs ds} l ea=>by
   induction ds generalizing xs with
   | nil=>cases l;exact⟨[],rfl,fun i t x h=>by simp at h,fun x h=>by cases h⟩
   | cons d ds ih=>
    cases l with
    | cons h1 l=>
     obtain⟨ts,rfl,k1,k2⟩:=ih l fun d hd=>ea d (.tail _ hd)
     obtain⟨t,i,j,w,rfl,ht,rfl,hj1,hj2,hw⟩:=zao6 h1 (ea _ (.head _))
     refine⟨t :: ts,rfl,fun n t' x g1 g2=>?_,fun x hx=>?_⟩
     ·match n with
      | 0=>cases g1;cases g2;exact ht
      | n+1=>exact k1 n t' x g1 g2
     ·rcases zca6.mp hx with rfl|hx
      ·exact⟨hj1,hj2,hw⟩
      ·exact k2 x hx
  obtain⟨ts,rfl,k1,k2⟩:=key l ea
  exact⟨a,ts,ds,rfl,rfl,e1,by have:=l.len;rwa [zbz4] at this,k1,k2⟩
 all_goals simp[rowD] at e
theorem zd5(ds:List PyData):(rowF (.list ds)).length=ds.length:=by unfold rowF;rw[zbz4];rfl
@[irreducible] def zk0:Sp:=fun vs H Q _=>∃ (v:V) (d:PyData),vs=[v]/\ShV H v d/\sml d=true/\∀ H',Same H H'->Q (.bl (zf2 d)) H'
theorem zad0{v:V}{d:PyData}(h:ShV H v d)(hs:sml d=true)(q:∀ H',Same H H'->Q (.bl (zf2 d)) H'):zk0 [v] H Q E:=by unfold zk0;exact⟨v,d,rfl,h,hs,q⟩
theorem zba8(F:Fun K "begins" "begins" zaf5 f fd)(N:Nm mg)(zbx2:Def P w K mg base CX0 5 "is_row" ["row"] zk1):FnOk P w K mg base CX0 6 f fd ["stream"] zk0:=by
 refine F.ok zaz7 (fun vs H Q E h=>by unfold zk0 at h;obtain⟨_,_,rfl,_⟩:=h;rfl) fun _ _ _ s H vs Q E hr h=>?_
 unfold zk0 at h
 obtain⟨v,d,rfl,h,hs,q⟩:=h
 have hu:=hu40 hr
 refine⟨_,(za6 (zb2 (zo2 (pB (zal2 (K:=K) rfl) N.isinstance_ zd0 (za0 (pq 0) (za0 (pTy N.list_ zu9) za1))) (zo2 (peC oGt (pB (zv6 (K:=K) rfl) N.len_ zl7 (za0 (pq 0) za1)) za3) (zo2 (pD zbx2 hr zb6 (za0 (zc7 (K:=K) rfl (pq 0) za3) za1)) (zp2 (peC oGt (pB (zv6 (K:=K) rfl) N.len_ zl7 (za0 (zc7 (K:=K) rfl (pq 0) za3) za1)) za3))))))),?_⟩
 refine zn6 h (.inr (.inr (.inl rfl))) ?_
 cases h
 case lst a xs ds e l=>
  have ll:=l.len
  obtain⟨dl,dm⟩:=zl0 hs
  have q:∀ H',Same H H'->Q (.bl (decide (0<ds.length)&&rowD (ds.getD 0 .none)&&decide (0<(za8 (ds.getD 0 .none)).length))) H':=q
  refine br_T ?_
  refine zi9 e ?_
  rw[ll]
  refine zj9 (fun h0=>?_) (fun h0=>?_)
  ·rw[decide_eq_true (show 0<ds.length by rfl'),zcd1] at q
   obtain⟨x0,ex0⟩:∃ x,xs[0]?=some x:=⟨_,zbz5 (by rfl')⟩
   obtain⟨d0,ed0,hd0⟩:=l.get 0 x0 ex0
   rw[getD_some ed0] at q
   have at0:atI xs 0=some x0:=zh3 (j:=0) ex0
   refine zf6 (v:=x0) e at0 ?_
   refine zaz9 hd0 (dm d0 (zca0 ed0)) (fun H1 s1=>?_)
   cases er:rowD d0
   ·have q:=q _ s1
    rw[er] at q
    refine br_F ?_
    ac_nf
    exact q
   ·have q:=q _ s1
    rw[er,zcd1] at q
    obtain⟨b,ts,es,rfl,rfl,hb,hl,_⟩:=zs1 hd0 er
    refine br_T ?_
    refine zf6 (v:=.ref b) (s1 _ _ e) at0 ?_
    refine zi9 (s1 _ _ hb) ?_
    rw[zbz4,hl]
    ac_nf
    have ed:decide ((es.length:Int)>0)=decide (0<(za8 (.list es)).length):=decide_eq_decide.mpr (by show (es.length:Int)>0↔0<es.length;omega)
    first|(rw[← ed] at q;exact q)|exact q
  ·have q:=q _ (Same.refl _)
   rw[decide_eq_false (show ¬ 0<ds.length by rfl')] at q
   ac_nf
   exact q
 all_goals (ac_nf;refine br_F ?_;ac_nf;exact q _ (Same.refl _))
def zs3(a b:PyData):Bool:=eqDI (sumG ((rowF a).map fun z=>(z.1 - z.2.1,z.2.2))) (sumG ((rowF b).map fun z=>(z.1,z.2.2)))
@[irreducible] def zq1:Sp:=fun vs H Q _=>∃ (v u:V) (d e:PyData),vs=[v,u]/\ShV H v d/\ShV H u e/\rowD d=true/\rowD e=true/\(za8 d).length<=1000/\(za8 e).length<=1000/\∀ H',Same H H'->Q (.bl (zs3 d e)) H'
theorem zba7{v u:V}{d e:PyData}(hv:ShV H v d)(hu:ShV H u e)(rd:rowD d=true)(re:rowD e=true)(ld:(za8 d).length<=1000)(le:(za8 e).length<=1000)(q:∀ H',Same H H'->Q (.bl (zs3 d e)) H'):zq1 [v,u] H Q E:=by unfold zq1;exact⟨v,u,d,e,rfl,hv,hu,rd,re,ld,le,q⟩
theorem zbj7(F:Fun K "meets" "meets" zao5 f fd)(N:Nm mg)(zbw1:Def P w K mg base CX0 1 "summed" ["pairs"] zg0):FnOk P w K mg base CX0 2 f fd ["ahead","row"] zq1:=by
 refine F.ok zar2 (fun vs H Q E h=>by unfold zq1 at h;obtain⟨_,_,_,_,rfl,_⟩:=h;rfl) fun _ _ _ s H vs Q E hr h=>?_
 unfold zq1 at h
 obtain⟨v,u,d,e,rfl,hv,hu',rd,re,ld,le,q⟩:=h
 have hu:=hu40 hr
 obtain⟨a,ts,ds,rfl,rfl,ha,hl,hp,_⟩:=zs1 hv rd
 obtain⟨b,us,es,rfl,rfl,hb,hl',hp',_⟩:=zs1 hu' re
 have ld:ds.length<=1000:=ld
 have le:es.length<=1000:=le
 refine⟨_,(za2 (psS (i:=2) zar2.nd (pD zbw1 hr zb6 (za0 (zf0 (N:=["left","sent","flow"]) (ks:=[none,none,none]) (zf1 (K:=K) rfl (pq 0)) (fun _ _ _ _ _=>(zi3 (K:=K) (n:=3) rfl rfl (zb0 (za7 (i:=0) nb_5 rfl (by eq_refl)) (zb0 (za7 (i:=1) nb_5 rfl (by eq_refl)) (zb0 (za7 (i:=2) nb_5 rfl (by eq_refl)) zi4))))) (fun _ _ _ _ _=>zc6) (fun _ _ _ _ _=>(zy1 (za0 (zd8 oSub (pq 0) (pq 1)) (za0 (pq 2) za1)))) (.skip (.skip (.skip .nil)))) za1)))
   (za6 (zb2 (peC (zab5 (K:=K) rfl (by exact hu)) (pq 2) (pD zbw1 hr zb6 (za0 (zf0 (N:=["left","sent","flow"]) (ks:=[none,none,none]) (zf1 (K:=K) rfl (pq 1)) (fun _ _ _ _ _=>(zi3 (K:=K) (n:=3) rfl rfl (zb0 (za7 (i:=0) nb_5 rfl (by eq_refl)) (zb0 (za7 (i:=1) nb_5 rfl (by eq_refl)) (zb0 (za7 (i:=2) nb_5 rfl (by eq_refl)) zi4))))) (fun _ _ _ _ _=>zc6) (fun _ _ _ _ _=>(zy1 (za0 (pq 0) (za0 (pq 2) za1)))) (.skip (.skip (.skip .nil)))) za1)))))),?_⟩
 refine zb4 ha ?_
 refine zad2 (Wk.list (SqL.of ha)) (by rw[zbz4,zci4];omega) (fun i=>.tup [.int (((rowF (.list ds)).getD i (0,0,0)).1 - ((rowF (.list ds)).getD i (0,0,0)).2.1),.int ((rowF (.list ds)).getD i (0,0,0)).2.2]) (fun j σ=>∃ t u w:Option V,σ=[t,u,w]) ⟨none,none,none,rfl⟩ ?_ ?_
 ·rintro i x σ I R S hi s1 hx ⟨_,_,_,rfl⟩ k
  rw[zbz4] at hi
  rw[zbz9] at hx
  obtain⟨t,et,rfl⟩:=zca3.mp hx
  obtain⟨z,ez⟩:∃ z,(rowF (.list ds))[i]?=some z:=⟨_,zbz5 (by rw[zd5];omega)⟩
  rw[show (rowF (.list ds)).getD i (0,0,0)=z by rw[zbz8,ez];rfl] at k
  refine ze6 (s1 _ _ (hp i t z et ez)) ?_
  refine br_T ?_
  refine zi5 (fun p I1 f1 r1 k1=>?_)
  ac_nf
  exact k _ _ _ f1 r1 k1 ⟨_,_,_,rfl⟩
 rintro l1 ps1 H1 F1
 rw[zbz4] at F1
 refine zt7 (zs:=(rowF (.list ds)).map fun z=>(z.1 - z.2.1,z.2.2)) F1.out (by rw[F1.len,zbz4,zd5];exact hl) (by rw[zbz4,zd5];omega) (fun i t z g1 g2=>?_) (fun r2 H2 f2 s2 h2=>?_)
 ·rw[zbz9] at g2
  obtain⟨y,ey,rfl⟩:=zca3.mp g2
  have:=(F1.row i t g1).2
  rw[show (rowF (.list ds)).getD i (0,0,0)=y by rw[zbz8,ey];rfl] at this
  exact this
 have hb2:=s2 _ _ (F1.same _ _ hb)
 refine zb4 hb2 ?_
 refine zad2 (Wk.list (SqL.of hb2)) (by rw[zbz4,zci4];omega) (fun i=>.tup [.int ((rowF (.list es)).getD i (0,0,0)).1,.int ((rowF (.list es)).getD i (0,0,0)).2.2]) (fun j σ=>∃ t u w:Option V,σ=[t,u,w]) ⟨none,none,none,rfl⟩ ?_ ?_
 ·rintro i x σ I R S hi s1 hx ⟨_,_,_,rfl⟩ k
  rw[zbz4] at hi
  rw[zbz9] at hx
  obtain⟨t,et,rfl⟩:=zca3.mp hx
  obtain⟨z,ez⟩:∃ z,(rowF (.list es))[i]?=some z:=⟨_,zbz5 (by rw[zd5];omega)⟩
  rw[show (rowF (.list es)).getD i (0,0,0)=z by rw[zbz8,ez];rfl] at k
  refine ze6 (s1 _ _ (s2 _ _ (F1.same _ _ (hp' i t z et ez)))) ?_
  refine br_T ?_
  refine zi5 (fun p I1 f1 r1 k1=>?_)
  ac_nf
  exact k _ _ _ f1 r1 k1 ⟨_,_,_,rfl⟩
 rintro l3 ps3 H3 F3
 rw[zbz4] at F3
 refine zt7 (zs:=(rowF (.list es)).map fun z=>(z.1,z.2.2)) F3.out (by rw[F3.len,zbz4,zd5];exact hl') (by rw[zbz4,zd5];omega) (fun i t z g1 g2=>?_) (fun r4 H4 f4 s4 h4=>?_)
 ·rw[zbz9] at g2
  obtain⟨y,ey,rfl⟩:=zca3.mp g2
  have:=(F3.row i t g1).2
  rw[show (rowF (.list es)).getD i (0,0,0)=y by rw[zbz8,ey];rfl] at this
  exact this
 refine eqD_rd (s4 _ _ (F3.same _ _ h2)) h4 ?_
 ac_nf
 exact q _ (((F1.same.trans s2).trans F3.same).trans s4)
def zba5(h:Int)(d:PyData):Bool:=(rowF d).all fun z=>decide (z.1=h)
def goneD(d:PyData):Bool:=(rowF d).all fun z=>decide (z.1=z.2.1)
def zy2(ds:List PyData):Bool:=(List.range (ds.length - 1)).all fun i=>zs3 (ds.getD i .none) (ds.getD (i+1) .none)
def zl3(h f:Int)(d:PyData):Bool:=zf2 d&&(decide (((za8 d).length:Int)=f)&&((za8 d).all rowD&&(zba5 h ((za8 d).getD 0 .none)&&(goneD ((za8 d).getD ((za8 d).length - 1) .none)&&zy2 (za8 d)))))
theorem zas4{α:Type}(g:α->Bool)(xs:List α):(xs.map g).all id=xs.all g:=by rw[zcg2];rfl
theorem zam6(g:Int×Int×Int->Bool):(List.range xs.length).map (fun i=>V.bl (g (xs.getD i (0,0,0))))=(xs.map g).map V.bl:=by
 apply zch2
 intro i
 rw[zbz9,zbz9,zbz9]
 by_cases h:i<xs.length
 ·rw[zcg5 h,zbz5 h]
  simp[h]
 ·rw[zcd4 (by simp;omega),zcd4 (by rfl')]
  rfl
@[irreducible] def zg4:Sp:=fun vs H Q _=>∃ (h f:Int) (v:V) (d:PyData),vs=[.int h,.int f,v]/\ShV H v d/\sml d=true/\∀ H',Same H H'->Q (.bl (zl3 h f d)) H'
theorem zaw3{f:Int}{v:V}{d:PyData}(hv:ShV H v d)(hs:sml d=true)(q:∀ H',Same H H'->Q (.bl (zl3 h f d)) H'):zg4 [.int h,.int f,v] H Q E:=by unfold zg4;exact⟨h,f,v,d,rfl,hv,hs,q⟩
theorem zah7(F:Fun K "is_stream" "is_stream" zr5 f fd)(N:Nm mg)(zbx3:Def P w K mg base CX0 6 "begins" ["stream"] zk0)(zbx2:Def P w K mg base CX0 5 "is_row" ["row"] zk1)(zbz0:Def P w K mg base CX0 2 "meets" ["ahead","row"] zq1):FnOk P w K mg base CX0 7 f fd ["hosts","fields","stream"] zg4:=by
 refine F.ok zo4 (fun vs H Q E h=>by unfold zg4 at h;obtain⟨_,_,_,_,rfl,_⟩:=h;rfl) fun _ _ _ s H vs Q E hr h=>?_
 unfold zg4 at h
 obtain⟨h,f,v,d,rfl,hv,hs,q⟩:=h
 have hu:=hu40 hr
 refine⟨_,(za2 (psIf (ptW (pwOr (zo1 (ptV (pD zbx3 hr zb6 (za0 (pq 2) za1)))) (pwOr (ptC (zao1 (K:=K) rfl (by exact hu)) (pB (zv6 (K:=K) rfl) N.len_ zl7 (za0 (pq 2) za1)) (pq 1)) (zad8 (zo1 (ptV (pB (zaf3 (K:=K) rfl rfl) N.all_ zs0 (za0 (zf0 (N:=["row"]) (ks:=[none]) (zf1 (K:=K) rfl (pq 2)) (fun _ _ _ _ _=>(za7 (i:=0) nb_6 rfl (by eq_refl))) (fun _ _ _ _ _=>zc6) (fun _ _ _ _ _=>(pD zbx2 hr zb6 (za0 (pq 0) za1))) (.skip .nil)) za1)))))))) (za6 (zb2 zab2)) zf8)
   (za2 (psS (i:=3) zo4.nd (pB (zaf3 (K:=K) rfl rfl) N.all_ zs0 (za0 (zf0 (N:=["left","sent","flow","hosts"]) (ks:=[none,none,none,some 0]) (zf1 (K:=K) rfl (zc7 (K:=K) rfl (pq 2) za3)) (fun _ _ _ _ _=>(zi3 (K:=K) (n:=3) rfl rfl (zb0 (za7 (i:=0) nb_7 rfl (by eq_refl)) (zb0 (za7 (i:=1) nb_7 rfl (by eq_refl)) (zb0 (za7 (i:=2) nb_7 rfl (by eq_refl)) zi4))))) (fun _ _ _ _ _=>zc6) (fun _ _ _ _ _=>(peC (zab5 (K:=K) rfl (by exact hu)) (pq 0) (pq 3))) (.skip (.skip (.skip (.take rfl rfl (by eq_refl) .nil))))) za1)))
   (za2 (psS (i:=4) zo4.nd (pB (zaf3 (K:=K) rfl rfl) N.all_ zs0 (za0 (zf0 (N:=["left","sent","flow"]) (ks:=[none,none,none]) (zf1 (K:=K) rfl (zc7 (K:=K) rfl (pq 2) (pe_un uNeg za3))) (fun _ _ _ _ _=>(zi3 (K:=K) (n:=3) rfl rfl (zb0 (za7 (i:=0) nb_8 rfl (by eq_refl)) (zb0 (za7 (i:=1) nb_8 rfl (by eq_refl)) (zb0 (za7 (i:=2) nb_8 rfl (by eq_refl)) zi4))))) (fun _ _ _ _ _=>zc6) (fun _ _ _ _ _=>(peC (zab5 (K:=K) rfl (by exact hu)) (pq 0) (pq 1))) (.skip (.skip (.skip .nil)))) za1)))
   (za6 (zb2 (zo2 (pq 3) (zo2 (pq 4) (zp2 (pB (zaf3 (K:=K) rfl rfl) N.all_ zs0 (za0 (zf0 (N:=["ahead","row"]) (ks:=[none,none]) (zbo1 (K:=K) rfl N.zip_ (za0 (pq 2) (za0 (zq2 (slXK (K:=K) rfl) (pq 2) (zad5 za3) zu0) za1))) (fun _ _ _ _ _=>(zi3 (K:=K) (n:=2) rfl rfl (zb0 (za7 (i:=0) nb_9 rfl (by eq_refl)) (zb0 (za7 (i:=1) nb_9 rfl (by eq_refl)) zi4)))) (fun _ _ _ _ _=>zc6) (fun _ _ _ _ _=>(pD zbz0 hr zb6 (za0 (pq 0) (za0 (pq 1) za1)))) (.skip (.skip .nil))) za1)))))))))),?_⟩
 refine zad0 hv hs (fun H1 s1=>?_)
 unfold zl3 at q
 cases eb:zf2 d
 ·have q:=q _ s1
  rw[eb] at q
  refine zd4 (br_F ?_)
  refine br_T ?_
  ac_nf
  exact q
 cases hv
 case lst a xs ds e l=>
  have q:∀ H',Same H H'->Q (.bl (true&&(decide ((ds.length:Int)=f)&&(ds.all rowD&&(zba5 h (ds.getD 0 .none)&&(goneD (ds.getD (ds.length - 1) .none)&&zy2 ds)))))) H':=fun H' s'=>by
   have q:=q H' s'
   rw[eb] at q
   exact q
  have ll:=l.len
  obtain⟨dl,dm⟩:=zl0 hs
  have d0:0<ds.length:=by
   have eb:(decide (0<ds.length)&&rowD (ds.getD 0 .none)&&decide (0<(za8 (ds.getD 0 .none)).length))=true:=eb
   rw[zca5,zca5] at eb
   exact of_decide_eq_true eb.1.1
  have e1:=s1 _ _ e
  refine zd4 (br_T ?_)
  refine zi9 e1 ?_
  rw[ll]
  refine zd4 (zj9 (fun hf=>?_) (fun hf=>?_))
  ·rw[decide_eq_true hf,zcd1,zcd1] at q
   refine zb4 e1 ?_
   refine zj1 (Wk.list (SqL.of e1)) (by rw[zci4];omega) (fun i=>.bl (rowD (ds.getD i .none))) (fun _=>true) (fun j σ=>∃ t:Option V,σ=[t]) ⟨none,rfl⟩ ?_ ?_
   ·rintro j x σ H2 R S hj s2 hx ⟨t,rfl⟩ k _
    obtain⟨d,ed,hd⟩:=l.get j x hx
    refine br_T ?_
    refine zaz9 (hd.same (s1.trans s2)) (dm d (zca0 ed)) (fun H3 s3=>?_)
    ac_nf
    rw[← getD_some ed]
    exact k rfl _ _ s3 ⟨_,rfl⟩
   intro acc H2 f2 s2 h2
   rw[ze7,ll,zm3 rowD] at h2
   have s02:=s1.trans s2
   refine zt0 h2 ?_
   rw[zs5]
   cases ea:ds.all rowD
   ·have q:=q _ s02
    rw[ea] at q
    refine zd4 (br_F ?_)
    ac_nf
    exact q
   have ea':∀ d∈ds,rowD d=true:=zcb2.mp ea
   rw[ea,zcd1] at q
   refine zd4 (br_T ?_)
   obtain⟨x0,ex0⟩:∃ x,xs[0]?=some x:=⟨_,zbz5 (by rfl')⟩
   obtain⟨d0',ed0,hd0⟩:=l.get 0 x0 ex0
   have m0:=dm d0' (zca0 ed0)
   obtain⟨r0,ts0,es0,rfl,rfl,hr0,hl0,hp0,_⟩:=zs1 hd0 (ea' d0' (zca0 ed0))
   have b0:=(zl0 m0).1
   rw[getD_some ed0] at q
   have e2:=s2 _ _ e1
   refine zf6 (v:=.ref r0) e2 (zh3 (j:=0) ex0) ?_
   refine zb4 (s02 _ _ hr0) ?_
   refine zj1 (Wk.list (SqL.of (s02 _ _ hr0))) (by rw[zbz4,zci4];omega) (fun i=>.bl (decide (((rowF (.list es0)).getD i (0,0,0)).1=h))) (fun _=>true) (fun j σ=>∃ t u w:Option V,σ=[t,u,w,some (.int h)]) ⟨none,none,none,rfl⟩ ?_ ?_
   ·rintro i x σ I R S hi s3 hx ⟨_,_,_,rfl⟩ k _
    rw[zbz4] at hi
    rw[zbz9] at hx
    obtain⟨t,et,rfl⟩:=zca3.mp hx
    obtain⟨z,ez⟩:∃ z,(rowF (.list es0))[i]?=some z:=⟨_,zbz5 (by rw[zd5];omega)⟩
    rw[show (rowF (.list es0)).getD i (0,0,0)=z by rw[zbz8,ez];rfl] at k
    refine ze6 (s3 _ _ (s02 _ _ (hp0 i t z et ez))) ?_
    refine br_T ?_
    ac_nf
    exact k rfl _ _ (Same.refl _) ⟨_,_,_,rfl⟩
   intro acc3 H3 f3 s3 h3
   rw[ze7,zbz4,hl0,← zd5 es0,zam6 fun z=>decide (z.1=h)] at h3
   refine zt0 h3 ?_
   rw[zas4]
   obtain⟨x1,ex1⟩:∃ x,xs[ds.length - 1]?=some x:=⟨_,zbz5 (by rfl')⟩
   obtain⟨d1',ed1,hd1⟩:=l.get _ x1 ex1
   have m1:=dm d1' (zca0 ed1)
   obtain⟨r1,ts1,es1,rfl,rfl,hr1,hl1,hp1,_⟩:=zs1 hd1 (ea' d1' (zca0 ed1))
   have b1:=(zl0 m1).1
   rw[getD_some ed1] at q
   have s03:=s02.trans s3
   have e3:=s3 _ _ e2
   refine zf6 (v:=.ref r1) e3 (zbr1 (n:=ds.length - 1) (by rfl') ex1) ?_
   refine zb4 (s03 _ _ hr1) ?_
   refine zj1 (Wk.list (SqL.of (s03 _ _ hr1))) (by rw[zbz4,zci4];omega) (fun i=>.bl (decide (((rowF (.list es1)).getD i (0,0,0)).1=((rowF (.list es1)).getD i (0,0,0)).2.1))) (fun _=>true) (fun j σ=>∃ t u w:Option V,σ=[t,u,w]) ⟨none,none,none,rfl⟩ ?_ ?_
   ·rintro i x σ I R S hi s4 hx ⟨_,_,_,rfl⟩ k _
    rw[zbz4] at hi
    rw[zbz9] at hx
    obtain⟨t,et,rfl⟩:=zca3.mp hx
    obtain⟨z,ez⟩:∃ z,(rowF (.list es1))[i]?=some z:=⟨_,zbz5 (by rw[zd5];omega)⟩
    rw[show (rowF (.list es1)).getD i (0,0,0)=z by rw[zbz8,ez];rfl] at k
    refine ze6 (s4 _ _ (s03 _ _ (hp1 i t z et ez))) ?_
    refine br_T ?_
    ac_nf
    exact k rfl _ _ (Same.refl _) ⟨_,_,_,rfl⟩
   intro acc4 H4 f4 s4 h4
   rw[ze7,zbz4,hl1,← zd5 es1,zam6 fun z=>decide (z.1=z.2.1)] at h4
   refine zt0 h4 ?_
   rw[zas4]
   have s04:=s03.trans s4
   have e4:=s4 _ _ e3
   have q:∀ H',Same H H'->Q (.bl ((rowF (.list es0)).all (fun z=>decide (z.1=h))&&((rowF (.list es1)).all (fun z=>decide (z.1=z.2.1))&&zy2 ds))) H':=q
   ac_nf
   cases e5:(rowF (.list es0)).all (fun z=>decide (z.1=h))
   ·have q:=q _ s04
    rw[e5] at q
    refine br_F ?_
    ac_nf
    exact q
   rw[e5,zcd1] at q
   refine br_T ?_
   ac_nf
   cases e6:(rowF (.list es1)).all (fun z=>decide (z.1=z.2.1))
   ·have q:=q _ s04
    rw[e6] at q
    refine br_F ?_
    ac_nf
    exact q
   rw[e6,zcd1] at q
   refine br_T ?_
   refine zas2 (SqL.of e4) (fun p5 H5 f5 s5 h5=>?_)
   rw[zag5 (by rfl')] at h5
   have s05:=s04.trans s5
   refine zbn8 (SqL.of (s5 _ _ e4)) (SqL.of h5) ?_
   refine zj1 (Wk.zipN (n:=ds.length - 1) (SqL.of (s5 _ _ e4)) (SqL.of h5) (by rfl') (by rw[zcf7];show _<=_ - 1;omega) (.inr (by rw[zcf7,ll];rfl))) (by rw[zci4];omega) (fun i=>.bl (zs3 (ds.getD i .none) (ds.getD (i+1) .none))) (fun _=>true) (fun j σ=>∃ t u:Option V,σ=[t,u]) ⟨none,none,rfl⟩ ?_ ?_
   ·rintro j v σ H6 R S hj s6 ⟨p,x,y,rfl,hp,hx,hy⟩ ⟨t,u,rfl⟩ k _
    rw[List.getElem?_drop,show (1:Int).toNat+j=j+1 by show 1+j=j+1;omega] at hy
    obtain⟨d,ed,hd⟩:=l.get j x hx
    obtain⟨d',ed',hd'⟩:=l.get (j+1) y hy
    have s06:=s05.trans s6
    rw[getD_some ed,getD_some ed'] at k
    have il:∀ {d:PyData},sml d=true->rowD d=true->(za8 d).length<=1000:=fun {d} m r=>by
     cases d with
     | list es=>exact (zl0 m).1
     | _=>simp[rowD] at r
    have rd:=ea' d (zca0 ed)
    have rd':=ea' d' (zca0 ed')
    refine ze6 hp ?_
    refine br_T ?_
    refine zba7 (hd.same s06) (hd'.same s06) rd rd' (il (dm d (zca0 ed)) rd) (il (dm d' (zca0 ed')) rd') (fun H7 s7=>?_)
    ac_nf
    exact k rfl _ _ s7 ⟨_,_,rfl⟩
   intro acc6 H6 f6 s6 h6
   rw[ze7] at h6
   have h6:H6 acc6=some (.lst (((List.range (ds.length - 1)).map fun i=>zs3 (ds.getD i .none) (ds.getD (i+1) .none)).map V.bl)):=by rw[h6,zcb4];rfl
   refine zt0 h6 ?_
   rw[zcg2]
   exact q _ (s05.trans s6)
  ·have q:=q _ s1
   rw[decide_eq_false hf] at q
   refine br_T ?_
   ac_nf
   exact q
 all_goals simp[zf2] at eb
structure RwAt(H:Hp)(p:Addr)(bs:List Addr)(xs:List (Int×Int×Int)):Prop where
 out:H p=some (.lst (bs.map V.ref))
 len:bs.length=xs.length
 row:∀ (i:Nat) b x,bs[i]?=some b->xs[i]?=some x->H b=some (.tup [.int x.1,.int x.2.1,.int x.2.2])
theorem RwAt.same{p:Addr}{bs:List Addr}(R:RwAt H p bs xs)(s:Same H H'):RwAt H' p bs xs:=⟨s _ _ R.out,R.len,fun i b x e1 e2=>s _ _ (R.row i b x e1 e2)⟩
def flw(ms:List (List Int×Int))(i:Nat):List ((Int×Int)×Int):=ms.map fun x=>(((x.1.drop i).sum,x.1.getD i 0),x.2)
def keyT(z:Int×Int×Int):Int×Int:=(z.1,z.2.1)
def zr6(ms:List (List Int×Int))(i:Nat)(xs:List (Int×Int×Int)):Prop:=OrdK (xs.map keyT)/\(∀ k,k∈xs.map keyT↔k∈(sumG (flw ms i)).map (·.1))/\∀ z∈xs,valG (sumG (flw ms i)) (keyT z)=some z.2.2
theorem zau1{κ:Type}[DecidableEq κ]{k:κ}:∀ {kv:List (κ×Int)},k∈kv.map (·.1)->∃ n,valG kv k=some n
 | [],h=>by cases h
 | z :: kv,h=>by
  by_cases e:z.1=k
  ·exact⟨z.2,zj2 e⟩
  ·rw[zj3 e]
   rw[zcb1] at h
   rcases zca6.mp h with h|h
   ·exact absurd h.symm e
   ·exact zau1 h
@[irreducible] def zm2:Sp:=fun vs H Q _=>∃ (m:Addr) (ts:List (Addr×Addr)) (ms:List (List Int×Int)) (i:Nat),vs=[.ref m,.int i]/\zc3 H m ts ms/\ms.length<64/\(∀ x∈ms,i<x.1.length/\x.1.length<=1000)/\∀ r bs xs H',Same H H'->RwAt (nw H H') r bs xs->zr6 ms i xs->xs.length<=ms.length->Q (.ref r) H'
theorem zbc8(M:zc3 H m ts ms)(hl:ms.length<64)(hi:∀ x∈ms,i<x.1.length/\x.1.length<=1000)(q:∀ r bs xs H',Same H H'->RwAt (nw H H') r bs xs->zr6 ms i xs->xs.length<=ms.length->Q (.ref r) H'):zm2 [.ref m,.int i] H Q E:=by unfold zm2;exact⟨m,ts,ms,i,rfl,M,hl,hi,q⟩
theorem zbe5(F:Fun K "row_of" "row_of" zae5 f fd)(N:Nm mg)(zbw1:Def P w K mg base CX0 1 "summed" ["pairs"] zg0):FnOk P w K mg base CX0 2 f fd ["mix","field"] zm2:=by
 refine F.ok zaj4 (fun vs H Q E h=>by unfold zm2 at h;obtain⟨_,_,_,_,rfl,_⟩:=h;rfl) fun _ _ _ s H vs Q E hr h=>?_
 unfold zm2 at h
 obtain⟨m,ts,ms,i,rfl,M,hl,hi,q⟩:=h
 have hu:=hu40 hr
 have ml:=M.len
 refine⟨_,(za2 (psS (i:=2) zaj4.nd (pD zbw1 hr zb6 (za0 (zf0 (N:=["plan","weight","field"]) (ks:=[none,none,some 1]) (zf1 (K:=K) rfl (pq 0)) (fun _ _ _ _ _=>(zi3 (K:=K) (n:=2) rfl rfl (zb0 (za7 (i:=0) nb_11 rfl (by eq_refl)) (zb0 (za7 (i:=1) nb_11 rfl (by eq_refl)) zi4)))) (fun _ _ _ _ _=>zc6) (fun _ _ _ _ _=>(zy1 (za0 (zy1 (za0 (pB (zap7 (K:=K) rfl rfl) N.sum_ zw3 (za0 (zq2 (slXK (K:=K) rfl) (pq 0) (zad5 (pq 2)) zu0) za1)) (za0 (zc7 (K:=K) rfl (pq 0) (pq 2)) za1))) (za0 (pq 1) za1)))) (.skip (.skip (.take rfl rfl (by eq_refl) .nil)))) za1)))
   (za6 (zb2 (zf0 (N:=["left","sent","flows"]) (ks:=[none,none,some 2]) (zf1 (K:=K) rfl (pB (cSortO rfl) N.sorted_ zam2 (za0 (pq 2) za1))) (fun _ _ _ _ _=>(zi3 (K:=K) (n:=2) rfl rfl (zb0 (za7 (i:=0) nb_12 rfl (by eq_refl)) (zb0 (za7 (i:=1) nb_12 rfl (by eq_refl)) zi4)))) (fun _ _ _ _ _=>zc6) (fun _ _ _ _ _=>(zy1 (za0 (pq 0) (za0 (pq 1) (za0 (peDGet (by exact hu) (pq 2) (zy1 (za0 (pq 0) (za0 (pq 1) za1)))) za1))))) (.skip (.skip (.take rfl rfl (by eq_refl) .nil))))))),?_⟩
 refine zb4 M.out ?_
 refine zbm9 (Wk.list (SqL.of M.out)) (by rw[zbz4,zci4];omega) (fun acc j ys σ I=>∃ (t u:Option V) (qs:List (Addr×Addr)),σ=[t,u,some (.int i)]/\ys=(qs.map fun t=>V.ref t.1)/\qs.length=j/\∀ (k:Nat) q x,qs[k]?=some q->ms[k]?=some x->rm acc I q.1=some (.tup [.ref q.2,.int x.2])/\rm acc I q.2=some (.tup (pV ((x.1.drop i).sum,x.1.getD i 0)))) ?_ ?_ ?_ ?_
 ·intro acc I f1 s1 h1
  exact⟨none,none,[],rfl,rfl,rfl,fun k q x e=>by simp at e⟩
 ·rintro acc j ys σ I I' s' ⟨t,u,qs,r1,r2,r3,r5⟩
  exact⟨t,u,qs,r1,r2,r3,fun k q x e1 e2=>⟨Same.rm s' _ _ (r5 k q x e1 e2).1,Same.rm s' _ _ (r5 k q x e1 e2).2⟩⟩
 ·rintro acc j v ys σ I R S hj facc s1 hacc hx ⟨t',u',qs,rfl,rfl,ql,qp⟩ kR _
  obtain⟨t,x,rfl,e1,e2,e3,e4⟩:=(M.same s1).elt hx
  obtain⟨ix,il⟩:=hi x (zca0 e2)
  refine ze6 e3 ?_
  refine br_T ?_
  refine zas2 (SqL.of e4) (fun p0 I0 f0 r0 k0=>?_)
  rw[zag5 (by rfl'),Int.toNat_natCast,← List.map_drop] at k0
  refine zaa3 k0 ?_
  refine zf6 (v:=.int (x.1.getD i 0)) (r0 _ _ e4) (int_at (by rfl') (by rw[Int.toNat_natCast,zbz8,zbz5 ix];rfl)) ?_
  refine zi5 (fun p1 I1 f1 r1 k1=>?_)
  refine zi5 (fun p2 I2 f2 r2 k2=>?_)
  ac_nf
  have n1:p1≠acc:=Ne.symm (za5 (r0 _ _ hacc) f1)
  have n2:p2≠acc:=Ne.symm (za5 ((r0.trans r1) _ _ hacc) f2)
  have r12:=(r0.trans r1).trans r2
  refine kR _ _ _ r12 (fun I3 c3=>⟨_,_,qs++[(p2,p1)],rfl,by rw[zcb7];rfl,by rw[zca8,ql];rfl,fun k q y g1 g2=>?_⟩)
  by_cases hk:k<qs.length
  ·rw[zcc3 hk] at g1
   have w:=qp k q y g1 g2
   have up:Same (rm acc I) (rm acc I3):=(Same.rm r12).trans (Chg.rm c3)
   exact⟨up _ _ w.1,up _ _ w.2⟩
  ·rw[zcc0 (by rfl')] at g1
   have k0':k - qs.length=0:=by
    have:=(zbz6.mp g1).1
    simp at this;omega
   rw[k0'] at g1
   cases g1
   have:k=j:=by rfl'
   subst this
   rw[e2] at g2
   cases g2
   exact⟨Chg.rm c3 _ _ (zav0 n2 k2),Chg.rm c3 _ _ (zav0 n1 (r2 _ _ k1))⟩
 rintro acc ys σ H1 facc s1 hacc ⟨t',u',qs,rfl,rfl,ql,qp⟩
 rw[zbz4] at ql
 refine zax5 (zs:=flw ms i) hacc (by unfold flw;rw[zbz4];omega) (by unfold flw;rw[zbz4];omega) (fun k t z g1 g2=>?_) (fun r2 H2 f2 s2 h2=>?_)
 ·unfold flw at g2
  rw[zbz9] at g2
  obtain⟨x,ex,rfl⟩:=zca3.mp g2
  exact⟨zae9 acc H1 _ _ (qp k t x g1 ex).1,zae9 acc H1 _ _ (qp k t x g1 ex).2⟩
 have sl:(sumG (flw ms i)).length<=ms.length:=by have:=zaf6 (flw ms i);unfold flw at this ⊢;rw[zbz4] at this;exact this
 have h2':H2 r2=some (.dT (((sumG (flw ms i)).map fun z=>(z.1,V.int z.2)).map fun z=>(pK z.1,z.2))):=by rw[h2,zcb4];rfl
 refine soO_rd h2' (by rw[zbz4];omega) (fun p3 H3 bs ks f3 s3 pm od pr h3=>?_)
 have pm:ks.Perm ((sumG (flw ms i)).map (·.1)):=by rw[zcb4] at pm;exact pm
 have bl:bs.length=ks.length:=pr.length
 have kl:ks.length<=ms.length:=by have:=pm.length_eq;rw[zbz4] at this;omega
 have eg:∀ x∈ks,valG (sumG (flw ms i)) x=some ((valG (sumG (flw ms i)) x).getD 0):=fun x hx=>by
  obtain⟨n,e⟩:=zau1 (pm.mem_iff.mp hx)
  rw[e];rfl
 refine zb4 h3 ?_
 refine zad2 (n:=(bs.map V.ref).length) (Wk.list (SqL.of h3)) (by rw[zbz4,zci4];omega) (fun j=>.tup [.int (ks.getD j (0,0)).1,.int (ks.getD j (0,0)).2,.int ((valG (sumG (flw ms i)) (ks.getD j (0,0))).getD 0)]) (fun j σ=>∃ t u:Option V,σ=[t,u,some (.ref r2)]) ⟨none,none,rfl⟩ ?_ ?_
 ·rintro j v σ H4 R' S' hj s4 hx ⟨t,u,rfl⟩ k
  rw[zbz9] at hx
  obtain⟨b,eb,rfl⟩:=zca3.mp hx
  obtain⟨x,ex⟩:∃ x,ks[j]?=some x:=⟨ks[j]'(by have:=(zbz6.mp eb).1;omega),zbz5 _⟩
  have eb':=s4 _ _ (zaj5 pr j b x eb ex)
  rw[show ks.getD j (0,0)=x by rw[zbz8,ex];rfl] at k
  have h4:=s4 _ _ (s3 _ _ h2)
  refine ze6 eb' ?_
  refine br_T ?_
  refine zi5 (fun p5 H5 f5 s5 h5=>?_)
  refine dgT_rd (s5 _ _ h4) (k:=pK x) h5 (by rw[zy9 zaq1,eg x (zca0 ex)];rfl) ?_
  refine zi5 (fun pa Ha fa sa ha=>?_)
  ac_nf
  exact k _ _ _ (s5.free fa) (s5.trans sa) ha ⟨_,_,rfl⟩
 ·intro acc4 ps H4 F4
  rw[zbz4] at F4
  have F4l:=F4.len
  have s03:=(s1.trans s2).trans s3
  ac_nf
  refine q acc4 ps (ks.map fun x=>(x.1,x.2,(valG (sumG (flw ms i)) x).getD 0)) H4 (s03.trans F4.same) ⟨zaq5 (s03.free F4.facc) F4.out,by rw[zbz4];omega,fun j b x e1 e2=>?_⟩ ?_ (by rw[zbz4];exact kl)
  ·rw[zbz9] at e2
   obtain⟨y,ey,rfl⟩:=zca3.mp e2
   obtain⟨z1,z2⟩:=F4.row j b e1
   rw[show ks.getD j (0,0)=y by rw[zbz8,ey];rfl] at z2
   exact zaq5 (s03.free z1) z2
  ·have em:(ks.map fun x=>(x.1,x.2,(valG (sumG (flw ms i)) x).getD 0)).map keyT=ks:=by
    rw[zcb4]
    exact (zcb3 fun x _=>rfl).trans (List.map_id _)
   refine⟨by rw[em];exact od,fun k=>by rw[em];exact pm.mem_iff,fun z hz=>?_⟩
   obtain⟨x,hx,rfl⟩:=zca9.mp hz
   exact eg x hx
def msD(d:PyData):List (List Int×Int):=(za8 d).map fun x=>(zab9 (zk6 x),wtD x)
def zn7(d:PyData):Nat:=(zh2 (za8 d)).length
def zba1(d:PyData):Int:=(zh2 (za8 d)).sum
theorem zbi3{v:V}{d:PyData}(h:ShV H v d)(em:mixD d=true):∃ (m:Addr) (ts:List (Addr×Addr)),v=.ref m/\zc3 H m ts (msD d)/\1<=(msD d).length/\(0<=zba1 d/\zba1 d<=40)/\(1<=zn7 d/\zn7 d<=8)/\∀ x∈msD d,(∀ n∈x.1,0<=n)/\x.1.length=zn7 d/\x.1.sum=zba1 d/\1<=x.2:=by
 obtain⟨a,xs,ds,rfl,rfl,e,l,h0,hp⟩:=mix_of h em
 rw[zp4,zca5,zca5,zca5] at em
 obtain⟨⟨⟨_,_⟩,sz⟩,pl⟩:=em
 unfold zo7 at sz
 rw[zca5,decide_eq_true_eq,decide_eq_true_eq] at sz
 have pl:=zcb2.mp pl
 have key:∀ {xs:List V}{ds:List PyData},ShL H xs ds->(∀ d∈ds,zq7 d=true)->∃ ts:List (Addr×Addr),xs=(ts.map fun t=>V.ref t.1)/\ts.length=ds.length/\∀ (i:Nat) t x,ts[i]?=some t->(ds.map fun x=>(zab9 (zk6 x),wtD x))[i]?=some x->H t.1=some (.tup [.ref t.2,.int x.2])/\H t.2=some (.lst (x.1.map V.int)):=fun {xs ds} l hp=>by
  induction ds generalizing xs with
  | nil=>cases l;exact⟨[],rfl,rfl,fun i t x h=>by simp at h⟩
  | cons d ds ih=>
   cases l with
   | cons h1 l=>
    obtain⟨ts,rfl,tl,k1⟩:=ih l fun d hd=>hp d (.tail _ hd)
    obtain⟨t,p,w,ns,rfl,ht,hp',rfl,nn,hw⟩:=zag4 h1 (hp _ (.head _))
    refine⟨(t,p) :: ts,rfl,by rw[zcc6,zcc6,tl],fun n t' x g1 g2=>?_⟩
    match n with
    | 0=>
     cases g1
     rw[zcb1,List.getElem?_cons_zero,zm4] at g2
     cases g2
     exact⟨ht,hp'⟩
    | n+1=>exact k1 n t' x g1 g2
 obtain⟨ts,rfl,tl,k1⟩:=key l hp
 refine⟨a,ts,rfl,⟨e,by unfold msD;rw[zbz4];exact tl,k1⟩,by unfold msD;rw[zbz4];show 1<=ds.length;omega,sz.1,⟨by have:=sz.2.1;show 1<=(zh2 ds).length;omega,by have:=sz.2.2;show (zh2 ds).length<=8;omega⟩,fun x hx=>?_⟩
 unfold msD at hx
 obtain⟨d,hd,rfl⟩:=zca9.mp hx
 obtain⟨ns,w,rfl,nn,hw⟩:=zap4 (hp d hd)
 have p:=pl _ hd
 unfold zu1 at p
 rw[zca5,zca5,decide_eq_true_eq,decide_eq_true_eq] at p
 rw[zm4] at p ⊢
 exact⟨nn,by have:=p.1.2;show ns.length=(zh2 ds).length;omega,p.2,hw⟩
structure StAt(H:Hp)(p:Addr)(rs:List (Addr×List Addr))(xss:List (List (Int×Int×Int))):Prop where
 out:H p=some (.lst (rs.map fun r=>V.ref r.1))
 len:rs.length=xss.length
 row:∀ (i:Nat) r xs,rs[i]?=some r->xss[i]?=some xs->RwAt (rm p H) r.1 r.2 xs
 nd:(rs.map (·.1)).Nodup
theorem StAt.same{H H':Hp}{p:Addr}{rs:List (Addr×List Addr)}{xss:List (List (Int×Int×Int))}(R:StAt H p rs xss)(s:Same H H'):StAt H' p rs xss:=⟨s _ _ R.out,R.len,fun i r xs e1 e2=>(R.row i r xs e1 e2).same (Same.rm s),R.nd⟩
def zao9(ms:List (List Int×Int))(f:Nat)(xss:List (List (Int×Int×Int))):Prop:=xss.length=f/\∀ (i:Nat) xs,xss[i]?=some xs->zr6 ms i xs/\xs.length<=ms.length
@[irreducible] def zg5(zbu9:Addr):Sp:=fun vs H Q E=>∃ (v:V) (d:PyData),vs=[v]/\ShV H v d/\sml d=true/\(mixD d=true->(za8 d).length<64/\∀ r rs xss H',Same H H'->StAt (nw H H') r rs xss->zao9 (msD d) (zn7 d) xss->Q (.ref r) H')/\(mixD d=false->∀ H',Same H H'->E (.ref zbu9) none H')
theorem zaj9{zbu9:Addr}{v:V}{d:PyData}(h:ShV H v d)(hs:sml d=true)(q:mixD d=true->(za8 d).length<64/\∀ r rs xss H',Same H H'->StAt (nw H H') r rs xss->zao9 (msD d) (zn7 d) xss->Q (.ref r) H')(qe:mixD d=false->∀ H',Same H H'->E (.ref zbu9) none H'):zg5 zbu9 [v] H Q E:=by unfold zg5;exact⟨v,d,rfl,h,hs,q,qe⟩
theorem zg7{α:Type}{as:List α}{a b:α}(h:(as++[a])[i]?=some b):(i<as.length/\as[i]?=some b)∨(i=as.length/\b=a):=by
 by_cases hi:i<as.length
 ·rw[zcc3 hi] at h
  exact .inl ⟨hi,h⟩
 ·rw[zcc0 (by rfl')] at h
  have:i - as.length=0:=by
   have:=(zbz6.mp h).1
   simp at this;omega
  rw[this] at h
  cases h
  exact .inr ⟨by rfl',rfl⟩
theorem zbu5{H1 I I1:Hp}{acc r:Addr}{rs:List (Addr×List Addr)}{bs:List Addr}(nd:(rs.map (·.1)).Nodup)(hl:rs.length=xss.length)(rp:∀ (i:Nat) r xs,rs[i]?=some r->xss[i]?=some xs->RwAt (rm acc (nw H1 I)) r.1 r.2 xs)(hr:I r=none):((rs++[(r,bs)]).map (·.1)).Nodup:=by
 rw[zcb7,List.nodup_append]
 refine⟨nd,by simp,fun a ha b hb=>?_⟩
 obtain⟨r',hr',rfl⟩:=zca9.mp ha
 obtain⟨i,ei⟩:=zcd3 hr'
 obtain⟨xs,ex⟩:∃ xs,xss[i]?=some xs:=⟨_,zbz5 (by have:=(zbz6.mp ei).1;omega)⟩
 have o:=zay3 _ _ _ _ (zae9 _ _ _ _ (rp i r' xs ei ex).out)
 rw[show b=r by simpa using hb]
 exact za5 o hr
theorem zam7(F:Fun K "stream_of" "stream_of" zr1 f fd)(N:Nm mg)(zbv7:Def P w K mg base (CXR P w) 6 "look_mix" ["mix"] (ze9 zbu9))(zby5:Def P w K mg base CX0 2 "row_of" ["mix","field"] zm2):FnOk P w K mg base (CXR P w) 7 f fd ["mix"] (zg5 zbu9):=by
 refine F.okR zal5 (fun vs H Q E h=>by unfold zg5 at h;obtain⟨_,_,rfl,_⟩:=h;rfl) (fun cdv A outer s H vs Q E hr hX h=>?_)
 unfold zg5 at h
 obtain⟨v,d,rfl,h,hs,q,qe⟩:=h
 refine⟨_,(za2 (zk9 (pD zbv7 hr (zba0 hX) (za0 (pq 0) za1)))
   (za6 (zb2 (zf0 (N:=["field","mix"]) (ks:=[none,some 0]) (zw2 N.range_ (za0 (pB (zv6 (K:=K) rfl) N.len_ zl7 (za0 (zc7 (K:=K) rfl (zc7 (K:=K) rfl (pq 0) za3) za3) za1)) za1)) (fun _ _ _ _ _=>(za7 (i:=0) nb_13 rfl (by eq_refl))) (fun _ _ _ _ _=>zc6) (fun _ _ _ _ _=>(pD zby5 hr zb6 (za0 (pq 1) (za0 (pq 0) za1)))) (.skip (.take rfl rfl (by eq_refl) .nil)))))),?_⟩
 refine zp7 h hs (fun em H1 s1=>?_) (fun em H1 s1=>?_)
 ·obtain⟨q1,q⟩:=q em
  obtain⟨m,ts,rfl,M,m1,hh,hf,ok⟩:=zbi3 (h.same s1) em
  have ml:(msD d).length<64:=by unfold msD;rw[zbz4];exact q1
  obtain⟨x0,ex0⟩:∃ x,(msD d)[0]?=some x:=⟨_,zbz5 (by rfl')⟩
  obtain⟨t0,et0,at0,ht0,hp0⟩:=M.ix ex0
  have l0:=(ok x0 (zca0 ex0)).2.1
  refine zf6 (v:=.ref t0.1) M.out at0 ?_
  refine zh1 (v:=.ref t0.2) ht0 rfl ?_
  refine zi9 hp0 ?_
  rw[zbz4,l0]
  refine zk5 (by rfl') (by rfl') (by rfl') (by rfl') ?_
  refine zbm9 (n:=zn7 d) Wk.range (by rw[zci4];omega) (fun acc j ys σ I=>∃ (t:Option V) (rs:List (Addr×List Addr)) (xss:List (List (Int×Int×Int))),σ=[t,some (.ref m)]/\ys=(rs.map fun r=>V.ref r.1)/\rs.length=j/\xss.length=j/\(∀ (i:Nat) r xs,rs[i]?=some r->xss[i]?=some xs->RwAt (rm acc (nw H1 I)) r.1 r.2 xs)/\(∀ (i:Nat) xs,xss[i]?=some xs->zr6 (msD d) i xs/\xs.length<=(msD d).length)/\(rs.map (·.1)).Nodup) ?_ ?_ ?_ ?_
  ·intro acc I f1 s2 h1
   exact⟨none,[],[],rfl,rfl,rfl,rfl,fun i r xs e=>by simp at e,fun i xs e=>by simp at e,List.nodup_nil⟩
  ·rintro acc j ys σ I I' s' ⟨t,rs,xss,r1,r2,r3,r4,r5,r6,r7⟩
   exact⟨t,rs,xss,r1,r2,r3,r4,fun i r xs e1 e2=>(r5 i r xs e1 e2).same (Same.rm (nw_up s')),r6,r7⟩
  ·rintro acc j v ys σ I R S hj facc s2 hacc hx ⟨t,rs,xss,rfl,rfl,rl,xl,rp,xp,nd⟩ kR _
   obtain rfl:v=.int j:=by rw[hx,zch6]
   refine br_T ?_
   refine zbc8 (M.same s2) ml (fun x hx=>by have:=(ok x hx).2.1;omega) (fun r bs xs I1 s3 R1 ri xl1=>?_)
   ac_nf
   refine kR _ _ _ s3 (fun I2 c2=>⟨_,rs++[(r,bs)],xss++[xs],rfl,by rw[zcb7];rfl,by rw[zca8,rl];rfl,by rw[zca8,xl];rfl,fun i r' xs' e1 e2=>?_,fun i xs' e=>?_,zbu5 (I1:=I1) nd (by rfl') rp (zam4 R1.out).1⟩)
   ·have up:Same (rm acc (nw H1 I)) (rm acc (nw H1 I2)):=fun b o z=>by
     obtain⟨z1,z2⟩:=zap8 z
     obtain⟨z3,z4⟩:=zam4 z2
     exact zav0 z1 (zaq5 z3 (c2 _ _ z1 (s3 _ _ z4)))
    have new:Same (nw I I1) (rm acc (nw H1 I2)):=fun b o z=>by
     obtain⟨z3,z4⟩:=zam4 z
     have nb:b≠acc:=fun w=>by rw[w,hacc] at z3;cases z3
     exact zav0 nb (zaq5 (s2.free z3) (c2 _ _ nb z4))
    rcases zg7 e1 with ⟨a1,a2⟩|⟨a1,rfl⟩
    ·rcases zg7 e2 with ⟨b1,b2⟩|⟨b1,_⟩
     ·exact (rp i r' xs' a2 b2).same up
     ·omega
    ·rcases zg7 e2 with ⟨b1,_⟩|⟨b1,rfl⟩
     ·omega
     ·exact R1.same new
   ·rcases zg7 e with ⟨b1,b2⟩|⟨b1,rfl⟩
    ·exact xp i xs' b2
    ·rw[b1,xl]
     exact⟨ri,xl1⟩
  ·rintro acc ys σ I facc s2 hacc ⟨t,rs,xss,rfl,rfl,rl,xl,rp,xp,nd⟩
   ac_nf
   have left:Same (nw H1 I) (nw H I):=zbr7 s1
   exact q acc rs xss I (s1.trans s2) ⟨left _ _ (zaq5 facc hacc),by rfl',fun i r xs e1 e2=>(rp i r xs e1 e2).same (Same.rm left),nd⟩ ⟨xl,xp⟩
 ·exact qe em _ s1
def Off(b:Addr)(ts:List (Addr×Addr)):Prop:=∀ t∈ts,t.1≠b/\t.2≠b
theorem zc3.chg{b:Addr}(M:zc3 H m ts ms)(c:Chg b H H')(n:m≠b)(o:Off b ts):zc3 H' m ts ms:=
 ⟨c _ _ n M.out,M.len,fun i t x h1 h2=>⟨c _ _ (o t (zca0 h1)).1 (M.part i t x h1 h2).1,c _ _ (o t (zca0 h1)).2 (M.part i t x h1 h2).2⟩⟩
theorem zc3.off{b:Addr}(M:zc3 H m ts ms)(f:H b=none):m≠b/\Off b ts:=by
 refine⟨za5 M.out f,fun t ht=>?_⟩
 obtain⟨i,hi⟩:=zcd3 ht
 obtain⟨t',x,h1,h2,h3,h4⟩:=M.get (i:=i) (by have:=(zbz6.mp hi).1;have:=M.len;omega)
 rw[hi] at h1
 cases h1
 exact⟨za5 h3 f,za5 h4 f⟩
theorem zc3.push{p q:Addr}{x:List Int×Int}(M:zc3 H m ts ms)(c:Chg m H H')(o:Off m ts)(h':H' m=some (.lst ((ts.map fun t=>V.ref t.1)++[.ref p])))(hp:H' p=some (.tup [.ref q,.int x.2]))(hq:H' q=some (.lst (x.1.map V.int))):zc3 H' m (ts++[(p,q)]) (ms++[x]):=by
 refine⟨by rw[h',zcb7];rfl,by rw[zca8,zca8,M.len];rfl,fun i t y h1 h2=>?_⟩
 by_cases hi:i<ts.length
 ·rw[zcc3 hi] at h1
  rw[zcc3 (by have:=M.len;omega)] at h2
  have:=o t (zca0 h1)
  exact⟨c _ _ this.1 (M.part i t y h1 h2).1,c _ _ this.2 (M.part i t y h1 h2).2⟩
 ·rw[zcc0 (by rfl')] at h1
  rw[zcc0 (by have:=M.len;omega)] at h2
  have e0:i - ts.length=0:=by
   have:=(zbz6.mp h1).1
   simp at this;omega
  rw[e0] at h1
  rw[show i - ms.length=0 by have:=M.len;omega] at h2
  cases h1
  cases h2
  exact⟨hp,hq⟩
theorem Off.push{b p q:Addr}(o:Off b ts)(n1:p≠b)(n2:q≠b):Off b (ts++[(p,q)]):=fun t ht=>by
 rcases zcd8.mp ht with h|h
 ·exact o t h
 ·have:t=(p,q):=by simpa using h
  subst this
  exact⟨n1,n2⟩
abbrev OkX(h f:Int)(x:List Int×Int):Prop:=(∀ n∈x.1,0<=n)/\(x.1.length:Int)=f/\x.1.sum=h/\1<=x.2
theorem zat4{α:Type}{p:α->Prop}{xs:List α}{y:α}(h:∀ x∈xs,p x)(hy:p y):∀ x∈xs++[y],p x:=fun x hx=>by
 rcases zcd8.mp hx with h' | h'
 ·exact h x h'
 ·have:x=y:=by simpa using h'
  subst this
  exact hy
inductive Mrg{α β:Type}:List (α×Int)->List (β×Int)->List (α×β×Int)->Prop where
 | nil:Mrg [] [] []
 | lt {p:α}{w v:Int}{ps:List (α×Int)}{r:β}{rs:List (β×Int)}{out:List (α×β×Int)}:w<v->Mrg ps ((r,v - w) :: rs) out->Mrg ((p,w) :: ps) ((r,v) :: rs) ((p,r,w) :: out)
 | eq {p:α}{w:Int}{ps:List (α×Int)}{r:β}{rs:List (β×Int)}{out:List (α×β×Int)}:Mrg ps rs out->Mrg ((p,w) :: ps) ((r,w) :: rs) ((p,r,w) :: out)
 | gt {p:α}{w v:Int}{ps:List (α×Int)}{r:β}{rs:List (β×Int)}{out:List (α×β×Int)}:v<w->Mrg ((p,w - v) :: ps) rs out->Mrg ((p,w) :: ps) ((r,v) :: rs) ((p,r,v) :: out)
def tot{α:Type}(l:List (α×Int)):Int:=(l.map (·.2)).sum
theorem zg8{α:Type}(x:α×Int)(l:List (α×Int)):tot (x :: l)=x.2+tot l:=by unfold tot;rw[zcb1,zcc8]
theorem zar3{α:Type}:∀ {l:List (α×Int)},(∀ x∈l,1<=x.2)->0<=tot l/\(tot l=0->l=[])
 | [],_=>⟨by unfold tot;simp,fun _=>rfl⟩
 | x :: l,h=>by
  have h1:=h x (.head _)
  have h2:=(zar3 (l:=l) fun y hy=>h y (.tail _ hy)).1
  rw[zg8]
  exact⟨by rfl',fun e=>by rfl'⟩
theorem zai8{l m:List Int}(h:l.Perm m):l.sum=m.sum:=by
 induction h with
 | nil=>rfl
 | cons x _ ih=>simp only[zcc8];rw[ih]
 | swap x y l=>simp only[zcc8];omega
 | trans _ _ h1 h2=>exact h1.trans h2
theorem zar8{α:Type}{l m:List (α×Int)}(h:l.Perm m):tot l=tot m:=by unfold tot;exact zai8 (h.map _)
section
variable {α β:Type}{ps:List (α×Int)}{rs:List (β×Int)}{out:List (α×β×Int)}
theorem Mrg.pos(h:Mrg ps rs out):(∀ x∈ps,1<=x.2)->(∀ x∈rs,1<=x.2)->∀ x∈out,1<=x.2.2:=by
 induction h with
 | nil=>intro _ _ x hx;cases hx
 | lt hl _ ih=>
  intro h1 h2 x hx
  have a:=h1 _ (.head _)
  rcases zca6.mp hx with rfl|hx
  ·exact a
  ·refine ih (fun y hy=>h1 y (.tail _ hy)) (fun y hy=>?_) x hx
   rcases zca6.mp hy with rfl|hy
   ·show 1<=_ - _;omega
   ·exact h2 y (.tail _ hy)
 | eq _ ih=>
  intro h1 h2 x hx
  rcases zca6.mp hx with rfl|hx
  ·exact h1 _ (.head _)
  ·exact ih (fun y hy=>h1 y (.tail _ hy)) (fun y hy=>h2 y (.tail _ hy)) x hx
 | gt hl _ ih=>
  intro h1 h2 x hx
  rcases zca6.mp hx with rfl|hx
  ·exact h2 _ (.head _)
  ·refine ih (fun y hy=>?_) (fun y hy=>h2 y (.tail _ hy)) x hx
   rcases zca6.mp hy with rfl|hy
   ·show 1<=_ - _;omega
   ·exact h1 y (.tail _ hy)
theorem Mrg.len(h:Mrg ps rs out):ps≠[]->out.length+1<=ps.length+rs.length:=by
 induction h with
 | nil=>intro h;exact absurd rfl h
 | @lt p w v ps r rs out hl hm ih=>
  intro _
  cases ps with
  | nil=>cases hm
  | cons y ps=>
   have:=ih (by simp)
   simp only[zcc6] at this ⊢
   omega
 | @eq p w ps r rs out hm ih=>
  intro _
  cases ps with
  | nil=>cases hm;simp
  | cons y ps=>
   have:=ih (by simp)
   simp only[zcc6] at this ⊢
   omega
 | gt hl _ ih=>
  intro _
  have:=ih (by simp)
  simp only[zcc6] at this ⊢
  omega
theorem Mrg.sumL(h:Mrg ps rs out)(f:α->Int):(out.map fun x=>x.2.2*f x.1).sum=(ps.map fun x=>x.2*f x.1).sum:=by
 induction h with
 | nil=>rfl
 | lt hl _ ih=>simp only[zcb1,zcc8];rw[ih]
 | eq _ ih=>simp only[zcb1,zcc8];rw[ih]
 | gt hl _ ih=>simp only[zcb1,zcc8] at ih ⊢;rw[ih,Int.sub_mul];omega
theorem Mrg.sumR(h:Mrg ps rs out)(f:β->Int):(out.map fun x=>x.2.2*f x.2.1).sum=(rs.map fun x=>x.2*f x.1).sum:=by
 induction h with
 | nil=>rfl
 | lt hl _ ih=>simp only[zcb1,zcc8] at ih ⊢;rw[ih,Int.sub_mul];omega
 | eq _ ih=>simp only[zcb1,zcc8];rw[ih]
 | gt hl _ ih=>simp only[zcb1,zcc8];rw[ih]
theorem Mrg.memL(h:Mrg ps rs out):∀ x∈out,x.1∈ps.map (·.1)/\x.2.1∈rs.map (·.1):=by
 induction h with
 | nil=>intro x hx;cases hx
 | lt hl _ ih=>
  intro x hx
  rcases zca6.mp hx with rfl|hx
  ·exact⟨.head _,.head _⟩
  ·exact⟨.tail _ (ih x hx).1,(ih x hx).2⟩
 | eq _ ih=>
  intro x hx
  rcases zca6.mp hx with rfl|hx
  ·exact⟨.head _,.head _⟩
  ·exact⟨.tail _ (ih x hx).1,.tail _ (ih x hx).2⟩
 | gt hl _ ih=>
  intro x hx
  rcases zca6.mp hx with rfl|hx
  ·exact⟨.head _,.head _⟩
  ·exact⟨(ih x hx).1,.tail _ (ih x hx).2⟩
end
def cutR{β:Type}(xs:List (β×Int))(k:Nat)(u:Int):List (β×Int):=match xs.drop k with
 | []=>[]
 | (r,v) :: t=>(r,v - u) :: t
theorem zx4{β:Type}{xs:List (β×Int)}{k:Nat}{u:Int}{x:β×Int}(h:xs[k]?=some x):cutR xs k u=(x.1,x.2 - u) :: xs.drop (k+1):=by
 unfold cutR
 rw[zcf0 (zbz6.mp h).1,(zbz6.mp h).2]
theorem zm6{β:Type}{xs:List (β×Int)}{k:Nat}:cutR xs k 0=xs.drop k:=by
 unfold cutR
 split
 ·rename_i e;rw[e]
 ·rename_i e;rw[e,Int.sub_zero]
theorem zv9{α β:Type}(f:α->β):∀ {ps:List β}{l:List α},ps.Perm (l.map f)->∃ l':List α,l'.Perm l/\l'.map f=ps
 | [],l,h=>by
  have e:=List.length_eq_zero_iff.mp (by rw[← zbz4 (f:=f),← h.length_eq];rfl:l.length=0)
  exact⟨[],by rw[e],rfl⟩
 | y :: ps,l,h=>by
  obtain⟨x,hx,rfl⟩:=zca9.mp (h.mem_iff.mp (zce2 (a:=y)))
  obtain⟨l1,l2,rfl⟩:=List.append_of_mem hx
  have h2:ps.Perm ((l1++l2).map f):=by
   refine List.Perm.cons_inv (a:=f x) (h.trans ?_)
   rw[zcb7,zcb1,zcb7]
   exact List.perm_middle
  obtain⟨l',q1,q2⟩:=zv9 f h2
  exact⟨x :: l',(q1.cons x).trans List.perm_middle.symm,by rw[zcb1,q2]⟩
def rwF(xs:List (Int×Int×Int)):List ((Int×Int)×Int):=xs.map fun x=>((x.1,x.2.1),x.2.2)
def outM(out:List (List Int×(Int×Int)×Int)):List (List Int×Int):=out.map fun z=>(z.1++[z.2.1.2],z.2.2)
@[irreducible] def zj8:Sp:=fun vs H Q _=>∃ (a r:Addr) (ts:List (Addr×Addr)) (ms:List (List Int×Int)) (bs:List Addr) (xs:List (Int×Int×Int)),vs=[.ref a,.ref r]/\zc3 H a ts ms/\RwAt H r bs xs/\(∀ x∈ms,1<=x.2)/\(∀ x∈xs,1<=x.2.2) /\
 tot ms=tot (rwF xs)/\ms.length<=1000/\xs.length<=1000/\(∀ x∈ms,x.1.length<=1000)/\∀ p ts' out H',H p=none->Same H H'->zc3 H' p ts' (outM out)->Mrg ms (rwF xs) out->Q (.ref p) H'
theorem zav3{a r:Addr}{bs:List Addr}(M:zc3 H a ts ms)(R:RwAt H r bs xs)(h1:∀ x∈ms,1<=x.2)(h2:∀ x∈xs,1<=x.2.2)(ht:tot ms=tot (rwF xs))(hm:ms.length<=1000)(hx:xs.length<=1000)(hp:∀ x∈ms,x.1.length<=1000)(q:∀ p ts' out H',H p=none->Same H H'->zc3 H' p ts' (outM out)->Mrg ms (rwF xs) out->Q (.ref p) H'):zj8 [.ref a,.ref r] H Q E:=by unfold zj8;exact⟨a,r,ts,ms,bs,xs,rfl,M,R,h1,h2,ht,hm,hx,hp,q⟩
theorem zaj3{k:Nat}{x:Int×Int×Int}(h:xs[k]?=some x):(rwF xs)[k]?=some ((x.1,x.2.1),x.2.2):=by unfold rwF;rw[zbz9,h];rfl
theorem zbt5{α:Type}{l:List α}{x:α}(h:l[i]?=some x):l.drop i=x :: l.drop (i+1):=by
 rw[zcf0 (zbz6.mp h).1,(zbz6.mp h).2]
structure SO(ms:List (List Int×Int))(xs:List (Int×Int×Int))(out:List (List Int×(Int×Int)×Int))(k:Nat)(u:Int)(pend:List (List Int×Int)):Prop where
 ku:k<=xs.length
 u0:0<=u
 ul:∀ x,xs[k]?=some x->u<x.2.2
 ue:k=xs.length->u=0
 tt:tot pend=tot (cutR (rwF xs) k u)
 go:∀ fin,Mrg pend (cutR (rwF xs) k u) fin->Mrg ms (rwF xs) (out++fin)
theorem SO.at{ms:List (List Int×Int)}{xs:List (Int×Int×Int)}{out:List (List Int×(Int×Int)×Int)}{k:Nat}{u:Int}{pend:List (List Int×Int)}(S:SO ms xs out k u pend)(h:0<tot pend):∃ x,xs[k]?=some x:=by
 have ku:=S.ku
 by_cases z:k<xs.length
 ·exact⟨_,zbz5 z⟩
 ·have e:k=xs.length:=by rfl'
  have t:=S.tt
  have e2:cutR (rwF xs) k u=[]:=by
   unfold cutR
   rw[zcg7 (by unfold rwF;rw[zbz4];omega)]
  rw[e2] at t
  have:tot ([]:List ((Int×Int)×Int))=0:=rfl
  omega
section
variable {ms:List (List Int×Int)}{xs:List (Int×Int×Int)}{out:List (List Int×(Int×Int)×Int)}{k:Nat}{u w:Int}{pl:List Int}{rest:List (List Int×Int)}{x:Int×Int×Int}
theorem SO.lt(S:SO ms xs out k u ((pl,w) :: rest))(hx:xs[k]?=some x)(h0:0<w)(h:w<x.2.2 - u):SO ms xs (out++[(pl,(x.1,x.2.1),w)]) k (u+w) rest:=by
 have u0:=S.u0
 have e1:=zx4 (u:=u) (zaj3 hx)
 have e2:=zx4 (u:=u+w) (zaj3 hx)
 have t:=S.tt
 rw[e1,zg8,zg8] at t
 dsimp only at t
 refine⟨S.ku,by rfl',fun y hy=>by rw[hx] at hy;cases hy;omega,fun z=>by have:=(zbz6.mp hx).1;omega,?_,fun fin hf=>?_⟩
 ·rw[e2,zg8];dsimp only;omega
 ·rw[e2] at hf
  have hf:Mrg rest (((x.1,x.2.1),x.2.2 - (u+w)) :: (rwF xs).drop (k+1)) fin:=hf
  have:=S.go ((pl,(x.1,x.2.1),w) :: fin) (by rw[e1];exact .lt h (by rw[show x.2.2 - u - w=x.2.2 - (u+w) by rfl'];exact hf))
  rw[List.append_assoc]
  exact this
theorem SO.next{f:Int}(S:SO ms xs out k u ((pl,w) :: rest))(hx:xs[k]?=some x)(hpos:∀ x∈xs,1<=x.2.2):(k+1<=xs.length)/\(∀ y,xs[k+1]?=some y->(0:Int)<y.2.2):=
 ⟨(zbz6.mp hx).1,fun y hy=>hpos y (zca0 hy)⟩
theorem SO.eq(S:SO ms xs out k u ((pl,w) :: rest))(hx:xs[k]?=some x)(hpos:∀ x∈xs,1<=x.2.2)(h:w=x.2.2 - u):SO ms xs (out++[(pl,(x.1,x.2.1),w)]) (k+1) 0 rest:=by
 have e1:=zx4 (u:=u) (zaj3 hx)
 have t:=S.tt
 rw[e1,zg8,zg8] at t
 dsimp only at t
 refine⟨(zbz6.mp hx).1,by rfl',fun y hy=>hpos y (zca0 hy),fun _=>rfl,?_,fun fin hf=>?_⟩
 ·rw[zm6];omega
 ·rw[zm6] at hf
  have:=S.go ((pl,(x.1,x.2.1),w) :: fin) (by rw[e1,← h];exact .eq hf)
  rw[List.append_assoc]
  exact this
theorem SO.gt(S:SO ms xs out k u ((pl,w) :: rest))(hx:xs[k]?=some x)(hpos:∀ x∈xs,1<=x.2.2)(h:x.2.2 - u<w):SO ms xs (out++[(pl,(x.1,x.2.1),x.2.2 - u)]) (k+1) 0 ((pl,w - (x.2.2 - u)) :: rest):=by
 have e1:=zx4 (u:=u) (zaj3 hx)
 have t:=S.tt
 rw[e1,zg8,zg8] at t
 dsimp only at t
 refine⟨(zbz6.mp hx).1,by rfl',fun y hy=>hpos y (zca0 hy),fun _=>rfl,?_,fun fin hf=>?_⟩
 ·rw[zm6,zg8];dsimp only;omega
 ·rw[zm6] at hf
  have:=S.go ((pl,(x.1,x.2.1),x.2.2 - u) :: fin) (by rw[e1];exact .gt h hf)
  rw[List.append_assoc]
  exact this
end
theorem zbd5(out:List (List Int×(Int×Int)×Int))(z:List Int×(Int×Int)×Int):outM (out++[z])=outM out++[(z.1++[z.2.1.2],z.2.2)]:=by unfold outM;rw[zcb7];rfl
theorem zax6(F:Fun K "sent_on" "sent_on" zaa9 f fd)(N:Nm mg):FnOk P w K mg base CX0 1 f fd ["begun","row"] zj8:=by
 refine F.ok zc8 (fun vs H Q E h=>by unfold zj8 at h;obtain⟨_,_,_,_,_,_,rfl,_⟩:=h;rfl) fun _ _ _ s H vs Q E hr h=>?_
 unfold zj8 at h
 obtain⟨a,r,ts,ms,bs,xs,rfl,M,R,h1,h2,ht,hm,hx,hp,q⟩:=h
 have hu:=hu40 hr
 have ml:=M.len
 have rl:=R.len
 refine⟨_,(za2 (psS (i:=2) zc8.nd (zu7 za1))
   (za2 (psS (i:=3) zc8.nd za3)
   (za2 (psS (i:=4) zc8.nd za3)
   (za2 (zah4 PassesOwn.never rfl (zf1 (K:=K) rfl (pq 0)) (zi3 (K:=K) (n:=2) rfl rfl (zb0 (za7 (i:=5) zc8.nd rfl (by eq_refl)) (zb0 (za7 (i:=6) zc8.nd rfl (by eq_refl)) zi4))) (za2 (psS (i:=7) zc8.nd (pq 6))
   (za6 (zbd2 PassesOwn.never (ptC oGt (pq 7) za3) (za2 (psS (i:=8) zc8.nd (pB (cMinK (K:=K) rfl rfl) N.min_ bt_min (za0 (pq 7) (za0 (zd8 oSub (zc7 (K:=K) rfl (zc7 (K:=K) rfl (pq 1) (pq 3)) za3) (pq 4)) za1))))
   (za2 (zk9 (zl9 (pq 2) (za0 (zy1 (za0 (zd8 oAdd (pq 5) (zu7 (za0 (zc7 (K:=K) rfl (zc7 (K:=K) rfl (pq 1) (pq 3)) za3) za1))) (za0 (pq 8) za1))) za1)))
   (za2 (zbg9 (i:=7) zc8.nd ipSub (pq 8))
   (za2 (zbg9 (i:=4) zc8.nd ipAdd (pq 8))
   (za6 (psIf (ptC (zab5 (K:=K) rfl (by exact hu)) (pq 4) (zc7 (K:=K) rfl (zc7 (K:=K) rfl (pq 1) (pq 3)) za3)) (za2 (zbg9 (i:=3) zc8.nd ipAdd za3)
   (za6 (psS (i:=4) zc8.nd za3))) zf8))))))))))
   (za6 (zb2 (pq 2))))))),?_⟩
 refine zi7 (fun l H1 f1 s1 hl=>?_)
 refine zb4 (s1 _ _ M.out) ?_
 refine zl8 (xs:=ts.map fun t=>V.ref t.1) (fun i σ I=>∃ (x5 x6 x7 x8:Option V) (ts':List (Addr×Addr)) (out:List (List Int×(Int×Int)×Int)) (k:Nat) (u:Int),σ=[some (.ref a),some (.ref r),some (.ref l),some (.int k),some (.int u),x5,x6,x7,x8]/\Same H I/\zc3 I l ts' (outM out)/\Off l ts'/\out.length<=i+k/\SO ms xs out k u (ms.drop i)) ?_ ?_ ?_ ?_
 ·refine⟨none,none,none,none,[],[],0,0,rfl,s1,⟨hl,rfl,fun i t x e=>by simp at e⟩,(fun t ht=>by cases ht),zcb0 _,⟨zcd0 _,Int.le_refl _,fun x hx=>h2 x (zca0 hx),fun _=>rfl,by rw[zm6];exact ht,fun fin hf=>?_⟩⟩
  rw[zm6] at hf
  exact hf
 ·rintro i σ I hi ⟨x5,x6,x7,x8,ts',out,k,u,rfl,sI,_⟩
  exact SqL.of (sI _ _ M.out)
 ·rintro i v σ I hv ⟨x5,x6,x7,x8,ts',out,k,u,rfl,sI,M',O',ol,S⟩
  obtain⟨t,x,rfl,et,ex,e3,e4⟩:=M.elt hv
  have il:=(zbz6.mp ex).1
  have x1:=h1 x (zca0 ex)
  have xl:=hp x (zca0 ex)
  rw[zbt5 ex] at S
  refine ze6 (sI _ _ e3) ?_
  refine zas9 (fun σ I=>∃ (x8:Option V) (ts':List (Addr×Addr)) (out:List (List Int×(Int×Int)×Int)) (k:Nat) (u w:Int),σ=[some (.ref a),some (.ref r),some (.ref l),some (.int k),some (.int u),some (.ref t.2),some (.int x.2),some (.int w),x8]/\Same H I/\zc3 I l ts' (outM out)/\Off l ts'/\0<=w/\(0<w->out.length<=i+k/\SO ms xs out k u ((x.1,w) :: ms.drop (i+1)))/\(w=0->out.length<=i+1+k/\SO ms xs out k u (ms.drop (i+1)))) (fun σ _=>match σ with | [_,_,_,some (.int k),_,_,_,some (.int w),_]=>xs.length - k.toNat+(if 0<w then 1 else 0)|_=>0) ?_ ?_
  ·exact⟨_,ts',out,k,u,x.2,rfl,sI,M',O',by rfl',fun _=>⟨ol,S⟩,fun z=>by rfl'⟩
  ·clear S ol O' M' sI ts' out
   rintro σ I ⟨x8,ts',out,k,u,w,rfl,sI,M',O',w0,A1,A2⟩
   ac_nf
   refine zaz0 (fun hw=>?_) (fun hw=>?_)
   ·obtain⟨ol,S⟩:=A1 hw
    have t0:=(zar3 (l:=ms.drop (i+1)) fun y hy=>h1 y (List.mem_of_mem_drop hy)).1
    obtain⟨y,ey⟩:=S.at (by rw[zg8];dsimp only;omega)
    have kl:=(zbz6.mp ey).1
    obtain⟨b,eb⟩:∃ b,bs[k]?=some b:=⟨_,zbz5 (by rfl')⟩
    have hy:=R.row k b y eb ey
    have uy:=S.ul y ey
    have u0:=S.u0
    have atb:atI (bs.map V.ref) (k:Int)=some (.ref b):=zh3 (by rw[zbz9,eb];rfl)
    refine zf6 (v:=.ref b) (sI _ _ R.out) atb ?_
    refine zh1 (v:=.int y.2.2) (sI _ _ hy) rfl ?_
    ac_nf
    obtain⟨tk,etk⟩:∃ tk:Int,(if y.2.2 - u<w then y.2.2 - u else w)=tk:=⟨_,rfl⟩
    rw[etk]
    have htk:(w<y.2.2 - u/\tk=w)∨(w=y.2.2 - u/\tk=w)∨(y.2.2 - u<w/\tk=y.2.2 - u):=by
     split at etk<;>omega
    refine zac8 M'.out ?_
    refine zf6 (v:=.ref b) (sI _ _ R.out) atb ?_
    refine zh1 (v:=.int y.2.1) (sI _ _ hy) rfl ?_
    refine zi7 (fun p1 I1 g1 r1 k1=>?_)
    refine zay8 (r1 _ _ (sI _ _ e4)) k1 (by rw[zbz4,zci4];simp only[zcc6,List.length_nil];omega) (fun p2 I2 g2 r2 k2=>?_)
    refine zi5 (fun p3 I3 g3 r3 k3=>?_)
    have s3:=r1.trans (r2.trans r3)
    have M3:=M'.same s3
    have n2:p2≠l:=fun z=>by rw[z,r1 _ _ M'.out] at g2;cases g2
    have n3:p3≠l:=fun z=>by rw[z,r2 _ _ (r1 _ _ M'.out)] at g3;cases g3
    refine zaj0 M3.out (by have:=M3.len;unfold outM at this;rw[zbz4] at this;rw[zbz4,zci4];omega) (fun I4 c4 k4=>?_)
    have M4:=M3.push c4 O' k4 (x:=(x.1++[y.2.1],tk)) (c4 _ _ n3 k3) (c4 _ _ n2 (by rw[zcb7];exact r3 _ _ k2))
    have sI4:Same H I4:=fun b o e=>c4 _ _ (fun z=>by rw[z,f1] at e;cases e) (s3 _ _ (sI _ _ e))
    have O4:=O'.push n3 n2
    rw[show outM out++[(x.1++[y.2.1],tk)]=outM (out++[(x.1,(y.1,y.2.1),tk)]) from (zbd5 out (x.1,(y.1,y.2.1),tk)).symm] at M4
    have ll:(out++[(x.1,(y.1,y.2.1),tk)]).length=out.length+1:=by rw[zca8];rfl
    refine zf6 (v:=.ref b) (sI4 _ _ R.out) atb ?_
    refine zh1 (v:=.int y.2.2) (sI4 _ _ hy) rfl ?_
    rcases htk with ⟨z1,rfl⟩|⟨z1,rfl⟩|⟨z1,rfl⟩
    ·have SA:=S.lt ey hw z1
     refine br_dF (by rfl') ?_
     ac_nf
     refine⟨⟨_,_,_,k,_,_,rfl,sI4,M4,O4,by rfl',fun z=>by rfl',fun _=>⟨by rw[ll];omega,SA⟩⟩,?_⟩
     show xs.length - (k:Int).toNat+(if 0<tk - tk then 1 else 0)<xs.length - (k:Int).toNat+(if 0<tk then 1 else 0)
     rw[if_neg (by rfl'),if_pos hw];omega
    ·have SB:=S.eq ey h2 z1
     refine zax7 (by rfl') ?_
     ac_nf
     refine⟨⟨_,_,_,k+1,_,_,rfl,sI4,M4,O4,by rfl',fun z=>by rfl',fun _=>⟨by rw[ll];omega,SB⟩⟩,?_⟩
     show xs.length - ((k:Int)+1).toNat+(if 0<tk - tk then 1 else 0)<xs.length - (k:Int).toNat+(if 0<tk then 1 else 0)
     rw[if_neg (by rfl'),if_pos hw];omega
    ·have SC:=S.gt ey h2 z1
     refine zax7 (by rfl') ?_
     ac_nf
     refine⟨⟨_,_,_,k+1,_,_,rfl,sI4,M4,O4,by rfl',fun z=>⟨by rw[ll];omega,SC⟩,fun z=>by rfl'⟩,?_⟩
     show xs.length - ((k:Int)+1).toNat+(if 0<w - (y.2.2 - u) then 1 else 0)<xs.length - (k:Int).toNat+(if 0<w then 1 else 0)
     rw[if_pos (by rfl'),if_pos hw];omega
   ·obtain⟨ol,S⟩:=A2 (by rfl')
    ac_nf
    exact⟨_,_,_,_,ts',out,k,u,rfl,sI,M',O',by rfl',S⟩
 ·rintro σ I ⟨x5,x6,x7,x8,ts',out,k,u,rfl,sI,M',O',ol,S⟩
  ac_nf
  have e0:ms.drop (ts.map fun t=>V.ref t.1).length=[]:=zcg7 (by rw[zbz4];omega)
  rw[e0] at S
  have ku:=S.ku
  have en:cutR (rwF xs) k u=[]:=by
   by_cases z:k<xs.length
   ·obtain⟨y,ey⟩:∃ y,xs[k]?=some y:=⟨_,zbz5 z⟩
    have t:=S.tt
    rw[zx4 (zaj3 ey),zg8] at t
    have t0:=(zar3 (l:=(rwF xs).drop (k+1)) fun y hy=>by
     unfold rwF at hy
     obtain⟨z,hz,rfl⟩:=zca9.mp (List.mem_of_mem_drop hy)
     exact h2 z hz).1
    have:=S.ul y ey
    have:tot ([]:List (List Int×Int))=0:=rfl
    dsimp only at t
    omega
   ·unfold cutR
    rw[zcg7 (by unfold rwF;rw[zbz4];omega)]
  have g:=S.go [] (by rw[en];exact .nil)
  rw[List.append_nil] at g
  exact q l ts' out I f1 sI M' g
theorem zz5{d:PyData}:∀ {ds:List PyData},d∈ds->d.depth<=PyData.depthAll ds
 | [],h=>by cases h
 | e :: ds,h=>by
  rw[show PyData.depthAll (e :: ds)=max e.depth (PyData.depthAll ds) from rfl]
  rcases zca6.mp h with rfl|h
  ·exact Nat.le_max_left _ _
  ·exact zcd9 (zz5 h) (Nat.le_max_right _ _)
def okD(n:Nat)(d:PyData):Prop:=sml d=true/\d.canLay0=true/\d.depth<=n
def Rd(H:Hp)(v:V)(n:Nat):Prop:=∃ d,ShV H v d/\okD n d/\(za8 d).length<60
theorem Rd.same{H H':Hp}{v:V}{n:Nat}(h:Rd H v n)(s:Same H H'):Rd H' v n:=by obtain⟨d,h1,h2⟩:=h;exact⟨d,h1.same s,h2⟩
theorem okD.up{n m:Nat}{d:PyData}(h:okD n d)(l:n<=m):okD m d:=⟨h.1,h.2.1,zcd9 h.2.2 l⟩
theorem Rd.up{H:Hp}{v:V}{n m:Nat}(h:Rd H v n)(l:n<=m:=by decide):Rd H v m:=by obtain⟨d,h1,h2⟩:=h;exact⟨d,h1,h2.1.up l,h2.2⟩
theorem Rd.int{H:Hp}(i:Int)(n:Nat):Rd H (.int i) n:=⟨.int i,.int i,⟨rfl,rfl,zcd0 _⟩,by show (0:Nat)<60;decide⟩
theorem Rd.non{H:Hp}(n:Nat):Rd H .non n:=⟨.none,.non,⟨rfl,rfl,zcd0 _⟩,by show (0:Nat)<60;decide⟩
theorem zbo0(h:∀ d∈ds,d.canLay0=true):PyData.canLayAll0 ds=true:=by
 induction ds with
 | nil=>rfl
 | cons d ds ih=>
  show (d.canLay0&&PyData.canLayAll0 ds)=true
  rw[h d (.head _),ih fun x hx=>h x (.tail _ hx)];rfl
theorem zu5:∀ {ds:List PyData},PyData.canLayAll0 ds=true->∀ d∈ds,d.canLay0=true
 | [],_,d,h=>by cases h
 | e :: ds,h,d,hd=>by
  have h:(e.canLay0&&PyData.canLayAll0 ds)=true:=h
  rw[zca5] at h
  rcases zca6.mp hd with rfl|hd
  ·exact h.1
  ·exact zu5 h.2 d hd
theorem zbm1{n:Nat}(h:∀ d∈ds,d.depth<=n):PyData.depthAll ds<=n:=by
 induction ds with
 | nil=>exact zcd0 _
 | cons d ds ih=>
  rw[show PyData.depthAll (d :: ds)=max d.depth (PyData.depthAll ds) from rfl]
  exact Nat.max_le.mpr ⟨h d (.head _),ih fun x hx=>h x (.tail _ hx)⟩
theorem okD.list{n:Nat}{ds:List PyData}(l:ds.length<=1000)(h:∀ d∈ds,okD n d):okD (n+1) (.list ds):=
 ⟨by simp only[sml,zca5,decide_eq_true_eq];exact⟨by rfl',zo6 fun d hd=>(h d hd).1⟩,zbo0 fun d hd=>(h d hd).2.1,Nat.succ_le_succ (zbm1 fun d hd=>(h d hd).2.2)⟩
theorem okD.tuple{n:Nat}{ds:List PyData}(l:ds.length<=1000)(h:∀ d∈ds,okD n d):okD (n+1) (.tuple ds):=
 ⟨by simp only[sml,zca5,decide_eq_true_eq];exact⟨by rfl',zo6 fun d hd=>(h d hd).1⟩,zbo0 fun d hd=>(h d hd).2.1,Nat.succ_le_succ (zbm1 fun d hd=>(h d hd).2.2)⟩
theorem Rd.lst{H:Hp}{a:Addr}{xs:List V}{n:Nat}(e:H a=some (.lst xs))(l:xs.length<60)(h:∀ x∈xs,Rd H x n):Rd H (.ref a) (n+1):=by
 obtain⟨ds,h1,h2⟩:=ShL.ex (P:=fun d=>okD n d) fun x hx=>by obtain⟨d,h1,h2,_⟩:=h x hx;exact⟨d,h1,h2⟩
 exact⟨.list ds,.lst e h1,okD.list (by rw[← h1.len];omega) h2,by show ds.length<60;rw[← h1.len];exact l⟩
theorem Rd.tup{H:Hp}{a:Addr}{xs:List V}{n:Nat}(e:H a=some (.tup xs))(l:xs.length<60)(h:∀ x∈xs,Rd H x n):Rd H (.ref a) (n+1):=by
 obtain⟨ds,h1,h2⟩:=ShL.ex (P:=fun d=>okD n d) fun x hx=>by obtain⟨d,h1,h2,_⟩:=h x hx;exact⟨d,h1,h2⟩
 exact⟨.tuple ds,.tup e h1,okD.tuple (by rw[← h1.len];omega) h2,by show (0:Nat)<60;decide⟩
theorem zag2:∀ {n:Nat}{d:PyData},d.depth<=n->d.canLay0=true->d.eqv d=true
 | _,.none,_,_=>rfl
 | _,.bool b,_,_=>by show (b==b)=true;exact beq_self_eq_true _
 | _,.int i,_,_=>by show (i==i)=true;exact beq_self_eq_true _
 | _,.str x,_,_=>by show (x==x)=true;exact beq_self_eq_true _
 | 0,.list ds,h,_=>by have h:PyData.depthAll ds+1<=0:=h;omega
 | 0,.tuple ds,h,_=>by have h:PyData.depthAll ds+1<=0:=h;omega
 | n+1,.list ds,h,c=>by
  have h:PyData.depthAll ds+1<=n+1:=h
  have c:PyData.canLayAll0 ds=true:=c
  show PyData.eqvAll ds ds=true
  exact all ds (fun d hd=>zag2 (n:=n) (zcd9 (zz5 hd) (by rfl')) (zu5 c d hd))
 | n+1,.tuple ds,h,c=>by
  have h:PyData.depthAll ds+1<=n+1:=h
  have c:PyData.canLayAll0 ds=true:=c
  show PyData.eqvAll ds ds=true
  exact all ds (fun d hd=>zag2 (n:=n) (zcd9 (zz5 hd) (by rfl')) (zu5 c d hd))
 | _,.dict _,_,c=>by cases (show false=true from c)
where all:∀ ds:List PyData,(∀ d∈ds,d.eqv d=true)->PyData.eqvAll ds ds=true
 | [],_=>rfl
 | d :: ds,h=>by
  show (d.eqv d&&PyData.eqvAll ds ds)=true
  rw[h d (.head _),all ds fun x hx=>h x (.tail _ hx)];rfl
theorem okD.eqv{n:Nat}{d:PyData}(h:okD n d):d.eqv d=true:=zag2 h.2.2 h.2.1
theorem zz7:∀ {ns:List Int},(∀ x∈ns,0<=x)->(∀ x∈ns,x<=ns.sum)/\0<=ns.sum
 | [],_=>⟨fun x h=>by (cases h),Int.le_refl _⟩
 | n :: ns,h=>by
  have h0:=h n (.head _)
  obtain⟨i1,i2⟩:=zz7 (ns:=ns) fun y hy=>h y (.tail _ hy)
  rw[zcc8]
  refine⟨fun x hx=>?_,by rfl'⟩
  rcases zca6.mp hx with rfl|hx
  ·omega
  ·have:=i1 x hx;omega
section
variable {κ μ:Type}[DecidableEq κ] [DecidableEq μ]
def atG(zs:List (κ×Int))(k:κ):Int:=((zs.filter fun z=>decide (z.1=k)).map (·.2)).sum
theorem zr8{kv:List (κ×Int)}{k:κ}:k ∉ kv.map (·.1)->valG kv k=none:=by
 induction kv with
 | nil=>intro _;rfl
 | cons z kv ih=>
  intro h
  rw[zcb1,zca6,not_or] at h
  rw[zj3 (fun e=>h.1 e.symm),ih h.2]
theorem zbj5(kv:List (κ×Int))(k j:κ)(n:Int):valG (kv.map fun z=>if z.1=k then (z.1,n) else z) j=if j=k then (if j∈kv.map (·.1) then some n else none) else valG kv j:=by
 induction kv with
 | nil=>by_cases e:j=k<;>simp[e,valG]
 | cons z kv ih=>
  rw[zcb1]
  by_cases ez:z.1=j
  ·subst ez
   by_cases ek:z.1=k
   ·rw[if_pos ek,if_pos ek,zj2 (z:=(z.1,n)) rfl,if_pos (by simp)]
   ·rw[if_neg ek,if_neg ek,zj2 rfl,zj2 rfl]
  ·have:¬ (if z.1=k then (z.1,n) else z).1=j:=by split<;>exact ez
   rw[zj3 this,ih,zj3 ez]
   by_cases ek:j=k
   ·rw[if_pos ek,if_pos ek]
    have:(j∈(z :: kv).map (·.1))↔j∈kv.map (·.1):=by
     rw[zcb1,zca6]
     exact⟨fun h=>h.resolve_left fun e=>ez e.symm,.inr⟩
    by_cases h:j∈kv.map (·.1)
    ·rw[if_pos h,if_pos (this.mpr h)]
    ·rw[if_neg h,if_neg fun z=>h (this.mp z)]
   ·rw[if_neg ek,if_neg ek]
theorem zaf9(kv:List (κ×Int))(k:κ):(kv.any fun z=>decide (z.1=k))=true↔k∈kv.map (·.1):=by
 rw[List.any_eq_true,zca9]
 exact⟨fun ⟨z,h1,h2⟩=>⟨z,h1,of_decide_eq_true h2⟩,fun ⟨z,h1,h2⟩=>⟨z,h1,decide_eq_true h2⟩⟩
theorem zbj4(kv:List (κ×Int))(z:κ×Int)(j:κ):valG (kv++[z]) j=match valG kv j with|some n=>some n|none=>if z.1=j then some z.2 else none:=by
 induction kv with
 | nil=>
  by_cases e:z.1=j
  ·show valG [z] j=if z.1=j then some z.2 else none;rw[zj2 e,if_pos e]
  ·show valG [z] j=if z.1=j then some z.2 else none;rw[zj3 e,if_neg e];rfl
 | cons y kv ih=>
  rw[List.cons_append]
  by_cases e:y.1=j
  ·rw[zj2 e,zj2 e]
  ·rw[zj3 e,zj3 e,ih]
theorem zbl3(kv:List (κ×Int))(k j:κ)(n:Int):valG (putG kv k n) j=if j=k then some n else valG kv j:=by
 unfold putG
 by_cases h:(kv.any fun z=>decide (z.1=k))=true
 ·rw[if_pos h,zbj5]
  by_cases e:j=k
  ·rw[if_pos e,if_pos e,if_pos (by rw[e];exact (zaf9 kv k).mp h)]
  ·rw[if_neg e,if_neg e]
 ·rw[if_neg h,zbj4]
  have hk:k ∉ kv.map (·.1):=fun z=>h ((zaf9 kv k).mpr z)
  by_cases e:j=k
  ·subst e
   rw[zr8 hk,if_pos rfl]
   first|done|exact if_pos rfl
  ·rw[if_neg e]
   cases valG kv j with
   | none=>exact if_neg fun z=>e z.symm
   | some m=>rfl
theorem zbk1(zs:List (κ×Int))(z:κ×Int)(k:κ):atG (zs++[z]) k=atG zs k+if z.1=k then z.2 else 0:=by
 unfold atG
 rw[List.filter_append,zcb7,List.sum_append]
 by_cases e:z.1=k
 ·rw[if_pos e,zce9,if_pos (decide_eq_true e)];simp
 ·rw[if_neg e,zce9,if_neg (by rw[decide_eq_false e];exact zca4)];simp
theorem zaf4(zs:List (κ×Int))(z:κ×Int)(k:κ):atG (z :: zs) k=(if z.1=k then z.2 else 0)+atG zs k:=by
 unfold atG
 by_cases e:z.1=k
 ·rw[if_pos e,zce9,if_pos (decide_eq_true e)];simp
 ·rw[if_neg e,zce9,if_neg (by rw[decide_eq_false e];exact zca4)];simp
theorem zat5{α:Type}{P:List α->Prop}(h0:P [])(hs:∀ xs x,P xs->P (xs++[x]))(xs:List α):P xs:=by
 have:∀ n (xs:List α),xs.length=n->P xs:=fun n=>by
  induction n with
  | zero=>intro xs h;rw[List.length_eq_zero_iff.mp h];exact h0
  | succ n ih=>
   intro xs h
   have hn:xs≠[]:=fun z=>by rw[z] at h;simp at h
   rw[← List.dropLast_concat_getLast hn]
   exact hs _ _ (ih _ (by rw[List.length_dropLast];omega))
 exact this _ xs rfl
theorem zl5(zs:List (κ×Int))(k:κ):valG (sumG zs) k=if k∈zs.map (·.1) then some (atG zs k) else none:=by
 induction zs using zat5 with
 | h0=>rfl
 | hs zs z ih=>
  rw[zy7]
  unfold addG
  rw[zbl3,zbk1]
  have mm:k∈(zs++[z]).map (·.1)↔(k∈zs.map (·.1)∨k∈[z].map (·.1)):=by rw[zcb7,zcd8]
  by_cases e:k=z.1
  ·subst e
   rw[if_pos rfl,if_pos (mm.mpr (.inr (by simp))),if_pos rfl,ih]
   by_cases h:z.1∈zs.map (·.1)
   ·rw[if_pos h];rfl
   ·rw[if_neg h]
    have:atG zs z.1=0:=by
     unfold atG
     rw[List.filter_eq_nil_iff.mpr fun y hy hd=>h (zca9.mpr ⟨y,hy,of_decide_eq_true hd⟩)];rfl
    rw[this];rfl
  ·have z0:(if z.1=k then z.2 else 0)=0:=if_neg fun q=>e q.symm
   rw[if_neg e,ih,z0,Int.add_zero]
   have:(k∈zs.map (·.1)∨k∈[z].map (·.1))↔k∈zs.map (·.1):=⟨fun h=>h.resolve_right fun q=>e (by simpa using q),.inl⟩
   by_cases h:k∈zs.map (·.1)
   ·rw[if_pos h,if_pos (mm.mpr (.inl h))]
   ·rw[if_neg h,if_neg fun q=>h (this.mp (mm.mp q))]
theorem zbk6(kv:List (κ×Int))(k:κ)(n:Int):(putG kv k n).map (·.1)=if k∈kv.map (·.1) then kv.map (·.1) else kv.map (·.1)++[k]:=by
 unfold putG
 by_cases h:(kv.any fun z=>decide (z.1=k))=true
 ·rw[if_pos h,if_pos ((zaf9 kv k).mp h),zcb4]
  refine zcb3 fun z _=>?_
  show (if z.1=k then (z.1,n) else z).1=z.1
  split<;>rfl
 ·rw[if_neg h,if_neg fun z=>h ((zaf9 kv k).mpr z),zcb7];rfl
theorem zg9(zs:List (κ×Int)):((sumG zs).map (·.1)).Nodup/\∀ k,k∈(sumG zs).map (·.1)↔k∈zs.map (·.1):=by
 induction zs using zat5 with
 | h0=>exact⟨List.nodup_nil,fun k=>Iff.rfl⟩
 | hs zs z ih=>
  rw[zy7]
  unfold addG
  rw[zbk6]
  by_cases h:z.1∈(sumG zs).map (·.1)
  ·rw[if_pos h]
   refine⟨ih.1,fun k=>?_⟩
   rw[ih.2,zcb7,zcd8]
   exact⟨.inl,fun q=>q.elim id fun q=>by rw[show k=z.1 by simpa using q];exact (ih.2 _).mp h⟩
  ·rw[if_neg h]
   refine⟨?_,fun k=>?_⟩
   ·rw[List.nodup_append]
    refine⟨ih.1,by simp,fun a ha b hb=>?_⟩
    rw[show b=z.1 by simpa using hb]
    exact fun q=>h (q▸ha)
   ·rw[zcd8,ih.2,zcb7,zcd8];rfl
theorem zar1{kv:List (κ×Int)}(nd:(kv.map (·.1)).Nodup){z:κ×Int}(h:z∈kv):valG kv z.1=some z.2:=by
 induction kv with
 | nil=>cases h
 | cons y kv ih=>
  rw[zcb1,zcg3] at nd
  rcases zca6.mp h with rfl|h
  ·exact zj2 rfl
  ·rw[zj3 (fun e=>nd.1 (e▸zca9.mpr ⟨z,h,rfl⟩))]
   exact ih nd.2 h
theorem atG_ge{zs:List (κ×Int)}(h1:∀ z∈zs,1<=z.2):∀ {k:κ},(0<=atG zs k)/\(k∈zs.map (·.1)->1<=atG zs k):=by
 induction zs with
 | nil=>exact fun {k}=>⟨Int.le_refl _,fun h=>by cases h⟩
 | cons z zs ih=>
  intro k
  obtain⟨i1,i2⟩:=ih (fun y hy=>h1 y (.tail _ hy)) (k:=k)
  have z1:=h1 z (.head _)
  rw[zaf4]
  by_cases e:z.1=k
  ·rw[if_pos e]
   exact⟨by rfl',fun _=>by rfl'⟩
  ·rw[if_neg e]
   refine⟨by rfl',fun h=>?_⟩
   rw[zcb1,zca6] at h
   have:=i2 (h.resolve_left fun q=>e q.symm)
   omega
theorem zay5{p:κ->Bool}{a:κ}{c:Int}:∀ {ks:List κ},ks.Nodup->((ks.filter p).map fun k=>if a=k then c else 0).sum=if a∈ks/\p a=true then c else 0
 | [],_=>by simp
 | k :: ks,nd=>by
  rw[zcg3] at nd
  have ih:=zay5 (p:=p) (a:=a) (c:=c) nd.2
  rw[zce9]
  by_cases e:a=k
  ·subst e
   have:¬ (a∈ks/\p a=true):=fun h=>nd.1 h.1
   rw[if_neg this] at ih
   by_cases hp:p a=true
   ·rw[if_pos hp,zcb1,zcc8,ih,if_pos rfl,if_pos ⟨.head _,hp⟩];omega
   ·rw[if_neg hp,ih,if_neg fun h=>hp h.2]
  ·have:(a∈k :: ks/\p a=true)↔(a∈ks/\p a=true):=by rw[zca6];exact⟨fun h=>⟨h.1.resolve_left e,h.2⟩,fun h=>⟨.inr h.1,h.2⟩⟩
   have st:∀ b,(if b=true then k :: ks.filter p else ks.filter p).map (fun k=>if a=k then c else 0)=if b=true then 0 :: (ks.filter p).map (fun k=>if a=k then c else 0) else (ks.filter p).map fun k=>if a=k then c else 0:=fun b=>by
    cases b
    ·rfl
    ·show (if a=k then c else 0) :: _=_
     rw[if_neg e];rfl
   rw[st]
   have s0:(if p k=true then (0:Int) :: (ks.filter p).map (fun k=>if a=k then c else 0) else (ks.filter p).map fun k=>if a=k then c else 0).sum=((ks.filter p).map fun k=>if a=k then c else 0).sum:=by
    split
    ·rw[zcc8,zch6]
    ·rfl
   rw[s0,ih]
   by_cases h:a∈ks/\p a=true
   ·rw[if_pos h,if_pos (this.mpr h)]
   ·rw[if_neg h,if_neg fun q=>h (this.mp q)]
theorem zar4{α:Type}(f g:α->Int):∀ xs:List α,(xs.map fun x=>f x+g x).sum=(xs.map f).sum+(xs.map g).sum
 | []=>rfl
 | x :: xs=>by
  have:=zar4 f g xs
  simp only[zcb1,zcc8]
  omega
theorem zag3{p:κ->Bool}{ks:List κ}(nd:ks.Nodup):∀ {zs:List (κ×Int)},(∀ z∈zs,z.1∈ks)->((ks.filter p).map (atG zs)).sum=((zs.filter fun z=>p z.1).map (·.2)).sum
 | [],_=>by
  have:((ks.filter p).map (atG ([]:List (κ×Int)))).sum=0:=by
   induction (ks.filter p) with
   | nil=>rfl
   | cons k l ih=>rw[zcb1,zcc8,ih];rfl
  rw[this];rfl
 | z :: zs,h=>by
  have ih:=zag3 (p:=p) nd (zs:=zs) fun y hy=>h y (.tail _ hy)
  have e:(ks.filter p).map (atG (z :: zs))=(ks.filter p).map fun k=>(if z.1=k then z.2 else 0)+atG zs k:=zcb3 fun k _=>zaf4 zs z k
  rw[e,zar4,zay5 nd,ih,zce9]
  by_cases hp:p z.1=true
  ·rw[if_pos ⟨h z (.head _),hp⟩,if_pos hp];rfl
  ·rw[if_neg fun q=>hp q.2,if_neg hp,zch6]
end
theorem zbs0{za zb:List (Int×Int)}(h:∀ k,valG (sumG za) k=valG (sumG zb) k):eqDI (sumG za) (sumG zb)=true:=by
 obtain⟨na,ma⟩:=zg9 za
 obtain⟨nb,mb⟩:=zg9 zb
 have keys:∀ k,k∈(sumG za).map (·.1)↔k∈(sumG zb).map (·.1):=fun k=>by
  rw[ma,mb]
  have:=h k
  rw[zl5,zl5] at this
  by_cases h1:k∈za.map (·.1)<;>by_cases h2:k∈zb.map (·.1)<;>simp[h1,h2] at this ⊢
 have len:=((List.perm_ext_iff_of_nodup na nb).mpr keys).length_eq
 rw[zbz4,zbz4] at len
 unfold eqDI
 rw[len,beq_self_eq_true,zcd1,zcb2]
 intro z hz
 have e:valI (sumG zb) z.1=valG (sumG zb) z.1:=rfl
 rw[e,← h,zar1 na hz]
 exact beq_self_eq_true _
theorem zz0{x y:Int×Int}:ltP x y=true↔x.1<y.1∨(x.1=y.1/\x.2<y.2):=by
 unfold ltP
 by_cases e:x.1=y.1
 ·rw[if_pos (by simpa using e)]
  by_cases e2:x.2=y.2
  ·rw[if_pos (by simpa using e2)]
   exact⟨fun h=>by (cases h),fun h=>by rfl'⟩
  ·rw[if_neg (by simpa using e2),decide_eq_true_iff];omega
 ·rw[if_neg (by simpa using e),decide_eq_true_iff];omega
def zs4(z:Int×Int×Int):PyData:=.tuple [.int z.1,.int z.2.1,.int z.2.2]
def zd1(xs:List (Int×Int×Int)):PyData:=.list (xs.map zs4)
def stmD(xss:List (List (Int×Int×Int))):PyData:=.list (xss.map zd1)
theorem zn3(xs:List (Int×Int×Int)):rowF (zd1 xs)=xs:=by
 unfold rowF zd1
 show (xs.map zs4).map triD=xs
 rw[zcb4]
 exact (zcb3 fun x _=>rfl).trans (List.map_id _)
theorem zr7{ns:List Int}(nn:∀ n∈ns,0<=n)(hi:i<ns.length):0<=ns.getD i 0/\ns.getD i 0<=(ns.drop i).sum/\(ns.drop i).sum - ns.getD i 0=(ns.drop (i+1)).sum:=by
 have e:ns.drop i=ns[i] :: ns.drop (i+1):=zcf0 hi
 have g:ns.getD i 0=ns[i]:=by rw[zbz8,zbz5 hi];rfl
 have z:=(zz7 (ns:=ns.drop (i+1)) fun n hn=>nn n (List.mem_of_mem_drop hn)).2
 rw[g,e,zcc8]
 exact⟨nn _ (zch9 hi),by rfl',by rfl'⟩
structure OkS(ms:List (List Int×Int))(h:Int)(f:Nat):Prop where
 ne:1<=ms.length
 f1:1<=f
 all:∀ x∈ms,(∀ n∈x.1,0<=n)/\x.1.length=f/\x.1.sum=h/\1<=x.2
theorem zam9(R:zr6 ms i xs){z:Int×Int×Int}(hz:z∈xs):∃ x∈ms,z.1=(x.1.drop i).sum/\z.2.1=x.1.getD i 0:=by
 have:keyT z∈(sumG (flw ms i)).map (·.1):=(R.2.1 _).mp (zca9.mpr ⟨z,hz,rfl⟩)
 rw[(zg9 _).2,zca9] at this
 obtain⟨y,hy,ey⟩:=this
 unfold flw at hy
 obtain⟨x,hx,rfl⟩:=zca9.mp hy
 have ey:((x.1.drop i).sum,x.1.getD i 0)=(z.1,z.2.1):=ey
 exact⟨x,hx,(congrArg Prod.fst ey).symm,(congrArg Prod.snd ey).symm⟩
theorem zn2{f:Nat}(O:OkS ms h f)(hi:i<f)(R:zr6 ms i xs){z:Int×Int×Int}(hz:z∈xs):0<=z.2.1/\z.2.1<=z.1/\z.2.2=atG (flw ms i) (keyT z)/\1<=z.2.2:=by
 obtain⟨x,hx,e1,e2⟩:=zam9 R hz
 obtain⟨nn,xl,_,_⟩:=O.all x hx
 obtain⟨a,b,_⟩:=zr7 nn (i:=i) (by rfl')
 have v:=R.2.2 z hz
 rw[zl5] at v
 have km:keyT z∈(flw ms i).map (·.1):=(zg9 _).2 _ |>.mp ((R.2.1 _).mp (zca9.mpr ⟨z,hz,rfl⟩))
 rw[if_pos km] at v
 have v:=Option.some.inj v
 have w:∀ y∈flw ms i,1<=y.2:=fun y hy=>by
  unfold flw at hy
  obtain⟨x,hx,rfl⟩:=zca9.mp hy
  exact (O.all x hx).2.2.2
 have g:=(atG_ge w (k:=keyT z)).2 km
 exact⟨by rfl',by rfl',v.symm,by rfl'⟩
theorem zbm2{f:Nat}(O:OkS ms h f)(hi:i<f)(R:zr6 ms i xs):rowD (zd1 xs)=true:=by
 show ((xs.map zs4).all zp5&&incD (xs.map zs4))=true
 rw[zca5]
 constructor
 ·rw[zcg2,zcb2]
  intro z hz
  obtain⟨a,b,_,c⟩:=zn2 O hi R hz
  show (decide ((0:Int)<=z.1)&&decide ((0:Int)<=z.2.1/\z.2.1<=z.1)&&decide ((1:Int)<=z.2.2))=true
  rw[decide_eq_true (show (0:Int)<=z.1 by rfl'),decide_eq_true (show (0:Int)<=z.2.1/\z.2.1<=z.1 from ⟨a,b⟩),decide_eq_true c];rfl
 ·unfold incD
  rw[zbz4,zcb2]
  intro j hj
  have hj:=zce6.mp hj
  have p:=zcg0.mp R.1.2 j (j+1) (by rw[zbz4];omega) (by rw[zbz4];omega) (by rfl')
  have g:∀ (j:Nat) (hj:j<xs.length),keyD ((xs.map zs4).getD j .none)=(xs.map keyT)[j]'(by rw[zbz4];exact hj):=fun j hj=>by
   rw[zbz8,zbz9,zbz5 hj,List.getElem_map];rfl
  rw[g j (by rfl'),g (j+1) (by rfl')]
  exact p
theorem zx8(R:zr6 ms i xs)(hv:∀ z∈xs,z.2.2=atG (flw ms i) (keyT z))(g:Int×Int->Int)(k:Int):valG (sumG (xs.map fun z=>(g (keyT z),z.2.2))) k=valG (sumG ((flw ms i).map fun z=>(g z.1,z.2))) k:=by
 rw[zl5,zl5]
 have mem:k∈(xs.map fun z=>(g (keyT z),z.2.2)).map (·.1)↔k∈((flw ms i).map fun z=>(g z.1,z.2)).map (·.1):=by
  rw[zcb4,zcb4,zca9,zca9]
  constructor
  ·rintro⟨z,hz,rfl⟩
   have:=(zg9 _).2 _ |>.mp ((R.2.1 _).mp (zca9.mpr ⟨z,hz,rfl⟩))
   obtain⟨y,hy,ey⟩:=zca9.mp this
   exact⟨y,hy,congrArg g ey⟩
  ·rintro⟨y,hy,rfl⟩
   have:y.1∈xs.map keyT:=(R.2.1 _).mpr ((zg9 _).2 _ |>.mpr (zca9.mpr ⟨y,hy,rfl⟩))
   obtain⟨z,hz,ez⟩:=zca9.mp this
   exact⟨z,hz,congrArg g ez⟩
 have at1:atG (xs.map fun z=>(g (keyT z),z.2.2)) k=(((xs.map keyT).filter fun q=>decide (g q=k)).map (atG (flw ms i))).sum:=by
  unfold atG
  rw[List.filter_map,List.filter_map,zcb4,zcb4]
  refine congrArg List.sum (zcb3 fun z hz=>?_)
  exact hv z (List.mem_filter.mp hz).1
 have at2:atG ((flw ms i).map fun z=>(g z.1,z.2)) k=(((flw ms i).filter fun z=>decide (g z.1=k)).map (·.2)).sum:=by
  unfold atG
  rw[List.filter_map,zcb4]
  rfl
 rw[at1,at2,zag3 (p:=fun q=>decide (g q=k)) R.1.1 fun z hz=>(R.2.1 _).mpr ((zg9 _).2 _ |>.mpr (zca9.mpr ⟨z,hz,rfl⟩))]
 by_cases h:k∈(xs.map fun z=>(g (keyT z),z.2.2)).map (·.1)
 ·rw[if_pos h,if_pos (mem.mp h)]
 ·rw[if_neg h,if_neg fun q=>h (mem.mpr q)]
theorem zbf7{f:Nat}{ys:List (Int×Int×Int)}(O:OkS ms h f)(hi:i+1<f)(R1:zr6 ms i xs)(R2:zr6 ms (i+1) ys):zs3 (zd1 xs) (zd1 ys)=true:=by
 unfold zs3
 rw[zn3,zn3]
 refine zbs0 fun k=>?_
 have a:=zx8 R1 (fun z hz=>(zn2 O (by rfl') R1 hz).2.2.1) (fun q=>q.1 - q.2) k
 have b:=zx8 R2 (fun z hz=>(zn2 O hi R2 hz).2.2.1) (fun q=>q.1) k
 have e:((flw ms i).map fun z=>(z.1.1 - z.1.2,z.2))=(flw ms (i+1)).map fun z=>(z.1.1,z.2):=by
  unfold flw
  rw[zcb4,zcb4]
  refine zcb3 fun x hx=>?_
  obtain⟨nn,xl,_,_⟩:=O.all x hx
  obtain⟨_,_,c⟩:=zr7 nn (i:=i) (by rfl')
  show ((x.1.drop i).sum - x.1.getD i 0,x.2)=((x.1.drop (i+1)).sum,x.2)
  rw[c]
 have a:valG (sumG (xs.map fun z=>(z.1 - z.2.1,z.2.2))) k=valG (sumG ((flw ms i).map fun z=>(z.1.1 - z.1.2,z.2))) k:=a
 have b:valG (sumG (ys.map fun z=>(z.1,z.2.2))) k=valG (sumG ((flw ms (i+1)).map fun z=>(z.1.1,z.2))) k:=b
 rw[a,e,b]
theorem stm_ok{f:Nat}(O:OkS ms h f)(S:zao9 ms f xss):zl3 h f (stmD xss)=true:=by
 have f1:=O.f1
 have gd:∀ (i:Nat) (hi:i<xss.length),(xss.map zd1).getD i .none=zd1 xss[i]:=fun i hi=>by
  rw[zbz8,zbz9,zbz5 hi];rfl
 have ri:∀ (i:Nat) (hi:i<xss.length),zr6 ms i xss[i]:=fun i hi=>(S.2 i _ (zbz5 hi)).1
 have sl:=S.1
 have l0:0<xss.length:=by rfl'
 have r0:=ri 0 l0
 obtain⟨x0,ex0⟩:∃ x,ms[0]?=some x:=⟨_,zbz5 (by have:=O.ne;omega)⟩
 have n0:0<(xss[0]).length:=by
  have:((x0.1.drop 0).sum,x0.1.getD 0 0)∈(xss[0]).map keyT:=(r0.2.1 _).mpr ((zg9 _).2 _ |>.mpr (by
   unfold flw
   rw[zcb4]
   exact zca9.mpr ⟨x0,zca0 ex0,rfl⟩))
  obtain⟨z,hz,_⟩:=zca9.mp this
  exact List.length_pos_of_mem hz
 have items:za8 (stmD xss)=xss.map zd1:=rfl
 unfold zl3
 rw[items]
 have b:zf2 (stmD xss)=true:=by
  show (decide (0<(xss.map zd1).length)&&rowD ((xss.map zd1).getD 0 .none)&&decide (0<(za8 ((xss.map zd1).getD 0 .none)).length))=true
  rw[gd 0 l0,zbz4,decide_eq_true l0,zbm2 O (by rfl') r0]
  show (true&&true&&decide (0<((xss[0]).map zs4).length))=true
  rw[zbz4,decide_eq_true n0];rfl
 have c1:decide ((((xss.map zd1).length:Nat):Int)=(f:Int))=true:=decide_eq_true (by rw[zbz4,sl])
 have c2:(xss.map zd1).all rowD=true:=by
  rw[zcg2,zcb2]
  intro xs hx
  obtain⟨i,ei⟩:=zcd3 hx
  exact zbm2 O (by have:=(zbz6.mp ei).1;omega) (S.2 i xs ei).1
 have c3:zba5 h ((xss.map zd1).getD 0 .none)=true:=by
  rw[gd 0 l0]
  unfold zba5
  rw[zn3,zcb2]
  intro z hz
  obtain⟨x,hx,e1,_⟩:=zam9 r0 hz
  rw[e1,List.drop_zero]
  exact decide_eq_true (O.all x hx).2.2.1
 have c4:goneD ((xss.map zd1).getD ((xss.map zd1).length - 1) .none)=true:=by
  rw[zbz4,gd (xss.length - 1) (by rfl')]
  unfold goneD
  rw[zn3,zcb2]
  intro z hz
  obtain⟨x,hx,e1,e2⟩:=zam9 (ri _ (by rfl')) hz
  obtain⟨nn,xl,_,_⟩:=O.all x hx
  obtain⟨_,_,c⟩:=zr7 nn (i:=xss.length - 1) (by rfl')
  rw[List.drop_of_length_le (i:=xss.length - 1+1) (by rfl')] at c
  have:([]:List Int).sum=0:=rfl
  rw[e1,e2]
  exact decide_eq_true (by rfl')
 have c5:zy2 (xss.map zd1)=true:=by
  unfold zy2
  rw[zbz4,zcb2]
  intro i hi
  have hi:=zce6.mp hi
  rw[gd i (by rfl'),gd (i+1) (by rfl')]
  exact zbf7 O (by rfl') (ri i (by rfl')) (ri (i+1) (by rfl'))
 rw[b,c1,c2,c3,c4,c5];rfl
theorem RwAt.shL{p:Addr}{bs:List Addr}(R:RwAt H p bs xs):ShL H (bs.map V.ref) (xs.map zs4):=ShL.idx (by rw[zbz4,zbz4,R.len]) fun i x d h1 h2=>by
 rw[zbz9] at h1 h2
 obtain⟨b,eb,rfl⟩:=zca3.mp h1
 obtain⟨z,ez,rfl⟩:=zca3.mp h2
 exact .tup (R.row i b z eb ez) (.cons (.int _) (.cons (.int _) (.cons (.int _) .nil)))
theorem RwAt.sh{p:Addr}{bs:List Addr}(R:RwAt H p bs xs):ShV H (.ref p) (zd1 xs):=.lst R.out R.shL
theorem StAt.sh{H:Hp}{p:Addr}{rs:List (Addr×List Addr)}{xss:List (List (Int×Int×Int))}(R:StAt H p rs xss):ShV H (.ref p) (stmD xss):=.lst R.out (ShL.idx (by rw[zbz4,zbz4,R.len]) fun i x d h1 h2=>by
 rw[zbz9] at h1 h2
 obtain⟨b,eb,rfl⟩:=zca3.mp h1
 obtain⟨z,ez,rfl⟩:=zca3.mp h2
 exact ((R.row i b z eb ez).same (zae9 _ _)).sh)
def row7(c:Bool)(xs:List (Int×Int×Int)):PyData:=.list (xs.map zs4++if c=true then [.int 7] else [])
theorem row7_F(xs:List (Int×Int×Int)):row7 false xs=zd1 xs:=by unfold row7 zd1;rw[if_neg zca4,List.append_nil]
theorem tri_ok(z:Int×Int×Int):okD 1 (zs4 z):=okD.tuple (n:=0) (by show 3<=1000;decide) fun d hd=>by
 simp only[zca6,zce4,or_false] at hd
 rcases hd with rfl|rfl|rfl<;>exact⟨rfl,rfl,zcd0 _⟩
theorem zbr4{c:Bool}(h:xs.length<64):okD 2 (row7 c xs):=okD.list (n:=1) (by rw[zca8,zbz4];split<;>simp<;>omega) fun d hd=>by
 rcases zcd8.mp hd with hd|hd
 ·obtain⟨z,_,rfl⟩:=zca9.mp hd;exact tri_ok z
 ·split at hd
  ·rw[zch0.mp hd];exact⟨rfl,rfl,zcd0 _⟩
  ·cases hd
theorem zbr0{c:Bool}(hl:xss.length<64)(h:∀ xs∈xss,xs.length<64):okD 3 (.list (xss.map (row7 c))):=okD.list (n:=2) (by rw[zbz4];omega) fun d hd=>by
 obtain⟨xs,hx,rfl⟩:=zca9.mp hd
 exact zbr4 (h xs hx)
theorem zbk7(xss:List (List (Int×Int×Int))):stmD xss=.list (xss.map (row7 false)):=by
 unfold stmD
 rw[zcb3 fun xs _=>(row7_F xs).symm]
def zg6(x:List Int×Int):PyData:=.tuple [.list (x.1.map PyData.int),.int x.2]
def zp6(ms:List (List Int×Int)):PyData:=.list (ms.map zg6)
theorem zbf1{p:Addr}{ns:List Int}(h:H p=some (.lst (ns.map V.int))):ShV H (.ref p) (.list (ns.map PyData.int)):=.lst h (ShL.idx (by rw[zbz4,zbz4]) fun i x d h1 h2=>by
 rw[zbz9] at h1 h2
 obtain⟨n,en,rfl⟩:=zca3.mp h1
 rw[en] at h2
 cases h2
 exact .int n)
theorem zc3.sh(M:zc3 H m ts ms):ShV H (.ref m) (zp6 ms):=.lst M.out (ShL.idx (by rw[zbz4,zbz4,M.len]) fun i x d h1 h2=>by
 obtain⟨t,y,rfl,e1,e2,e3,e4⟩:=M.elt h1
 rw[zbz9,e2] at h2
 cases h2
 exact .tup e3 (.cons (zbf1 e4) (.cons (.int _) .nil)))
theorem zbs7(ms:List (List Int×Int)):msD (zp6 ms)=ms:=by
 unfold msD zp6
 show (ms.map zg6).map _=ms
 rw[zcb4]
 exact (zcb3 fun x _=>by show (zab9 (zk6 (zg6 x)),x.2)=x;unfold zg6;rw[zm4]).trans (List.map_id _)
theorem zah8{x:List Int×Int}(e:ms[0]?=some x):zh2 (ms.map zg6)=x.1:=by
 unfold zh2
 rw[getD_some (d:=zg6 x) (by rw[zbz9,e];rfl)]
 exact zm4 x.1 x.2
theorem zba6{f:Nat}(O:OkS ms h f)(hh:0<=h/\h<=40)(hf:f<=8):mixD (zp6 ms)=true/\zn7 (zp6 ms)=f:=by
 obtain⟨x0,ex0⟩:∃ x,ms[0]?=some x:=⟨_,zbz5 (by have:=O.ne;omega)⟩
 obtain⟨_,l0,s0,_⟩:=O.all x0 (zca0 ex0)
 have f1:=O.f1
 refine⟨?_,by unfold zn7 zp6;show (zh2 (ms.map zg6)).length=f;rw[zah8 ex0,l0]⟩
 unfold zp6
 rw[zp4,zah8 ex0,l0,s0]
 have a1:(ms.map zg6).all zq7=true:=by
  rw[zcg2,zcb2]
  intro x hx
  obtain⟨nn,_,_,w⟩:=O.all x hx
  show ((x.1.map PyData.int).all (zh0 0)&&decide ((1:Int)<=x.2))=true
  rw[zcg2,show x.1.all (zh0 0∘PyData.int)=true from zcb2.mpr fun y hy=>decide_eq_true (nn y hy),decide_eq_true w];rfl
 have a2:zo7 h f=true:=by
  unfold zo7
  rw[decide_eq_true hh,decide_eq_true (show (1:Int)<=(f:Int)/\(f:Int)<=8 by rfl')];rfl
 have a3:((ms.map zg6).all fun d=>zu1 h f (zk6 d))=true:=by
  rw[zcg2,zcb2]
  intro x hx
  obtain⟨nn,xl,xs,w⟩:=O.all x hx
  show (zu1 h f (zk6 (zg6 x)))=true
  unfold zu1
  have e1:zm0 (zk6 (zg6 x))=true:=by
   show (x.1.map PyData.int).all (zh0 0)=true
   rw[zcg2]
   exact zcb2.mpr fun y hy=>decide_eq_true (nn y hy)
  have e2:zab9 (zk6 (zg6 x))=x.1:=zm4 x.1 x.2
  rw[e1,e2,decide_eq_true (show (x.1.length:Int)=(f:Int) by rfl'),decide_eq_true xs];rfl
 rw[decide_eq_true (show (ms.map zg6).length≠0 by rw[zbz4];have:=O.ne;omega),a1,a2,a3];rfl
theorem zbo4:∀ {xs ys:List Int},xs.Nodup->(∀ x∈xs,x∈ys)->ys.length<=xs.length->∀ y∈ys,y∈xs
 | [],ys,_,_,hl,y,hy=>by
  have:ys=[]:=List.length_eq_zero_iff.mp (by simpa using hl)
  rw[this] at hy
  cases hy
 | x :: xs,ys,nd,hs,hl,y,hy=>by
  rw[zcg3] at nd
  have hx:=hs x (.head _)
  have ih:=zbo4 (xs:=xs) (ys:=ys.erase x) nd.2 (fun z hz=>(List.mem_erase_of_ne (fun (e:z=x)=>nd.1 (e▸hz))).mpr (hs z (.tail _ hz))) (by rw[List.length_erase_of_mem hx];rw[zcc6] at hl;omega)
  by_cases e:y=x
  ·rw[e];exact .head _
  ·exact .tail _ (ih y ((List.mem_erase_of_ne e).mpr hy))
theorem zbk5{za zb:List (Int×Int)}(h:eqDI (sumG za) (sumG zb)=true):(sumG za).length=(sumG zb).length/\∀ k,valG (sumG za) k=valG (sumG zb) k:=by
 obtain⟨na,ma⟩:=zg9 za
 obtain⟨nb,mb⟩:=zg9 zb
 unfold eqDI at h
 rw[zca5,zcb2] at h
 obtain⟨hl,h⟩:=h
 have hl:(sumG za).length=(sumG zb).length:=by simpa using hl
 refine⟨hl,?_⟩
 have h1:∀ z∈sumG za,valG (sumG zb) z.1=some z.2:=fun z hz=>by
  have:=h z hz
  have e:valI (sumG zb) z.1=valG (sumG zb) z.1:=rfl
  rw[e] at this
  simpa using this
 have sub:∀ k,k∈(sumG za).map (·.1)->k∈(sumG zb).map (·.1):=fun k hk=>by
  obtain⟨z,hz,rfl⟩:=zca9.mp hk
  by_cases e:z.1∈(sumG zb).map (·.1)
  ·exact e
  ·have:=h1 z hz
   rw[zr8 e] at this
   cases this
 have sup:∀ k,k∈(sumG zb).map (·.1)->k∈(sumG za).map (·.1):=fun k hk=>by
  exact zbo4 na (fun k hk=>sub k hk) (by rw[zbz4,zbz4];omega) k hk
 intro k
 by_cases e:k∈(sumG za).map (·.1)
 ·obtain⟨z,hz,rfl⟩:=zca9.mp e
  rw[zar1 na hz,h1 z hz]
 ·rw[zr8 e,zr8 fun z=>e (sup k z)]
def ze2(d:PyData):Int:=((rowF ((za8 d).getD 0 .none)).getD 0 (0,0,0)).1
def zf7(d:PyData):Bool:=zf2 d&&(zo7 (ze2 d) (za8 d).length&&zl3 (ze2 d) (za8 d).length d)
theorem zam5{v:V}{d:PyData}(h:ShV H v d)(e:zf2 d=true):∃ (a r t:Addr) (xs:List V) (ds:List PyData) (ts:List Addr) (j w:Int),v=.ref a/\d=.list ds/\H a=some (.lst xs)/\xs.length=ds.length/\1<=ds.length/\xs[0]?=some (.ref r)/\H r=some (.lst (ts.map V.ref))/\ts[0]?=some t/\H t=some (.tup [.int (ze2 d),.int j,.int w]):=by
 cases h
 case lst a xs ds e1 l=>
  have e:(decide (0<ds.length)&&rowD (ds.getD 0 .none)&&decide (0<(za8 (ds.getD 0 .none)).length))=true:=e
  rw[zca5,zca5,decide_eq_true_eq,decide_eq_true_eq] at e
  obtain⟨⟨h0,h1⟩,h2⟩:=e
  have ll:=l.len
  obtain⟨x0,ex0⟩:∃ x,xs[0]?=some x:=⟨_,zbz5 (by rfl')⟩
  obtain⟨d0,ed0,hd0⟩:=l.get 0 x0 ex0
  rw[getD_some ed0] at h1 h2
  obtain⟨r,ts,es,rfl,rfl,hr,hl,hp,_⟩:=zs1 hd0 h1
  have h2:0<es.length:=h2
  obtain⟨t,et⟩:∃ t,ts[0]?=some t:=⟨_,zbz5 (by rfl')⟩
  obtain⟨z,ez⟩:∃ z,(rowF (.list es))[0]?=some z:=⟨_,zbz5 (by rw[zd5];omega)⟩
  have eh:ze2 (.list ds)=z.1:=by
   show ((rowF (ds.getD 0 .none)).getD 0 (0,0,0)).1=z.1
   rw[getD_some ed0,zbz8,ez];rfl
  refine⟨a,r,t,xs,ds,ts,z.2.1,z.2.2,rfl,rfl,e1,ll,h0,ex0,hr,et,?_⟩
  rw[eh]
  exact hp 0 t z et ez
 all_goals simp[zf2] at e
@[irreducible] def ze8:Sp:=fun vs H Q _=>∃ (v:V) (d:PyData),vs=[v]/\ShV H v d/\zf2 d=true/\Q (.int (ze2 d)) H
theorem zn4{v:V}{d:PyData}(h:ShV H v d)(e:zf2 d=true)(q:Q (.int (ze2 d)) H):ze8 [v] H Q E:=by unfold ze8;exact⟨v,d,rfl,h,e,q⟩
theorem zaq0(F:Fun K "hosts_in" "hosts_in" zt9 f fd)(N:Nm mg):FnOk P w K mg base CX0 1 f fd ["stream"] ze8:=by
 refine F.ok zap2 (fun vs H Q E h=>by unfold ze8 at h;obtain⟨_,_,rfl,_⟩:=h;rfl) fun _ _ _ s H vs Q E hr h=>?_
 unfold ze8 at h
 obtain⟨v,d,rfl,h,e,q⟩:=h
 refine⟨_,(za6 (zb2 (zc7 (K:=K) rfl (zc7 (K:=K) rfl (zc7 (K:=K) rfl (pq 0) za3) za3) za3))),?_⟩
 obtain⟨a,r,t,xs,ds,ts,j,w,rfl,_,ha,_,_,hx,hr',ht,htt⟩:=zam5 h e
 refine zf6 (v:=.ref r) ha (zh3 (j:=0) hx) ?_
 refine zf6 (v:=.ref t) hr' (zh3 (j:=0) (by rw[zbz9,ht];rfl)) ?_
 refine zh1 (v:=.int (ze2 d)) htt rfl ?_
 ac_nf
 exact q
@[irreducible] def zc9:Sp:=fun vs H Q _=>∃ (v:V) (d:PyData),vs=[v]/\ShV H v d/\sml d=true/\∀ H',Same H H'->Q (.bl (zf7 d)) H'
theorem any_rd{v:V}{d:PyData}(h:ShV H v d)(hs:sml d=true)(q:∀ H',Same H H'->Q (.bl (zf7 d)) H'):zc9 [v] H Q E:=by unfold zc9;exact⟨v,d,rfl,h,hs,q⟩
theorem zw5(F:Fun K "is_any_stream" "is_any_stream" zk2 f fd)(N:Nm mg)(zbx3:Def P w K mg base CX0 6 "begins" ["stream"] zk0)(zbv4:Def P w K mg base CX0 1 "hosts_in" ["stream"] ze8)(zbw7:Def P w K mg base CX0 4 "is_size" ["hosts","fields"] zh9)(zbx5:Def P w K mg base CX0 7 "is_stream" ["hosts","fields","stream"] zg4):FnOk P w K mg base CX0 8 f fd ["stream"] zc9:=by
 refine F.ok zw4 (fun vs H Q E h=>by unfold zc9 at h;obtain⟨_,_,rfl,_⟩:=h;rfl) fun _ _ _ s H vs Q E hr h=>?_
 unfold zc9 at h
 obtain⟨v,d,rfl,h,hs,q⟩:=h
 have hu:=hu40 hr
 refine⟨_,(za2 (psIf (ptW (pwOr (zo1 (ptV (pD zbx3 hr zb6 (za0 (pq 0) za1)))) (zad8 (zo1 (ptV (pD zbw7 hr zb6 (za0 (pD zbv4 hr zb6 (za0 (pq 0) za1)) (za0 (pB (zv6 (K:=K) rfl) N.len_ zl7 (za0 (pq 0) za1)) za1)))))))) (za6 (zb2 zab2)) zf8)
   (za6 (zb2 (pD zbx5 hr zb6 (za0 (pD zbv4 hr zb6 (za0 (pq 0) za1)) (za0 (pB (zv6 (K:=K) rfl) N.len_ zl7 (za0 (pq 0) za1)) (za0 (pq 0) za1))))))),?_⟩
 unfold zf7 at q
 refine zad0 h hs (fun H1 s1=>?_)
 have q:=fun H' s'=>q H' (s1.trans s')
 have h1:=h.same s1
 cases eb:zf2 d
 ·have q:=q _ (Same.refl _)
  rw[eb] at q
  refine zd4 (br_F ?_)
  refine br_T ?_
  ac_nf
  exact q
 rw[eb,zcd1] at q
 obtain⟨a,r,t,xs,ds,ts,j,w,rfl,rfl,ha,hl,_⟩:=zam5 h1 eb
 have q:∀ H',Same H1 H'->Q (.bl (zo7 (ze2 (.list ds)) ds.length&&zl3 (ze2 (.list ds)) ds.length (.list ds))) H':=q
 refine zd4 (br_T ?_)
 refine zn4 h1 eb ?_
 refine zi9 ha ?_
 rw[hl]
 refine zas3 ?_
 cases ez:zo7 (ze2 (.list ds)) ds.length
 ·have q:=q _ (Same.refl _)
  rw[ez] at q
  refine zd4 (br_F ?_)
  ac_nf
  exact q
 rw[ez,zcd1] at q
 refine zd4 (br_T ?_)
 refine zn4 h1 eb ?_
 refine zi9 ha ?_
 rw[hl]
 refine zaw3 h1 hs (fun H2 s2=>?_)
 ac_nf
 exact q _ s2
theorem any_ok{f:Nat}(O:OkS ms h f)(S:zao9 ms f xss)(hz:zo7 h f=true):zf7 (stmD xss)=true/\ze2 (stmD xss)=h:=by
 have st:=stm_ok O S
 have st':=st
 unfold zl3 at st'
 rw[zca5,zca5,zca5,zca5] at st'
 obtain⟨b,_,_,fu,_⟩:=st'
 have il:((za8 (stmD xss)).length:Int)=f:=by
  show (((xss.map zd1).length:Nat):Int)=f
  rw[zbz4,S.1]
 have eh:ze2 (stmD xss)=h:=by
  have b:(decide (0<(za8 (stmD xss)).length)&&rowD ((za8 (stmD xss)).getD 0 .none)&&decide (0<(za8 ((za8 (stmD xss)).getD 0 .none)).length))=true:=b
  rw[zca5,decide_eq_true_eq] at b
  unfold zba5 at fu
  have fu:=zcb2.mp fu
  unfold ze2
  have ll:0<(rowF ((za8 (stmD xss)).getD 0 .none)).length:=by unfold rowF;rw[zbz4];exact b.2
  generalize rowF ((za8 (stmD xss)).getD 0 .none)=ys at fu ll ⊢
  have:=fu (ys.getD 0 (0,0,0)) (by rw[zbz8,zbz5 ll];exact zch9 _)
  exact of_decide_eq_true this
 refine⟨?_,eh⟩
 unfold zf7
 rw[eh,il,b,hz,st];rfl
@[irreducible] def zd3(zbu7:Addr):Sp:=fun vs H Q E=>∃ (v:V) (d:PyData),vs=[v]/\ShV H v d/\sml d=true/\(zf7 d=true->∀ H',Same H H'->Q .non H')/\(zf7 d=false->∀ H',Same H H'->E (.ref zbu7) none H')
theorem zq9{zbu7:Addr}{v:V}{d:PyData}(h:ShV H v d)(hs:sml d=true)(q:zf7 d=true->∀ H',Same H H'->Q .non H')(qe:zf7 d=false->∀ H',Same H H'->E (.ref zbu7) none H'):zd3 zbu7 [v] H Q E:=by unfold zd3;exact⟨v,d,rfl,h,hs,q,qe⟩
theorem zab8(F:Fun K "look_stream" "look_stream" zn1 f fd)(N:Nm mg)(zbw4:Def P w K mg base CX0 8 "is_any_stream" ["stream"] zc9)(Z:Cz K mg base zbv0 zbu9 zbu7 zbu8):FnOk P w K mg base (CXR P w) 9 f fd ["stream"] (zd3 zbu7):=by
 refine F.okR zab4 (fun vs H Q E h=>by unfold zd3 at h;obtain⟨_,_,rfl,_⟩:=h;rfl) (fun cdv A outer s H vs Q E hr hX h=>?_)
 unfold zd3 at h
 obtain⟨v,d,rfl,h,hs,q,qe⟩:=h
 have hu:=hu40 hr
 refine⟨_,(za6 (psIf (zo1 (ptV (pD zbw4 hr zb6 (za0 (pq 0) za1)))) (za6 (zap1 Z.o_NoStream PySem.F.excBase_ValueError rfl hX (za0 zbb2 za1))) zf8)),?_⟩
 refine any_rd h hs (fun H1 s1=>?_)
 cases e:zf7 d
 ·ac_nf
  refine zd4 (br_F ?_)
  ac_nf
  exact⟨by decide,qe e _ s1⟩
 ·ac_nf
  refine zd4 (br_T ?_)
  ac_nf
  exact q e _ s1
theorem zbc9{k:Nat}(hk:k=xs.length):((List.range k).map fun i=>V.int (xs.getD i (0,0,0)).2.2)=(xs.map fun z=>z.2.2).map V.int:=by
 subst hk
 apply zch2
 intro i
 rw[zbz9,zbz9,zbz9]
 by_cases h:i<xs.length
 ·rw[zcg5 h,zbz5 h]
  simp[h]
 ·rw[zcd4 (by simp;omega),zcd4 (by rfl')]
  rfl
def zr0(d:PyData):Int:=tot (rwF (rowF ((za8 d).getD 0 .none)))
@[irreducible] def zi0:Sp:=fun vs H Q _=>∃ (v:V) (d:PyData),vs=[v]/\ShV H v d/\zf2 d=true/\(rowF ((za8 d).getD 0 .none)).length<=1000/\∀ H',Same H H'->Q (.int (zr0 d)) H'
theorem zaq7{v:V}{d:PyData}(h:ShV H v d)(e:zf2 d=true)(hl:(rowF ((za8 d).getD 0 .none)).length<=1000)(q:∀ H',Same H H'->Q (.int (zr0 d)) H'):zi0 [v] H Q E:=by unfold zi0;exact⟨v,d,rfl,h,e,hl,q⟩
theorem zan3(F:Fun K "whole_in" "whole_in" zv3 f fd)(N:Nm mg):FnOk P w K mg base CX0 1 f fd ["stream"] zi0:=by
 refine F.ok zao7 (fun vs H Q E h=>by unfold zi0 at h;obtain⟨_,_,rfl,_⟩:=h;rfl) fun _ _ _ s H vs Q E hr h=>?_
 unfold zi0 at h
 obtain⟨v,d,rfl,h,e,hl,q⟩:=h
 have hu:=hu40 hr
 cases h
 case lst a xs ds ea l=>
  have e:(decide (0<ds.length)&&rowD (ds.getD 0 .none)&&decide (0<(za8 (ds.getD 0 .none)).length))=true:=e
  rw[zca5,zca5,decide_eq_true_eq,decide_eq_true_eq] at e
  obtain⟨⟨h0,h1⟩,h2⟩:=e
  have ll:=l.len
  obtain⟨x0,ex0⟩:∃ x,xs[0]?=some x:=⟨_,zbz5 (by rfl')⟩
  obtain⟨d0,ed0,hd0⟩:=l.get 0 x0 ex0
  have hl:(rowF (ds.getD 0 .none)).length<=1000:=hl
  have q:∀ H',Same H H'->Q (.int (tot (rwF (rowF (ds.getD 0 .none))))) H':=q
  rw[getD_some ed0] at h1 h2 hl q
  obtain⟨r,ts,es,rfl,rfl,hr',hlr,hp,_⟩:=zs1 hd0 h1
  generalize eys:rowF (.list es)=ys at hp hl q
  have rl:ts.length=ys.length:=by rw[← eys,zd5];exact hlr
  refine⟨_,(za6 (zb2 (pB (zap7 (K:=K) rfl rfl) N.sum_ zw3 (za0 (zf0 (N:=["left","sent","flow"]) (ks:=[none,none,none]) (zf1 (K:=K) rfl (zc7 (K:=K) rfl (pq 0) za3)) (fun _ _ _ _ _=>(zi3 (K:=K) (n:=3) rfl rfl (zb0 (za7 (i:=0) nb_10 rfl (by eq_refl)) (zb0 (za7 (i:=1) nb_10 rfl (by eq_refl)) (zb0 (za7 (i:=2) nb_10 rfl (by eq_refl)) zi4))))) (fun _ _ _ _ _=>zc6) (fun _ _ _ _ _=>(pq 2)) (.skip (.skip (.skip .nil)))) za1)))),?_⟩
  refine zf6 (v:=.ref r) ea (zh3 (j:=0) ex0) ?_
  refine zb4 hr' ?_
  refine zj1 (Wk.list (SqL.of hr')) (by rw[zbz4,zci4];omega) (fun i=>.int (ys.getD i (0,0,0)).2.2) (fun _=>true) (fun j σ=>∃ t u w:Option V,σ=[t,u,w]) ⟨none,none,none,rfl⟩ ?_ ?_
  ·rintro i x σ I R' S' hi s1 hx ⟨_,_,_,rfl⟩ kk _
   rw[zbz9] at hx
   obtain⟨t,et,rfl⟩:=zca3.mp hx
   obtain⟨z,ez⟩:∃ z,ys[i]?=some z:=⟨_,zbz5 (by have:=(zbz6.mp et).1;omega)⟩
   rw[show ys.getD i (0,0,0)=z by rw[zbz8,ez];rfl] at kk
   refine ze6 (s1 _ _ (hp i t z et ez)) ?_
   refine br_T ?_
   ac_nf
   exact kk rfl _ _ (Same.refl _) ⟨_,_,_,rfl⟩
  intro acc H1 f1 s1 h1
  rw[ze7,zbc9 (by rw[zbz4];exact rl)] at h1
  refine zaa3 h1 ?_
  ac_nf
  have:=q _ s1
  unfold tot rwF at this
  rw[zcb4] at this
  exact this
 all_goals simp[zf2] at e
theorem zbm8{d:PyData}(e:zf7 d=true)(hs:sml d=true):∃ ds,d=.list ds/\zf2 d=true/\(0<=ze2 d/\ze2 d<=40)/\ds.length<=8/\∀ x∈ds,rowD x=true/\(za8 x).length<=1000:=by
 unfold zf7 zo7 zl3 at e
 simp only[zca5,decide_eq_true_eq] at e
 obtain⟨eb,⟨hz,hf⟩,_,_,ea,_⟩:=e
 cases d with
 | list ds=>
  have ea:ds.all rowD=true:=ea
  have ea:=zcb2.mp ea
  have hf:1<=(ds.length:Int)/\(ds.length:Int)<=8:=hf
  refine⟨ds,rfl,eb,hz,by rfl',fun x hx=>⟨ea x hx,?_⟩⟩
  have m:=(zl0 hs).2 x hx
  have r:=ea x hx
  cases x with
  | list es=>exact (zl0 m).1
  | _=>simp[rowD] at r
 | _=>simp[zf2] at eb
inductive Ap(h W:Int):List (List (Int×Int×Int))->List (List Int×Int)->Prop where
 | nil:Ap h W [] [([],W)]
 | step {rs:List (List (Int×Int×Int))}{ms ms2:List (List Int×Int)}{xs:List (Int×Int×Int)}{out:List (List Int×(Int×Int)×Int)}:Ap h W rs ms->ms2.Perm ms->ms2.Pairwise (fun x y=>h - x.1.sum<=h - y.1.sum)->Mrg ms2 (rwF xs) out->Ap h W (rs++[xs]) (outM out)
theorem zbu4{rs:List ((Int×Int)×Int)}{out:List (List Int×(Int×Int)×Int)}(h:Mrg ms rs out):tot (outM out)=tot ms:=by
 have:=h.sumL fun _=>1
 simp only[Int.mul_one] at this
 unfold tot outM
 rw[zcb4]
 exact this
theorem Ap.ok{W:Int}{rs:List (List (Int×Int×Int))}(A:Ap h W rs ms)(hW:1<=W):(∀ xs∈rs,(∀ x∈xs,1<=x.2.2)/\xs.length<=9)->(∀ x∈ms,1<=x.2/\x.1.length=rs.length)/\tot ms=W/\ms≠[]/\ms.length<=1+8*rs.length:=by
 induction A with
 | nil=>
  intro _
  refine⟨fun x hx=>?_,?_,by simp,by simp⟩
  ·have:x=([],W):=by simpa using hx
   subst this
   exact⟨hW,rfl⟩
  ·unfold tot;simp
 | @step rs ms ms2 xs out A hp hs hm ih=>
  intro hr
  obtain⟨i1,i2,i3,i4⟩:=ih fun ys hy=>hr ys (zch3 _ hy)
  obtain⟨r1,r2⟩:=hr xs (zcb9 _ (.head _))
  have n2:ms2≠[]:=fun z=>by rw[z] at hp;exact i3 (List.nil_perm.mp hp)
  have pos:=hm.pos (fun x hx=>(i1 x (hp.mem_iff.mp hx)).1) (fun x hx=>by
   unfold rwF at hx
   obtain⟨y,hy,rfl⟩:=zca9.mp hx
   exact r1 y hy)
  have tt:tot (outM out)=W:=by rw[zbu4 hm,zar8 hp,i2]
  refine⟨fun x hx=>?_,tt,fun z=>?_,?_⟩
  ·unfold outM at hx
   obtain⟨z,hz,rfl⟩:=zca9.mp hx
   refine⟨pos z hz,?_⟩
   obtain⟨y,hy,ey⟩:=zca9.mp (hm.memL z hz).1
   rw[zca8,zca8,← ey,(i1 y (hp.mem_iff.mp hy)).2]
   rfl
  ·rw[z] at tt
   have:tot ([]:List (List Int×Int))=0:=rfl
   omega
  ·have l1:=hm.len n2
   have l2:=hp.length_eq
   have l3:(rwF xs).length=xs.length:=by unfold rwF;rw[zbz4]
   have l4:(outM out).length=out.length:=by unfold outM;rw[zbz4]
   rw[zca8,l4]
   show out.length<=1+8*(rs.length+1)
   omega
theorem zc3.sorted{a p:Addr}{tab:Array Value}{ps:List (Int×Addr)}(M:zc3 H a ts ms)(hT:H T=some (.tbl tab))(c:Chg T H H')(hp:ps.Perm ((ms.map fun x=>h - x.1.sum).zip (ts.map (·.1))))(hs:ps.Pairwise (fun x y=>x.1<=y.1))(ho:H' p=some (.lst (ps.map fun x=>V.ref x.2))) :
  ∃ ts2 ms2,zc3 H' p ts2 ms2/\ms2.Perm ms/\ms2.Pairwise (fun x y=>h - x.1.sum<=h - y.1.sum):=by
 have ml:=M.len
 have e:(ms.map fun x=>h - x.1.sum).zip (ts.map (·.1))=(ms.zip ts).map fun y=>(h - y.1.1.sum,y.2.1):=by
  rw[List.zip_map]
  rfl
 rw[e] at hp
 obtain⟨L,q1,q2⟩:=zv9 (fun y:(List Int×Int)×(Addr×Addr)=>(h - y.1.1.sum,y.2.1)) hp
 subst q2
 refine⟨L.map (·.2),L.map (·.1),⟨?_,by rw[zbz4,zbz4],fun i t x g1 g2=>?_⟩,?_,?_⟩
 ·rw[ho,zcb4,zcb4]
  rfl
 ·rw[zbz9] at g1 g2
  obtain⟨y,ey,rfl⟩:=zca3.mp g1
  rw[ey] at g2
  cases g2
  obtain⟨j,ej⟩:=zcd3 (q1.mem_iff.mp (zca0 ey))
  have e1:ms[j]?=some y.1/\ts[j]?=some y.2:=by
   rw[List.getElem?_zip_eq_some] at ej
   exact ej
  have f:=M.part j y.2 y.1 e1.2 e1.1
  exact⟨c _ _ (fun z=>by rw[z,hT] at f;exact absurd f.1 (by intro z;cases z)) f.1,c _ _ (fun z=>by rw[z,hT] at f;exact absurd f.2 (by intro z;cases z)) f.2⟩
 ·have:=q1.map (·.1)
  rw[List.map_fst_zip (by rfl')] at this
  exact this
 ·rw[List.pairwise_map] at hs ⊢
  exact hs
theorem zbl2{za zb:List (Int×Int)}(h:∀ k,valG (sumG za) k=valG (sumG zb) k):(za.map (·.2)).sum=(zb.map (·.2)).sum:=by
 have k1:=zg9 za
 have mem:∀ k,k∈za.map (·.1)↔k∈zb.map (·.1):=fun k=>by
  have:=h k
  rw[zl5,zl5] at this
  by_cases z1:k∈za.map (·.1)
  ·rw[if_pos z1] at this
   by_cases z2:k∈zb.map (·.1)
   ·exact⟨fun _=>z2,fun _=>z1⟩
   ·rw[if_neg z2] at this;cases this
  ·rw[if_neg z1] at this
   by_cases z2:k∈zb.map (·.1)
   ·rw[if_pos z2] at this;cases this
   ·exact⟨fun z=>absurd z z1,fun z=>absurd z z2⟩
 have a:=zag3 (p:=fun _=>true) k1.1 (zs:=za) fun z hz=>(k1.2 _).mpr (zca9.mpr ⟨z,hz,rfl⟩)
 have b:=zag3 (p:=fun _=>true) k1.1 (zs:=zb) fun z hz=>(k1.2 _).mpr ((mem _).mpr (zca9.mpr ⟨z,hz,rfl⟩))
 have ft:∀ {α:Type}(l:List α),l.filter (fun _=>true)=l:=fun l=>List.filter_eq_self.mpr fun _ _=>rfl
 rw[ft,ft] at a b
 rw[← a,← b]
 congr 1
 refine zcb3 fun k hk=>?_
 have z1:=(k1.2 k).mp hk
 have:=h k
 rw[zl5,zl5,if_pos z1,if_pos ((mem k).mp z1)] at this
 exact Option.some.inj this
theorem zbe0{d e:PyData}(h:zs3 d e=true):tot (rwF (rowF d))=tot (rwF (rowF e)):=by
 have:=zbl2 (zbk5 h).2
 rw[zcb4,zcb4] at this
 unfold tot rwF
 rw[zcb4,zcb4]
 exact this
theorem zbt4(e:zf7 (.list ds)=true):(∀ i,i<ds.length->tot (rwF (rowF (ds.getD i .none)))=zr0 (.list ds))/\1<=zr0 (.list ds)/\∀ x∈ds,rowD x=true/\∀ z∈rowF x,1<=z.2.2:=by
 unfold zf7 zl3 at e
 simp only[zca5,decide_eq_true_eq] at e
 obtain⟨eb,_,_,_,ea,_,_,em⟩:=e
 have ea:ds.all rowD=true:=ea
 have ea:=zcb2.mp ea
 have em:(List.range (ds.length - 1)).all (fun i=>zs3 (ds.getD i .none) (ds.getD (i+1) .none))=true:=em
 have em:=zcb2.mp em
 have pos:∀ x∈ds,∀ z∈rowF x,1<=z.2.2:=fun x hx z hz=>by
  have r:=ea x hx
  cases x with
  | list es=>
   have r:(es.all zp5&&incD es)=true:=r
   rw[zca5] at r
   have r1:=zcb2.mp r.1
   unfold rowF at hz
   obtain⟨y,hy,rfl⟩:=zca9.mp hz
   have fy:=r1 y hy
   cases y with
   | tuple us=>
    have l3:us.length=3:=Classical.byContradiction fun z=>by rw[zaf0 z] at fy;cases fy
    match us,l3 with
    | [a,b,c],_=>
     have fy:(zh0 0 a&&zy3 0 (intD a) b&&zh0 1 c)=true:=fy
     rw[zca5] at fy
     obtain⟨w,rfl,hw⟩:=zi2 fy.2
     exact hw
   | _=>simp[zp5] at fy
  | _=>simp[rowD] at r
 have eb:(decide (0<ds.length)&&rowD (ds.getD 0 .none)&&decide (0<(za8 (ds.getD 0 .none)).length))=true:=eb
 simp only[zca5,decide_eq_true_eq] at eb
 refine⟨fun i hi=>?_,?_,fun x hx=>⟨ea x hx,pos x hx⟩⟩
 ·induction i with
  | zero=>rfl
  | succ i ih=>rw[← ih (by rfl')];exact (zbe0 (em i (zce6.mpr (by rfl')))).symm
 ·show 1<=tot (rwF (rowF (ds.getD 0 .none)))
  have m0:ds.getD 0 .none∈ds:=by rw[zbz8,zbz5 eb.1.1];exact zch9 _
  have t:=zar3 (l:=rwF (rowF (ds.getD 0 .none))) fun y hy=>by
   unfold rwF at hy
   obtain⟨z,hz,rfl⟩:=zca9.mp hy
   exact pos _ m0 z hz
  have:rwF (rowF (ds.getD 0 .none))≠[]:=fun z=>by
   have l:(za8 (ds.getD 0 .none)).length=0:=by
    have l:=congrArg List.length z
    unfold rwF rowF at l
    rw[zbz4,zbz4] at l
    exact l
   have:=eb.2
   omega
  have:tot (rwF (rowF (ds.getD 0 .none)))≠0:=fun z=>this (t.2 z)
  omega
def lamQ:Str:=("taken_apart":Str)++".<locals>."++"<lambda>"
@[irreducible] def ze4(zbu7 a_tab:Addr):Sp:=fun vs H Q E=>∃ (v:V) (d:PyData),vs=[v]/\ShV H v d/\sml d=true/\zo5 a_tab 84 42 lamQ H /\
 (zf7 d=true->(∀ x∈za8 d,(za8 x).length<=9)/\∀ p ts ms H',Chg a_tab H H'->zo5 a_tab 84 42 lamQ H'->zc3 H' p ts ms->Ap (ze2 d) (zr0 d) ((za8 d).map rowF) ms->Q (.ref p) H')/\(zf7 d=false->∀ H',Same H H'->E (.ref zbu7) none H')
theorem zab7{zbu7 a_tab:Addr}{v:V}{d:PyData}(h:ShV H v d)(hs:sml d=true)(hT:zo5 a_tab 84 42 lamQ H)(q:zf7 d=true->(∀ x∈za8 d,(za8 x).length<=9)/\∀ p ts ms H',Chg a_tab H H'->zo5 a_tab 84 42 lamQ H'->zc3 H' p ts ms->Ap (ze2 d) (zr0 d) ((za8 d).map rowF) ms->Q (.ref p) H')(qe:zf7 d=false->∀ H',Same H H'->E (.ref zbu7) none H'):ze4 zbu7 a_tab [v] H Q E:=by unfold ze4;exact⟨v,d,rfl,h,hs,hT,q,qe⟩
theorem zab0(F:Fun K "taken_apart" "taken_apart" zm7 f fd)(N:Nm mg)(hcd:fd.code=.ref a_cod)(hCH:PySem.W.CodeHd base a_cod a_tab)(hBM:Bm mg base)(zbv4:Def P w K mg base CX0 1 "hosts_in" ["stream"] ze8)(zbv8:Def P w K mg base (CXR P w) 9 "look_stream" ["stream"] (zd3 zbu7))(zby3:Def P w K mg base CX0 1 "sent_on" ["begun","row"] zj8)(zbx9:Def P w K mg base CX0 1 "whole_in" ["stream"] zi0):FnOk P w K mg base (CXR P w) 10 f fd ["stream"] (ze4 zbu7 a_tab):=by
 refine F.okRC hcd zg1 (fun vs H Q E h=>by unfold ze4 at h;obtain⟨_,_,rfl,_⟩:=h;rfl) (fun A outer s H vs Q E hr hX h=>?_)
 unfold ze4 at h
 obtain⟨v,d,rfl,h,hs,hT,q,qe⟩:=h
 have hu:=hu40 hr
 refine⟨_,(za2 (zk9 (pD zbv8 hr (zba0 hX) (za0 (pq 0) za1)))
   (za2 (psS (i:=1) zg1.nd (pD zbv4 hr zb6 (za0 (pq 0) za1)))
   (za2 (psS (i:=2) zg1.nd (zu7 (za0 (zy1 (za0 (zu7 za1) (za0 (pD zbx9 hr zb6 (za0 (pq 0) za1)) za1))) za1)))
   (za2 (PS.nox' (zah4 PassesOwn.never rfl (zf1 (K:=K) rfl (pq 0)) (za7 (i:=3) zg1.nd rfl (by eq_refl)) (za6 (psS (i:=2) zg1.nd (pD zby3 hr zb6 (za0 (peSoK (K:=K) (T:=a_tab) (c:=a_cod) (i:=1) (ln:=84) (co:=42) (qual:=lamQ) rfl (hr.mono (by decide)) N.sorted_ N.sum_ hCH hBM (za0 (pq 2) za1) rfl rfl rfl rfl rfl rfl rfl rfl (fun _ _ _ _=>rfl)) (za0 (pq 3) za1)))))))
   (za6 (zb2 (pq 2))))))),?_⟩
 refine zq9 h hs (fun e H1 s1=>?_) (fun e H1 s1=>qe e _ s1)
 obtain⟨hw,q⟩:=q e
 have h1:=h.same s1
 obtain⟨ds,rfl,eb,hz,dl,ok⟩:=zbm8 e hs
 obtain⟨tt,W1,rows⟩:=zbt4 e
 have d0:0<ds.length:=by
  have eb:(decide (0<ds.length)&&rowD (ds.getD 0 .none)&&decide (0<(za8 (ds.getD 0 .none)).length))=true:=eb
  simp only[zca5,decide_eq_true_eq] at eb
  exact eb.1.1
 have hw:∀ x∈ds,(za8 x).length<=9:=hw
 have g0:ds.getD 0 .none∈ds:=by rw[zbz8,zbz5 d0];exact zch9 _
 refine zn4 h1 eb ?_
 refine zi7 (fun p2 H2 f2 s2 k2=>?_)
 refine zaq7 (h1.same s2) eb (by show (rowF (ds.getD 0 .none)).length<=1000;unfold rowF;rw[zbz4];have:=hw _ g0;omega) (fun H3 s3=>?_)
 refine zi5 (fun p4 H4 f4 s4 k4=>?_)
 refine zi7 (fun p5 H5 f5 s5 k5=>?_)
 have s05:=s1.trans (s2.trans (s3.trans (s4.trans s5)))
 have s15:=s2.trans (s3.trans (s4.trans s5))
 cases h1
 case lst a xs ea l=>
  have h1:=h.same s1
  have ll:=l.len
  have hk:∀ x∈ds,(∀ z∈rowF x,1<=z.2.2)/\(rowF x).length<=9:=fun x hx=>⟨(rows x hx).2,by unfold rowF;rw[zbz4];exact hw x hx⟩
  refine zb4 (s15 _ _ ea) ?_
  refine zl8 (xs:=xs) (fun i σ I=>∃ (x3:Option V) (bg:Addr) (ts:List (Addr×Addr)) (ms:List (List Int×Int)),σ=[some (.ref a),some (.int (ze2 (.list ds))),some (.ref bg),x3]/\Chg a_tab H1 I/\zo5 a_tab 84 42 lamQ I/\zc3 I bg ts ms/\Ap (ze2 (.list ds)) (zr0 (.list ds)) ((ds.take i).map rowF) ms) ?_ ?_ ?_ ?_
  ·refine⟨_,p5,[(p4,p2)],[([],zr0 (.list ds))],rfl,s15.toChg,hT.same s05,⟨k5,rfl,fun i t x g1 g2=>?_⟩,?_⟩
   ·match i with
    | 0=>cases g1;cases g2;exact⟨s5 _ _ k4,s5 _ _ (s4 _ _ (s3 _ _ k2))⟩
    | i+1=>simp at g1
   ·rw[List.take_zero];exact .nil
  ·rintro i σ I hi ⟨x3,bg,ts,ms,rfl,cI,TI,M,Aq⟩
   obtain⟨tab,et,_⟩:=hT.same s1
   exact SqL.of (cI _ _ (fun z=>by rw[z,et] at ea;cases ea) ea)
  ·rintro i x σ I hx ⟨x3,bg,ts,ms,rfl,cI,TI,M,Aq⟩
   obtain⟨dr,ed,hd⟩:=l.get i x hx
   have il:i<ds.length:=(zbz6.mp ed).1
   have mem:=zca0 ed
   obtain⟨m1,m2,m3,m4⟩:=Aq.ok W1 (fun ys hy=>by
    obtain⟨y,hy',rfl⟩:=zca9.mp hy
    exact hk y (List.mem_of_mem_take hy'))
   have tl:((ds.take i).map rowF).length=i:=by rw[zbz4,zcf6];omega
   rw[tl] at m1 m4
   have ml:=M.len
   obtain⟨r,bs,es,rfl,rfl,hr',hlr,hp,_⟩:=zs1 hd (rows _ mem).1
   obtain⟨tab1,et1,_⟩:=hT.same s1
   have RR:RwAt H1 r bs (rowF (.list es)):=⟨hr',by rw[zd5];exact hlr,hp⟩
   have RI:RwAt I r bs (rowF (.list es)):=by
    have nt:∀ {b:Addr}{o:HO},H1 b=some o->(∀ t,o≠.tbl t)->I b=some o:=fun e n=>cI _ _ (fun z=>by rw[z,et1] at e;cases e;exact n _ rfl) e
    refine⟨nt RR.out (fun t=>by intro z;cases z),RR.len,fun i b x e1 e2=>nt (RR.row i b x e1 e2) (fun t=>by intro z;cases z)⟩
   refine soK_rd (bs:=ts.map (·.1)) (kz:=ms.map fun x=>ze2 (.list ds) - x.1.sum) (by rw[M.out,zcb4];rfl) (by rw[zbz4];omega) (by rw[zbz4,zbz4];omega) (fun j b k g1 g2=>?_) TI (fun p6 H6 ps f6 c6 T6 pp po k6=>?_)
   ·rw[zbz9] at g1 g2
    obtain⟨t,et,rfl⟩:=zca3.mp g1
    obtain⟨y,ey,rfl⟩:=zca3.mp g2
    have f:=M.part j t y et ey
    exact⟨t.2,_,y.1,f.1,f.2,rfl⟩
   obtain⟨tabI,etI,_⟩:=TI
   obtain⟨ts2,ms2,M2,pm,po2⟩:=M.sorted etI c6 pp po k6
   have R6:RwAt H6 r bs (rowF (.list es)):=by
    have nt:∀ {b:Addr}{o:HO},I b=some o->(∀ t,o≠.tbl t)->H6 b=some o:=fun e n=>c6 _ _ (fun z=>by rw[z,etI] at e;cases e;exact n _ rfl) e
    exact⟨nt RI.out (fun t=>by intro z;cases z),RI.len,fun i b x e1 e2=>nt (RI.row i b x e1 e2) (fun t=>by intro z;cases z)⟩
   refine zav3 M2 R6 (fun y hy=>(m1 y (pm.mem_iff.mp hy)).1) (rows _ mem).2 (by rw[zar8 pm,m2,← tt i il,getD_some ed]) (by rw[pm.length_eq];omega) (by have:=(hk _ mem).2;omega) (fun y hy=>by rw[(m1 y (pm.mem_iff.mp hy)).2];omega) (fun p7 ts7 out H7 f7 s7 M7 g7=>?_)
   ac_nf
   refine⟨_,p7,ts7,outM out,rfl,(cI.trans c6).same s7,T6.same s7,M7,?_⟩
   rw[List.take_add_one,ed]
   simp only[Option.toList_some,zcb7,zcb1,zci1]
   exact .step Aq pm po2 g7
  ·rintro σ I ⟨x3,bg,ts,ms,rfl,cI,TI,M,Aq⟩
   ac_nf
   rw[show xs.length=ds.length from ll,List.take_length] at Aq
   exact q bg ts ms I (fun b o n e=>cI b o n (s1 _ _ e)) TI M Aq
def shr(h:Nat)(xs:List (Int×Int×Int)):List Int:=(List.range (h+1)).map fun (c:Nat)=>(valG (sumG (xs.map fun z=>(z.2.1,z.2.2))) (c:Int)).getD 0
@[irreducible] def zf5:Sp:=fun vs H Q _=>∃ (h:Nat) (v:V) (d:PyData),vs=[.int h,v]/\ShV H v d/\rowD d=true/\(za8 d).length<=1000/\h<=40/\∀ r H',H r=none->Same H H'->H' r=some (.lst ((shr h (rowF d)).map V.int))->Q (.ref r) H'
theorem zaf1{h:Nat}{v:V}{d:PyData}(hv:ShV H v d)(rd:rowD d=true)(ld:(za8 d).length<=1000)(hh:h<=40)(q:∀ r H',H r=none->Same H H'->H' r=some (.lst ((shr h (rowF d)).map V.int))->Q (.ref r) H'):zf5 [.int h,v] H Q E:=by unfold zf5;exact⟨h,v,d,rfl,hv,rd,ld,hh,q⟩
theorem zag0(F:Fun K "row_shares" "row_shares" zo3 f fd)(N:Nm mg)(zbw1:Def P w K mg base CX0 1 "summed" ["pairs"] zg0):FnOk P w K mg base CX0 2 f fd ["hosts","row"] zf5:=by
 refine F.ok zs8 (fun vs H Q E h=>by unfold zf5 at h;obtain⟨_,_,_,rfl,_⟩:=h;rfl) fun _ _ _ s H vs Q E hr h=>?_
 unfold zf5 at h
 obtain⟨h,v,d,rfl,hv,rd,ld,hh,q⟩:=h
 have hu:=hu40 hr
 obtain⟨a,ts,ds,rfl,rfl,ha,hl,hp,_⟩:=zs1 hv rd
 have ld:ds.length<=1000:=ld
 refine⟨_,(za2 (psS (i:=2) zs8.nd (pD zbw1 hr zb6 (za0 (zf0 (N:=["left","sent","flow"]) (ks:=[none,none,none]) (zf1 (K:=K) rfl (pq 1)) (fun _ _ _ _ _=>(zi3 (K:=K) (n:=3) rfl rfl (zb0 (za7 (i:=0) nb_14 rfl (by eq_refl)) (zb0 (za7 (i:=1) nb_14 rfl (by eq_refl)) (zb0 (za7 (i:=2) nb_14 rfl (by eq_refl)) zi4))))) (fun _ _ _ _ _=>zc6) (fun _ _ _ _ _=>(zy1 (za0 (pq 1) (za0 (pq 2) za1)))) (.skip (.skip (.skip .nil)))) za1)))
   (za6 (zb2 (zf0 (N:=["count","flows"]) (ks:=[none,some 2]) (zw2 N.range_ (za0 (zd8 oAdd (pq 0) za3) za1)) (fun _ _ _ _ _=>(za7 (i:=0) nb_15 rfl (by eq_refl))) (fun _ _ _ _ _=>zc6) (fun _ _ _ _ _=>(zat2 (by exact hu) (pq 1) (pq 0) za3)) (.skip (.take rfl rfl (by eq_refl) .nil)))))),?_⟩
 refine zb4 ha ?_
 refine zad2 (Wk.list (SqL.of ha)) (by rw[zbz4,zci4];omega) (fun i=>.tup [.int ((rowF (.list ds)).getD i (0,0,0)).2.1,.int ((rowF (.list ds)).getD i (0,0,0)).2.2]) (fun j σ=>∃ t u w:Option V,σ=[t,u,w]) ⟨none,none,none,rfl⟩ ?_ ?_
 ·rintro i x σ I R S hi s1 hx ⟨_,_,_,rfl⟩ k
  rw[zbz4] at hi
  rw[zbz9] at hx
  obtain⟨t,et,rfl⟩:=zca3.mp hx
  obtain⟨z,ez⟩:∃ z,(rowF (.list ds))[i]?=some z:=⟨_,zbz5 (by rw[zd5];omega)⟩
  rw[show (rowF (.list ds)).getD i (0,0,0)=z by rw[zbz8,ez];rfl] at k
  refine ze6 (s1 _ _ (hp i t z et ez)) ?_
  refine br_T ?_
  refine zi5 (fun p I1 f1 r1 k1=>?_)
  ac_nf
  exact k _ _ _ f1 r1 k1 ⟨_,_,_,rfl⟩
 rintro l1 ps1 H1 F1
 rw[zbz4] at F1
 refine zt7 (zs:=(rowF (.list ds)).map fun z=>(z.2.1,z.2.2)) F1.out (by rw[F1.len,zbz4,zd5];exact hl) (by rw[zbz4,zd5];omega) (fun i t z g1 g2=>?_) (fun r2 H2 f2 s2 h2=>?_)
 ·rw[zbz9] at g2
  obtain⟨y,ey,rfl⟩:=zca3.mp g2
  have:=(F1.row i t g1).2
  rw[show (rowF (.list ds)).getD i (0,0,0)=y by rw[zbz8,ey];rfl] at this
  exact this
 refine zk5 (by rfl') (by rfl') (by rfl') (by rfl') ?_
 rw[show ((h:Int)+1 - 0).toNat=h+1 by rfl']
 refine zj1 (n:=h+1) Wk.range (by rw[zci4];omega) (fun i=>.int ((valG (sumG ((rowF (.list ds)).map fun z=>(z.2.1,z.2.2))) (i:Int)).getD 0)) (fun _=>true) (fun j σ=>∃ t:Option V,σ=[t,some (.ref r2)]) ⟨none,rfl⟩ ?_ ?_
 ·rintro i x σ I R S hi s3 hx ⟨_,rfl⟩ k _
  obtain rfl:x=.int i:=by rw[hx,zch6]
  have ev:(valV (dF Sum.inl (sumG ((rowF (.list ds)).map fun z=>(z.2.1,z.2.2)))) (Sum.inl (i:Int):Key)).getD (V.int 0)=.int ((valG (sumG ((rowF (.list ds)).map fun z=>(z.2.1,z.2.2))) (i:Int)).getD 0):=by
   rw[zy9 zag7]
   cases valG (sumG ((rowF (.list ds)).map fun z=>(z.2.1,z.2.2))) (i:Int)<;>rfl
  refine br_T ?_
  refine zbc6 (s3 _ _ h2) ?_
  refine zbc7 (s3 _ _ h2) ?_
  rw[ev]
  ac_nf
  exact k rfl _ _ (Same.refl _) ⟨_,rfl⟩
 intro acc H3 f3 s3 h3
 rw[ze7] at h3
 have s02:=F1.same.trans s2
 ac_nf
 exact q acc H3 (s02.free f3) (s02.trans s3) (by rw[h3];unfold shr;rw[zcb4];rfl)
@[irreducible] def zg3(zbu7:Addr):Sp:=fun vs H Q E=>∃ (v:V) (d:PyData),vs=[v]/\ShV H v d/\sml d=true/\(zf7 d=true->∀ (r:Addr) (ps:List Addr) (H':Hp),H r=none->Same H H'->H' r=some (.lst (ps.map V.ref))->ps.length=(za8 d).length->(∀ (i:Nat) p,ps[i]?=some p->H' p=some (.lst ((shr (ze2 d).toNat (rowF ((za8 d).getD i .none))).map V.int)))->Q (.ref r) H')/\(zf7 d=false->∀ H',Same H H'->E (.ref zbu7) none H')
theorem zaj6{zbu7:Addr}{v:V}{d:PyData}(h:ShV H v d)(hs:sml d=true)(q:zf7 d=true->∀ (r:Addr) (ps:List Addr) (H':Hp),H r=none->Same H H'->H' r=some (.lst (ps.map V.ref))->ps.length=(za8 d).length->(∀ (i:Nat) p,ps[i]?=some p->H' p=some (.lst ((shr (ze2 d).toNat (rowF ((za8 d).getD i .none))).map V.int)))->Q (.ref r) H')(qe:zf7 d=false->∀ H',Same H H'->E (.ref zbu7) none H'):zg3 zbu7 [v] H Q E:=by unfold zg3;exact⟨v,d,rfl,h,hs,q,qe⟩
theorem zal0(F:Fun K "shares_of" "shares_of" zr4 f fd)(N:Nm mg)(zbv4:Def P w K mg base CX0 1 "hosts_in" ["stream"] ze8)(zbv8:Def P w K mg base (CXR P w) 9 "look_stream" ["stream"] (zd3 zbu7))(zbx1:Def P w K mg base CX0 2 "row_shares" ["hosts","row"] zf5):FnOk P w K mg base (CXR P w) 10 f fd ["stream"] (zg3 zbu7):=by
 refine F.okR zak1 (fun vs H Q E h=>by unfold zg3 at h;obtain⟨_,_,rfl,_⟩:=h;rfl) (fun cdv A outer s H vs Q E hr hX h=>?_)
 unfold zg3 at h
 obtain⟨v,d,rfl,h,hs,q,qe⟩:=h
 have hu:=hu40 hr
 refine⟨_,(za2 (zk9 (pD zbv8 hr (zba0 hX) (za0 (pq 0) za1)))
   (za6 (zb2 (zf0 (N:=["row","stream"]) (ks:=[none,some 0]) (zf1 (K:=K) rfl (pq 0)) (fun _ _ _ _ _=>(za7 (i:=0) nb_16 rfl (by eq_refl))) (fun _ _ _ _ _=>zc6) (fun _ _ _ _ _=>(pD zbx1 hr zb6 (za0 (pD zbv4 hr zb6 (za0 (pq 1) za1)) (za0 (pq 0) za1)))) (.skip (.take rfl rfl (by eq_refl) .nil)))))),?_⟩
 refine zq9 h hs (fun e H1 s1=>?_) (fun e H1 s1=>qe e _ s1)
 have q:=q e
 obtain⟨ds,rfl,eb,hz,dl,ok⟩:=zbm8 e hs
 have h1:=h.same s1
 cases h1
 case lst a xs e1 l=>
  have h1:=h.same s1
  have ll:=l.len
  refine zb4 e1 ?_
  refine zad2 (Wk.list (SqL.of e1)) (by rw[zci4];omega) (fun i=>.lst ((shr (ze2 (.list ds)).toNat (rowF (ds.getD i .none))).map V.int)) (fun j σ=>∃ t:Option V,σ=[t,some (.ref a)]) ⟨none,rfl⟩ ?_ ?_
  ·rintro i x σ I R S hi s2 hx ⟨_,rfl⟩ k
   obtain⟨d,ed,hd⟩:=l.get i x hx
   rw[getD_some ed] at k
   refine br_T ?_
   refine zn4 (h1.same s2) eb ?_
   rw[show ze2 (.list ds)=(((ze2 (.list ds)).toNat:Nat):Int) by rfl']
   refine zaf1 (hd.same s2) (ok d (zca0 ed)).1 (ok d (zca0 ed)).2 (by rfl') (fun r3 H3 f3 s3 h3=>?_)
   ac_nf
   exact k _ _ _ f3 s3 h3 ⟨_,rfl⟩
  rintro r ps H2 F2
  ac_nf
  exact q r ps H2 (s1.free F2.facc) (s1.trans F2.same) F2.out (by rw[F2.len];exact ll) fun i p ep=>(F2.row i p ep).2
@[irreducible] def zd6:Sp:=fun vs H Q _=>∃ n k:Int,vs=[.int n,.int k]/\0<=n/\n<2147483629/\0<=k/\k<=10000000/\∀ r:Int,0<=r->r<2147483587->Q (.int r) H
theorem zav2{n k:Int}(h0:0<=n)(h1:n<2147483629)(h2:0<=k)(h3:k<=10000000)(q:∀ r:Int,0<=r->r<2147483587->Q (.int r) H):zd6 [.int n,.int k] H Q E:=by
 unfold zd6;exact⟨n,k,rfl,h0,h1,h2,h3,q⟩
theorem zaa7(F:Fun K "_law_stirred" "_law_stirred" zl1 f fd)(N:Nm mg):FnOk P w K mg base CX0 1 f fd ["_law_number","_law_k"] zd6:=by
 refine F.ok zp1 (fun vs H Q E h=>by unfold zd6 at h;obtain⟨n,k,rfl,_⟩:=h;rfl) fun _ _ _ s H vs Q E hr h=>?_
 unfold zd6 at h
 obtain⟨n,k,rfl,h1,h2,h3,h4,q⟩:=h
 refine⟨_,(za2 (psS (i:=2) zp1.nd (zd8 oMod (zd8 oMul (zd8 oAdd (zd8 oAdd (zd8 oMul (pq 0) (pq 0)) (zd8 oMul (pq 1) (pq 0))) (zd8 oMul (zd8 oMul za3 (pq 1)) (pq 1))) za3) za3))
   (za6 (zb2 (zd8 oMod (zd8 oMul (pq 2) (pq 2)) za3)))),?_⟩
 repeat walk_at "st"
 ac_nf
 exact q _ (by assumption) (by assumption)
def zc5(H:Hp)(a:Addr)(b:Int):Prop:=∃ x y z:Int,H a=some (.lst [.int x,.int y,.int z])/\(y=1∨(y=0/\0<=x/\x<2147483629))/\0<=z/\z<=b
theorem zc5.same{H H':Hp}{a:Addr}{b:Int}(h:zc5 H a b)(s:Same H H'):zc5 H' a b:=by
 obtain⟨x,y,z,e,r⟩:=h
 exact⟨x,y,z,s _ _ e,r⟩
local macro_rules | `(tactic| walk_at "la")=>`(tactic| first|assumption|(refine zc5.same (H:=?H) ?l ?s;(case s=>assumption);(case l=>walk_at "la"))|fail "la")
theorem zc5.up{a:Addr}{b c:Int}(h:zc5 H a b)(l:b<=c):zc5 H a c:=by
 obtain⟨x,y,z,e1,e2,e3,e4⟩:=h
 exact⟨x,y,z,e1,e2,e3,by rfl'⟩
theorem zc5.ne{H:Hp}{a p:Addr}{b:Int}(h:zc5 H a b)(f:H p=none):p≠a:=by
 obtain⟨x,y,z,e,_⟩:=h
 exact Ne.symm (za5 e f)
local macro_rules | `(tactic| walk_at "ne")=>`(tactic| first|assumption|(apply Ne.symm;assumption)|(refine zc5.ne (H:=?H) (b:=?b) ?l ?f;(case f=>assumption);(case l=>walk_at "la"))|fail "ne")
@[irreducible] def ze5:Sp:=fun vs H Q _=>∃ c:Int,vs=[.int c]/\∀ p H',H p=none->Same H H'->zc5 H' p 0->Q (.ref p) H'
theorem zaz4{c:Int}(q:∀ p H',H p=none->Same H H'->zc5 H' p 0->Q (.ref p) H'):ze5 [.int c] H Q E:=by
 unfold ze5;exact⟨c,rfl,q⟩
theorem zab3(F:Fun K "_law_opened" "_law_opened" zm9 f fd)(N:Nm mg):FnOk P w K mg base CX0 1 f fd ["_law_cell"] ze5:=by
 refine F.ok zab1 (fun vs H Q E h=>by unfold ze5 at h;obtain⟨n,rfl,_⟩:=h;rfl) fun _ _ _ s H vs Q E hr h=>?_
 unfold ze5 at h
 obtain⟨c,rfl,q⟩:=h
 refine⟨_,(za2 (psIf (ptC oLt (pq 0) (zd8 oPow za3 za3)) (za6 (zb2 (zu7 (za0 (zd8 oMod (pq 0) za3) (za0 za3 (za0 za3 za1)))))) zf8)
   (za6 (zb2 (zu7 (za0 (zd8 oSub (pq 0) (zd8 oPow za3 za3)) (za0 za3 (za0 za3 za1))))))),?_⟩
 walk_at "st"
 refine zj9 (fun h=>?_) (fun h=>?_)
 ·repeat walk_at "st"
  ac_nf
  exact q _ _ (by assumption) (by assumption) ⟨_,_,_,by assumption,.inr ⟨rfl,by assumption,by assumption⟩,by rfl',by rfl'⟩
 ·repeat walk_at "st"
  ac_nf
  exact q _ _ (by assumption) (by assumption) ⟨_,_,_,by assumption,.inl rfl,by rfl',by rfl'⟩
@[irreducible] def ze0:Sp:=fun vs H Q _=>∃ (a:Addr) (m b:Int),vs=[.ref a,.int m]/\zc5 H a b/\b<=1000000/\0<m/\m<10 ^ 60/\∀ (d:Int) H',0<=d->d<m->Chg a H H'->zc5 H' a (b+4)->Q (.int d) H'
theorem zp0{a:Addr}{m b:Int}(hL:zc5 H a b)(hb:b<=1000000)(h0:0<m)(h1:m<10 ^ 60)(q:∀ (d:Int) H',0<=d->d<m->Chg a H H'->zc5 H' a (b+4)->Q (.int d) H'):ze0 [.ref a,.int m] H Q E:=by
 unfold ze0;exact⟨a,m,b,rfl,hL,hb,h0,h1,q⟩
theorem zak7(F:Fun K "_law_draw" "_law_draw" zr2 f fd)(N:Nm mg)(zbw6:Def P w K mg base CX0 1 "_law_stirred" ["_law_number","_law_k"] zd6):FnOk P w K mg base CX0 2 f fd ["_law_left","_law_base"] ze0:=by
 refine F.ok zg2 (fun vs H Q E h=>by unfold ze0 at h;obtain⟨a,m,b,rfl,_⟩:=h;rfl) fun _ _ _ s H vs Q E hr h=>?_
 unfold ze0 at h
 obtain⟨a,m,b,rfl,⟨x,y,z,hl,hy,hz0,hz1⟩,hb,hm0,hm1,q⟩:=h
 have hu:=hu40 hr
 refine⟨_,(za2 (psIf (ptC (oEqK (K:=K) rfl (by exact hu)) (zc7 (K:=K) rfl (pq 0) za3) za3) (za2 (psS (i:=2) zg2.nd (zd8 oMod (zc7 (K:=K) rfl (pq 0) za3) (pq 1)))
   (za2 (zbn0 (zd8 oDiv (zc7 (K:=K) rfl (pq 0) za3) (pq 1)) (zbm6 (pq 0) za3 setM))
   (za6 (zb2 (pq 2))))) zf8)
   (za2 (psS (i:=3) zg2.nd za3)
   (za2 (zah4 PassesOwn.never rfl (zw2 N.range_ (za0 (zc7 (K:=K) rfl (zu7 (za0 za3 (za0 za3 za1))) (pT cInt N.int_ zbn6 (za0 (peC oGt (pq 1) (zd8 oPow za3 za3)) za1))) za1)) (za7 (i:=4) zg2.nd rfl (by eq_refl)) (za2 (zbn0 (zd8 oAdd (zc7 (K:=K) rfl (pq 0) za3) za3) (zbm6 (pq 0) za3 setM))
   (za2 (psS (i:=5) zg2.nd (pD zbw6 hr zb6 (za0 (zc7 (K:=K) rfl (pq 0) za3) (za0 (zc7 (K:=K) rfl (pq 0) za3) za1))))
   (za6 (psS (i:=3) zg2.nd (zd8 oAdd (zd8 oMul (pq 3) za3) (zd8 oMod (zd8 oMul (pq 5) (zd8 oAdd (pq 5) za3)) za3)))))))
   (za6 (zb2 (zd8 oMod (pq 3) (pq 1))))))),?_⟩
 walk_at "st"
 refine zj9 (fun h=>?_) (fun h=>?_)
 ·subst h
  walk_at "st"
  walk_at "st"
  walk_at "st"
  walk_at "st"
  refine zbn2 hl (by rfl) (fun H1 hc h1=>?_)
  ac_nf
  exact q _ _ (by assumption) (by assumption) hc ⟨_,_,_,h1,.inl rfl,hz0,by rfl'⟩
 ·obtain⟨rfl,hx0,hx1⟩:y=0/\0<=x/\x<2147483629:=by rfl'
  refine zi7 (fun p1 H1 hf1 hs1 ha1=>?_)
  walk_at "st"
  refine zas1 ha1 (by split<;>decide) (by show _<((2:Nat):Int);split<;>decide) (fun v hv=>?_)
  obtain⟨j,rfl,hj1,hj4⟩:∃ j:Int,v=.int j/\1<=j/\j<=4:=by
   simp only[zca6,zce4,or_false] at hv
   rcases hv with rfl|rfl
   ·exact⟨1,rfl,by decide,by decide⟩
   ·exact⟨4,rfl,by decide,by decide⟩
  refine zk5 (by decide) (by decide) (by rfl') (by rfl') ?_
  refine zq6 (fun i σ H2=>∃ (num:Int) (t mx:Option V),σ=[some (.ref a),some (.int m),none,some (.int num),t,mx]/\0<=num/\Chg a H H2/\H2 a=some (.lst [.int x,.int 0,.int (z+i)])) ?_ ?_ ?_
  ·exact⟨0,none,none,rfl,by decide,hs1.toChg,by rw[hs1 _ _ hl];simp⟩
  ·rintro i σ H2 hi ⟨num,t,mx,rfl,hn,hc,h2⟩
   have hi4:(i:Int)<4:=by rfl'
   walk_at "st"
   refine zbn2 h2 (by rfl) (fun H3 hc3 h3=>?_)
   walk_at "st"
   walk_at "st"
   refine zav2 hx0 hx1 (by rfl') (by rfl') (fun r hr0 hr1=>?_)
   walk_at "st"
   walk_at "st"
   walk_at "st"
   ac_nf
   refine⟨_,_,_,rfl,?_,hc.trans hc3,?_⟩
   ·rename_i r2 hr20 hr21
    omega
   ·rw[h3]
    have e:z+(i:Int)+1=z+((i+1:Nat):Int):=by rfl'
    rw[← e]
    rfl
  ·rintro σ H2 ⟨num,t,mx,rfl,hn,hc,h2⟩
   walk_at "st"
   ac_nf
   exact q _ _ (by assumption) (by assumption) hc ⟨_,_,_,h2,.inr ⟨rfl,hx0,hx1⟩,by rfl',by rfl'⟩
theorem Chg.free'{a l:Addr}(x:Chg a H H')(h:H' l=none)(n:l≠a):H l=none:=by
 cases e:H l with
 | none=>rfl
 | some o=>
  have:=x l o n e
  rw[h] at this
  cases this
theorem zc5.chg{a p:Addr}{b:Int}(h:zc5 H a b)(c:Chg p H H')(n:a≠p):zc5 H' a b:=by
 obtain⟨x,y,z,e,r⟩:=h
 exact⟨x,y,z,c _ _ n e,r⟩
@[irreducible] def zb8:Sp:=fun vs H Q _=>∃ (a:Addr) (b:Int) (h f:Nat),vs=[.ref a,.int h,.int f]/\zc5 H a b/\b<=100000/\h<=40/\(1<=f/\f<=8)/\∀ l H' (ns:List Int),H l=none->Chg a H H'->zc5 H' a (b+100)->l≠a->H' l=some (.lst (ns.map V.int))->ns.length=f->ns.sum=h->(∀ x∈ns,0<=x)->Q (.ref l) H'
theorem zaf2{a:Addr}{b:Int}{h f:Nat}(hL:zc5 H a b)(hb:b<=100000)(h1:h<=40)(h2:1<=f)(h3:f<=8)(q:∀ l H' (ns:List Int),H l=none->Chg a H H'->zc5 H' a (b+100)->l≠a->H' l=some (.lst (ns.map V.int))->ns.length=f->ns.sum=h->(∀ x∈ns,0<=x)->Q (.ref l) H'):zb8 [.ref a,.int h,.int f] H Q E:=by
 unfold zb8;exact⟨a,b,h,f,rfl,hL,hb,h1,⟨h2,h3⟩,q⟩
theorem zs6(F:Fun K "_law_drawn_plan" "_law_drawn_plan" zh7 f fd)(N:Nm mg)(zbv1:Def P w K mg base CX0 2 "_law_draw" ["_law_left","_law_base"] ze0):FnOk P w K mg base CX0 3 f fd ["_law_left","_law_hosts","_law_many"] zb8:=by
 refine F.ok zb7 (fun vs H Q E h=>by unfold zb8 at h;obtain⟨_,_,_,_,rfl,_⟩:=h;rfl) fun _ _ _ s H vs Q E hr h=>?_
 unfold zb8 at h
 obtain⟨a,b,h,f,rfl,hL,hb,h1,⟨h2,h3⟩,q⟩:=h
 refine⟨_,(za2 (psS (i:=3) zb7.nd (zu7 za1))
   (za2 (psS (i:=4) zb7.nd (pq 1))
   (za2 (zah4 PassesOwn.never rfl (zw2 N.range_ (za0 (zd8 oSub (pq 2) za3) za1)) (za7 (i:=5) zb7.nd rfl (by eq_refl)) (za2 (psS (i:=6) zb7.nd (zc7 (K:=K) rfl (zu7 (za0 (pD zbv1 hr zb6 (za0 (pq 0) (za0 (zd8 oAdd (pq 4) za3) za1))) (za0 za3 (za0 (pq 4) za1)))) (zd8 oDiv (pD zbv1 hr zb6 (za0 (pq 0) (za0 za3 za1))) za3)))
   (za2 (zk9 (zl9 (pq 3) (za0 (pq 6) za1)))
   (za6 (psS (i:=4) zb7.nd (zd8 oSub (pq 4) (pq 6)))))))
   (za6 (zb2 (zd8 oAdd (pq 3) (zu7 (za0 (pq 4) za1)))))))),?_⟩
 refine zi7 (fun l H1 f1 s1 h1'=>?_)
 have n1:l≠a:=hL.ne f1
 refine zk5 (by decide) (by decide) (by rfl') (by rfl') ?_
 refine zq6 (fun i σ H2=>∃ (x y:Option V) (ns:List Int) (r:Int),σ=[some (.ref a),some (.int h),some (.int f),some (.ref l),some (.int r),x,y]/\Chg a H H2/\zc5 H2 a (b+8*i)/\H2 l=some (.lst (ns.map V.int))/\ns.length=i/\ns.sum+r=h/\0<=r/\r<=40/\∀ x∈ns,0<=x) ?_ ?_ ?_
 ·exact⟨_,_,[],h,rfl,s1.toChg,(hL.same s1).up (by rfl'),h1',rfl,by simp,by rfl',by rfl',by simp⟩
 ·rintro i σ H2 hi ⟨x0,y0,ns,r,rfl,c2,L2,e2,l2,t2,r0,r1,nn⟩
  have hi:i<8:=by rfl'
  refine zp0 L2 (by rfl') (by rfl') (by rfl') (fun d3 H3 d30 d31 c3 L3=>?_)
  refine zi7 (fun p5 H5 f5 s5 h5=>?_)
  refine zp0 (L3.same s5) (by rfl') (by rfl') (by rfl') (fun d6 H6 d60 d61 c6 L6=>?_)
  have h56:=c6 _ _ (L3.ne f5) h5
  have e26:H6 l=some (.lst (ns.map V.int)):=c6 _ _ n1 (s5 _ _ (c3 _ _ n1 e2))
  walk_at "st"
  refine zas1 h56 (by rfl') (by simp only[zcc6,List.length_nil];omega) ?_
  intro v hv
  obtain⟨m,rfl,hm0,hm⟩:∃ m:Int,v=.int m/\0<=m/\m<=r:=by
   simp only[zca6,zce4,or_false] at hv
   rcases hv with rfl|rfl|rfl<;>exact⟨_,rfl,by rfl',by rfl'⟩
  clear hv
  refine zac8 e26 ?_
  refine zaj0 e26 (by rw[zbz4,zci4];omega) (fun H7 c7 h7=>?_)
  ac_nf
  have c26:Chg a H H6:=((c2.trans c3).same s5).trans c6
  refine⟨_,_,ns++[m],r - m,rfl,fun b o h1 e=>c7 _ _ (za5 e f1) (c26 _ _ h1 e),(L6.chg c7 (Ne.symm n1)).up (by rfl'),by rw[h7,zcb7];rfl,by rw[zca8,l2];rfl,by rw[List.sum_append];simp;omega,by rfl',by rfl',fun x hx=>?_⟩
  rcases zcd8.mp hx with hx|hx
  ·exact nn x hx
  ·have:x=m:=by simpa using hx
   omega
 ·rintro σ H2 ⟨x0,y0,ns,r,rfl,c2,L2,e2,l2,t2,r0,r1,nn⟩
  refine zi7 (fun p3 H3 f3 s3 h3'=>?_)
  refine zay8 (s3 _ _ e2) h3' (by rw[zbz4,zci4,zcf1];omega) (fun p4 H4 f4 s4 h4'=>?_)
  ac_nf
  have L3:=(L2.same s3).same s4
  have m1:p4≠a:=(L2.same s3).ne f4
  refine q p4 H4 (ns++[r]) (Chg.free' (c2.same s3) f4 m1) ((c2.same s3).same s4) (L3.up (by rfl')) m1 (by rw[h4',zcb7];rfl) (by rw[zca8,l2,zcf1];omega) (by rw[List.sum_append];simp;omega) (fun x hx=>?_)
  rcases zcd8.mp hx with hx|hx
  ·exact nn x hx
  ·have:x=r:=by simpa using hx
   omega
def zb5(ms:List (List Int×Int)):Int:=(ms.map fun x=>x.2).sum
def preM(ms:List (List Int×Int))(k:Nat):Int:=((ms.take k).map fun x=>x.2).sum
theorem zx6(ms:List (List Int×Int)):preM ms 0=0:=by unfold preM;simp
theorem zaa0{k:Nat}{x:List Int×Int}(h:ms[k]?=some x):preM ms (k+1)=preM ms k+x.2:=by
 unfold preM
 rw[List.take_succ,h]
 simp
theorem zbh3(ms:List (List Int×Int)){k:Nat}(h:ms.length<=k):preM ms k=zb5 ms:=by unfold preM zb5;rw[zce0 h]
theorem zx7(ms:List (List Int×Int))(x:List Int×Int):zb5 (ms++[x])=zb5 ms+x.2:=by unfold zb5;rw[zcb7,List.sum_append];simp
@[irreducible] def zc1:Sp:=fun vs H Q _=>∃ (a:Addr) (b:Int) (h f:Nat),vs=[.ref a,.int h,.int f,.int 6]/\zc5 H a b/\b<=60000/\h<=40/\(1<=f/\f<=8)/\∀ m ts ms H',H m=none->Chg a H H'->zc5 H' a (b+2000)->zc3 H' m ts ms->OkM h f ms->zb5 ms<=57->ms.length<=7->Q (.ref m) H'
theorem zaj2{a:Addr}{b:Int}{h f:Nat}(hL:zc5 H a b)(hb:b<=60000)(h1:h<=40)(h2:1<=f)(h3:f<=8)(q:∀ m ts ms H',H m=none->Chg a H H'->zc5 H' a (b+2000)->zc3 H' m ts ms->OkM h f ms->zb5 ms<=57->ms.length<=7->Q (.ref m) H'):zc1 [.ref a,.int h,.int f,.int 6] H Q E:=by
 unfold zc1;exact⟨a,b,h,f,rfl,hL,hb,h1,⟨h2,h3⟩,q⟩
theorem zt3(F:Fun K "_law_drawn_mix" "_law_drawn_mix" zj0 f fd)(N:Nm mg)(zbv1:Def P w K mg base CX0 2 "_law_draw" ["_law_left","_law_base"] ze0)(zbw0:Def P w K mg base CX0 3 "_law_drawn_plan" ["_law_left","_law_hosts","_law_many"] zb8):FnOk P w K mg base CX0 4 f fd ["_law_left","_law_hosts","_law_many","_law_most"] zc1:=by
 refine F.ok zh6 (fun vs H Q E h=>by unfold zc1 at h;obtain⟨_,_,_,_,rfl,_⟩:=h;rfl) fun _ _ _ s H vs Q E hr h=>?_
 unfold zc1 at h
 obtain⟨a,b,h,f,rfl,hL,hb,h1,⟨h2,h3⟩,q⟩:=h
 have hu:=hu40 hr
 refine⟨_,(za2 (psS (i:=4) zh6.nd (zu7 za1))
   (za2 (zah4 PassesOwn.never rfl (zw2 N.range_ (za0 (zd8 oAdd za3 (pD zbv1 hr zb6 (za0 (pq 0) (za0 (pq 3) za1)))) za1)) (za7 (i:=5) zh6.nd rfl (by eq_refl)) (za6 (zk9 (zl9 (pq 4) (za0 (zy1 (za0 (pD zbw0 hr zb6 (za0 (pq 0) (za0 (pq 1) (za0 (pq 2) za1)))) (za0 (zd8 oAdd za3 (pD zbv1 hr zb6 (za0 (pq 0) (za0 za3 za1)))) za1))) za1)))))
   (za2 (psCut (psIf (ptC (oEqK (K:=K) rfl (by exact hu)) (pD zbv1 hr zb6 (za0 (pq 0) (za0 za3 za1))) za3) (za6 (zk9 (zl9 (pq 4) (za0 (zy1 (za0 (pT (zbo2 (K:=K) rfl) N.list_ zu9 (za0 (zc7 (K:=K) rfl (zc7 (K:=K) rfl (pq 4) za3) za3) za1)) (za0 (zd8 oAdd za3 (pD zbv1 hr zb6 (za0 (pq 0) (za0 za3 za1)))) za1))) za1)))) zf8))
   (za6 (zb2 (pq 4)))))),?_⟩
 refine zi7 (fun l H1 f1 s1 h1'=>?_)
 have n1:l≠a:=hL.ne f1
 refine zp0 (hL.same s1) (by rfl') (by rfl') (by rfl') (fun d H2 d0 d1 c2 L2=>?_)
 refine zk5 (by decide) (by decide) (by rfl') (by rfl') ?_
 obtain⟨n,en⟩:∃ n:Nat,(1+d - 0).toNat=n:=⟨_,rfl⟩
 rw[en]
 have hn1:1<=n/\n<=6:=by rfl'
 have c12:Chg a H H2:=s1.toChg.trans c2
 refine zq6 (fun i σ H3=>∃ (y:Option V) (ts:List (Addr×Addr)) (ms:List (List Int×Int)),σ=[some (.ref a),some (.int h),some (.int f),some (.int 6),some (.ref l),y]/\Chg a H H3/\zc5 H3 a (b+4+200*i)/\zc3 H3 l ts ms/\Off a ts/\Off l ts/\ms.length=i/\(∀ x∈ms,OkX h f x)/\zb5 ms<=i*9) ?_ ?_ ?_
 ·refine⟨_,[],[],rfl,c12,L2.up (by rfl'),⟨c2 _ _ n1 h1',rfl,fun i t x e=>by simp at e⟩,?_,?_,rfl,?_,?_⟩
  ·intro t ht;cases ht
  ·intro t ht;cases ht
  ·intro x hx;cases hx
  ·show zb5 []<=_
   unfold zb5
   simp
 ·rintro i σ H3 hi ⟨y0,ts,ms,rfl,c3,L3,M3,O1,O2,l3,k3,w3⟩
  have hi:i<6:=by rfl'
  refine zac8 M3.out ?_
  refine zaf2 L3 (by rfl') h1 h2 h3 (fun p8 H8 ns f8 c8 L8 n8 h8 k81 k82 k83=>?_)
  have M8:=M3.chg c8 n1 O1
  have p8l:p8≠l:=Ne.symm (za5 M3.out f8)
  refine zp0 L8 (by rfl') (by rfl') (by rfl') (fun d4 H4 d40 d41 c4 L4=>?_)
  have M4:=M8.chg c4 n1 O1
  refine zi5 (fun p9 H9 f9 s9 h9=>?_)
  have M9:=M4.same s9
  have p9l:p9≠l:=Ne.symm (za5 M4.out f9)
  refine zaj0 M9.out (by rw[zbz4,zci4,M9.len];omega) (fun Ha ca ha=>?_)
  ac_nf
  have Ma:=M9.push ca O2 ha (x:=(ns,1+d4)) (ca _ _ p9l h9) (ca _ _ p8l (s9 _ _ (c4 _ _ n8 h8)))
  have c39:Chg a H H9:=((c3.trans c8).trans c4).same s9
  refine⟨_,_,_,rfl,fun b o z e=>ca _ _ (za5 e f1) (c39 _ _ z e),((L4.same s9).chg ca (Ne.symm n1)).up (by rfl'),Ma,O1.push (L4.ne f9) n8,O2.push p9l p8l,by rw[zca8,l3];rfl,zat4 k3 ⟨k83,by rw[k81],k82,by rfl'⟩,?_⟩
  rw[zx7]
  push_cast
  rw[Int.add_mul]
  omega
 ·rintro σ H3 ⟨y0,ts,ms,rfl,c3,L3,M3,O1,O2,l3,k3,w3⟩
  have wb:zb5 ms<=54:=by rfl'
  refine cut_rd (fun σ H5=>∃ (y:Option V) (ts:List (Addr×Addr)) (ms:List (List Int×Int)),σ=[some (.ref a),some (.int h),some (.int f),some (.int 6),some (.ref l),y]/\Chg a H H5/\zc5 H5 a (b+2000)/\zc3 H5 l ts ms/\OkM h f ms/\zb5 ms<=57/\ms.length<=7) ?_ ?_
  ·ac_nf
   refine zp0 L3 (by rfl') (by rfl') (by rfl') (fun d4 H4 d40 d41 c4 L4=>?_)
   have M4:=M3.chg c4 n1 O1
   refine zj9 (fun z=>?_) (fun z=>?_)
   ·obtain⟨x,ex⟩:∃ x,ms[0]?=some x:=⟨ms[0]'(by rfl'),zbz5 _⟩
    obtain⟨t,et,at0,ht,hp⟩:=M4.ix ex
    have kx:=k3 x (zca0 ex)
    refine zac8 M4.out ?_
    refine zf6 (v:=.ref t.1) M4.out at0 ?_
    refine zh1 (v:=.ref t.2) ht rfl ?_
    refine zat3 (SqL.of hp) (fun p5 H5 f5 s5 h5=>?_)
    refine zp0 (L4.same s5) (by rfl') (by rfl') (by rfl') (fun d6 H6 d60 d61 c6 L6=>?_)
    have n5:p5≠a:=L4.ne f5
    have M6:=(M4.same s5).chg c6 n1 O1
    have p5l:p5≠l:=Ne.symm (za5 M4.out f5)
    refine zi5 (fun p7 H7 f7 s7 h7=>?_)
    have M7:=M6.same s7
    have p7l:p7≠l:=Ne.symm (za5 M6.out f7)
    refine zaj0 M7.out (by rw[zbz4,zci4,M7.len];omega) (fun Ha ca ha=>?_)
    ac_nf
    have Ma:=M7.push ca O2 ha (x:=(x.1,1+d6)) (ca _ _ p7l h7) (ca _ _ p5l (s7 _ _ (c6 _ _ n5 h5)))
    have c37:Chg a H H7:=(((c3.trans c4).same s5).trans c6).same s7
    refine⟨_,_,_,rfl,fun b o z e=>ca _ _ (za5 e f1) (c37 _ _ z e),((L6.same s7).chg ca (Ne.symm n1)).up (by rfl'),Ma,⟨by rw[zca8];simp,by rw[zca8,l3,zcf1];omega,by rfl',zat4 k3 ⟨kx.1,kx.2.1,kx.2.2.1,by rfl'⟩⟩,?_⟩
    rw[zx7,zca8,l3,zcf1]
    refine⟨?_,by rfl'⟩
    show zb5 ms+(1+d6)<=57
    omega
   ·ac_nf
    exact⟨_,_,_,rfl,c3.trans c4,L4.up (by rfl'),M4,⟨by rfl',by rfl',by rfl',k3⟩,by rfl',by rfl'⟩
  ·rintro σ H5 ⟨y5,ts5,ms5,rfl,c5,L5,M5,k5,w5,e5⟩
   ac_nf
   exact q l ts5 ms5 H5 f1 c5 L5 M5 k5 w5 e5
def wsum{α:Type}(l:List (α×Int))(f:α->Int):Int:=(l.map fun x=>x.2*f x.1).sum
theorem zd7{α:Type}(x:α×Int)(l:List (α×Int))(f:α->Int):wsum (x :: l) f=x.2*f x.1+wsum l f:=by unfold wsum;rw[zcb1,zcc8]
theorem zak9{α:Type}{l m:List (α×Int)}(h:l.Perm m)(f:α->Int):wsum l f=wsum m f:=by unfold wsum;exact zai8 (h.map _)
theorem zy4{α:Type}{f:α->Int}(hf:∀ a,0<=f a):∀ {l:List (α×Int)},(∀ x∈l,0<=x.2)->0<=wsum l f
 | [],_=>by unfold wsum;simp
 | x :: l,h=>by
  rw[zd7]
  have:=zy4 hf (l:=l) fun y hy=>h y (.tail _ hy)
  have:=Int.mul_nonneg (h x (.head _)) (hf x.1)
  omega
theorem zv0{α:Type}{l:List (α×Int)}{f g:α->Int}(h:∀ x∈l,f x.1=g x.1):wsum l f=wsum l g:=by
 unfold wsum
 congr 1
 exact zcb3 fun x hx=>by rw[h x hx]
def ind(b:Bool):Int:=if b=true then 1 else 0
theorem zbn5(b:Bool):0<=ind b:=by cases b<;>decide
theorem zq5{α:Type}{f:α->Bool}:∀ {l:List (α×Int)},(∀ x∈l,1<=x.2)->∀ x∈l,f x.1=true->1<=wsum l (fun a=>ind (f a))
 | y :: l,h,x,hx,e=>by
  rw[zd7]
  have h0:0<=wsum l (fun a=>ind (f a)):=zy4 (fun a=>zbn5 _) fun z hz=>by have:=h z (.tail _ hz);omega
  have h1:=h y (.head _)
  rcases zca6.mp hx with rfl|hx
  ·rw[e]
   show 1<=x.2*1+_
   omega
  ·have:=zq5 (l:=l) (fun z hz=>h z (.tail _ hz)) x hx e
   have:=Int.mul_nonneg (show 0<=y.2 by rfl') (zbn5 (f y.1))
   omega
theorem zt1{α:Type}{f:α->Bool}{l:List (α×Int)}(h:∀ x∈l,f x.1=false):wsum l (fun a=>ind (f a))=0:=by
 rw[zv0 (g:=fun _=>0) fun x hx=>by rw[h x hx];rfl]
 unfold wsum
 simp only[Int.mul_zero]
 induction l with
 | nil=>rfl
 | cons x l ih=>rw[zcb1,zcc8,ih fun y hy=>h y (.tail _ hy)];rfl
theorem Mrg.align{α β:Type}{ka:α->Int}{kb:β->Int}{ps:List (α×Int)}{rs:List (β×Int)}{out:List (α×β×Int)}(m:Mrg ps rs out):(∀ x∈ps,1<=x.2)->(∀ x∈rs,1<=x.2)->ps.Pairwise (fun x y=>ka x.1<=ka y.1)->rs.Pairwise (fun x y=>kb x.1<=kb y.1) ->
  (∀ k,wsum ps (fun a=>ind (decide (ka a=k)))=wsum rs (fun a=>ind (decide (kb a=k))))->∀ z∈out,ka z.1=kb z.2.1:=by
 have head:∀ {p:α}{w v:Int}{ps:List (α×Int)}{r:β}{rs:List (β×Int)},(∀ x∈(p,w) :: ps,1<=x.2)->(∀ x∈(r,v) :: rs,1<=x.2)->((p,w) :: ps).Pairwise (fun x y=>ka x.1<=ka y.1)->((r,v) :: rs).Pairwise (fun x y=>kb x.1<=kb y.1) ->
   (∀ k,wsum ((p,w) :: ps) (fun a=>ind (decide (ka a=k)))=wsum ((r,v) :: rs) (fun a=>ind (decide (kb a=k))))->ka p=kb r:=by
  intro p w v ps r rs h1 h2 s1 s2 e
  have s1:=(zcd6.mp s1).1
  have s2:=(zcd6.mp s2).1
  rcases Int.lt_trichotomy (ka p) (kb r) with z|z|z
  ·have a:=zq5 (f:=fun a=>decide (ka a=ka p)) h1 (p,w) (.head _) (decide_eq_true rfl)
   have b:=zt1 (f:=fun a=>decide (kb a=ka p)) (l:=(r,v) :: rs) fun x hx=>decide_eq_false (by
    rcases zca6.mp hx with rfl|hx
    ·show ¬ kb r=ka p;omega
    ·have:=s2 x hx
     show ¬ kb x.1=ka p
     have:kb r<=kb x.1:=this
     omega)
   rw[e,b] at a
   omega
  ·exact z
  ·have a:=zq5 (f:=fun a=>decide (kb a=kb r)) h2 (r,v) (.head _) (decide_eq_true rfl)
   have b:=zt1 (f:=fun a=>decide (ka a=kb r)) (l:=(p,w) :: ps) fun x hx=>decide_eq_false (by
    rcases zca6.mp hx with rfl|hx
    ·show ¬ ka p=kb r;omega
    ·have:=s1 x hx
     show ¬ ka x.1=kb r
     have:ka p<=ka x.1:=this
     omega)
   rw[← e,b] at a
   omega
 induction m with
 | nil=>intro _ _ _ _ _ z hz;cases hz
 | @lt p w v ps r rs out hl hm ih=>
  intro h1 h2 s1 s2 e z hz
  have hk:=head h1 h2 s1 s2 e
  rcases zca6.mp hz with rfl|hz
  ·exact hk
  ·refine ih (fun x hx=>h1 x (.tail _ hx)) (fun x hx=>?_) (zcd6.mp s1).2 ?_ (fun k=>?_) z hz
   ·rcases zca6.mp hx with rfl|hx
    ·show 1<=v - w;omega
    ·exact h2 x (.tail _ hx)
   ·exact zcd6.mpr ⟨(zcd6.mp s2).1,(zcd6.mp s2).2⟩
   ·have e:=e k
    rw[zd7,zd7] at e
    rw[zd7]
    dsimp only at e ⊢
    rw[hk] at e
    rw[Int.sub_mul]
    omega
 | @eq p w ps r rs out hm ih=>
  intro h1 h2 s1 s2 e z hz
  have hk:=head h1 h2 s1 s2 e
  rcases zca6.mp hz with rfl|hz
  ·exact hk
  ·refine ih (fun x hx=>h1 x (.tail _ hx)) (fun x hx=>h2 x (.tail _ hx)) (zcd6.mp s1).2 (zcd6.mp s2).2 (fun k=>?_) z hz
   have e:=e k
   rw[zd7,zd7] at e
   dsimp only at e
   rw[hk] at e
   omega
 | @gt p w v ps r rs out hl hm ih=>
  intro h1 h2 s1 s2 e z hz
  have hk:=head h1 h2 s1 s2 e
  rcases zca6.mp hz with rfl|hz
  ·exact hk
  ·refine ih (fun x hx=>?_) (fun x hx=>h2 x (.tail _ hx)) ?_ (zcd6.mp s2).2 (fun k=>?_) z hz
   ·rcases zca6.mp hx with rfl|hx
    ·show 1<=w - v;omega
    ·exact h1 x (.tail _ hx)
   ·exact zcd6.mpr ⟨(zcd6.mp s1).1,(zcd6.mp s1).2⟩
   ·have e:=e k
    rw[zd7,zd7] at e
    rw[zd7]
    dsimp only at e ⊢
    rw[hk] at e ⊢
    rw[Int.sub_mul]
    omega
def lvR(h W:Int)(rs:List (List (Int×Int×Int)))(k:Int):Int:=match rs.getLast? with
 | none=>if h=k then W else 0
 | some xs=>wsum (rwF xs) (fun r=>ind (decide (r.1 - r.2=k)))
theorem zag1(h W:Int)(rs:List (List (Int×Int×Int)))(xs:List (Int×Int×Int))(k:Int):lvR h W (rs++[xs]) k=wsum (rwF xs) (fun r=>ind (decide (r.1 - r.2=k))):=by
 unfold lvR
 rw[List.getLast?_append]
 rfl
theorem zak5{out:List (List Int×(Int×Int)×Int)}(f:List Int->Int):wsum (outM out) f=(out.map fun z=>z.2.2*f (z.1++[z.2.1.2])).sum:=by
 unfold wsum outM
 rw[zcb4]
 rfl
theorem Ap.keys{W:Int}{rs:List (List (Int×Int×Int))}(A:Ap h W rs ms)(hW:1<=W) :
  (∀ (i:Nat) xs,rs[i]?=some xs->(rwF xs).Pairwise (fun x y=>x.1.1<=y.1.1)/\(∀ x∈xs,1<=x.2.2/\0<=x.2.1)/\∀ k,wsum (rwF xs) (fun r=>ind (decide (r.1=k)))=lvR h W (rs.take i) k) ->
  (∀ k,wsum ms (fun p=>ind (decide (h - p.sum=k)))=lvR h W rs k)/\(∀ x∈ms,1<=x.2/\∀ n∈x.1,0<=n):=by
 induction A with
 | nil=>
  intro _
  refine⟨fun k=>?_,fun x hx=>?_⟩
  ·unfold wsum lvR
   simp only[zcb1,zci1,zcc8,List.sum_nil,List.getLast?_nil,Int.add_zero,Int.sub_zero]
   by_cases e:h=k
   ·rw[if_pos e];simp[ind,e]
   ·rw[if_neg e];simp[ind,e]
  ·have:x=([],W):=by simpa using hx
   subst this
   exact⟨hW,fun n hn=>by cases hn⟩
 | @step rs ms ms2 xs out A hp hs hm ih=>
  intro hc
  obtain⟨i1,i2⟩:=ih fun i ys hy=>by
   have il:=(zbz6.mp hy).1
   have:=hc i ys (by rw[zcc3 il];exact hy)
   rw[List.take_append_of_le_length (by rfl')] at this
   exact this
  obtain⟨c1,c2,c3⟩:=hc rs.length xs (by rw[zcc0 (zcb0 _),Nat.sub_self];rfl)
  rw[List.take_append_of_le_length (zcb0 _),List.take_length] at c3
  have p1:∀ x∈ms2,1<=x.2:=fun x hx=>(i2 x (hp.mem_iff.mp hx)).1
  have p2:∀ x∈rwF xs,1<=x.2:=fun x hx=>by
   unfold rwF at hx
   obtain⟨y,hy,rfl⟩:=zca9.mp hx
   exact (c2 y hy).1
  have al:=hm.align (ka:=fun p=>h - p.sum) (kb:=fun r=>r.1) p1 p2 hs c1 (fun k=>by rw[zak9 hp,i1,c3])
  refine⟨fun k=>?_,fun x hx=>?_⟩
  ·rw[zag1,zak5]
   have e1:(out.map fun z=>z.2.2*ind (decide (h - (z.1++[z.2.1.2]).sum=k)))=out.map fun z=>z.2.2*ind (decide (z.2.1.1 - z.2.1.2=k)):=zcb3 fun z hz=>by
    have:=al z hz
    rw[List.sum_append,List.sum_singleton]
    rw[show h - (z.1.sum+z.2.1.2)=z.2.1.1 - z.2.1.2 by rfl']
   rw[e1]
   exact hm.sumR fun r=>ind (decide (r.1 - r.2=k))
  ·unfold outM at hx
   obtain⟨z,hz,rfl⟩:=zca9.mp hx
   refine⟨hm.pos p1 p2 z hz,fun n hn=>?_⟩
   obtain⟨a1,a2⟩:=hm.memL z hz
   rcases zcd8.mp hn with hn|hn
   ·obtain⟨y,hy,ey⟩:=zca9.mp a1
    exact (i2 y (hp.mem_iff.mp hy)).2 n (by rw[ey];exact hn)
   ·rw[zch0.mp hn]
    obtain⟨y,hy,ey⟩:=zca9.mp a2
    unfold rwF at hy
    obtain⟨x',hx',rfl⟩:=zca9.mp hy
    rw[← ey]
    exact (c2 x' hx').2
theorem Ap.shares{W:Int}{rs:List (List (Int×Int×Int))}(A:Ap h W rs ms):(∀ x∈ms,x.1.length=rs.length)/\∀ (k:Nat) xs,rs[k]?=some xs->∀ s,wsum ms (fun p=>ind (decide (p.getD k 0=s)))=wsum (rwF xs) (fun r=>ind (decide (r.2=s))):=by
 induction A with
 | nil=>
  refine⟨fun x hx=>?_,fun k xs e=>by simp at e⟩
  have:x=([],W):=by simpa using hx
  subst this
  rfl
 | @step rs ms ms2 xs out A hp hs hm ih=>
  obtain⟨i1,i2⟩:=ih
  have zl:∀ z∈out,z.1.length=rs.length:=fun z hz=>by
   obtain⟨y,hy,ey⟩:=zca9.mp (hm.memL z hz).1
   rw[← ey]
   exact i1 y (hp.mem_iff.mp hy)
  refine⟨fun x hx=>?_,fun k ys e s=>?_⟩
  ·unfold outM at hx
   obtain⟨z,hz,rfl⟩:=zca9.mp hx
   rw[zca8,zca8,zl z hz]
   rfl
  ·rw[zak5]
   by_cases hk:k<rs.length
   ·rw[zcc3 hk] at e
    have e1:(out.map fun z=>z.2.2*ind (decide ((z.1++[z.2.1.2]).getD k 0=s)))=out.map fun z=>z.2.2*ind (decide (z.1.getD k 0=s)):=zcb3 fun z hz=>by
     rw[zbz8,zcc3 (by rw[zl z hz];exact hk),← zbz8]
    rw[e1,hm.sumL fun p=>ind (decide (p.getD k 0=s)),← i2 k ys e s]
    exact zak9 hp fun p=>ind (decide (p.getD k 0=s))
   ·have e0:k=rs.length:=by
     have:=(zbz6.mp e).1
     rw[zca8] at this
     have:k<rs.length+1:=this
     omega
    subst e0
    rw[zcc0 (zcb0 _),Nat.sub_self] at e
    cases e
    have e1:(out.map fun z=>z.2.2*ind (decide ((z.1++[z.2.1.2]).getD rs.length 0=s)))=out.map fun z=>z.2.2*ind (decide (z.2.1.2=s)):=zcb3 fun z hz=>by
     rw[zbz8,zcc0 (by rw[zl z hz];exact zcb0 _),zl z hz,Nat.sub_self]
     rfl
    rw[e1]
    exact hm.sumR fun r=>ind (decide (r.2=s))
def zd9(ms:List (List Int×Int)):List (List Int):=ms.flatMap fun x=>List.replicate x.2.toNat x.1
theorem zn0(x:List Int×Int)(ms:List (List Int×Int)):zd9 (x :: ms)=List.replicate x.2.toNat x.1++zd9 ms:=by unfold zd9;rw[List.flatMap_cons]
theorem zq3:∀ {ms:List (List Int×Int)},(∀ x∈ms,0<=x.2)->((zd9 ms).length:Int)=zb5 ms
 | [],_=>by unfold zd9 zb5;simp
 | x :: ms,h=>by
  have:=zq3 (ms:=ms) fun y hy=>h y (.tail _ hy)
  have h0:=h x (.head _)
  rw[zn0,zca8,zcf4]
  unfold zb5 at this ⊢
  rw[zcb1,zcc8]
  push_cast
  omega
theorem zah6:∀ {ms:List (List Int×Int)}{n:Nat}{k:Nat}{x:List Int×Int},(∀ x∈ms,0<=x.2)->ms[k]?=some x->preM ms k<=n->(n:Int)<preM ms (k+1)->(zd9 ms)[n]?=some x.1
 | [],_,_,_,_,e,_,_=>by simp at e
 | y :: ms,n,0,x,h,e,_,h2=>by
  obtain rfl:y=x:=Option.some.inj e
  have h0:=h y (.head _)
  rw[zaa0 (x:=y) rfl,zx6] at h2
  rw[zn0,zcc3 (by rw[zcf4];omega),List.getElem?_replicate,if_pos (by rfl')]
 | y :: ms,n,k+1,x,h,e,h1,h2=>by
  have h0:=h y (.head _)
  have c1:preM (y :: ms) (k+1)=y.2+preM ms k:=by unfold preM;rw[List.take_succ_cons,zcb1,zcc8]
  have c2:preM (y :: ms) (k+1+1)=y.2+preM ms (k+1):=by unfold preM;rw[List.take_succ_cons,zcb1,zcc8]
  have e:ms[k]?=some x:=e
  rw[c1] at h1
  rw[c2] at h2
  have p0:0<=preM ms k:=by
   unfold preM
   have:∀ l:List (List Int×Int),(∀ z∈l,0<=z.2)->0<=(l.map fun z=>z.2).sum:=by
    intro l
    induction l with
    | nil=>intro _;simp
    | cons z l ih=>intro hz;rw[zcb1,zcc8];have:=ih fun w hw=>hz w (.tail _ hw);have:=hz z (.head _);omega
   exact this _ fun z hz=>h z (.tail _ (List.mem_of_mem_take hz))
  have:=zah6 (ms:=ms) (n:=n - y.2.toNat) (k:=k) (x:=x) (fun z hz=>h z (.tail _ hz)) e (by rfl') (by rfl')
  rw[zn0,zcc0 (by rw[zcf4];omega),zcf4]
  exact this
theorem zi1(g:List Int->Bool):∀ {ms:List (List Int×Int)},(∀ x∈ms,0<=x.2)->((zd9 ms).countP g:Int)=wsum ms (fun p=>ind (g p))
 | [],_=>by unfold zd9 wsum;simp
 | x :: ms,h=>by
  have ih:=zi1 g (ms:=ms) fun y hy=>h y (.tail _ hy)
  have h0:=h x (.head _)
  rw[zn0,List.countP_append,zd7,← ih,List.countP_replicate]
  cases g x.1 with
  | true=>
   show (((if true=true then x.2.toNat else 0)+_:Nat):Int)=x.2*1+_
   rw[if_pos rfl]
   push_cast
   omega
  | false=>
   show (((if false=true then x.2.toNat else 0)+_:Nat):Int)=x.2*0+_
   rw[if_neg zca4]
   push_cast
   omega
theorem zz1(g:List Int->Bool):∀ ms:List (List Int×Int),((ms.filter fun x=>g x.1).map (·.2)).sum=wsum ms (fun p=>ind (g p))
 | []=>by unfold wsum;simp
 | x :: ms=>by
  rw[zd7,← zz1 g ms]
  cases e:g x.1 with
  | true=>rw[List.filter_cons_of_pos (by simpa using e),zcb1,zcc8];show _=x.2*1+_;omega
  | false=>rw[List.filter_cons_of_neg (by simp[e])];show _=x.2*0+_;omega
theorem OkM.toS{f:Nat}(O:OkM h f ms):OkS ms h f:=⟨O.1,by have:=O.2.2.1.2;omega,fun x hx=>by
 obtain⟨a,b,c,d⟩:=O.2.2.2 x hx
 exact⟨a,by rfl',c,d⟩⟩
theorem zt8{f:Nat}(O:OkM h f ms):sml (zp6 ms)=true:=(show okD 3 (zp6 ms) from okD.list (n:=2) (by rw[zbz4];have:=O.2.1;omega) fun d hd=>by
 obtain⟨x,hx,rfl⟩:=zca9.mp hd
 obtain⟨_,xl,_⟩:=O.2.2.2 x hx
 have:=O.2.2.1.2
 refine okD.tuple (n:=1) (by show 2<=1000;decide) fun e he=>?_
 simp only[zca6,zce4,or_false] at he
 rcases he with rfl|rfl
 ·exact okD.list (n:=0) (by rw[zbz4];omega) fun y hy=>by
   obtain⟨z,_,rfl⟩:=zca9.mp hy
   exact⟨rfl,rfl,zcd0 _⟩
 ·exact⟨rfl,rfl,zcd0 _⟩).1
theorem zu8{f:Nat}(O:OkM h f ms):mixD (zp6 ms)=true/\zn7 (zp6 ms)=f:=zba6 O.toS O.2.2.1.1 (by have:=O.2.2.1.2;omega)
@[irreducible] def zc2:Sp:=fun vs H Q _=>∃ (m:Addr) (ts:List (Addr×Addr)) (ms:List (List Int×Int)),vs=[.ref m]/\zc3 H m ts ms/\ms.length<=100/\∀ H',Same H H'->Q (.int (zb5 ms)) H'
theorem zq0(M:zc3 H m ts ms)(hl:ms.length<=100)(q:∀ H',Same H H'->Q (.int (zb5 ms)) H'):zc2 [.ref m] H Q E:=by unfold zc2;exact⟨m,ts,ms,rfl,M,hl,q⟩
theorem zbc4{k:Nat}(hk:k=ms.length):((List.range k).map fun i=>V.int (ms.getD i ([],0)).2)=(ms.map fun z=>z.2).map V.int:=by
 subst hk
 apply zch2
 intro i
 rw[zbz9,zbz9,zbz9]
 by_cases h:i<ms.length
 ·rw[zcg5 h,zbz5 h]
  simp[h]
 ·rw[zcd4 (by simp;omega),zcd4 (by rfl')]
  rfl
theorem zaa1(F:Fun K "whole_weight" "whole_weight" zl2 f fd)(N:Nm mg):FnOk P w K mg base CX0 1 f fd ["mix"] zc2:=by
 refine F.ok zaa5 (fun vs H Q E h=>by unfold zc2 at h;obtain⟨_,_,_,rfl,_⟩:=h;rfl) fun _ _ _ s H vs Q E hr h=>?_
 unfold zc2 at h
 obtain⟨m,ts,ms,rfl,M,hl,q⟩:=h
 have hu:=hu40 hr
 have ml:=M.len
 refine⟨_,(za6 (zb2 (pB (zap7 (K:=K) rfl rfl) N.sum_ zw3 (za0 (zf0 (N:=["plan","weight"]) (ks:=[none,none]) (zf1 (K:=K) rfl (pq 0)) (fun _ _ _ _ _=>(zi3 (K:=K) (n:=2) rfl rfl (zb0 (za7 (i:=0) nb_17 rfl (by eq_refl)) (zb0 (za7 (i:=1) nb_17 rfl (by eq_refl)) zi4)))) (fun _ _ _ _ _=>zc6) (fun _ _ _ _ _=>(pq 1)) (.skip (.skip .nil))) za1)))),?_⟩
 refine zb4 M.out ?_
 refine zj1 (Wk.list (SqL.of M.out)) (by rw[zbz4,zci4];omega) (fun i=>.int (ms.getD i ([],0)).2) (fun _=>true) (fun j σ=>∃ t u:Option V,σ=[t,u]) ⟨none,none,rfl⟩ ?_ ?_
 ·rintro j v σ H2 R S hj s2 hx ⟨t',u',rfl⟩ k _
  obtain⟨t,x,rfl,e1,e2,e3,e4⟩:=(M.same s2).elt hx
  rw[show ms.getD j ([],0)=x by rw[zbz8,e2];rfl] at k
  refine ze6 e3 ?_
  refine br_T ?_
  ac_nf
  exact k rfl _ _ (Same.refl _) ⟨_,_,rfl⟩
 intro acc H1 f1 s1 h1
 rw[ze7,zbc4 (by rw[zbz4];exact ml)] at h1
 refine zaa3 h1 ?_
 ac_nf
 exact q _ s1
@[irreducible] def zh5:Sp:=fun vs H Q _=>∃ (m:Addr) (ts:List (Addr×Addr)) (ms:List (List Int×Int)) (h:Int) (f:Nat),vs=[.ref m]/\zc3 H m ts ms/\OkM h f ms/\∀ H',Same H H'->Q (.int (zb5 ms)) H'
theorem zw9{f:Nat}(M:zc3 H m ts ms)(O:OkM h f ms)(q:∀ H',Same H H'->Q (.int (zb5 ms)) H'):zh5 [.ref m] H Q E:=by unfold zh5;exact⟨m,ts,ms,h,f,rfl,M,O,q⟩
theorem zao4(F:Fun K "whole_of" "whole_of" zv2 f fd)(N:Nm mg)(zbv7:Def P w K mg base (CXR P w) 6 "look_mix" ["mix"] (ze9 zbu9))(zbv5:Def P w K mg base CX0 1 "whole_weight" ["mix"] zc2):FnOk P w K mg base (CXR P w) 7 f fd ["mix"] zh5:=by
 refine F.okR zao2 (fun vs H Q E h=>by unfold zh5 at h;obtain⟨_,_,_,_,_,rfl,_⟩:=h;rfl) (fun cdv A outer s H vs Q E hr hX h=>?_)
 unfold zh5 at h
 obtain⟨m,ts,ms,h,f,rfl,M,O,q⟩:=h
 refine⟨_,(za2 (zk9 (pD zbv7 hr (zba0 hX) (za0 (pq 0) za1)))
   (za6 (zb2 (pD zbv5 hr zb6 (za0 (pq 0) za1))))),?_⟩
 refine zp7 M.sh (zt8 O) (fun em H1 s1=>?_) (fun em=>by rw[(zu8 O).1] at em;cases em)
 refine zq0 (M.same s1) O.2.1 (fun H2 s2=>?_)
 ac_nf
 exact q _ (s1.trans s2)
@[irreducible] def zm5:Sp:=fun vs H Q _=>∃ (m:Addr) (n:Nat) (ts:List (Addr×Addr)) (ms:List (List Int×Int)) (h:Int) (f:Nat),vs=[.ref m,.int n]/\zc3 H m ts ms/\OkM h f ms/\(n:Int)<zb5 ms/\∀ e p H',(zd9 ms)[n]?=some e->H p=none->Same H H'->H' p=some (.lst (e.map V.int))->Q (.ref p) H'
theorem zbg6{n:Nat}{f:Nat}(M:zc3 H m ts ms)(O:OkM h f ms)(hn:(n:Int)<zb5 ms)(q:∀ e p H',(zd9 ms)[n]?=some e->H p=none->Same H H'->H' p=some (.lst (e.map V.int))->Q (.ref p) H'):zm5 [.ref m,.int n] H Q E:=by unfold zm5;exact⟨m,n,ts,ms,h,f,rfl,M,O,hn,q⟩
theorem zbg5(F:Fun K "played" "played" zag8 f fd)(N:Nm mg)(zbv2:Def P w K mg base CX0 3 "is_between" ["thing","least","most"] zb9)(zbv7:Def P w K mg base (CXR P w) 6 "look_mix" ["mix"] (ze9 zbu9))(zbv5:Def P w K mg base CX0 1 "whole_weight" ["mix"] zc2)(Z:Cz K mg base zbv0 zbu9 zbu7 zbu8):FnOk P w K mg base (CXR P w) 7 f fd ["mix","number"] zm5:=by
 refine F.okR zo9 (fun vs H Q E h=>by unfold zm5 at h;obtain⟨_,_,_,_,_,_,rfl,_⟩:=h;rfl) (fun cdv A outer s H vs Q E hr hX h=>?_)
 unfold zm5 at h
 obtain⟨m,n,ts,ms,h,f,rfl,M,O,hn,q⟩:=h
 have hu:=hu40 hr
 have w1:∀ x∈ms,1<=x.2:=fun x hx=>(O.2.2.2 x hx).2.2.2
 refine⟨_,(za2 (zk9 (pD zbv7 hr (zba0 hX) (za0 (pq 0) za1)))
   (za2 (psIf (zo1 (ptV (pD zbv2 hr zb6 (za0 (pq 1) (za0 za3 (za0 (zd8 oSub (pD zbv5 hr zb6 (za0 (pq 0) za1)) za3) za1)))))) (za6 (zap1 Z.o_NoNumber PySem.F.excBase_ValueError rfl hX (za0 zbb2 za1))) zf8)
   (za2 (psS (i:=2) zo9.nd za3)
   (za2 (psS (i:=3) zo9.nd (zc7 (K:=K) rfl (zc7 (K:=K) rfl (pq 0) za3) za3))
   (za2 (PS.nox' (zbd2 PassesOwn.never (ptC oLe (pq 3) (pq 1)) (za2 (zbg9 (i:=2) zo9.nd ipAdd za3)
   (za6 (zbg9 (i:=3) zo9.nd ipAdd (zc7 (K:=K) rfl (zc7 (K:=K) rfl (pq 0) (pq 2)) za3))))))
   (za6 (zb2 (pT (zbo2 (K:=K) rfl) N.list_ zu9 (za0 (zc7 (K:=K) rfl (zc7 (K:=K) rfl (pq 0) (pq 2)) za3) za1))))))))),?_⟩
 refine zp7 M.sh (zt8 O) (fun em H1 s1=>?_) (fun em=>by rw[(zu8 O).1] at em;cases em)
 refine zq0 (M.same s1) O.2.1 (fun H2 s2=>?_)
 have s02:=s1.trans s2
 have M2:=M.same s02
 refine zaq4 (.int _) ?_
 rw[show zy3 0 (zb5 ms - 1) (.int (n:Int))=true from decide_eq_true ⟨by rfl',by rfl'⟩]
 refine zd4 (br_T ?_)
 obtain⟨x,ex⟩:∃ x,ms[0]?=some x:=⟨ms[0]'(by have:=O.1;omega),zbz5 _⟩
 obtain⟨t,et,at0,ht,hl⟩:=M2.ix ex
 refine zf6 (v:=.ref t.1) M2.out at0 ?_
 refine zh1 (v:=.int x.2) ht rfl ?_
 refine zas9 (fun σ H3=>∃ (k:Nat) (x:List Int×Int),σ=[some (.ref m),some (.int n),some (.int k),some (.int (preM ms (k+1)))]/\H2=H3/\ms[k]?=some x/\preM ms k<=n) (fun σ _=>match σ with | [_,_,some (.int k),_]=>ms.length - k.toNat|_=>0) ?_ ?_
 ·refine⟨0,x,?_,rfl,ex,by rw[zx6];omega⟩
  rw[zaa0 ex,zx6,zch6]
  rfl
 ·rintro σ H3 ⟨k,x,rfl,rfl,ek,lo⟩
  have kl:=(zbz6.mp ek).1
  ac_nf
  refine zaz0 (fun hh=>?_) (fun hh=>?_)
  ·have k1:k+1<ms.length:=by
    by_cases z:k+1<ms.length
    ·exact z
    ·have:=zbh3 ms (k:=k+1) (by rfl')
     omega
   obtain⟨y,ey⟩:∃ y,ms[k+1]?=some y:=⟨ms[k+1],zbz5 _⟩
   obtain⟨t,et,at1,ht,hl⟩:=M2.ix ey
   refine zf6 (v:=.ref t.1) M2.out (by rw[show (k:Int)+1=((k+1:Nat):Int) by rfl'];exact at1) ?_
   refine zh1 (v:=.int y.2) ht rfl ?_
   ac_nf
   refine⟨⟨k+1,y,?_,rfl,ey,hh⟩,?_⟩
   ·rw[zaa0 ey]
    push_cast
    rfl
   ·show ms.length - ((k:Int)+1).toNat<ms.length - (k:Int).toNat
    omega
  ·obtain⟨t,et,at1,ht,hl⟩:=M2.ix ek
   refine zf6 (v:=.ref t.1) M2.out at1 ?_
   refine zh1 (v:=.ref t.2) ht rfl ?_
   refine zat3 (SqL.of hl) (fun p H4 f4 s4 h4=>?_)
   ac_nf
   exact q x.1 p H4 (zah6 (fun z hz=>by have:=w1 z hz;omega) ek lo (by rfl')) (s02.free f4) (s02.trans s4) h4
structure LsAt(H:Hp)(r:Addr)(ps:List Addr)(es:List (List Int)):Prop where
 out:H r=some (.lst (ps.map V.ref))
 len:ps.length=es.length
 row:∀ (i:Nat) p e,ps[i]?=some p->es[i]?=some e->H p=some (.lst (e.map V.int))
theorem LsAt.same{r:Addr}{ps:List Addr}{es:List (List Int)}(L:LsAt H r ps es)(s:Same H H'):LsAt H' r ps es:=⟨s _ _ L.out,L.len,fun i p e h1 h2=>s _ _ (L.row i p e h1 h2)⟩
@[irreducible] def zc0:Sp:=fun vs H Q _=>∃ (m:Addr) (n:Nat) (ts:List (Addr×Addr)) (ms:List (List Int×Int)) (h:Int) (f:Nat),vs=[.ref m,.int n]/\zc3 H m ts ms/\OkM h f ms/\(n:Int)=zb5 ms/\n<=1000/\∀ r ps H',H r=none->Same H H'->LsAt H' r ps (zd9 ms)->Q (.ref r) H'
theorem zw0{n:Nat}{f:Nat}(M:zc3 H m ts ms)(O:OkM h f ms)(hn:(n:Int)=zb5 ms)(hl:n<=1000)(q:∀ r ps H',H r=none->Same H H'->LsAt H' r ps (zd9 ms)->Q (.ref r) H'):zc0 [.ref m,.int n] H Q E:=by unfold zc0;exact⟨m,n,ts,ms,h,f,rfl,M,O,hn,hl,q⟩
theorem zu3(F:Fun K "_law_all_plays" "_law_all_plays" zi6 f fd)(N:Nm mg)(zby6:Def P w K mg base (CXR P w) 7 "played" ["mix","number"] zm5):FnOk P w K mg base CX0 8 f fd ["_law_mix","_law_whole"] zc0:=by
 refine F.ok zu6 (fun vs H Q E h=>by unfold zc0 at h;obtain⟨_,_,_,_,_,_,rfl,_⟩:=h;rfl) fun _ _ _ s H vs Q E hr h=>?_
 unfold zc0 at h
 obtain⟨m,n,ts,ms,h,f,rfl,M,O,hn,hl,q⟩:=h
 have hu:=hu40 hr
 have w1:∀ x∈ms,0<=x.2:=fun x hx=>by have:=(O.2.2.2 x hx).2.2.2;omega
 have el:=zq3 w1
 refine⟨_,(za6 (zb2 (zf0 (N:=["_law_number","_law_mix"]) (ks:=[none,some 0]) (zw2 N.range_ (za0 (pq 1) za1)) (fun _ _ _ _ _=>(za7 (i:=0) nb_18 rfl (by eq_refl))) (fun _ _ _ _ _=>zc6) (fun _ _ _ _ _=>(pD zby6 hr zad3 (za0 (pq 1) (za0 (pq 0) za1)))) (.skip (.take rfl rfl (by eq_refl) .nil))))),?_⟩
 refine zk5 (by decide) (by decide) (by rfl') (by rfl') ?_
 rw[show ((n:Int) - 0).toNat=n by rfl']
 refine zad2 (n:=n) Wk.range (by rw[zci4];omega) (fun i=>.lst (((zd9 ms).getD i []).map V.int)) (fun j σ=>∃ t:Option V,σ=[t,some (.ref m)]) ⟨none,rfl⟩ ?_ ?_
 ·rintro i x σ I R S hi s1 hx ⟨_,rfl⟩ k
  obtain rfl:x=.int i:=by rw[hx,zch6]
  refine br_T ?_
  refine zbg6 (M.same s1) O (by rfl') (fun e p I1 ee f1 t1 k1=>?_)
  rw[show (zd9 ms).getD i []=e by rw[zbz8,ee];rfl] at k
  ac_nf
  exact k _ _ _ f1 t1 k1 ⟨_,rfl⟩
 rintro r ps H1 F1
 ac_nf
 refine q r ps H1 F1.facc F1.same ⟨F1.out,by rw[F1.len];omega,fun i p e h1 h2=>?_⟩
 have:=(F1.row i p h1).2
 rw[show (zd9 ms).getD i []=e by rw[zbz8,h2];rfl] at this
 exact this
def cntS(es:List (List Int))(h k:Nat):List Int:=(List.range (h+1)).map fun (s:Nat)=>((es.countP fun e=>decide (e.getD k 0=(s:Int)):Nat):Int)
theorem zak3{α:Type}(g:α->Bool)(d:α):∀ es:List α,((List.range es.length).filter fun i=>g (es.getD i d)).length=es.countP g:=by
 intro es
 induction es with
 | nil=>rfl
 | cons e es ih=>
  rw[zcc6,List.range_succ_eq_map,List.countP_cons,← ih,zce9,List.filter_map]
  have c:((fun i=>g ((e :: es).getD i d))∘Nat.succ)=fun i=>g (es.getD i d):=by
   funext i
   rfl
  rw[c]
  by_cases ge:g e=true
  ·rw[if_pos (show g ((e :: es).getD 0 d)=true from ge),if_pos ge,zcc6,zbz4]
  ·rw[if_neg (show ¬ g ((e :: es).getD 0 d)=true from ge),if_neg ge,zbz4];rfl
@[irreducible] def ze3:Sp:=fun vs H Q _=>∃ (r:Addr) (ps:List Addr) (es:List (List Int)) (h f:Nat),vs=[.ref r,.int h]/\LsAt H r ps es/\(1<=es.length/\es.length<=1000)/\(∀ e∈es,e.length=f)/\h<=40/\f<=8/\∀ g qs H',H g=none->Same H H'->LsAt H' g qs ((List.range f).map fun k=>cntS es h k)->Q (.ref g) H'
theorem zae3{r:Addr}{ps:List Addr}{es:List (List Int)}{h f:Nat}(L:LsAt H r ps es)(h1:1<=es.length)(h2:es.length<=1000)(h3:∀ e∈es,e.length=f)(h4:h<=40)(h5:f<=8)(q:∀ g qs H',H g=none->Same H H'->LsAt H' g qs ((List.range f).map fun k=>cntS es h k)->Q (.ref g) H'):ze3 [.ref r,.int h] H Q E:=by unfold ze3;exact⟨r,ps,es,h,f,rfl,L,⟨h1,h2⟩,h3,h4,h5,q⟩
theorem zac1(F:Fun K "_law_shares" "_law_shares" zn5 f fd)(N:Nm mg):FnOk P w K mg base CX0 1 f fd ["_law_plays","_law_hosts"] ze3:=by
 refine F.ok zl4 (fun vs H Q E h=>by unfold ze3 at h;obtain⟨_,_,_,_,_,rfl,_⟩:=h;rfl) fun _ _ _ s H vs Q E hr h=>?_
 unfold ze3 at h
 obtain⟨r,ps,es,h,f,rfl,L,⟨h1,h2⟩,h3,h4,h5,q⟩:=h
 have hu:=hu40 hr
 have ll:=L.len
 refine⟨_,(za2 (psS (i:=2) zl4.nd (zu7 za1))
   (za2 (zah4 PassesOwn.never rfl (zw2 N.range_ (za0 (pB (zv6 (K:=K) rfl) N.len_ zl7 (za0 (zc7 (K:=K) rfl (pq 0) za3) za1)) za1)) (za7 (i:=3) zl4.nd rfl (by eq_refl)) (za6 (zk9 (zl9 (pq 2) (za0 (zbr2 (x0:="_law_sent") (N:=["_law_sent","_law_plays","_law_k"]) (ks:=[none,some 0,some 3]) (zw2 N.range_ (za0 (zd8 oAdd (pq 1) za3) za1)) (fun _ _ _ _ _=>(za7 (i:=0) nb_19 rfl (by eq_refl))) (fun _ _ _ _ _=>zc6) (fun _ _ _ _ _=>(pB (zv6 (K:=K) rfl) N.len_ zl7 (za0 (zf0 (N:=["_law_plan","_law_k","_law_sent"]) (ks:=[none,some 2,some 0]) (zf1 (K:=K) rfl (pq 1)) (fun _ _ _ _ _=>(za7 (i:=0) nb_20 rfl (by eq_refl))) (fun _ _ _ _ _=>(zbh1 (ptC (zab5 (K:=K) rfl (by exact hu)) (zc7 (K:=K) rfl (pq 0) (pq 1)) (pq 2)))) (fun _ _ _ _ _=>(pq 0)) (.skip (.take rfl rfl (by eq_refl) (.take rfl rfl (by eq_refl) .nil)))) za1))) (.skip (.take rfl rfl (by eq_refl) (.take rfl rfl (by eq_refl) .nil)))) za1)))))
   (za6 (zb2 (pq 2))))),?_⟩
 refine zi7 (fun l H1 f1 s1 k1=>?_)
 obtain⟨p0,ep0⟩:∃ p,ps[0]?=some p:=⟨_,zbz5 (by rfl')⟩
 obtain⟨e0,ee0⟩:∃ p,es[0]?=some p:=⟨_,zbz5 (by rfl')⟩
 have L1:=L.same s1
 refine zf6 (v:=.ref p0) L1.out (zh3 (j:=0) (by rw[zbz9,ep0];rfl)) ?_
 refine zi9 (L1.row 0 p0 e0 ep0 ee0) ?_
 rw[zbz4,h3 e0 (zca0 ee0)]
 refine zk5 (by decide) (by decide) (by rfl') (by rfl') ?_
 rw[show ((f:Int) - 0).toNat=f by rfl']
 refine zq6 (fun i σ I=>∃ (x:Option V) (qs:List Addr),σ=[some (.ref r),some (.int h),some (.ref l),x]/\Same H I/\LsAt I l qs ((List.range i).map fun k=>cntS es h k)/\∀ z∈qs,z≠l) ?_ ?_ ?_
 ·exact⟨_,[],rfl,s1,⟨k1,rfl,fun i p e z=>by simp at z⟩,fun z hz=>by cases hz⟩
 ·rintro i σ I hi ⟨x,qs,rfl,sI,LI,ne⟩
  have ql:=LI.len
  rw[zbz4,zce1] at ql
  refine zac8 LI.out ?_
  refine zk5 (by decide) (by decide) (by rfl') (by rfl') ?_
  rw[show ((h:Int)+1 - 0).toNat=h+1 by rfl']
  refine zj1 (n:=h+1) Wk.range (by rw[zci4];omega) (fun j=>.int ((es.countP fun e=>decide (e.getD i 0=(j:Int)):Nat):Int)) (fun _=>true) (fun j σ=>∃ t:Option V,σ=[t,some (.ref r),some (.int (0+(i:Int)))]) ⟨none,rfl⟩ ?_ ?_
  ·rintro j v σ J R S hj s2 hx ⟨_,rfl⟩ kk _
   obtain rfl:v=.int j:=by rw[hx,zch6]
   have LJ:=L.same (sI.trans s2)
   refine br_T ?_
   refine zb4 LJ.out ?_
   refine zj1 (Wk.list (SqL.of LJ.out)) (by rw[zbz4,zci4];omega) (fun m=>.ref (ps.getD m 0)) (fun m=>decide ((es.getD m []).getD i 0=(j:Int))) (fun _ σ=>∃ t:Option V,σ=[t,some (.int (0+(i:Int))),some (.int (j:Int))]) ⟨none,rfl⟩ ?_ ?_
   ·rintro m v σ J2 R2 S2 hm s3 hx2 ⟨_,rfl⟩ k1' k2'
    rw[zbz9] at hx2
    obtain⟨p,ep,rfl⟩:=zca3.mp hx2
    obtain⟨e,ee⟩:∃ e,es[m]?=some e:=⟨_,zbz5 (by have:=(zbz6.mp ep).1;omega)⟩
    rw[show ps.getD m 0=p by rw[zbz8,ep];rfl,show es.getD m []=e by rw[zbz8,ee];rfl] at k1'
    rw[show es.getD m []=e by rw[zbz8,ee];rfl] at k2'
    have el:=h3 e (zca0 ee)
    refine zf6 (v:=.int (e.getD i 0)) ((LJ.same s3).row m p e ep ee) (by rw[zch6];exact zh3 (by rw[zbz9,zbz8,zbz5 (by rfl')];rfl)) ?_
    refine zj9 (fun z=>?_) (fun z=>?_)
    ·ac_nf
     exact k1' (decide_eq_true z) _ _ (Same.refl _) ⟨_,rfl⟩
    ·ac_nf
     exact k2' (decide_eq_false z) _ _ (Same.refl _) ⟨_,rfl⟩
   intro acc2 J3 f3 s3 h3'
   refine zi9 h3' ?_
   rw[zbz4,zbz4,ll,zak3 (fun e:List Int=>decide (e.getD i 0=(j:Int))) []]
   ac_nf
   exact kk rfl _ _ s3 ⟨_,rfl⟩
  ·intro acc J fJ sJ hJ
   rw[ze7] at hJ
   have LJ:=LI.same sJ
   have na:acc≠l:=fun z=>by rw[z,LI.out] at fJ;cases fJ
   refine zaj0 LJ.out (by rw[zbz4,zci4];omega) (fun I4 c4 k4=>?_)
   ac_nf
   refine⟨_,qs++[acc],rfl,fun b o e=>c4 _ _ (fun z=>by rw[z,f1] at e;cases e) (sJ _ _ (sI _ _ e)),⟨by rw[k4,zcb7];rfl,by rw[zca8,zbz4,zce1,ql];rfl,fun m p e g1 g2=>?_⟩,fun z hz=>?_⟩
   ·rw[List.range_succ,zcb7] at g2
    rcases zg7 g1 with ⟨a1,a2⟩|⟨a1,rfl⟩
    ·rw[zcc3 (by rw[zbz4,zce1];omega)] at g2
     exact c4 _ _ (ne p (zca0 a2)) (LJ.row m p e a2 g2)
    ·rw[zcc0 (by rw[zbz4,zce1];omega),zbz4,zce1,show m - i=0 by rfl'] at g2
     cases g2
     rw[c4 _ _ na hJ]
     unfold cntS
     rw[zcb4]
     rfl
   ·rcases zcd8.mp hz with hz|hz
    ·exact ne z hz
    ·rw[zch0.mp hz];exact na
 ·rintro σ I ⟨x,qs,rfl,sI,LI,ne⟩
  ac_nf
  exact q l qs I f1 sI LI
theorem zbe8{κ:Type}[DecidableEq κ](zs:List (κ×Int))(k:κ):(valG (sumG zs) k).getD 0=atG zs k:=by
 rw[zl5]
 by_cases h:k∈zs.map (·.1)
 ·rw[if_pos h];rfl
 ·rw[if_neg h]
  have:(zs.filter fun z=>decide (z.1=k))=[]:=List.filter_eq_nil_iff.mpr fun z hz e=>h (zca9.mpr ⟨z,hz,of_decide_eq_true e⟩)
  unfold atG
  rw[this];rfl
theorem zw8{α:Type}(g:α->Int)(k:Int):∀ l:List (α×Int),wsum l (fun r=>ind (decide (g r=k)))=atG (l.map fun z=>(g z.1,z.2)) k
 | []=>by unfold wsum atG;simp
 | x :: l=>by
  rw[zd7,zcb1,zaf4,zw8 g k l]
  by_cases e:g x.1=k
  ·rw[if_pos (show (g x.1,x.2).1=k from e),decide_eq_true e];show x.2*1+_=x.2+_;omega
  ·rw[if_neg (show ¬ (g x.1,x.2).1=k from e),decide_eq_false e];show x.2*0+_=0+_;omega
theorem zay4(g:Int×Int->Int)(xs:List (Int×Int×Int)):(rwF xs).map (fun z=>(g z.1,z.2))=xs.map fun z=>(g (keyT z),z.2.2):=by
 unfold rwF
 rw[zcb4]
 rfl
section
variable {ms:List (List Int×Int)}{h:Int}{f:Nat}{xss:List (List (Int×Int×Int))}
theorem zq4(O:OkS ms h f)(hi:i<f)(R:zr6 ms i xs)(g:Int×Int->Int)(k:Int):wsum (rwF xs) (fun r=>ind (decide (g r=k)))=wsum ms (fun p=>ind (decide (g ((p.drop i).sum,p.getD i 0)=k))):=by
 have e:=zx8 R (fun z hz=>(zn2 O hi R hz).2.2.1) g k
 have e2:=zw8 (fun p:List Int=>g ((p.drop i).sum,p.getD i 0)) k ms
 rw[zw8,zay4,← zbe8,e,zbe8,e2]
 unfold flw
 rw[zcb4]
 rfl
theorem zx3(S:zao9 ms f xss)(hi:i<f):∃ xs,xss[i]?=some xs/\zr6 ms i xs:=by
 obtain⟨xs,e⟩:∃ xs,xss[i]?=some xs:=⟨_,zbz5 (by rw[S.1];exact hi)⟩
 exact⟨xs,e,(S.2 i xs e).1⟩
theorem zk3(ms:List (List Int×Int)):wsum ms (fun _=>1)=zb5 ms:=by unfold wsum zb5;simp
theorem zau0{α:Type}(l:List (α×Int)):wsum l (fun _=>1)=tot l:=by unfold wsum tot;simp
theorem zbg8(O:OkS ms h f)(S:zao9 ms f xss):zr0 (stmD xss)=zb5 ms:=by
 have f1:=O.f1
 obtain⟨xs,e,R⟩:=zx3 S (i:=0) (by rfl')
 have e0:(za8 (stmD xss)).getD 0 .none=zd1 xs:=by
  show (xss.map zd1).getD 0 .none=_
  rw[zbz8,zbz9,e];rfl
 unfold zr0
 rw[e0,zn3,← zau0,← zk3]
 have:=zq4 O (by rfl') R (fun _=>0) 0
 exact this
theorem zaw8(xss:List (List (Int×Int×Int))):(za8 (stmD xss)).map rowF=xss:=by
 show (xss.map zd1).map rowF=xss
 rw[zcb4]
 exact (zcb3 fun x _=>zn3 x).trans (List.map_id _)
theorem dropS{p:List Int}(hi:i<p.length):(p.drop i).sum=p.getD i 0+(p.drop (i+1)).sum:=by
 rw[zcf0 hi,zcc8,zbz8,zbz5 hi]
 rfl
theorem zbh4{ms2:List (List Int×Int)}(O:OkS ms h f)(S:zao9 ms f xss)(hh:0<=h/\h<=40)(hf:f<=8)(ml:ms.length<=7)(A:Ap h (zb5 ms) xss ms2):OkM h f ms2/\zb5 ms2=zb5 ms/\∀ (k:Nat) (s:Int),k<f->wsum ms2 (fun p=>ind (decide (p.getD k 0=s)))=wsum ms (fun p=>ind (decide (p.getD k 0=s))):=by
 have w1:∀ x∈ms,1<=x.2:=fun x hx=>(O.all x hx).2.2.2
 have W1:1<=zb5 ms:=by
  obtain⟨x,hx⟩:∃ x,x∈ms:=List.exists_mem_of_length_pos (by have:=O.ne;omega)
  rw[← zk3]
  exact zq5 (f:=fun _:List Int=>true) w1 x hx rfl
 have at_:∀ i xs,xss[i]?=some xs->i<f/\zr6 ms i xs/\xs.length<=7:=fun i xs e=>by
  have il:=(zbz6.mp e).1
  rw[S.1] at il
  have:=S.2 i xs e
  exact⟨il,this.1,by rfl'⟩
 obtain⟨o1,o2,o3,o4⟩:=A.ok W1 (fun xs hx=>by
  obtain⟨i,ei⟩:=zcd3 hx
  obtain⟨a1,a2,a3⟩:=at_ i xs ei
  exact⟨fun z hz=>(zn2 O a1 a2 hz).2.2.2,by rfl'⟩)
 rw[S.1] at o1 o4
 obtain⟨k1,k2⟩:=A.keys W1 (fun i xs e=>by
  obtain⟨a1,a2,a3⟩:=at_ i xs e
  refine⟨?_,fun z hz=>⟨(zn2 O a1 a2 hz).2.2.2,(zn2 O a1 a2 hz).1⟩,fun k=>?_⟩
  ·have:=a2.1.2
   unfold rwF
   rw[List.pairwise_map] at this ⊢
   exact this.imp fun {x y} hxy=>by
    have:x.1<y.1∨(x.1=y.1/\x.2.1<y.2.1):=zz0.mp hxy
    show x.1<=y.1
    omega
  ·rw[zq4 O a1 a2 (fun r=>r.1) k]
   cases i with
   | zero=>
    rw[List.take_zero]
    show _=if h=k then zb5 ms else 0
    have e1:wsum ms (fun p=>ind (decide ((p.drop 0).sum=k)))=wsum ms (fun _=>ind (decide (h=k))):=zv0 fun x hx=>by
     rw[List.drop_zero,(O.all x hx).2.2.1]
    show wsum ms (fun p=>ind (decide ((p.drop 0).sum=k)))=_
    rw[e1]
    by_cases z:h=k
    ·rw[if_pos z,decide_eq_true z];exact zk3 ms
    ·rw[if_neg z,decide_eq_false z];exact zt1 (f:=fun _:List Int=>false) fun _ _=>rfl
   | succ i=>
    obtain⟨ys,ey,Ry⟩:=zx3 S (i:=i) (by rfl')
    rw[List.take_succ,ey]
    show _=lvR h (zb5 ms) (xss.take i++[ys]) k
    rw[zag1,zq4 O (by rfl') Ry (fun r=>r.1 - r.2) k]
    refine zv0 fun x hx=>?_
    have xl:=(O.all x hx).2.1
    have:=dropS (p:=x.1) (i:=i) (by rfl')
    show ind (decide ((x.1.drop (i+1)).sum=k))=ind (decide ((x.1.drop i).sum - x.1.getD i 0=k))
    rw[this,show x.1.getD i 0+(x.1.drop (i+1)).sum - x.1.getD i 0=(x.1.drop (i+1)).sum by rfl'])
 have f1:=O.f1
 have last:∀ k,k≠0->lvR h (zb5 ms) xss k=0:=fun k hk=>by
  obtain⟨ys,ey,Ry⟩:=zx3 S (i:=f - 1) (by rfl')
  have e2:xss=xss.take (f - 1)++[ys]:=by
   have:xss.take (f - 1+1)=xss:=zce0 (by rw[S.1];omega)
   rw[List.take_succ,ey] at this
   exact this.symm
  rw[e2,zag1,zq4 O (by rfl') Ry (fun r=>r.1 - r.2) k]
  refine zt1 (f:=fun p:List Int=>decide (((p.drop (f - 1)).sum - p.getD (f - 1) 0)=k)) fun x hx=>decide_eq_false ?_
  have xl:=(O.all x hx).2.1
  have:=dropS (p:=x.1) (i:=f - 1) (by rfl')
  rw[zcg7 (i:=f - 1+1) (by rfl'),List.sum_nil] at this
  omega
 have sums:∀ x∈ms2,x.1.sum=h:=fun x hx=>Classical.byContradiction fun z=>by
  have a:=zq5 (f:=fun p:List Int=>decide (h - p.sum=h - x.1.sum)) (fun y hy=>(k2 y hy).1) x hx (decide_eq_true rfl)
  rw[k1,last _ (by rfl')] at a
  omega
 obtain⟨_,sh⟩:=A.shares
 refine⟨⟨?_,by rfl',⟨hh,by rfl',by rfl'⟩,fun x hx=>⟨(k2 x hx).2,by rw[(o1 x hx).2],sums x hx,(k2 x hx).1⟩⟩,?_,fun k s hk=>?_⟩
 ·cases ms2 with
  | nil=>exact absurd rfl o3
  | cons=>simp
 ·rw[← zk3,zau0,o2]
 ·obtain⟨xs,e,R⟩:=zx3 S hk
  rw[sh k xs e s,zq4 O hk R (fun r=>r.2) s]
theorem cnt_eq{ms2:List (List Int×Int)}(w1:∀ x∈ms,0<=x.2)(w2:∀ x∈ms2,0<=x.2){k n:Nat}(e:∀ s:Int,wsum ms2 (fun p=>ind (decide (p.getD k 0=s)))=wsum ms (fun p=>ind (decide (p.getD k 0=s)))):cntS (zd9 ms2) n k=cntS (zd9 ms) n k:=by
 unfold cntS
 refine zcb3 fun s _=>?_
 rw[zi1 (fun p=>decide (p.getD k 0=(s:Int))) w2,zi1 (fun p=>decide (p.getD k 0=(s:Int))) w1,e s]
theorem zbs5(O:OkS ms h f){k n:Nat}(hk:k<f)(R:zr6 ms k xs):shr n xs=cntS (zd9 ms) n k:=by
 have w1:∀ x∈ms,0<=x.2:=fun x hx=>by have:=(O.all x hx).2.2.2;omega
 unfold shr cntS
 refine zcb3 fun s _=>?_
 rw[zi1 (fun p=>decide (p.getD k 0=(s:Int))) w1,zbe8]
 have:=zq4 O hk R (fun r=>r.2) (s:Int)
 rw[zw8,zay4] at this
 exact this
end
def grD(rows:List (List Int)):PyData:=.list (rows.map fun r=>.list (r.map PyData.int))
theorem LsAt.sh{r:Addr}{ps:List Addr}{es:List (List Int)}(L:LsAt H r ps es):ShV H (.ref r) (grD es):=.lst L.out (ShL.idx (by rw[zbz4,zbz4,L.len]) fun i x d h1 h2=>by
 rw[zbz9] at h1 h2
 obtain⟨p,ep,rfl⟩:=zca3.mp h1
 obtain⟨e,ee,rfl⟩:=zca3.mp h2
 exact zbf1 (L.row i p e ep ee))
theorem grD_ok{rows:List (List Int)}(h1:rows.length<=1000)(h2:∀ r∈rows,r.length<=1000):okD 2 (grD rows):=okD.list (n:=1) (by rw[zbz4];exact h1) fun d hd=>by
 obtain⟨r,hr,rfl⟩:=zca9.mp hd
 exact okD.list (n:=0) (by rw[zbz4];exact h2 r hr) fun y hy=>by
  obtain⟨z,_,rfl⟩:=zca9.mp hy
  exact⟨rfl,rfl,zcd0 _⟩
theorem zal7{α β:Type}(g:α->Bool)(k:α->β)(d:α):∀ es:List α,((List.range es.length).filter fun i=>g (es.getD i d)).map (fun i=>k (es.getD i d))=(es.filter g).map k:=by
 intro es
 induction es with
 | nil=>rfl
 | cons e es ih=>
  rw[zcc6,List.range_succ_eq_map,zce9,List.filter_map,zce9]
  have c:((fun i=>g ((e :: es).getD i d))∘Nat.succ)=fun i=>g (es.getD i d):=by
   funext i
   rfl
  rw[c]
  by_cases ge:g e=true
  ·rw[if_pos (show g ((e :: es).getD 0 d)=true from ge),if_pos ge,zcb1,zcb1,zcb4,← ih]
   rfl
  ·rw[if_neg (show ¬ g ((e :: es).getD 0 d)=true from ge),if_neg ge,zcb4,← ih]
   rfl
theorem zae1{α β:Type}{g:α->Bool}{g':β->Bool}:∀ {ps:List α}{es:List β},ps.length=es.length->(∀ (i:Nat) p e,ps[i]?=some p->es[i]?=some e->g p=g' e)->ps.countP g=es.countP g'
 | [],[],_,_=>rfl
 | p :: ps,e :: es,hl,h=>by
  rw[List.countP_cons,List.countP_cons,zae1 (ps:=ps) (es:=es) (by simpa using hl) (fun i p e h1 h2=>h (i+1) p e h1 h2),h 0 p e rfl rfl]
 | [],_ :: _,hl,_=>by simp at hl
 | _ :: _,[],hl,_=>by simp at hl
def unI:V->Int
 | .int i=>i
 | _=>0
theorem zbt1(e:List Int):(e.map V.int).map unI=e:=by rw[zcb4];exact (zcb3 fun _ _=>rfl).trans (List.map_id _)
def isL(H:Hp)(x:List Int)(r:Addr):Bool:=match H r with
 | some (.lst vs)=>decide (vs.map unI=x)
 | _=>false
theorem zbn1{x e:List Int}{r:Addr}(h:H r=some (.lst (e.map V.int))):isL H x r=decide (e=x):=by unfold isL;rw[h];show decide ((e.map V.int).map unI=x)=_;rw[zbt1]
mutual
theorem zbo6{T:Addr}{tab:Array Value}{H H':Hp}(hT:H T=some (.tbl tab))(c:Chg T H H'){v:V}{d:PyData}(h:ShV H v d):ShV H' v d:=match h with
 | .non=>.non
 | .bl b=>.bl b
 | .int i=>.int i
 | .str x=>.str x
 | .lst e l=>.lst (c _ _ (fun z=>by rw[z,hT] at e;cases e) e) (zao0 hT c l)
 | .tup e l=>.tup (c _ _ (fun z=>by rw[z,hT] at e;cases e) e) (zao0 hT c l)
theorem zao0{T:Addr}{tab:Array Value}{H H':Hp}(hT:H T=some (.tbl tab))(c:Chg T H H'){xs:List V}{ds:List PyData}(h:ShL H xs ds):ShL H' xs ds:=match h with
 | .nil=>.nil
 | .cons h l=>.cons (zbo6 hT c h) (zao0 hT c l)
end
theorem zbn4{ln co:Nat}{qual:Str}(x:zo5 T ln co qual H):∃ tab,H T=some (.tbl tab):=let ⟨tab,e,_⟩:=x;⟨tab,e⟩
def zat9(K:zbz7)(a_tab:Addr):Sp:=fun vs H Q _=>∃ (a:Addr) (ns:List Int),vs=[.ref a]/\SqL K H a (ns.map V.int)/\ns.length<=63/\H a_tab=some (.tbl #[])/\∀ H',Q (.bl true) H'
theorem zak4{ns:List Int}(h:ns.length<=63):[V.int 3].length+(cutV (ns.map V.int) none (some 10)).length<=sizeLine:=by
 rw[zam3 (by decide),zcf6,zbz4,zci4,zcf1];omega
theorem zai2{ns:List Int}{x:V}(h:([V.int 3]++cutV (ns.map V.int) none (some 10))[i]?=some x):∃ z,x=.int z:=by
 rw[zam3 (by decide)] at h
 rcases zcd8.mp (zca0 h) with h|h
 ·exact⟨3,by simpa using h⟩
 ·obtain⟨z,_,rfl⟩:=zca9.mp (List.mem_of_mem_take h)
  exact⟨z,rfl⟩
theorem LsAt.tab{r:Addr}{tab:Array Value}{ps:List Addr}{es:List (List Int)}(L:LsAt H r ps es)(hT:H T=some (.tbl tab))(c:Chg T H H'):LsAt H' r ps es:=
 ⟨c _ _ (fun z=>by have:=L.out;rw[z,hT] at this;cases this) L.out,L.len,fun i p e h1 h2=>c _ _ (fun z=>by have:=L.row i p e h1 h2;rw[z,hT] at this;cases this) (L.row i p e h1 h2)⟩
theorem zbh7(es:List (List Int))(h k:Nat):(cntS es h k).length=h+1:=by unfold cntS;rw[zbz4,zce1]
theorem ok_law(F:Fun K "law" "law" zan0 f fd)(N:Nm mg)(zbv9:Def P w K mg base CX0 8 "_law_all_plays" ["_law_mix","_law_whole"] zc0)(zbv1:Def P w K mg base CX0 2 "_law_draw" ["_law_left","_law_base"] ze0)(zbw2:Def P w K mg base CX0 4 "_law_drawn_mix" ["_law_left","_law_hosts","_law_many","_law_most"] zc1)(zbw9:Def P w K mg base CX0 1 "_law_opened" ["_law_cell"] ze5)(zbw3:Def P w K mg base CX0 1 "_law_shares" ["_law_plays","_law_hosts"] ze3)(zbx6:Def P w K mg base (CXR P w) 10 "shares_of" ["stream"] (zg3 zbu7))(zbx7:Def P w K mg base (CXR P w) 7 "stream_of" ["mix"] (zg5 zbu9))(zbx0:Def P w K mg base (CXR P w) 10 "taken_apart" ["stream"] (ze4 zbu7 a_tab))(zbx4:Def P w K mg base (CXR P w) 7 "whole_of" ["mix"] zh5):FnOk P w K mg base CX0 12 f fd ["_law_script"] (zat9 K a_tab):=by
 refine F.ok zo0 (fun vs H Q E h=>by obtain⟨n,k,rfl,_⟩:=h;rfl) fun _ _ _ s H vs Q E hr h=>?_
 obtain⟨a,ns0,rfl,hS,hlen,hTab,k⟩:=h
 have hu:=hu40 hr
 have T0:zo5 a_tab 84 42 lamQ H:=⟨_,hTab,.inl rfl⟩
 refine⟨_,(za2 (zah4 PassesOwn.never rfl (zf1 (K:=K) rfl (zd8 oAdd (zu7 (za0 za3 za1)) (zq2 (slXK (K:=K) rfl) (pq 0) zu0 (zad5 za3)))) (za7 (i:=1) zo0.nd rfl (by eq_refl)) (za2 (psS (i:=2) zo0.nd (pD zbw9 hr zb6 (za0 (pq 1) za1)))
   (za2 (psS (i:=3) zo0.nd (pD zbv1 hr zb6 (za0 (pq 2) (za0 za3 za1))))
   (za2 (psS (i:=4) zo0.nd (pD zbw2 hr zb6 (za0 (pq 2) (za0 (pq 3) (za0 (zd8 oAdd za3 (pD zbv1 hr zb6 (za0 (pq 2) (za0 za3 za1)))) (za0 za3 za1))))))
   (za2 (psS (i:=5) zo0.nd (pB (zap7 (K:=K) rfl rfl) N.sum_ zw3 (za0 (zf0 (N:=["_law_plan","_law_weight"]) (ks:=[none,none]) (zf1 (K:=K) rfl (pq 4)) (fun _ _ _ _ _=>(zi3 (K:=K) (n:=2) rfl rfl (zb0 (za7 (i:=0) nb_21 rfl (by eq_refl)) (zb0 (za7 (i:=1) nb_21 rfl (by eq_refl)) zi4)))) (fun _ _ _ _ _=>zc6) (fun _ _ _ _ _=>(pq 1)) (.skip (.skip .nil))) za1)))
   (za2 (psIf (ptC (zao1 (K:=K) rfl (by exact hu)) (pD zbx4 hr zad3 (za0 (pq 4) za1)) (pq 5)) (za6 (zb2 zab2)) zf8)
   (za2 (psS (i:=6) zo0.nd (pD zbv9 hr zb6 (za0 (pq 4) (za0 (pq 5) za1))))
   (za2 (zah4 PassesOwn.never rfl (zf1 (K:=K) rfl (pq 4)) (zi3 (K:=K) (n:=2) rfl rfl (zb0 (za7 (i:=7) zo0.nd rfl (by eq_refl)) (zb0 (za7 (i:=8) zo0.nd rfl (by eq_refl)) zi4))) (za6 (psIf (ptC (zao1 (K:=K) rfl (by exact hu)) (zax4 (K:=K) rfl (by exact hu) (pq 6) (za0 (pq 7) za1)) (pB (zap7 (K:=K) rfl rfl) N.sum_ zw3 (za0 (zf0 (N:=["_law_other","_law_often","_law_plan"]) (ks:=[none,none,some 7]) (zf1 (K:=K) rfl (pq 4)) (fun _ _ _ _ _=>(zi3 (K:=K) (n:=2) rfl rfl (zb0 (za7 (i:=0) nb_22 rfl (by eq_refl)) (zb0 (za7 (i:=1) nb_22 rfl (by eq_refl)) zi4)))) (fun _ _ _ _ _=>(zbh1 (ptC (zab5 (K:=K) rfl (by exact hu)) (pq 0) (pq 2)))) (fun _ _ _ _ _=>(pq 1)) (.skip (.skip (.take rfl rfl (by eq_refl) .nil)))) za1))) (za6 (zb2 zab2)) zf8)))
   (za2 (psS (i:=9) zo0.nd (pD zbw3 hr zb6 (za0 (pq 6) (za0 (pq 3) za1))))
   (za2 (psS (i:=10) zo0.nd (pD zbx7 hr zad3 (za0 (pq 4) za1)))
   (za2 (psS (i:=11) zo0.nd (pD zbx0 hr zad3 (za0 (pq 10) za1)))
   (za2 (psIf (ptW (pwOr (ptC (zao1 (K:=K) rfl (by exact hu)) (pD zbx6 hr zad3 (za0 (pq 10) za1)) (pq 9)) (zad8 (ptC (zao1 (K:=K) rfl (by exact hu)) (pD zbx4 hr zad3 (za0 (pq 11) za1)) (pq 5))))) (za6 (zb2 zab2)) zf8)
   (za6 (psIf (ptC (zao1 (K:=K) rfl (by exact hu)) (pD zbw3 hr zb6 (za0 (pD zbv9 hr zb6 (za0 (pq 11) (za0 (pq 5) za1))) (za0 (pq 3) za1))) (pq 9)) (za6 (zb2 zab2)) zf8))))))))))))))
   (za6 (zb2 zab2))),?_⟩
 refine zi7 (fun p1 H1 hf1 hs1 ha1=>?_)
 refine zas2 (hs1.seq hS) (fun p2 H2 hf2 hs2 ha2=>?_)
 refine zay8 (hs2 _ _ ha1) ha2 (zak4 hlen) (fun p3 H3 hf3 hs3 ha3=>?_)
 have T3:=T0.same ((hs1.trans hs2).trans hs3)
 obtain⟨tab3,et3⟩:=zbn4 T3
 refine zb4 ha3 ?_
 refine zl8 (xs:=[V.int 3]++cutV (ns0.map V.int) none (some 10)) (fun i σ H4=>∃ x1 x2 x3 x4 x5 x6 x7 x8 x9 x10 x11:Option V,σ=[some (.ref a),x1,x2,x3,x4,x5,x6,x7,x8,x9,x10,x11]/\Chg a_tab H3 H4/\zo5 a_tab 84 42 lamQ H4) ?_ ?_ ?_ ?_
 ·exact⟨_,_,_,_,_,_,_,_,_,_,_,rfl,Chg.refl _ _,T3⟩
 ·rintro i σ H4 _ ⟨_,_,_,_,_,_,_,_,_,_,_,_,c4,_⟩
  exact SqL.of (c4 _ _ (fun z=>by rw[z,et3] at ha3;cases ha3) ha3)
 ·rintro i x σ H4 hi ⟨x1,x2,x3,x4,x5,x6,x7,x8,x9,x10,x11,rfl,cT4,T4⟩
  obtain⟨z,rfl⟩:=zai2 hi
  refine zaz4 (fun pl H5 f5 s5 L5=>?_)
  refine zp0 L5 (by rfl') (by rfl') (by rfl') (fun dh H6 h0 h1 c6 L6=>?_)
  obtain⟨h,rfl⟩:∃ h:Nat,dh=h:=⟨dh.toNat,by rfl'⟩
  refine zp0 L6 (by rfl') (by rfl') (by rfl') (fun df H7 f0 f1 c7 L7=>?_)
  obtain⟨f,ef⟩:∃ f:Nat,1+df=f:=⟨(1+df).toNat,by rfl'⟩
  ac_nf
  rw[ef]
  refine zaj2 L7 (by rfl') (by rfl') (by rfl') (by rfl') (fun m ts ms H8 f8 c8 L8 M8 K8 w8 l8=>?_)
  have s48:Same H4 H8:=((s5.chg f5 c6).chg f5 c7).chg f5 c8
  have T8:=T4.same s48
  have cT8:Chg a_tab H3 H8:=cT4.same s48
  have O8:=K8.toS
  have ml:=M8.len
  have w1:∀ x∈ms,0<=x.2:=fun x hx=>by have:=(K8.2.2.2 x hx).2.2.2;omega
  have W1:1<=zb5 ms:=by
   obtain⟨x,hx⟩:∃ x,x∈ms:=List.exists_mem_of_length_pos (by have:=O8.ne;omega)
   rw[← zk3]
   exact zq5 (f:=fun _:List Int=>true) (fun x hx=>(K8.2.2.2 x hx).2.2.2) x hx rfl
  obtain⟨W,eW⟩:∃ W:Nat,zb5 ms=W:=⟨(zb5 ms).toNat,by rfl'⟩
  have el:=zq3 w1
  have exl:∀ e∈zd9 ms,e.length=f:=fun e he=>by
   unfold zd9 at he
   obtain⟨x,hx,hx2⟩:=List.mem_flatMap.mp he
   rw[(List.mem_replicate.mp hx2).2]
   have:=(K8.2.2.2 x hx).2.1
   omega
  clear c6 c7 c8 L5 L6 L7 s5
  refine zb4 M8.out ?_
  refine zj1 (Wk.list (SqL.of M8.out)) (by rw[zbz4,zci4];omega) (fun i=>.int (ms.getD i ([],0)).2) (fun _=>true) (fun j σ=>∃ t u:Option V,σ=[t,u]) ⟨none,none,rfl⟩ ?_ ?_
  ·rintro j v σ J R S hj s2 hx ⟨t',u',rfl⟩ kk _
   obtain⟨t,x,rfl,e1,e2,e3,e4⟩:=(M8.same s2).elt hx
   rw[show ms.getD j ([],0)=x by rw[zbz8,e2];rfl] at kk
   refine ze6 e3 ?_
   refine br_T ?_
   ac_nf
   exact kk rfl _ _ (Same.refl _) ⟨_,_,rfl⟩
  intro acc9 H9 f9 s9 h9
  rw[ze7,zbc4 (by rw[zbz4];exact ml)] at h9
  refine zaa3 h9 ?_
  rw[show (ms.map fun z=>z.2).sum=(W:Int) from eW]
  refine zw9 (M8.same s9) K8 (fun H10 s10=>?_)
  rw[eW]
  refine zd4 (zax7 rfl ?_)
  have s810:=s9.trans s10
  have M10:=M8.same s810
  refine zw0 M10 K8 (n:=W) eW.symm (by rfl') (fun r11 ps11 H11 f11 s11 L11=>?_)
  have M11:=M10.same s11
  have pl11:=L11.len
  refine zb4 M11.out ?_
  refine zl8 (xs:=ts.map fun t=>V.ref t.1) (fun j σ J=>∃ y7 y8:Option V,σ=[some (.ref a),some (.int z),some (.ref pl),some (.int h),some (.ref m),some (.int W),some (.ref r11),y7,y8,x9,x10,x11]/\Same H11 J) ?_ ?_ ?_ ?_
  ·exact⟨_,_,rfl,Same.refl _⟩
  ·rintro j σ J _ ⟨_,_,_,sJ⟩
   exact SqL.of (sJ _ _ M11.out)
  ·rintro j v σ J hj ⟨y7,y8,rfl,sJ⟩
   have MJ:=M11.same sJ
   have LJ:=L11.same sJ
   obtain⟨t,x,rfl,e1,e2,e3,e4⟩:=MJ.elt hj
   refine ze6 e3 ?_
   refine zac8 LJ.out ?_
   refine zbp6 (isL J x.1) (n:=1) LJ.out (fun r hr=>?_) ?_
   ·obtain⟨i,ei⟩:=zcd3 hr
    obtain⟨e,ee⟩:∃ e,(zd9 ms)[i]?=some e:=⟨_,zbz5 (by have:=(zbz6.mp ei).1;omega)⟩
    have he:=LJ.row i r e ei ee
    rw[zbn1 he]
    exact EqR.intL (SqL.of he) (SqL.of e4)
   rw[zae1 (g':=fun e=>decide (e=x.1)) LJ.len (fun i p e g1 g2=>zbn1 (LJ.row i p e g1 g2))]
   refine zb4 MJ.out ?_
   refine zj1 (Wk.list (SqL.of MJ.out)) (by rw[zbz4,zci4];omega) (fun i=>.int (ms.getD i ([],0)).2) (fun i=>decide ((ms.getD i ([],0)).1=x.1)) (fun j σ=>∃ t' u':Option V,σ=[t',u',some (.ref t.2)]) ⟨none,none,rfl⟩ ?_ ?_
   ·rintro j2 v σ J2 R S hj2 s2 hx ⟨t',u',rfl⟩ k1 k2
    obtain⟨t3,x3,rfl,g1,g2,g3,g4⟩:=(MJ.same s2).elt hx
    rw[show ms.getD j2 ([],0)=x3 by rw[zbz8,g2];rfl] at k1 k2
    refine ze6 g3 ?_
    refine eqX_rd (EqR.intL (SqL.of g4) (SqL.of (s2 _ _ e4))) ?_
    refine zj9 (fun zz=>?_) (fun zz=>?_)
    ·ac_nf
     exact k1 (decide_eq_true zz) _ _ (Same.refl _) ⟨_,_,rfl⟩
    ·ac_nf
     exact k2 (decide_eq_false zz) _ _ (Same.refl _) ⟨_,_,rfl⟩
   intro acc2 J2 f2 s2 h2
   have eqs:((List.range (ts.map fun t=>V.ref t.1).length).filter fun i=>decide ((ms.getD i ([],0)).1=x.1)).map (fun i=>V.int (ms.getD i ([],0)).2)=((ms.filter fun y=>decide (y.1=x.1)).map (·.2)).map V.int:=by
    rw[zbz4,ml,zal7 (fun y:List Int×Int=>decide (y.1=x.1)) (fun y=>V.int y.2) ([],0),zcb4]
    rfl
   rw[eqs] at h2
   refine zaa3 h2 ?_
   rw[zz1 (fun p=>decide (p=x.1)),← zi1 (fun p=>decide (p=x.1)) w1]
   refine zd4 (zax7 rfl ?_)
   ac_nf
   exact⟨_,_,rfl,sJ.trans s2⟩
  ·rintro σ J ⟨y7,y8,rfl,sJ⟩
   have MJ:=M11.same sJ
   have LJ:=L11.same sJ
   have s8J:=(s810.trans s11).trans sJ
   refine zae3 LJ (by rfl') (by rfl') exl (by rfl') (by rfl') (fun g12 qs12 H12 f12 s12 L12=>?_)
   have M12:=MJ.same s12
   have em:=zu8 K8
   refine zaj9 M12.sh (zt8 K8) (fun _=>⟨by show (ms.map zg6).length<64;rw[zbz4];omega,fun r13 rs13 xss H13 s13 S13 I13=>?_⟩) (fun z=>by rw[em.1] at z;cases z)
   rw[zbs7,em.2] at I13
   have hz:zo7 (h:Int) f=true:=by
    unfold zo7
    rw[decide_eq_true (show (0:Int)<=(h:Int)/\(h:Int)<=40 by rfl'),decide_eq_true (show (1:Int)<=(f:Int)/\(f:Int)<=8 by rfl')];rfl
   obtain⟨an,ah⟩:=any_ok O8 I13 hz
   have xl:∀ xs∈xss,xs.length<=7:=fun xs hx=>by
    obtain⟨i,ei⟩:=zcd3 hx
    have:=(I13.2 i xs ei).2
    omega
   have sm:sml (stmD xss)=true:=by
    rw[zbk7]
    exact (zbr0 (c:=false) (by rw[I13.1];omega) fun xs hx=>by have:=xl xs hx;omega).1
   have D13:ShV H13 (.ref r13) (stmD xss):=(S13.same (zay3 _ _)).sh
   have s813:=(s8J.trans s12).trans s13
   have T13:=T8.same s813
   refine zab7 D13 sm T13 (fun _=>⟨fun x hx=>?_,fun r14 ts14 ms14 H14 c14 T14 M14 A14=>?_⟩) (fun z=>by rw[an] at z;cases z)
   ·obtain⟨xs,hxs,rfl⟩:=zca9.mp (show x∈xss.map zd1 from hx)
    have:=xl xs hxs
    show (xs.map _).length<=9
    rw[zbz4];omega
   rw[ah,zbg8 O8 I13,zaw8] at A14
   obtain⟨K14,w14,sh14⟩:=zbh4 O8 I13 (by rfl') (by rfl') (by rfl') A14
   obtain⟨tb13,et13⟩:=zbn4 T13
   have D14:=zbo6 et13 c14 D13
   have L14:=(L12.same s13).tab et13 c14
   have w2:∀ x∈ms14,0<=x.2:=fun x hx=>by have:=(K14.2.2.2 x hx).2.2.2;omega
   have grok:okD 2 (grD ((List.range f).map fun k=>cntS (zd9 ms) h k)):=grD_ok (by rw[zbz4,zce1];omega) fun r hr=>by
    obtain⟨k,_,rfl⟩:=zca9.mp hr
    rw[zbh7];omega
   refine zaj6 D14 sm (fun _ r15 ps15 H15 f15 s15 o15 l15 k15=>?_) (fun z=>by rw[an] at z;cases z)
   have il:(za8 (stmD xss)).length=f:=by show (xss.map zd1).length=f;rw[zbz4,I13.1]
   have L15:LsAt H15 r15 ps15 ((List.range f).map fun k=>cntS (zd9 ms) h k):=⟨o15,by rw[zbz4,zce1,l15,il],fun i p e g1 g2=>by
    have hi:i<f:=by have:=(zbz6.mp g1).1;omega
    rw[zbz9,zcg5 hi] at g2
    cases g2
    obtain⟨xs,exs,Rx⟩:=zx3 I13 hi
    have:=k15 i p g1
    rw[this,ah,show (za8 (stmD xss)).getD i .none=zd1 xs by show (xss.map zd1).getD i .none=_;rw[zbz8,zbz9,exs];rfl,zn3,show ((h:Int)).toNat=h by rfl',zbs5 O8 hi Rx]⟩
   ac_nf
   refine zbo5 L15.sh (L14.same s15).sh grok.2.1 grok.2.1 (zcd9 grok.2.2 (by decide)) ?_
   rw[grok.eqv]
   refine br_F ?_
   have M15:=M14.same s15
   refine zw9 M15 K14 (fun H16 s16=>?_)
   rw[w14,eW]
   refine zd4 (zax7 rfl ?_)
   have M16:=M15.same s16
   refine zw0 M16 K14 (n:=W) (by rw[w14,eW]) (by rfl') (fun r17 ps17 H17 f17 s17 L17=>?_)
   have el2:=zq3 w2
   rw[w14] at el2
   refine zae3 (f:=f) L17 (by rfl') (by rfl') (fun e he=>by
    unfold zd9 at he
    obtain⟨x,hx,hx2⟩:=List.mem_flatMap.mp he
    rw[(List.mem_replicate.mp hx2).2]
    have:=(K14.2.2.2 x hx).2.1
    omega) (by rfl') (by rfl') (fun g18 qs18 H18 f18 s18 L18=>?_)
   have eg:((List.range f).map fun k=>cntS (zd9 ms14) h k)=(List.range f).map fun k=>cntS (zd9 ms) h k:=zcb3 fun k hk=>cnt_eq w1 w2 fun s=>sh14 k s (zce6.mp hk)
   rw[eg] at L18
   have s1418:=((s15.trans s16).trans s17).trans s18
   ac_nf
   refine zbo5 L18.sh (L14.same s1418).sh grok.2.1 grok.2.1 (zcd9 grok.2.2 (by decide)) ?_
   rw[grok.eqv]
   refine br_F ?_
   ac_nf
   exact⟨_,_,_,_,_,_,_,_,_,_,_,rfl,fun b o n e=>s1418 _ _ (c14 _ _ n (s813 _ _ (cT8 b o n e))),T14.same s1418⟩
 ·rintro σ H4 ⟨_,_,_,_,_,_,_,_,_,_,_,rfl,_⟩
  exact k H4
end
abbrev FA(K:zbz7)(x:Str)(st:Stmt):Prop:=∃ (f:Addr) (od an:Option Addr) (sl:Array (Option Value)) (oc kV dc pm cd ct:Value),zcd5 K zci8 x=some (some (.ref f))/\K.lookup f=some ⟨oc,od,.func (zcf2 x x (zl6 st) (zh4 st) (za4 st) .none kV dc pm an cd ct),sl⟩/\PySem.W.codeIn K cd x=true/\zcg8 K (.ref f)=true
theorem FA.of{K:zbz7}{x:Str}{st:Stmt}{od an:Option Addr}{sl:Array (Option Value)}{oc kV dc pm cd ct:Value}(a:zcd5 K zci8 x=some (some (.ref f)))(l:K.lookup f=some ⟨oc,od,.func (zcf2 x x (zl6 st) (zh4 st) (za4 st) .none kV dc pm an cd ct),sl⟩)(c:PySem.W.codeIn K cd x=true)(k:zcg8 K (.ref f)=true):FA K x st:=⟨_,_,_,_,_,_,_,_,_,_,a,l,c,k⟩
structure Ev(P:Program)(w:World)(K:zbz7)(mg:Str->Option Value)(base h:Heap):Prop where
 x:K.In h
 g:h.Ns zci8 mg
local macro_rules | `(tactic| walk_at "bd")=>`(tactic| (intro _ _ _ _ _ _ us hl;rcases us with _|⟨_,_|⟨_,_|⟨_,_|⟨_,_|⟨_,_|⟨_,_|⟨_,_⟩⟩⟩⟩⟩⟩⟩<;>first|rfl|exact Nat.noConfusion hl|cases hl))
section
variable {P:Program}{w:World}{K:zbz7}{mg:Str->Option Value}{base h:Heap}{CX:CXT}{k:Nat}{x:Str}{ps:List Str}{sp:Sp}{st:Stmt}
theorem Ev.r(E:Ev P w K mg base h)(A:FA K x st)(ok:∀ {f:Addr}{fd:FuncData},Fun K x x st f fd->mg x=some (.ref f)->zcg8 K (.ref f)=true->zap5 K fd ps []->FnOk P w K mg base CX k f fd ps sp)(b:∀ (kV doc pm:Value) (an:Option Addr) (cdv ct:Value) (us:List Value),us.length=ps.length->bindArgs (zcf2 x x (zl6 st) (zh4 st) (za4 st) .none kV doc pm an cdv ct) ⟨us,[]⟩=pure (ps.zip us):=by walk_at "bd"):Def P w K mg base CX k x ps sp:=by
 obtain⟨f,od,an,sl,oc,kV,dc,pm,cd,ct,a,l,c,k⟩:=A
 have F:=zaz6 (st:=st) l c k
 have a:=zcg1 E.x E.g a
 exact⟨⟨_,_,ok F a k (F.binds b),a,k,F.binds b⟩⟩
theorem Ev.d(E:Ev P w K mg base h)(A:FA K x st)(ok:∀ {f:Addr}{fd:FuncData},Fun K x x st f fd->FnOk P w K mg base CX k f fd ps sp)(b:∀ (kV doc pm:Value) (an:Option Addr) (cdv ct:Value) (us:List Value),us.length=ps.length->bindArgs (zcf2 x x (zl6 st) (zh4 st) (za4 st) .none kV doc pm an cdv ct) ⟨us,[]⟩=pure (ps.zip us):=by walk_at "bd"):Def P w K mg base CX k x ps sp:=E.r A (fun F _ _ _=>ok F) b
theorem Ev.dc{c T:Addr}(E:Ev P w K mg base h)(A:FA K x st)(hT:zch7 K x=some (c,T))(ok:∀ {f:Addr}{fd:FuncData},Fun K x x st f fd->fd.code=.ref c->FnOk P w K mg base CX k f fd ps sp)(b:∀ (kV doc pm:Value) (an:Option Addr) (cdv ct:Value) (us:List Value),us.length=ps.length->bindArgs (zcf2 x x (zl6 st) (zh4 st) (za4 st) .none kV doc pm an cdv ct) ⟨us,[]⟩=pure (ps.zip us):=by walk_at "bd"):Def P w K mg base CX k x ps sp:=by
 obtain⟨f,od,an,sl,oc,kV,dc,pm,cd,ct,a,l,c,k⟩:=A
 have F:=zaz6 (st:=st) l c k
 have e:cd=.ref _:=zbh8 hT a l
 have a:=zcg1 E.x E.g a
 exact⟨⟨_,_,ok F e,a,k,F.binds b⟩⟩
end
theorem all_mk{l:PySem.W.OpenLaw}{w:World}{K:zbz7}{h:Heap}{mg:Str->Option Value}{fa:Addr}(X:K.In h)(G:h.Ns zci8 mg)(hfa:mg "law"=some (.ref fa)){zbw8:Tok}{zbw5:Tok}{zbv0:Addr}{zby8:ClassData}{zbu9:Addr}{zbz3:ClassData}{zbu7:Addr}{zbz1:ClassData}{zbu8:Addr}{zbz2:ClassData}{a_cod a_tab:Addr}(e_MOST_HOSTS:zcd5 K zci8 "MOST_HOSTS"=some (some (.int 40 zbw8)))(e_MOST_FIELDS:zcd5 K zci8 "MOST_FIELDS"=some (some (.int 8 zbw5)))(A_0:FA K "is_whole" zv4)(A_1:FA K "is_from" zy0)(A_2:FA K "is_between" zp9)(A_3:FA K "sends_hosts" zm8)(A_4:FA K "is_plan" zy6)(A_5:FA K "is_size" zaa2)(A_6:FA K "is_part" zaa6)(A_7:FA K "is_mix" zah0)(A_8:FA K "look_mix" zv1)(A_9:FA K "is_flow" zy8)(A_10:FA K "is_row" zaf7)(A_11:FA K "begins" zaf5)(A_12:FA K "summed" zah5)(A_13:FA K "meets" zao5)(A_14:FA K "is_stream" zr5)(A_15:FA K "hosts_in" zt9)(A_16:FA K "is_any_stream" zk2)(A_17:FA K "look_stream" zn1)(A_18:FA K "whole_in" zv3)(A_19:FA K "row_of" zae5)(A_20:FA K "stream_of" zr1)(A_21:FA K "sent_on" zaa9)(A_22:FA K "taken_apart" zm7)(A_23:FA K "row_shares" zo3)(A_24:FA K "shares_of" zr4)(A_25:FA K "whole_weight" zl2)(A_26:FA K "whole_of" zv2)(A_27:FA K "played" zag8)(A_28:FA K "_law_stirred" zl1)(A_29:FA K "_law_opened" zm9)(A_30:FA K "_law_draw" zr2)(A_31:FA K "_law_drawn_plan" zh7)(A_32:FA K "_law_drawn_mix" zj0)(A_33:FA K "_law_all_plays" zi6)(A_34:FA K "_law_shares" zn5)(A_35:FA K "law" zan0)(z_all:zcd5 K zci8 "all"=some none)(z_bool:zcd5 K zci8 "bool"=some none)(z_int:zcd5 K zci8 "int"=some none)(z_isinstance:zcd5 K zci8 "isinstance"=some none)(z_len:zcd5 K zci8 "len"=some none)(z_list:zcd5 K zci8 "list"=some none)(z_min:zcd5 K zci8 "min"=some none)(z_range:zcd5 K zci8 "range"=some none)(z_sorted:zcd5 K zci8 "sorted"=some none)(z_sum:zcd5 K zci8 "sum"=some none)(z_tuple:zcd5 K zci8 "tuple"=some none)(z_zip:zcd5 K zci8 "zip"=some none)(e_HostError:zcd5 K zci8 "HostError"=some (some (.ref zbv0)))(kk_HostError:zch8 K zbv0=some zby8)(tt_HostError:PySem.W.typeIn K (.ref zbv0)=some (.type "type"))(nn_HostError:zcc7 K (.type "NoneType") (.ref zbv0)=some false)(e_NoMix:zcd5 K zci8 "NoMix"=some (some (.ref zbu9)))(kk_NoMix:zch8 K zbu9=some zbz3)(tt_NoMix:PySem.W.typeIn K (.ref zbu9)=some (.type "type"))(nn_NoMix:zcc7 K (.type "NoneType") (.ref zbu9)=some false)(e_NoStream:zcd5 K zci8 "NoStream"=some (some (.ref zbu7)))(kk_NoStream:zch8 K zbu7=some zbz1)(tt_NoStream:PySem.W.typeIn K (.ref zbu7)=some (.type "type"))(nn_NoStream:zcc7 K (.type "NoneType") (.ref zbu7)=some false)(e_NoNumber:zcd5 K zci8 "NoNumber"=some (some (.ref zbu8)))(kk_NoNumber:zch8 K zbu8=some zbz2)(tt_NoNumber:PySem.W.typeIn K (.ref zbu8)=some (.type "type"))(nn_NoNumber:zcc7 K (.type "NoneType") (.ref zbu8)=some false)(bb_HostError:zcc7 K (.ref zbv0) (.type "BaseException")=some true)(x_NoMix:PySem.W.excIn K zbu9 bmV newV=true)(f1_NoMix:zce3 K (.ref zbu9) "__getattribute__"=some (some (.builtin "BaseException.__getattribute__")))(f2_NoMix:zce3 K (.ref zbu9) "__getattr__"=some none)(f3_NoMix:zce3 K (.ref zbu9) "__class__"=some (some (.builtin "object.__class__")))(f4_NoMix:zcc7 K (.ref zbu9) (.type "BaseException")=some true)(f5_NoMix:PySem.W.mroIn K zbu9 (.type "object")=some true)(f6_NoMix:zcc7 K (.ref zbu9) (.type "ValueError")=some true)(s_NoMix_HostError:zcc7 K (.ref zbu9) (.ref zbv0)=some true)(s_NoMix_NoMix:zcc7 K (.ref zbu9) (.ref zbu9)=some true)(s_NoMix_NoStream:zcc7 K (.ref zbu9) (.ref zbu7)=some false)(s_NoMix_NoNumber:zcc7 K (.ref zbu9) (.ref zbu8)=some false)(x_NoStream:PySem.W.excIn K zbu7 bmV newV=true)(f1_NoStream:zce3 K (.ref zbu7) "__getattribute__"=some (some (.builtin "BaseException.__getattribute__")))(f2_NoStream:zce3 K (.ref zbu7) "__getattr__"=some none)(f3_NoStream:zce3 K (.ref zbu7) "__class__"=some (some (.builtin "object.__class__")))(f4_NoStream:zcc7 K (.ref zbu7) (.type "BaseException")=some true)(f5_NoStream:PySem.W.mroIn K zbu7 (.type "object")=some true)(f6_NoStream:zcc7 K (.ref zbu7) (.type "ValueError")=some true)(s_NoStream_HostError:zcc7 K (.ref zbu7) (.ref zbv0)=some true)(s_NoStream_NoMix:zcc7 K (.ref zbu7) (.ref zbu9)=some false)(s_NoStream_NoStream:zcc7 K (.ref zbu7) (.ref zbu7)=some true)(s_NoStream_NoNumber:zcc7 K (.ref zbu7) (.ref zbu8)=some false)(x_NoNumber:PySem.W.excIn K zbu8 bmV newV=true)(f1_NoNumber:zce3 K (.ref zbu8) "__getattribute__"=some (some (.builtin "BaseException.__getattribute__")))(f2_NoNumber:zce3 K (.ref zbu8) "__getattr__"=some none)(f3_NoNumber:zce3 K (.ref zbu8) "__class__"=some (some (.builtin "object.__class__")))(f4_NoNumber:zcc7 K (.ref zbu8) (.type "BaseException")=some true)(f5_NoNumber:PySem.W.mroIn K zbu8 (.type "object")=some true)(f6_NoNumber:zcc7 K (.ref zbu8) (.type "ValueError")=some true)(s_NoNumber_HostError:zcc7 K (.ref zbu8) (.ref zbv0)=some true)(s_NoNumber_NoMix:zcc7 K (.ref zbu8) (.ref zbu9)=some false)(s_NoNumber_NoStream:zcc7 K (.ref zbu8) (.ref zbu7)=some false)(s_NoNumber_NoNumber:zcc7 K (.ref zbu8) (.ref zbu8)=some true)(hTAB:zch7 K "taken_apart"=some (a_cod,a_tab)) :
  ∃ (c T:Addr) (fd:FuncData),zch7 K "taken_apart"=some (c,T)/\(∀ (s:Shared) (v:Value),BindsTo s fd ⟨[v],[]⟩ [("_law_script",v)])/\∀ base:Heap,K.In base->base.Ns zci8 mg->PySem.W.CodeHd base c T->Bm mg base->FnOk l.prog w K mg base CX0 12 fa fd ["_law_script"] (zat9 K T):=by
 obtain⟨_,_,an,_,_,kV,dc,pm,cd,ct,aL,lL,cL,kL⟩:=A_35
 have e:=hfa.symm.trans (zcg1 X G aL)
 cases e
 have N:Nm mg:=⟨zcd7 X G z_all,zcd7 X G z_bool,zcd7 X G z_int,zcd7 X G z_isinstance,zcd7 X G z_len,zcd7 X G z_list,zcd7 X G z_min,zcd7 X G z_range,zcd7 X G z_sorted,zcd7 X G z_sum,zcd7 X G z_tuple,zcd7 X G z_zip⟩
 have zby9:=zcg1 X G e_MOST_HOSTS
 have zby7:=zcg1 X G e_MOST_FIELDS
 refine⟨a_cod,a_tab,zcf2 "law" "law" (zl6 zan0) (zh4 zan0) (za4 zan0) .none kV dc pm an cd ct,hTAB,fun s v=>.of_eq rfl,fun base XB GB hCH hBM=>?_⟩
 have E:Ev l.prog w K mg base h:=⟨X,G⟩
 have Z:Cz K mg base zbv0 zbu9 zbu7 zbu8:=⟨zcg1 X G e_HostError,zcg1 X G e_NoMix,zcg1 X G e_NoStream,zcg1 X G e_NoNumber,zah3 XB GB e_NoMix x_NoMix,⟨f1_NoMix,f2_NoMix,f3_NoMix,f4_NoMix,f5_NoMix⟩,by rw[kk_NoMix];rfl,zao3 bb_HostError kk_HostError tt_HostError s_NoMix_HostError,zk8 f6_NoMix,zi8 kk_HostError tt_HostError s_NoMix_HostError s_NoMix_NoMix,zi8 kk_NoMix tt_NoMix s_NoMix_NoMix s_NoMix_NoMix,zi8 kk_NoStream tt_NoStream s_NoMix_NoStream s_NoMix_NoMix,zi8 kk_NoNumber tt_NoNumber s_NoMix_NoNumber s_NoMix_NoMix,zah3 XB GB e_NoStream x_NoStream,⟨f1_NoStream,f2_NoStream,f3_NoStream,f4_NoStream,f5_NoStream⟩,by rw[kk_NoStream];rfl,zao3 bb_HostError kk_HostError tt_HostError s_NoStream_HostError,zk8 f6_NoStream,zi8 kk_HostError tt_HostError s_NoStream_HostError s_NoStream_NoStream,zi8 kk_NoMix tt_NoMix s_NoStream_NoMix s_NoStream_NoStream,zi8 kk_NoStream tt_NoStream s_NoStream_NoStream s_NoStream_NoStream,zi8 kk_NoNumber tt_NoNumber s_NoStream_NoNumber s_NoStream_NoStream,zah3 XB GB e_NoNumber x_NoNumber,⟨f1_NoNumber,f2_NoNumber,f3_NoNumber,f4_NoNumber,f5_NoNumber⟩,by rw[kk_NoNumber];rfl,zao3 bb_HostError kk_HostError tt_HostError s_NoNumber_HostError,zk8 f6_NoNumber,zi8 kk_HostError tt_HostError s_NoNumber_HostError s_NoNumber_NoNumber,zi8 kk_NoMix tt_NoMix s_NoNumber_NoMix s_NoNumber_NoNumber,zi8 kk_NoStream tt_NoStream s_NoNumber_NoStream s_NoNumber_NoNumber,zi8 kk_NoNumber tt_NoNumber s_NoNumber_NoNumber s_NoNumber_NoNumber,zw7 kk_HostError tt_HostError nn_HostError,zw7 kk_NoMix tt_NoMix nn_NoMix,zw7 kk_NoStream tt_NoStream nn_NoStream,zw7 kk_NoNumber tt_NoNumber nn_NoNumber⟩
 have zbx8:=E.d A_0 fun F=>zan7 F N
 have zbv3:=E.d A_1 fun F=>zau7 F N zbx8
 have zbv2:=E.d A_2 fun F=>zae6 F N zbv3
 have zbv6:=E.d A_3 fun F=>zac2 F N zbv3
 have zby1:=E.d A_4 fun F=>zau5 F N zbv6
 have zbw7:=E.d A_5 fun F=>zav1 F N zby7 zby9 zbv2
 have zby0:=E.d A_6 fun F=>zaw5 F N zbv3 zbv6
 have zby4:=E.d A_7 fun F=>zax8 F N zby0 zby1 zbw7
 have zbv7:=E.d A_8 fun F=>zap9 F N zby4 Z
 have zby2:=E.d A_9 fun F=>zaw1 F N zbv2 zbv3
 have zbx2:=E.d A_10 fun F=>zaz3 F N zby2
 have zbx3:=E.d A_11 fun F=>zba8 F N zbx2
 have zbw1:=E.d A_12 fun F=>zbg4 F N
 have zbz0:=E.d A_13 fun F=>zbj7 F N zbw1
 have zbx5:=E.d A_14 fun F=>zah7 F N zbx3 zbx2 zbz0
 have zbv4:=E.d A_15 fun F=>zaq0 F N
 have zbw4:=E.d A_16 fun F=>zw5 F N zbx3 zbv4 zbw7 zbx5
 have zbv8:=E.d A_17 fun F=>zab8 F N zbw4 Z
 have zbx9:=E.d A_18 fun F=>zan3 F N
 have zby5:=E.d A_19 fun F=>zbe5 F N zbw1
 have zbx7:=E.d A_20 fun F=>zam7 F N zbv7 zby5
 have zby3:=E.d A_21 fun F=>zax6 F N
 have zbx0:=E.dc A_22 hTAB fun F hc=>zab0 F N hc hCH hBM zbv4 zbv8 zby3 zbx9
 have zbx1:=E.d A_23 fun F=>zag0 F N zbw1
 have zbx6:=E.d A_24 fun F=>zal0 F N zbv4 zbv8 zbx1
 have zbv5:=E.d A_25 fun F=>zaa1 F N
 have zbx4:=E.d A_26 fun F=>zao4 F N zbv7 zbv5
 have zby6:=E.d A_27 fun F=>zbg5 F N zbv2 zbv7 zbv5 Z
 have zbw6:=E.d A_28 fun F=>zaa7 F N
 have zbw9:=E.d A_29 fun F=>zab3 F N
 have zbv1:=E.d A_30 fun F=>zak7 F N zbw6
 have zbw0:=E.d A_31 fun F=>zs6 F N zbv1
 have zbw2:=E.d A_32 fun F=>zt3 F N zbv1 zbw0
 have zbv9:=E.d A_33 fun F=>zu3 F N zby6
 have zbw3:=E.d A_34 fun F=>zac1 F N
 exact ok_law (P:=l.prog) (w:=w) (base:=base) (zaz6 (st:=zan0) lL cL kL) N zbv9 zbv1 zbw2 zbw9 zbw3 zbx6 zbx7 zbx0 zbx4
theorem walk{l:PySem.W.OpenLaw}{q:Program}{loose:List Str}{XP:(Str->Option Value)->Heap->Prop}{YP:World->Heap->Prop}{d:DefRec}{K:Params->zbz7}(hn:l.most=some 63)(hdf:d.params.defaults=[])(hY:∀ (w:World) (h:Heap),YP w h->(K w.params).In h){d9:DefRec}(hnt:∀ w:World,PySem.W.noTabs (K w.params)=true)(hrec:(PyProof.Rows.recsOf q).find? (fun e=>e.name==Str.ofString "taken_apart")=some d9)(F:∀ (w:World) (mg:Str->Option Value) (fa:Addr) (h:Heap),(K w.params).In h->h.Ns zci8 mg->mg d.name=some (.ref fa) ->
   ∃ (c T:Addr) (fd:FuncData),zch7 (K w.params) (Str.ofString "taken_apart")=some (c,T)/\(∀ (s:Shared) (u:Value),BindsTo s fd ⟨[u],[]⟩ [("_law_script",u)])/\∀ base:Heap,(K w.params).In base->base.Ns zci8 mg->PySem.W.CodeHd base c T->Bm mg base->FnOk l.prog w (K w.params) mg base CX0 12 fa fd ["_law_script"] (zat9 (K w.params) T)) :
  PySem.W.WalkO q loose XP YP l.row.toRowW d [] (fun f vs=>PySem.call f vs):=
 L2.walk_ofT (n:=63) (k:=12) (x:="_law_script") (CX:=fun _=>CX0) (sp:=fun w T=>zat9 (K w.params) T) hn (by decide) hdf ⟨rfl,by decide,by decide,rfl⟩ hY "taken_apart" hnt hrec F (fun _ _ _ a ns hl hT hS=>⟨a,ns,rfl,hS,hl,hT,fun _=>rfl⟩) fun _ _ _ _ _ z=>z
end G
namespace PySem.W.Fast
theorem tw8512514674088847638:True:=⟨⟩
theorem tw1652188569119669932:True:=⟨⟩
theorem tw1982633026868227119:True:=⟨⟩
theorem tw4546634057351367868:True:=⟨⟩
theorem tw3826719392970168587:True:=⟨⟩
theorem tw3287526344543881946:True:=⟨⟩
theorem tw13276015459374960693:True:=⟨⟩
theorem tw3144713470009939803:True:=⟨⟩
theorem tw15180733917201226752:True:=⟨⟩
theorem tw18212030105835786036:True:=⟨⟩
theorem tw16364557724633497777:True:=⟨⟩
theorem tw13138641237805132687:True:=⟨⟩
theorem tw15119048342340906317:True:=⟨⟩
theorem tw13798240202571824797:True:=⟨⟩
theorem tw14847742621580962664:True:=⟨⟩
theorem tw15961811765008978519:True:=⟨⟩
theorem tw12903934997181001712:True:=⟨⟩
theorem tw15271908736099826274:True:=⟨⟩
theorem tw8390186753301761866:True:=⟨⟩
theorem tw7891590827268654686:True:=⟨⟩
theorem tw12628256105582499184:True:=⟨⟩
theorem tw16343821385320802224:True:=⟨⟩
theorem tw3192562688867132685:True:=⟨⟩
theorem tw613141700037687490:True:=⟨⟩
theorem tw8570467680229613296:True:=⟨⟩
theorem tw13189458371435209844:True:=⟨⟩
theorem tw3689970186892389680:True:=⟨⟩
theorem tw12960201274912001607:True:=⟨⟩
theorem tw4489022952299607373:True:=⟨⟩
theorem tw7199682676290890952:True:=⟨⟩
theorem tw18416466513185437407:True:=⟨⟩
theorem tw1455165539515267156:True:=⟨⟩
theorem tw4305812171332307800:True:=⟨⟩
theorem tw17417658514045438610:True:=⟨⟩
theorem tw4779612681332760711:True:=⟨⟩
theorem tw10823673911471935297:True:=⟨⟩
theorem tw10080302376188952269:True:=⟨⟩
theorem tw3868204584227406633:True:=⟨⟩
theorem tw2436132287188338205:True:=⟨⟩
theorem tw11544373481935027953:True:=⟨⟩
theorem tw1791138699235681076:True:=⟨⟩
theorem tw9929669134341337607:True:=⟨⟩
theorem tw1400932072979429960:True:=⟨⟩
theorem tw12643092641901123265:True:=⟨⟩
theorem tw2098371951291402471:True:=⟨⟩
theorem tw14527424413147476923:True:=⟨⟩
theorem tw9540109836022556947:True:=⟨⟩
theorem tw13818686932733062924:True:=⟨⟩
theorem tw12666792048655485589:True:=⟨⟩
theorem tw14375931296206960838:True:=⟨⟩
theorem tw2383512881714422062:True:=⟨⟩
theorem tw8897562417112752931:True:=⟨⟩
theorem tw14478604978550234334:True:=⟨⟩
theorem tw3119124376845590389:True:=⟨⟩
theorem tw3071971650386904712:True:=⟨⟩
theorem tw13972255506170913780:True:=⟨⟩
theorem tw14373779029988761660:True:=⟨⟩
theorem tw16448558050692792328:True:=⟨⟩
theorem tw295557971812501017:True:=⟨⟩
theorem tw14983446187983019463:True:=⟨⟩
theorem tw799324976105549365:True:=⟨⟩
theorem tw6794515574825252572:True:=⟨⟩
theorem tw17625424348981268981:True:=⟨⟩
theorem tw7180829486950077349:True:=⟨⟩
theorem tw11576225572866846282:True:=⟨⟩
theorem tw16689756439228000929:True:=⟨⟩
theorem tw12552622767923277203:True:=⟨⟩
theorem tw16442790677069059815:True:=⟨⟩
theorem tw16210219541400186044:True:=⟨⟩
theorem tw18235440249911506010:True:=⟨⟩
theorem tw13425006465115993054:True:=⟨⟩
theorem tw4074176446916480212:True:=⟨⟩
theorem tw17649164890087790653:True:=⟨⟩
theorem tw9410516957021541920:True:=⟨⟩
theorem tw763679710780120417:True:=⟨⟩
theorem tw17400971121123668980:True:=⟨⟩
theorem tw11183911640733637083:True:=⟨⟩
theorem tw2021962498250858377:True:=⟨⟩
theorem tw11759350672493604677:True:=⟨⟩
theorem tw9703046904553574268:True:=⟨⟩
theorem tw11361513418265516254:True:=⟨⟩
theorem tw13750633940973653324:True:=⟨⟩
theorem tw7122812168874321790:True:=⟨⟩
theorem tw8775389919706047183:True:=⟨⟩
theorem tw860077689738297010:True:=⟨⟩
theorem tw16761731016556506084:True:=⟨⟩
theorem tw3739762588010635996:True:=⟨⟩
theorem tw11880019932732582407:True:=⟨⟩
theorem tw5772833717406961365:True:=⟨⟩
theorem tw158728672181878116:True:=⟨⟩
theorem tw10260895373327466713:True:=⟨⟩
theorem tw3552420146772227317:True:=⟨⟩
theorem tw11453737897381343755:True:=⟨⟩
theorem tw12313898218858706826:True:=⟨⟩
theorem tw8737656501803126561:True:=⟨⟩
theorem tw15920672978406272834:True:=⟨⟩
theorem tw2932953551033646414:True:=⟨⟩
theorem tw4771971118621926195:True:=⟨⟩
theorem tw3201632351211399717:True:=⟨⟩
theorem tw14756334033728434257:True:=⟨⟩
theorem tw12729875885772261255:True:=⟨⟩
theorem tw17131634655948195906:True:=⟨⟩
theorem tw8626010871263811018:True:=⟨⟩
theorem tw17299343397426312792:True:=⟨⟩
theorem tw17522956540365219985:True:=⟨⟩
theorem tw18243088204241087807:True:=⟨⟩
theorem tw15559231050585606588:True:=⟨⟩
theorem tw11295717305767440806:True:=⟨⟩
theorem tw1204627466166364526:True:=⟨⟩
theorem tw15097396683117257626:True:=⟨⟩
theorem tw14705493524250980633:True:=⟨⟩
theorem tw15908711402994732341:True:=⟨⟩
theorem tw3197667766080146521:True:=⟨⟩
theorem tw17111065908547893533:True:=⟨⟩
theorem tw4763153891960022181:True:=⟨⟩
theorem tw15613084628808665262:True:=⟨⟩
theorem tw17332412256815291394:True:=⟨⟩
theorem tw10695536973344746364:True:=⟨⟩
theorem tw18343780023488458738:True:=⟨⟩
theorem tw2388104973669321021:True:=⟨⟩
theorem tw8321552739143679394:True:=⟨⟩
theorem tw14874230371487884690:True:=⟨⟩
theorem tw4008422076152596885:True:=⟨⟩
theorem tw15313327829488645134:True:=⟨⟩
theorem tw6167536884937576106:True:=⟨⟩
theorem tw3058383549059840628:True:=⟨⟩
theorem tw17199754887069032226:True:=⟨⟩
theorem tw5444970461890952552:True:=⟨⟩
theorem tw9104121619108598011:True:=⟨⟩
theorem tw15829009286257815589:True:=⟨⟩
theorem tw342854951567254733:True:=⟨⟩
theorem tw10626509728352125092:True:=⟨⟩
theorem tw1079795195605773214:True:=⟨⟩
theorem tw9614811097937642203:True:=⟨⟩
theorem tw10242392341964336656:True:=⟨⟩
theorem tw5096842701990113891:True:=⟨⟩
theorem tw8365405726376180606:True:=⟨⟩
theorem tw14389467655718746126:True:=⟨⟩
theorem tw3137121910058899036:True:=⟨⟩
theorem tw13246527578197554183:True:=⟨⟩
theorem tw7549379569104862882:True:=⟨⟩
theorem tw7553169385820336238:True:=⟨⟩
theorem tw15921072704920682440:True:=⟨⟩
theorem tw9436369015850626564:True:=⟨⟩
theorem tw7714985841468813641:True:=⟨⟩
theorem tw13840470617576752863:True:=⟨⟩
theorem tw10613156002537120633:True:=⟨⟩
theorem tw14279554406638414280:True:=⟨⟩
theorem tw10486301235572810952:True:=⟨⟩
theorem tw12556659096935480026:True:=⟨⟩
theorem tw6484432754128907693:True:=⟨⟩
theorem tw8990644612635096369:True:=⟨⟩
theorem tw17650092145888052646:True:=⟨⟩
theorem tw2020060026183410902:True:=⟨⟩
theorem tw12352310791738122349:True:=⟨⟩
theorem tw2589420105842814573:True:=⟨⟩
theorem tw675688699350655766:True:=⟨⟩
theorem tw3466267172380701820:True:=⟨⟩
theorem tw17796096740778324758:True:=⟨⟩
theorem tw14041545147117098928:True:=⟨⟩
theorem tw4064427973146801811:True:=⟨⟩
theorem tw6326066711150000194:True:=⟨⟩
theorem tw12025965996311213024:True:=⟨⟩
theorem tw7491067860840812575:True:=⟨⟩
end PySem.W.Fast
open PySem PySem.W PyProof.Rows
set_option maxRecDepth 100000 in
theorem PySem.Challenge.cw_hostfields_k72_whole_played_as_often_holds : PySem.Challenge.rw_hostfields_k72_whole_played_as_often.Holds := by
 w_on;o_law;k_head;(case hw=>w_witness2)
 k_fill
 first|refine' G.walk (l:=PySem.Challenge.rw_hostfields_k72_whole_played_as_often) rfl rfl (fun w h Y=>PySem.W.kIn_of Y) ?hnt ?hrec ?F|refine' G.walk (l:=PySem.Challenge.rw_hostfields_k72_whole_played_as_often) rfl rfl (fun w h Y=>PySem.W.km_in_of Y) ?hnt ?hrec ?F
 (case hnt=>intro w;kernel_rfl)
 (case hrec=>rfl)
 case F=>
  intro w mg fa h KX GG hmg
  refine' G.all_mk (a_cod:=200) (a_tab:=196) KX GG hmg ?e_MOST_HOSTS ?e_MOST_FIELDS ?_ ?_ ?_ ?_ ?_ ?_ ?_ ?_ ?_ ?_ ?_ ?_ ?_ ?_ ?_ ?_ ?_ ?_ ?_ ?_ ?_ ?_ ?_ ?_ ?_ ?_ ?_ ?_ ?_ ?_ ?_ ?_ ?_ ?_ ?_ ?_ ?z_all ?z_bool ?z_int ?z_isinstance ?z_len ?z_list ?z_min ?z_range ?z_sorted ?z_sum ?z_tuple ?z_zip ?e_HostError ?kk_HostError ?tt_HostError ?nn_HostError ?e_NoMix ?kk_NoMix ?tt_NoMix ?nn_NoMix ?e_NoStream ?kk_NoStream ?tt_NoStream ?nn_NoStream ?e_NoNumber ?kk_NoNumber ?tt_NoNumber ?nn_NoNumber ?bb_HostError ?x_NoMix ?f1_NoMix ?f2_NoMix ?f3_NoMix ?f4_NoMix ?f5_NoMix ?f6_NoMix ?s_NoMix_HostError ?s_NoMix_NoMix ?s_NoMix_NoStream ?s_NoMix_NoNumber ?x_NoStream ?f1_NoStream ?f2_NoStream ?f3_NoStream ?f4_NoStream ?f5_NoStream ?f6_NoStream ?s_NoStream_HostError ?s_NoStream_NoMix ?s_NoStream_NoStream ?s_NoStream_NoNumber ?x_NoNumber ?f1_NoNumber ?f2_NoNumber ?f3_NoNumber ?f4_NoNumber ?f5_NoNumber ?f6_NoNumber ?s_NoNumber_HostError ?s_NoNumber_NoMix ?s_NoNumber_NoStream ?s_NoNumber_NoNumber ?hTAB
  (case e_MOST_HOSTS=>k_is)
  (case e_MOST_FIELDS=>k_is)
  (case z_all=>k_is)
  (case z_bool=>k_is)
  (case z_int=>k_is)
  (case z_isinstance=>k_is)
  (case z_len=>k_is)
  (case z_list=>k_is)
  (case z_min=>k_is)
  (case z_range=>k_is)
  (case z_sorted=>k_is)
  (case z_sum=>k_is)
  (case z_tuple=>k_is)
  (case z_zip=>k_is)
  (case e_HostError=>k_is)
  (case kk_HostError=>k_is)
  (case tt_HostError=>k_is)
  (case nn_HostError=>k_is)
  (case e_NoMix=>k_is)
  (case kk_NoMix=>k_is)
  (case tt_NoMix=>k_is)
  (case nn_NoMix=>k_is)
  (case e_NoStream=>k_is)
  (case kk_NoStream=>k_is)
  (case tt_NoStream=>k_is)
  (case nn_NoStream=>k_is)
  (case e_NoNumber=>k_is)
  (case kk_NoNumber=>k_is)
  (case tt_NoNumber=>k_is)
  (case nn_NoNumber=>k_is)
  (case bb_HostError=>k_is)
  (case x_NoMix=>k_exc)
  (case f1_NoMix=>k_is)
  (case f2_NoMix=>k_is)
  (case f3_NoMix=>k_is)
  (case f4_NoMix=>k_is)
  (case f5_NoMix=>k_is)
  (case f6_NoMix=>k_is)
  (case s_NoMix_HostError=>k_is)
  (case s_NoMix_NoMix=>k_is)
  (case s_NoMix_NoStream=>k_is)
  (case s_NoMix_NoNumber=>k_is)
  (case x_NoStream=>k_exc)
  (case f1_NoStream=>k_is)
  (case f2_NoStream=>k_is)
  (case f3_NoStream=>k_is)
  (case f4_NoStream=>k_is)
  (case f5_NoStream=>k_is)
  (case f6_NoStream=>k_is)
  (case s_NoStream_HostError=>k_is)
  (case s_NoStream_NoMix=>k_is)
  (case s_NoStream_NoStream=>k_is)
  (case s_NoStream_NoNumber=>k_is)
  (case x_NoNumber=>k_exc)
  (case f1_NoNumber=>k_is)
  (case f2_NoNumber=>k_is)
  (case f3_NoNumber=>k_is)
  (case f4_NoNumber=>k_is)
  (case f5_NoNumber=>k_is)
  (case f6_NoNumber=>k_is)
  (case s_NoNumber_HostError=>k_is)
  (case s_NoNumber_NoMix=>k_is)
  (case s_NoNumber_NoStream=>k_is)
  (case s_NoNumber_NoNumber=>k_is)
  (case hTAB=>kernel_rfl)
  all_goals (apply G.FA.of;k_is;k_is;k_is;k_is)
