import PyProof.Rows.All
import Wide.All
import OpenK.AllK
import Wide.FinOn
import Lean
import PyProof.EqAt
import PyProof.EqKinds
import PyProof.TupleCall
import PyProof.NeKinds
import PyProof.CompFree
import PyProof.EnumMake
import KE.KTryMore
import PyProof.ExcArgsOwn
import PyProof.ZipIter
import PyProof.ListRange
import KE.KIsAll
import PyProof.InstStoreFacts
import PyProof.ExcInit
import PyProof.ReprRoads
import PyProof.CallStr
import KE.KEqDict
import PyProof.EqLayable
import KE.KRevIter
import PyProof.CollectIter
import PyProof.Rows.SetFrom
import PyProof.TupleKey
import PyProof.SetScanFacts
import KE.KSortKey
import PyProof.StrBlock2
import PyProof.StrLawsRepr
import PyProof.Rows.StrItems
import PyProof.Rows.StrSplitAre
import PySem.Challenge.RW_hostfields_k81_numbers_of_two_thousand_f
open PySem.W renaming Frag->zby6,kitOne->zbz0,subIn->zbz9,nsIn->zca9,findIn->zcb2,clsIn->zcb5,typeIn->zcb9,mg_of->zcc2,kia_one->zcd7,mg_none_of->zcd8,fnOf->zce9,hasDictIn->zcf2,keepIn->zcf3,codeIn->zcg4,exmOne->zcg6,hideAll_get->zch5
open List renaming length_map->zby7,getElem?_eq_getElem->zby8,getElem?_eq_some_iff->zby9,getElem?_map->zbz1,length_append->zbz2,mem_cons->zbz4,size_toArray->zbz6,not_mem_nil->zbz7,length_cons->zca2,getElem?_append_right->zca4,mem_of_getElem?->zca5,getD_eq_getElem?_getD->zca6,getElem?_append_left->zcb0,length_singleton->zcb1,append_assoc->zcb4,mem_cons_of_mem->zcb6,mem_cons_self->zcb8,mem_append->zcc1,append_nil->zcc3,mem_append_right->zcc6,getElem?_eq_none->zcc7,all_eq_true->zcc9,length_nil->zcd1,map_append->zcd2,take_of_length_le->zcd3,lookup_cons->zcd4,mem_singleton->zcd5,length_take->zcd6,replicate_succ->zcd9,getElem?_of_mem->zce0,getLastD_concat->zce1,getElem?_set_self->zce2,nil_append->zce4,getElem?_cons_succ->zce5,mem_append_left->zce6,dropLast_concat->zce7,length->zce8,nodup_cons->zcf1,mem_map->zcf4,length_drop->zcf5,cons_append->zcf7,map_cons->zcf8,flatten_cons->zcf9,length_set->zcg2,find?_cons->zcg3,filter_append->zcg5,length_range->zcg8,ext_getElem?->zcg9,getElem?_set_ne->zch0,getLast?_concat->zch3
open Bool renaming false_ne_true->zbz3,and_eq_true->zcb3,true_and->zcc4,and_true->zce3,eq_iff_iff->zcg1,false_and->zch6
open Option renaming map_eq_some_iff->zbz5,isSome_iff_exists->zcf0
open PySem.Heap renaming get?_push_of_some->zbz8,get?_update_other->zca1,lt_size->zca3,get?_update_self->zcc0,get?_push_size->zcd0
open Array renaming length_toList->zca0,getElem?_toList->zcb7,getElem?_eq_getElem->zcf6,mem_toList_iff->zch1
open Nat renaming le_refl->zca7,lt_of_lt_of_le->zca8,le_trans->zcc5,ne_of_lt->zcc8,zero_le->zcg0,zero_add->zch2,lt_irrefl->zch4,ne_of_gt->zch7
open Int renaming toNat_natCast->zcg7
open PySem renaming wpAny_bind->zch8,wpAny_pure->zch9,sizeLine_eq->zci0,wpAny_ite_false->zci1,tupleKeyHash->zci2,wpAny_holding->zci3,mainGlobals->zci4
set_option Elab.async false
set_option linter.all false
set_option maxRecDepth 100000
namespace L2
open PySem PySem.Spec PyProof.Rows
abbrev Key:=Sum Int Str
variable {o:Obj}{i:Nat}{E:Value->Shared->Prop}{u:Value}{e tg:Expr}{s:Shared}{pins:List (Addr×Obj)}{pos:Pos}{us:List Value}{C:Addr}
def zaw6:Key->Value->Bool
 | .inl k,v=>Value.isInt k v
 | .inr x,v=>Value.isStrOf x v
def keyH(w:World):Key->Int
 | .inl k=>hashInt k
 | .inr x=>hashStr w x
theorem ze9:∀ {k:Key}{v:Value},zaw6 k v=true->(∃ i t,k=Sum.inl i/\v=Value.int i t)∨(∃ x t,k=Sum.inr x/\v=Value.str x t)
 | .inl i,v,h=>by
  obtain⟨t,e⟩:=Value.isInt_shape (k:=i) (v:=v) h
  exact .inl ⟨i,t,rfl,e⟩
 | .inr x,v,h=>by
  obtain⟨t,e⟩:=Value.isStrOf_shape (x:=x) (v:=v) h
  exact .inr ⟨x,t,rfl,e⟩
theorem zbg0(i:Int)(t:Tok):zaw6 (.inl i) (.int i t)=true:=by simp[zaw6,Value.isInt]
theorem zbf1(x:Str)(t:Tok):zaw6 (.inr x) (.str x t)=true:=by simp[zaw6,Value.isStrOf]
theorem key_ll(a b:Int):decide ((Sum.inl a:Key)=Sum.inl b)=(a==b):=by
 by_cases e:a=b
 ·subst e;simp
 ·have h:¬ (Sum.inl a:Key)=Sum.inl b:=fun q=>e (Sum.inl.inj q)
  rw[decide_eq_false h]
  exact (beq_eq_false_iff_ne.mpr e).symm
theorem key_rr(a b:Str):decide ((Sum.inr a:Key)=Sum.inr b)=decide (a=b):=by
 by_cases e:a=b
 ·subst e;simp
 ·have h:¬ (Sum.inr a:Key)=Sum.inr b:=fun q=>e (Sum.inr.inj q)
  rw[decide_eq_false h,decide_eq_false e]
theorem key_lr(a:Int)(b:Str):decide ((Sum.inl a:Key)=Sum.inr b)=false:=decide_eq_false (fun q=>nomatch q)
theorem key_rl(a:Str)(b:Int):decide ((Sum.inr a:Key)=Sum.inl b)=false:=decide_eq_false (fun q=>nomatch q)
def zk8(prog:Program)(w:World):PySem.KeyKind prog w Key where
 is:=zaw6
 hash:=keyH w
 inj:=fun v a b ha hb=>by
  rcases ze9 ha with ⟨i,t,rfl,rfl⟩|⟨x,t,rfl,rfl⟩
  ·rcases ze9 hb with ⟨j,u,rfl,e⟩|⟨y,u,rfl,e⟩
   ·injection e with e1 _;rw[e1]
   ·exact nomatch e
  ·rcases ze9 hb with ⟨j,u,rfl,e⟩|⟨y,u,rfl,e⟩
   ·exact nomatch e
   ·injection e with e1 _;rw[e1]
 byValue:=fun k v h=>by
  rcases ze9 h with ⟨i,t,rfl,rfl⟩|⟨x,t,rfl,rfl⟩<;>rfl
 pyHash:=fun hv h=>by
  rcases ze9 hv with ⟨i,t,rfl,rfl⟩|⟨x,t,rfl,rfl⟩
  ·exact wpAny_pyHash_int h
  ·exact wpAny_pyHash_str h
 eqBool:=fun hu hv h=>by
  rcases ze9 hu with ⟨i,t,rfl,rfl⟩|⟨x,t,rfl,rfl⟩
  ·rcases ze9 hv with ⟨j,u,rfl,rfl⟩|⟨y,u,rfl,rfl⟩
   ·rw[key_ll] at h;exact wpAny_eqBool_int h
   ·rw[key_lr] at h;exact SeqAt.EqAt.int_str i t y u _ _ _ _ h
  ·rcases ze9 hv with ⟨j,u,rfl,rfl⟩|⟨y,u,rfl,rfl⟩
   ·rw[key_rl] at h;exact SeqAt.EqAt.str_int x t j u _ _ _ _ h
   ·rw[key_rr] at h;exact wpAny_eqBool_str h
 «strs»:=fun k x t v h=>by
  rcases ze9 h with ⟨i,u,rfl,e⟩|⟨y,u,rfl,e⟩
  ·exact nomatch e
  ·injection e with e1 _
   subst e1
   cases v<;>rfl
theorem zap3(prog:Program)(w:World)(i:Int)(t:Tok):(zk8 prog w).is (.inl i) (.int i t)=true:=zbg0 i t
theorem zr0(prog:Program)(w:World)(x:Str)(t:Tok):(zk8 prog w).is (.inr x) (.str x t)=true:=zbf1 x t
inductive V where
 | non | bl (b:Bool) | int (i:Int) | str (x:Str) | byt (b:Array UInt8) | flt (b:UInt64) | ref (a:Addr) | ty (n:String)
 deriving DecidableEq
def RelV:V->Value->Prop
 | .non,u=>u=Value.none
 | .bl b,u=>u=Value.bool b
 | .int i,u=>∃ t,u=Value.int i t
 | .str x,u=>∃ t,u=Value.str x t
 | .byt b,u=>∃ t,u=Value.bytes b t
 | .flt b,u=>∃ t,u=Value.float b t
 | .ref a,u=>u=Value.ref a
 | .ty n,u=>u=Value.type n
abbrev Vals:List V->List Value->Prop:=Paired RelV
theorem Vals.length{xs:List V}{us:List Value}(r:Vals xs us):xs.length=us.length:=Paired.length r
theorem Vals.get:∀ {xs:List V}{us:List Value}{i:Nat}{x:V},Vals xs us->xs[i]?=some x->∃ u,us[i]?=some u/\RelV x u
 | _,_,_,_,.nil,e=>by simp at e
 | _,_,0,_,.cons r _,e=>by simp at e;subst e;exact⟨_,rfl,r⟩
 | _,_,i+1,x,.cons _ t,e=>by
  obtain⟨u,h1,h2⟩:=Vals.get (i:=i) (x:=x) t (by simpa using e)
  exact⟨u,by simpa using h1,h2⟩
theorem Vals.set{x:V}{u:Value}(r:RelV x u):∀ {xs:List V}{us:List Value}(i:Nat),Vals xs us->Vals (xs.set i x) (us.set i u)
 | _,_,_,.nil=>.nil
 | _,_,0,.cons _ t=>.cons r t
 | _,_,i+1,.cons q t=>.cons q (Vals.set r i t)
theorem Vals.append:∀ {xs ys:List V}{us ws:List Value},Vals xs us->Vals ys ws->Vals (xs++ys) (us++ws)
 | _,_,_,_,.nil,s=>s
 | _,_,_,_,.cons r t,s=>.cons r (Vals.append t s)
theorem Vals.take:∀ {xs:List V}{us:List Value}(n:Nat),Vals xs us->Vals (xs.take n) (us.take n)
 | _,_,0,_=>.nil
 | _,_,_+1,.nil=>.nil
 | _,_,n+1,.cons r t=>.cons r (Vals.take n t)
theorem Vals.drop:∀ {xs:List V}{us:List Value}(n:Nat),Vals xs us->Vals (xs.drop n) (us.drop n)
 | _,_,0,r=>r
 | _,_,_+1,.nil=>.nil
 | _,_,n+1,.cons _ t=>Vals.drop n t
def RelO:Option V->Option Value->Prop
 | some v,some u=>RelV v u
 | none,none=>True
 | _,_=>False
def KV{κ:Type}:List (κ×V)->List (κ×Value)->Prop:=Paired fun (p:κ×V) (q:κ×Value)=>p.1=q.1/\RelV p.2 q.2
def kV:Key->V
 | .inl i=>.int i
 | .inr x=>.str x
inductive HO where
 | lst (xs:List V)
 | tup (xs:List V)
 | dK (kvs:List (Key×V)) | dT (kvs:List (List Key×V))
 | set (S:Int->Bool) (n:Nat)
 | ins (C dx:Addr) (fs:List (Str×V))
 | own (x:Addr)
 | xd (fs:List (Str×V))
 | met (f x:Addr)
 | rng (lo hi:Int)
 | frz (o:Obj) (u:HO)
 | tbl (ps:Array Value)
 | ext (φ:Heap->Prop)
abbrev Hp:=Addr->Option HO
variable {H:Hp}
def upd(H:Hp)(a:Addr)(o:HO):Hp:=fun b=>if b=a then some o else H b
theorem zb8{a:Addr}{o:HO}:upd H a o a=some o:=by unfold upd;rw[if_pos rfl]
theorem zb0{a b:Addr}{o:HO}(h:b≠a):upd H a o b=H b:=by unfold upd;rw[if_neg h]
theorem za4{a b:Addr}{o:HO}(h:H a=some o)(h':H b=none):a≠b:=by
 intro e;subst e;rw[h] at h';cases h'
section
variable (P:Program) (w:World)
def zf7(H:Hp)(h:Heap)(a:Addr):HO->Prop
 | .lst xs=>xs.length<=sizeLine/\∃ (its:List Value) (n:Nat),Vals xs its/\h.get? a=some { cls:=.type "list",data:=.seq its.toArray n }
 | .tup xs=>xs.length<=sizeLine/\∃ its:List Value,Vals xs its/\IsTup h a its.toArray
 | .dK kvs=>kvs.length<=sizeLine/\(a==sysModules)=false/\∃ vs,KV kvs vs/\h.DictOf (zk8 P w) a vs
 | .dT kvs=>kvs.length<=sizeLine/\(a==sysModules)=false/\∃ xs:List (List Key×Addr×Value),
   Paired (fun (p:List Key×V) (q:List Key×Addr×Value)=>p.1=q.1/\H q.2.1=some (.tup (p.1.map kV))/\RelV p.2 q.2.2) kvs xs /\
   ∃ o es ep,h.get? a=some o/\o.ExactDict/\o.data=.dict es ep/\es.toList=xs.map (entryOfKey (tupleKind (zk8 P w)))/\(xs.map (·.1)).Nodup
 | .set S n=>h.SetOf (intKind P w) a S n
 | .ins C dx fs=>H dx=some (.own a)/\fs.length<=1000/\dx≠a/\h.get? a=some (PySem.W.instObj C dx) /\
   ∃ mA,h.Ns1 dx mA/\(∀ f,RelO (fs.lookup f) (mA f))/\PySem.Within mA (fs.map (·.1))
 | .own _=>∃ o,h.get? a=some o
 | .xd fs=>∃ mA,h.Ns1 a mA/\∀ f,RelO (fs.lookup f) (mA f)
 | .rng lo hi=>∃ t u v,h.get? a=some { cls:=.type "range",data:=.fields #[.int lo t,.int hi u,.int 1 v] }
 | .frz o u=>h.get? a=some o/\zf7 H h a u
 | .tbl ps=>h.get? a=some { cls:=.none,data:=.fields ps }
 | .met f x=>h.get? a=some (PySem.W.methodObj (.ref f) (.ref x))
 | .ext φ=>φ h/\(∃ o,h.get? a=some o)/\∀ h1 h2:Heap,φ h1->(∀ o,h1.get? a=some o->h2.get? a=some o)->φ h2
def HOk(H:Hp)(h:Heap):Prop:=∀ a o,H a=some o->zf7 P w H h a o
end
section
variable {P:Program}{w:World}{H H':Hp}{h h':Heap}{a:Addr}{o:HO}
theorem zf7.lt(x:zf7 P w H h a o):a<h.objs.size:=by
 cases o with
 | lst xs=>obtain⟨_,_,_,_,e⟩:=x;exact zca3 e
 | tup xs=>obtain⟨_,_,_,p⟩:=x;exact p.lt
 | dK kvs=>obtain⟨_,_,_,_,o,_,_,e,_⟩:=x;exact zca3 e
 | dT kvs=>obtain⟨_,_,_,_,o,_,_,e,_⟩:=x;exact zca3 e
 | set S n=>obtain⟨o,_,_,_,e,_⟩:=x;exact zca3 e
 | ins C dx fs=>obtain⟨_,_,_,e,_⟩:=x;exact zca3 e
 | own y=>obtain⟨_,e⟩:=x;exact zca3 e
 | xd fs=>obtain⟨_,⟨_,_,_,e,_⟩,_⟩:=x;exact zca3 e
 | rng lo hi=>obtain⟨_,_,_,e⟩:=x;exact zca3 e
 | frz ob u=>obtain⟨e,_⟩:=x;exact zca3 e
 | tbl ps=>exact zca3 (show h.get? a=some _ from x)
 | met f y=>exact zca3 (show h.get? a=some _ from x)
 | ext φ=>obtain⟨_,⟨_,e⟩,_⟩:=x;exact zca3 e
theorem Paired.mapP{α β:Type}{F G:α->β->Prop}:∀ {l₁:List α}{l₂:List β},Paired F l₁ l₂->(∀ a b,F a b->G a b)->Paired G l₁ l₂
 | _,_,.nil,_=>.nil
 | _,_,.cons r t,f=>.cons (f _ _ r) (Paired.mapP t f)
theorem zf7.stay(x:zf7 P w H h a o)(k:∀ b u,(b=a∨H b=some (.own a))->h.get? b=some u->h'.get? b=some u)(ho:∀ b,H b=some (.own a)->H' b=some (.own a))(ht:∀ b xs,H b=some (.tup xs)->H' b=some (.tup xs)):zf7 P w H' h' a o:=by
 induction o with
 | lst xs=>obtain⟨z,its,n,r,e⟩:=x;exact⟨z,its,n,r,k _ _ (.inl rfl) e⟩
 | tup xs=>obtain⟨z,its,r,ob,e,c⟩:=x;exact⟨z,its,r,ob,k _ _ (.inl rfl) e,c⟩
 | dK kvs=>obtain⟨z,y,vs,r,ob,es,ep,e,c⟩:=x;exact⟨z,y,vs,r,ob,es,ep,k _ _ (.inl rfl) e,c⟩
 | dT kvs=>
  obtain⟨z,y,xs,r,ob,es,ep,e,c⟩:=x
  exact⟨z,y,xs,Paired.mapP r fun p q z=>⟨z.1,ht _ _ z.2.1,z.2.2⟩,ob,es,ep,k _ _ (.inl rfl) e,c⟩
 | set S n=>obtain⟨ob,es,ep,t,e,c⟩:=x;exact⟨ob,es,ep,t,k _ _ (.inl rfl) e,c⟩
 | ins C dx fs=>
  obtain⟨d,z,ne,e,mA,⟨od,es,ep,e2,c⟩,r⟩:=x
  exact⟨ho _ d,z,ne,k _ _ (.inl rfl) e,mA,⟨od,es,ep,k _ _ (.inr d) e2,c⟩,r⟩
 | own y=>obtain⟨ob,e⟩:=x;exact⟨ob,k _ _ (.inl rfl) e⟩
 | xd fs=>obtain⟨mA,⟨od,es,ep,e,c⟩,r⟩:=x;exact⟨mA,⟨od,es,ep,k _ _ (.inl rfl) e,c⟩,r⟩
 | rng lo hi=>obtain⟨t,u,v,e⟩:=x;exact⟨t,u,v,k _ _ (.inl rfl) e⟩
 | frz ob u ih=>obtain⟨e,q⟩:=x;exact⟨k _ _ (.inl rfl) e,ih q⟩
 | tbl ps=>
  have e:h.get? a=some { cls:=.none,data:=.fields ps }:=x
  show h'.get? a=some { cls:=.none,data:=.fields ps }
  exact k a _ (.inl rfl) e
 | met f y=>
  have e:h.get? a=some (PySem.W.methodObj (.ref f) (.ref y)):=x
  show h'.get? a=some (PySem.W.methodObj (.ref f) (.ref y))
  exact k a _ (.inl rfl) e
 | ext φ=>obtain⟨p,⟨o,e⟩,st⟩:=x;exact⟨st _ _ p fun o q=>k _ _ (.inl rfl) q,⟨o,k _ _ (.inl rfl) e⟩,st⟩
theorem HOk.lt(x:HOk P w H h)(e:H a=some o):a<h.objs.size:=(x a o e).lt
theorem HOk.fresh(x:HOk P w H h)(e:h.objs.size<=a):H a=none:=by
 cases q:H a with
 | none=>rfl
 | some u=>exact absurd (zca8 (x.lt q) e) (zch4 _)
theorem HOk.kept(x:HOk P w H h)(k:∀ b u,h.get? b=some u->h'.get? b=some u):HOk P w H h':=fun a o e=>
 (x a o e).stay (fun b u _ q=>k b u q) (fun _ q=>q) fun _ _ q=>q
theorem HOk.laid(x:HOk P w H h)(k:∀ b u,h.get? b=some u->h'.get? b=some u)(hp:h.objs.size<=a)(new:zf7 P w (upd H a o) h' a o):HOk P w (upd H a o) h':=fun b u e=>by
 have hn:=x.fresh hp
 by_cases hb:b=a
 ·subst hb;rw[zb8] at e;cases e;exact new
 ·rw[zb0 hb] at e
  exact (x b u e).stay (fun c v _ q=>k c v q) (fun c q=>by rw[zb0 (za4 q hn)];exact q) fun c xs q=>by rw[zb0 (za4 q hn)];exact q
end
def Rd(H:Hp)(a:Addr)(u:HO):Prop:=H a=some u∨∃ o,H a=some (.frz o u)
theorem Rd.of{a:Addr}{u:HO}(h:H a=some u):Rd H a u:=.inl h
theorem Rd.ok{P:Program}{w:World}{h:Heap}{a:Addr}{u:HO}(r:Rd H a u)(x:HOk P w H h):zf7 P w H h a u:=by
 rcases r with r|⟨o,r⟩
 ·exact x a u r
 ·obtain⟨_,q⟩:=x a _ r
  exact q
def Mut:Option HO->Prop
 | some (.lst _)=>True
 | some (.dK _)=>True
 | some (.dT _)=>True
 | some (.set _ _)=>True
 | some (.ins _ _ _)=>True
 | some (.ext _)=>True
 | _=>False
section
variable {P:Program}{w:World}{H:Hp}{h h':Heap}{x e:Addr}{o':HO}
theorem HOk.write(ok:HOk P w H h)(mu:Mut (H x))(he:e=x∨H e=some (.own x))(k:∀ b u,b≠e->h.get? b=some u->h'.get? b=some u)(heo:∃ u,h'.get? e=some u)(new:zf7 P w (upd H x o') h' x o'):HOk P w (upd H x o') h':=fun b u q=>by
 have nown:∀ c y,H c=some (.own y)->c≠x:=fun c y r z=>by subst z;rw[r] at mu;exact mu
 have ntup:∀ c xs,H c=some (.tup xs)->c≠x:=fun c xs r z=>by subst z;rw[r] at mu;exact mu
 by_cases hb:b=x
 ·subst hb;rw[zb8] at q;cases q;exact new
 ·rw[zb0 hb] at q
  by_cases hbe:b=e
  ·have q':H b=some (.own x):=by
    rcases he with z|z
    ·exact absurd (hbe.trans z) hb
    ·rw[hbe];exact z
   rw[q] at q';cases q'
   obtain⟨v,hv⟩:=heo
   exact⟨v,by rw[hbe];exact hv⟩
  ·refine (ok b u q).stay (fun c v hc r=>k c v ?_ r) (fun c r=>by rw[zb0 (nown c b r)];exact r) fun c xs r=>by rw[zb0 (ntup c xs r)];exact r
   rcases hc with rfl|hc
   ·exact hbe
   ·rintro rfl
    rcases he with z|z
    ·exact nown c b hc z
    ·rw[hc] at z;cases z;exact hb rfl
end
structure Un(fs ex:List Addr)(H H':Hp)(h h':Heap):Prop where
 keep:∀ b o,h.get? b=some o->H b=none->b ∉ fs->b ∉ ex->h'.get? b=some o
 slot:∀ b o,h.get? b=some o->H b=none->b∈fs->b ∉ ex->∃ sl,h'.get? b=some { o with slots:=sl }
 free:∀ b o,h.get? b=some o->H b=none->b ∉ ex->H' b=none
 there:∀ b o,h.get? b=some o->b ∉ ex->∃ o',h'.get? b=some o'
 tups:∀ b xs,H b=some (.tup xs)->H' b=some (.tup xs)
 frzs:∀ b o u,H b=some (.frz o u)->H' b=some (.frz o u)
 tbls:∀ b ps,H b=some (.tbl ps)->∃ more,H' b=some (.tbl (ps++more))
section
variable {fs fs' ex ex':List Addr}{H H1 H2:Hp}{h h1 h2 h':Heap}{a x e:Addr}{o:HO}
theorem Un.any(u:Un fs ex H H1 h h1){b:Addr}{ob:Obj}(q:h.get? b=some ob)(n:H b=none)(hx:b ∉ ex):∃ sl,h1.get? b=some { ob with slots:=sl }:=by
 by_cases hb:b∈fs
 ·exact u.slot b ob q n hb hx
 ·exact⟨ob.slots,u.keep b ob q n hb hx⟩
theorem Un.trans(a:Un fs ex H H1 h h1)(b:Un fs ex H1 H2 h1 h2):Un fs ex H H2 h h2 where
 keep:=fun c ob q n hc hx=>b.keep c ob (a.keep c ob q n hc hx) (a.free c ob q n hx) hc hx
 slot:=fun c ob q n hc hx=>by
  obtain⟨sl,e1⟩:=a.slot c ob q n hc hx
  obtain⟨sl',e2⟩:=b.slot c _ e1 (a.free c ob q n hx) hc hx
  exact⟨sl',e2⟩
 free:=fun c ob q n hx=>by
  obtain⟨o',e1⟩:=a.there c ob q hx
  exact b.free c o' e1 (a.free c ob q n hx) hx
 there:=fun c ob q hx=>by
  obtain⟨o',e1⟩:=a.there c ob q hx
  exact b.there c o' e1 hx
 tups:=fun c xs q=>b.tups c xs (a.tups c xs q)
 frzs:=fun c ob xs q=>b.frzs c ob xs (a.frzs c ob xs q)
 tbls:=fun c ps q=>by
  obtain⟨m1,e1⟩:=a.tbls c ps q
  obtain⟨m2,e2⟩:=b.tbls c _ e1
  exact⟨m1++m2,by rw[e2,Array.append_assoc]⟩
theorem Un.kept(k:∀ b u,h.get? b=some u->h'.get? b=some u):Un fs ex H H h h':=
 ⟨fun b ob q _ _ _=>k b ob q,fun b ob q _ _ _=>⟨ob.slots,k b ob q⟩,fun _ _ _ n _=>n,fun b ob q _=>⟨ob,k b ob q⟩,fun _ _ q=>q,fun _ _ _ q=>q,fun _ ps q=>⟨#[],by rw[q];simp⟩⟩
theorem Un.refl:Un fs ex H H h h:=Un.kept fun _ _ q=>q
theorem Un.laid(k:∀ b u,h.get? b=some u->h'.get? b=some u)(hp:h.objs.size<=a)(hn:H a=none):Un fs ex H (upd H a o) h h' where
 keep:=fun b u q _ _ _=>k b u q
 slot:=fun b u q _ _ _=>⟨u.slots,k b u q⟩
 free:=fun b u q n _=>by rw[zb0 (zcc8 (zca8 (zca3 q) hp))];exact n
 there:=fun b u q _=>⟨u,k b u q⟩
 tups:=fun b xs q=>by rw[zb0 (za4 q hn)];exact q
 frzs:=fun b u xs q=>by rw[zb0 (za4 q hn)];exact q
 tbls:=fun b ps q=>⟨#[],by rw[zb0 (za4 q hn),q];simp⟩
theorem Un.write(mu:Mut (H x))(he:e=x∨H e=some (.own x))(k:∀ b u,b≠e->h.get? b=some u->h'.get? b=some u)(heo:∃ u,h'.get? e=some u):Un fs ex H (upd H x o) h h':=by
 have hx:∀ b,H b=none->b≠x:=fun b n z=>by subst z;rw[n] at mu;exact mu
 have hb:∀ b,H b=none->b≠e:=fun b n z=>by
  subst z
  rcases he with r|r
  ·exact hx b n r
  ·rw[n] at r;cases r
 have hm:∀ b u,H b=some u->¬ Mut (some u)->b≠x:=fun b u q nm z=>by subst z;rw[q] at mu;exact nm mu
 refine⟨fun b u q n _ _=>k b u (hb b n) q,fun b u q n _ _=>⟨u.slots,k b u (hb b n) q⟩,fun b u q n _=>by rw[zb0 (hx b n)];exact n,fun b u q _=>?_,
  fun b xs q=>by rw[zb0 (hm b _ q fun z=>z)];exact q,fun b u xs q=>by rw[zb0 (hm b _ q fun z=>z)];exact q,fun b ps q=>⟨#[],by rw[zb0 (hm b _ q fun z=>z),q];simp⟩⟩
 by_cases hbe:b=e
 ·subst hbe;exact heo
 ·exact⟨u,k b u hbe q⟩
theorem Un.mono(u:Un fs ex H H1 h h1)(hs:∀ b∈fs,b∈fs')(hx:∀ b∈ex,b∈ex'):Un fs' ex' H H1 h h1:=
 ⟨fun b ob q n hb he=>u.keep b ob q n (fun z=>hb (hs b z)) fun z=>he (hx b z),fun _ _ q n _ he=>u.any q n fun z=>he (hx _ z),fun b ob q n he=>u.free b ob q n fun z=>he (hx b z),fun b ob q he=>u.there b ob q fun z=>he (hx b z),u.tups,u.frzs,u.tbls⟩
end
def trk(h:Heap)(H:Hp):List Addr:=(List.range h.objs.size).filter fun a=>(H a).isSome
def hidT(h:Heap)(H:Hp):Heap:=PySem.W.hideAll h (trk h H)
theorem zbe6(h:Heap)(H:Hp):(hidT h H).objs.size=h.objs.size:=PySem.W.hideAll_size _ _
theorem zbi9{h:Heap}{b:Addr}(e:h.get? b=some o)(n:H b=none):(hidT h H).get? b=some o:=
 zch5 _ e fun hm=>by
  have q:(H b).isSome=true:=(List.mem_filter.mp hm).2
  rw[n] at q;simp at q
theorem zbo6{h:Heap}{b:Addr}(e:(hidT h H).get? b=some o):h.get? b=some o/\H b=none:=by
 have e':h.get? b=some o:=PySem.W.of_hideAll (trk h H) e
 refine⟨e',?_⟩
 cases q:H b with
 | none=>rfl
 | some x=>
  have hm:b∈trk h H:=List.mem_filter.mpr ⟨List.mem_range.mpr (zca3 e'),by simp[q]⟩
  have z:(hidT h H).get? b=none:=PySem.W.hideAll_none (trk h H) hm
  rw[z] at e;cases e
def zbn2(g h:Heap)(L:Addr):List (Addr×Obj):=(List.range h.objs.size).filterMap fun a=>if a=L∨(g.get? a).isSome=true then none else (h.get? a).map fun o=>(a,o)
def rest(g h:Heap)(L d:Addr):List (Addr×Obj):=(zbn2 g h L).filter fun p=>decide (p.1≠d)
structure Mod(K:zby6)(mg:Str->Option Value)(base:Heap):Prop where
 kin:K.In base
 glob:base.Ns zci4 mg
 blt:∃ mb,base.Ns builtinsNs mb/\∀ x:Str,x≠"__name__"->mb x=bootBuiltins x
 nolimit:base.NoLimit
structure Cx where
 prog:Program
 w:World
 K:zby6
 mg:Str->Option Value
 base:Heap
 A:Around
 N:List Str
 s₀:Shared
 H₀:Hp
 env:Env
 outer:List Env
 stack:List Env
 ex:List Addr
 fn:Str->Bool
 calm:Bool
 pn:List (Addr×Obj)
 xe:Value->Shared->Prop
def frs(l:List Env):List Addr:=l.filterMap (·.frame)
abbrev Cx.fs(X:Cx):List Addr:=frs X.outer
def Vis(sc:Scope)(x:Str):Prop:=sc.names.lookup x=some .local∨sc.names.lookup x=some .cell∨sc.names.lookup x=some .free
def Loc(sc:Scope)(x:Str):Prop:=sc.names.lookup x=some .local∨sc.names.lookup x=some .cell
def Look(env:Env)(h:Heap)(m:Str->Option Value)(x:Str)(u:Value):Prop:=
 (env.kindOf x=some .local/\m x=some u)∨((env.kindOf x=some .cell∨env.kindOf x=some .free)/\∃ c,env.cells.lookup x=some c/\h.IsCell c (some u))
structure Cx.Ok(X:Cx):Prop where
 mod:Mod X.K X.mg X.base
 kind:X.env.scope.kind=.function
 glob:X.env.globals=zci4
 blt:X.env.builtins=builtinsNs
 above:X.s₀.heap.objs.size<=X.env.locals
 inj:∀ x y c,X.env.cells.lookup x=some c->X.env.cells.lookup y=some c->x=y
 has:∀ x,(X.env.kindOf x=some .cell∨X.env.kindOf x=some .free)->∃ c,X.env.cells.lookup x=some c
 cab:∀ x c,X.fn x=true->X.env.cells.lookup x=some c->X.s₀.heap.objs.size<=c
 hd:X.calm=true->X.A.handled=none
 frames:X.A.frames=some X.stack
 stk:X.stack=X.outer∨(X.stack=X.env :: X.outer/\X.env.frame=some X.env.locals)
 exf:∀ b∈X.ex,b≠X.env.locals/\∀ x c,X.env.cells.lookup x=some c->c≠b
 bs:∀ b o,X.base.get? b=some o->X.s₀.heap.get? b=some o/\X.H₀ b=none
 bsz:X.base.objs.size<=X.s₀.heap.objs.size
 noex:∀ b o,X.base.get? b=some o->b ∉ X.ex
 exfs:∀ b∈X.ex,b ∉ X.fs
 funs:X.s₀.heap.FunFrames X.base X.outer
 frf:∀ b∈X.fs,X.H₀ b=none
structure Inv(X:Cx)(pins:List (Addr×Obj))(σ:List (Option V))(H:Hp)(s:Shared):Prop where
 ok:X.Ok
 os:s.os=X.s₀.os
 bare:AllBare s.gens
 base:Un X.fs X.ex X.H₀ H X.s₀.heap s.heap
 loc:∃ m,s.heap.Ns X.env.locals m/\∀ (i:Nat) (x:Str) (v:V),X.N[i]?=some x->σ[i]?=some (some v)->Vis X.env.scope x->∃ u,RelV v u/\Look X.env s.heap m x u
 cell:∀ x c,X.env.cells.lookup x=some c->∃ v,s.heap.IsCell c v
 free:H X.env.locals=none
 freeC:∀ x c,X.env.cells.lookup x=some c->H c=none
 pin:∀ p∈X.pn++pins,s.heap.get? p.1=some p.2/\H p.1=none/\p.1≠X.env.locals/\p.1 ∉ X.fs/\∀ v,p.2.data≠.cell v
 hok:HOk X.prog X.w H s.heap
 len:σ.length=X.N.length
section
variable {X:Cx}{pins:List (Addr×Obj)}{σ:List (Option V)}{H H':Hp}{s:Shared}{h':Heap}
theorem Cx.Ok.nofr(ok:X.Ok){b:Addr}(e:X.base.get? b=some o):b ∉ X.fs:=fun hb=>by
 have:=(ok.funs.mem hb).1
 rw[e] at this;cases this
theorem Inv.bs(I:Inv X pins σ H s):∀ b o,X.base.get? b=some o->s.heap.get? b=some o/\H b=none:=fun b o e=>
 ⟨I.base.keep b o (I.ok.bs b o e).1 (I.ok.bs b o e).2 (I.ok.nofr e) (I.ok.noex b o e),I.base.free b o (I.ok.bs b o e).1 (I.ok.bs b o e).2 (I.ok.noex b o e)⟩
theorem Inv.bk(I:Inv X pins σ H s):∀ b o,X.base.get? b=some o->s.heap.get? b=some o:=fun b o e=>(I.bs b o e).1
theorem Inv.mod(I:Inv X pins σ H s):Mod X.K X.mg X.base:=I.ok.mod
theorem Inv.kIn(I:Inv X pins σ H s):X.K.In s.heap:=I.ok.mod.kin.keeps I.bk
theorem Inv.lt(I:Inv X pins σ H s):X.env.locals<s.heap.objs.size:=let ⟨_,hn,_⟩:=I.loc;hn.lt
theorem Inv.sz(I:Inv X pins σ H s):X.s₀.heap.objs.size<=s.heap.objs.size:=zcc5 I.ok.above (Nat.le_of_lt I.lt)
theorem Inv.nofs(I:Inv X pins σ H s){a:Addr}(h:s.heap.objs.size<=a):a ∉ X.fs:=fun hb=>by
 obtain⟨_,o,ho,_⟩:=I.ok.funs.mem hb
 exact absurd (zca8 (zca3 ho) (zcc5 I.sz h)) (zch4 _)
theorem Inv.cne(I:Inv X pins σ H s):∀ x c,X.env.cells.lookup x=some c->c≠X.env.locals:=fun x c e z=>by
 obtain⟨v,o,ho,hd⟩:=I.cell x c e
 obtain⟨m,⟨o',es,ep,ho',hd',_⟩,_⟩:=I.loc
 rw[z,ho'] at ho;cases ho;rw[hd'] at hd;cases hd
theorem Inv.funs(I:Inv X pins σ H s):s.heap.FunFrames X.base X.outer:=by
 have all:∀ (l:List Env),(∀ b∈frs l,b∈X.fs)->X.s₀.heap.FunFrames X.base l->s.heap.FunFrames X.base l:=by
  intro l
  induction l with
  | nil=>intro _ _;trivial
  | cons env r ih=>
   intro hs hl
   obtain⟨hk,⟨L,o,hf,hn,ho,hd⟩,hr⟩:=hl
   have hL:L∈X.fs:=hs L (by unfold frs;rw[List.filterMap_cons,hf];exact zcb8)
   obtain⟨sl,e⟩:=I.base.slot L o ho (I.ok.frf L hL) hL fun z=>I.ok.exfs L z hL
   exact⟨hk,⟨L,_,hf,hn,e,hd⟩,ih (fun b hb=>hs b (by unfold frs;rw[List.filterMap_cons,hf];exact zcb6 _ hb)) hr⟩
 exact all X.outer (fun _ hb=>hb) I.ok.funs
theorem Inv.stack(I:Inv X pins σ H s):s.heap.FunFrames X.base X.stack:=by
 rcases I.ok.stk with e|⟨e,hf⟩
 ·rw[e];exact I.funs
 ·rw[e]
  obtain⟨m,hn,_⟩:=I.loc
  refine .cons (by rw[I.ok.kind];decide) hf hn ?_ I.funs
  exact Heap.get?_none_of_le (zcc5 I.ok.bsz I.ok.above)
theorem Inv.stkSub(I:Inv X pins σ H s):∀ b∈frs X.stack,b∈X.env.locals :: X.fs:=fun b hb=>by
 rcases I.ok.stk with e|⟨e,hf⟩
 ·rw[e] at hb;exact zcb6 _ hb
 ·rw[e] at hb
  unfold frs at hb
  rw[List.filterMap_cons,hf] at hb
  exact hb
theorem Inv.stkFree(I:Inv X pins σ H s):∀ b∈frs X.stack,H b=none:=fun b hb=>by
 rcases zbz4.mp (I.stkSub b hb) with e|hb
 ·rw[e];exact I.free
 ·obtain⟨_,o,ho,_⟩:=I.ok.funs.mem hb
  exact I.base.free b o ho (I.ok.frf b hb) fun z=>I.ok.exfs b z hb
theorem Inv.step{g':Array GenState}{t':Nat}{d':Drawn}{ch:List Addr}(I:Inv X pins σ H s)(hch:∀ b∈ch,(b∈X.ex∨X.s₀.heap.objs.size<=b)/\b≠X.env.locals/\(∀ x c,X.env.cells.lookup x=some c->c≠b)/\∀ p∈X.pn++pins,p.1≠b)(keep:∀ b o,b≠X.env.locals->b ∉ X.fs->b ∉ ch->s.heap.get? b=some o->H b=none->h'.get? b=some o)(slot:∀ b o,b≠X.env.locals->b∈X.fs->b ∉ ch->s.heap.get? b=some o->H b=none->∃ sl,h'.get? b=some { o with slots:=sl })(free:∀ b o,b ∉ ch->s.heap.get? b=some o->H b=none->H' b=none)(there:∀ b o,b ∉ ch->s.heap.get? b=some o->∃ o',h'.get? b=some o')(tups:∀ b xs,H b=some (.tup xs)->H' b=some (.tup xs))(frzs:∀ b o u,H b=some (.frz o u)->H' b=some (.frz o u))(tbls:∀ b ps,H b=some (.tbl ps)->∃ more,H' b=some (.tbl (ps++more)))(ns:∀ m,s.heap.Ns X.env.locals m->h'.Ns X.env.locals m)(hok:HOk X.prog X.w H' h')(hg:AllBare g') :
  Inv X pins σ H' { s with heap:=h',gens:=g',drawn:=d',toks:=t' }:=by
 have neL:∀ b o,X.s₀.heap.get? b=some o->b≠X.env.locals:=fun b o e=>zcc8 (zca8 (zca3 e) I.ok.above)
 have neC:∀ b o,X.s₀.heap.get? b=some o->b ∉ X.ex->b ∉ ch:=fun b o e hx hb=>by
  rcases (hch b hb).1 with z|z
  ·exact hx z
  ·exact absurd (zca8 (zca3 e) z) (zch4 _)
 have cellK:∀ x c,X.env.cells.lookup x=some c->∀ v,s.heap.IsCell c v->h'.IsCell c v:=fun x c e v ⟨o,ho,hd⟩=>by
  have nch:c ∉ ch:=fun z=>(hch c z).2.2.1 x c e rfl
  by_cases hc:c∈X.fs
  ·obtain⟨sl,q⟩:=slot c o (I.cne x c e) hc nch ho (I.freeC x c e)
   exact⟨_,q,hd⟩
  ·exact⟨o,keep c o (I.cne x c e) hc nch ho (I.freeC x c e),hd⟩
 refine⟨I.ok,I.os,hg,⟨fun b o e n hb hx=>?_,fun b o e n hb hx=>?_,fun b o e n hx=>?_,fun b o e hx=>?_,fun b xs e=>tups b xs (I.base.tups b xs e),fun b o xs e=>frzs b o xs (I.base.frzs b o xs e),fun b ps e=>?_⟩,?_,fun x c e=>?_,?_,fun x c e=>?_,fun p hp=>?_,hok,I.len⟩
 ·exact keep b o (neL b o e) hb (neC b o e hx) (I.base.keep b o e n hb hx) (I.base.free b o e n hx)
 ·obtain⟨sl,e1⟩:=I.base.slot b o e n hb hx
  obtain⟨sl',e2⟩:=slot b _ (neL b o e) hb (neC b o e hx) e1 (I.base.free b o e n hx)
  exact⟨sl',e2⟩
 ·obtain⟨o',e1⟩:=I.base.there b o e hx
  exact free b o' (neC b o e hx) e1 (I.base.free b o e n hx)
 ·obtain⟨o',e1⟩:=I.base.there b o e hx
  exact there b o' (neC b o e hx) e1
 ·obtain⟨m1,e1⟩:=I.base.tbls b ps e
  obtain⟨m2,e2⟩:=tbls b _ e1
  exact⟨m1++m2,by rw[e2,Array.append_assoc]⟩
 ·obtain⟨m,hn,hl⟩:=I.loc
  refine⟨m,ns m hn,fun i x v e1 e2 e3=>?_⟩
  obtain⟨u,r,l⟩:=hl i x v e1 e2 e3
  refine⟨u,r,?_⟩
  rcases l with l|⟨k,c,e,z⟩
  ·exact .inl l
  ·exact .inr ⟨k,c,e,cellK x c e _ z⟩
 ·obtain⟨v,z⟩:=I.cell x c e
  exact⟨v,cellK x c e v z⟩
 ·obtain⟨m,⟨o,_,_,ho,_⟩,_⟩:=I.loc
  exact free _ o (fun z=>(hch _ z).2.1 rfl) ho I.free
 ·obtain⟨v,o,ho,hd⟩:=I.cell x c e
  exact free c o (fun z=>(hch c z).2.2.1 x c e rfl) ho (I.freeC x c e)
 ·obtain⟨e,n,ne,nf,d⟩:=I.pin p hp
  have nch:p.1 ∉ ch:=fun z=>(hch p.1 z).2.2.2 p hp rfl
  exact⟨keep p.1 p.2 ne nf nch e n,free p.1 p.2 nch e n,ne,nf,d⟩
theorem Inv.un{t':Nat}(I:Inv X pins σ H s)(u:Un X.fs [] H H' s.heap h')(hok:HOk X.prog X.w H' h'):Inv X pins σ H' { s with heap:=h',toks:=t' }:=by
 obtain⟨m,⟨o,es,ep,ho,r⟩,_⟩:=id I.loc
 obtain⟨sl,hL⟩:=u.any ho I.free (by simp)
 exact I.step (g':=s.gens) (d':=s.drawn) (ch:=[]) (fun _ z=>nomatch z) (fun b o _ hb _ e n=>u.keep b o e n hb (by simp)) (fun b o _ hb _ e n=>u.slot b o e n hb (by simp)) (fun b o _ e n=>u.free b o e n (by simp)) (fun b o _ e=>u.there b o e (by simp)) u.tups u.frzs u.tbls (fun m' hm=>by
  obtain⟨o',es',ep',ho',r'⟩:=hm
  rw[ho] at ho';cases ho'
  exact⟨_,es',ep',hL,r'⟩) hok I.bare
theorem Inv.call{g':Array GenState}{t':Nat}{d':Drawn}{ch:List Addr}(I:Inv X pins σ H s)(u:Un (frs X.stack) ch H H' s.heap h')(hok:HOk X.prog X.w H' h')(hg:AllBare g')(hch:∀ b∈ch,(b∈X.ex∨X.s₀.heap.objs.size<=b)/\b≠X.env.locals/\(∀ x c,X.env.cells.lookup x=some c->c≠b)/\∀ p∈X.pn++pins,p.1≠b) :
  Inv X pins σ H' { s with heap:=h',gens:=g',drawn:=d',toks:=t' }:=by
 obtain⟨m,⟨o,es,ep,ho,r⟩,_⟩:=id I.loc
 obtain⟨sl,hL⟩:=u.any ho I.free fun z=>(hch _ z).2.1 rfl
 exact I.step (ch:=ch) hch (fun b o hL hb hc e n=>u.keep b o e n (fun z=>(zbz4.mp (I.stkSub b z)).elim hL hb) hc) (fun b o _ _ hc e n=>u.any e n hc) (fun b o hc e n=>u.free b o e n hc) (fun b o hc e=>u.there b o e hc) u.tups u.frzs u.tbls (fun m' hm=>by
  obtain⟨o',es',ep',ho',r'⟩:=hm
  rw[ho] at ho';cases ho'
  exact⟨_,es',ep',hL,r'⟩) hok hg
theorem Inv.turned{t':Nat}{it:Addr}(I:Inv X pins σ H s)(k:∀ b o,b≠it->s.heap.get? b=some o->h'.get? b=some o)(hn:H it=none)(hL:it≠X.env.locals)(h1:it∈X.ex∨X.s₀.heap.objs.size<=it)(h2:∀ x c,X.env.cells.lookup x=some c->c≠it)(h3:∀ p∈X.pn++pins,p.1≠it):Inv X pins σ H { s with heap:=h',toks:=t' }:=by
 have nit:∀ b u,H b=some u->b≠it:=fun b u e z=>by rw[z,hn] at e;cases e
 refine I.step (g':=s.gens) (d':=s.drawn) (ch:=[it]) (fun b hb=>?_) (fun b o _ _ hc e _=>k b o (fun z=>hc (by simp[z])) e) (fun b o _ _ hc e _=>⟨o.slots,k b o (fun z=>hc (by simp[z])) e⟩) (fun _ _ _ _ n=>n)
  (fun b o hc e=>⟨o,k b o (fun z=>hc (by simp[z])) e⟩) (fun _ _ e=>e) (fun _ _ _ e=>e) (fun b ps e=>⟨#[],by rw[e];simp⟩) (fun m hm=>?_) (fun b u e=>?_) I.bare
 ·have e:b=it:=by simpa using hb
  subst e
  exact⟨h1,hL,h2,h3⟩
 ·obtain⟨o,es,ep,ho,r⟩:=hm
  exact⟨o,es,ep,k _ o (Ne.symm hL) ho,r⟩
 ·refine (I.hok b u e).stay (fun c v hc q=>k c v ?_ q) (fun _ q=>q) fun _ _ q=>q
  rcases hc with z|z
  ·rw[z];exact nit b u e
  ·exact nit c _ z
theorem Inv.tok(I:Inv X pins σ H s)(t:Nat):Inv X pins σ H { s with toks:=t }:=I.un (h':=s.heap) (t':=t) Un.refl I.hok
theorem Inv.kept{t':Nat}(I:Inv X pins σ H s)(k:∀ b u,s.heap.get? b=some u->h'.get? b=some u):Inv X pins σ H { s with heap:=h',toks:=t' }:=I.un (Un.kept k) (I.hok.kept k)
theorem Inv.laid{a:Addr}{o:HO}{t':Nat}(I:Inv X pins σ H s)(k:∀ b u,s.heap.get? b=some u->h'.get? b=some u)(hp:s.heap.objs.size<=a)(new:zf7 X.prog X.w (upd H a o) h' a o) :
  Inv X pins σ (upd H a o) { s with heap:=h',toks:=t' }:=I.un (Un.laid k hp (I.hok.fresh hp)) (I.hok.laid k hp new)
theorem Inv.write{x e:Addr}{o:HO}{t':Nat}(I:Inv X pins σ H s)(mu:Mut (H x))(he:e=x∨H e=some (.own x))(k:∀ b u,b≠e->s.heap.get? b=some u->h'.get? b=some u)(heo:∃ u,h'.get? e=some u)(new:zf7 X.prog X.w (upd H x o) h' x o):Inv X pins σ (upd H x o) { s with heap:=h',toks:=t' }:=I.un (Un.write mu he k heo) (I.hok.write mu he k heo new)
theorem Inv.pins_of{pins':List (Addr×Obj)}(I:Inv X pins σ H s)(h:∀ p∈pins',s.heap.get? p.1=some p.2/\H p.1=none/\p.1≠X.env.locals/\p.1 ∉ X.fs/\∀ v,p.2.data≠.cell v):Inv X pins' σ H s:=
 ⟨I.ok,I.os,I.bare,I.base,I.loc,I.cell,I.free,I.freeC,fun p hp=>(zcc1.mp hp).elim (fun z=>I.pin p (zce6 _ z)) (h p),I.hok,I.len⟩
theorem zad5{N:List Str}(hN:N.Nodup){j:Nat}{x:Str}(a:N[i]?=some x)(b:N[j]?=some x):i=j:=by
 obtain⟨h1,e1⟩:=zby9.mp a
 obtain⟨h2,e2⟩:=zby9.mp b
 exact (List.getElem_inj hN).mp (e1.trans e2.symm)
theorem zak1{M:Model}{A:Around}{x:Str}{v:V}{Q:Unit->Shared->Prop}(I:Inv X pins σ H s)(hN:X.N.Nodup)(hi:X.N[i]?=some x)(hx:Loc X.env.scope x)(r:RelV v u)(h:∀ s',Inv X pins (σ.set i (some v)) H s'->(∃ a,Heap.SameBut a s.heap s'.heap/\(a=X.env.locals∨X.env.cells.lookup x=some a))->Q () s')(hf:X.fn x=true∨X.env.scope.names.lookup x=some .local:=by first|exact .inl rfl|exact .inr rfl|assumption):wpAny M A (storeName X.env x u) Q E s:=by
 obtain⟨m,hn,hl⟩:=id I.loc
 have hcls:(X.env.scope.kind==.class || (X.env.scope.kind==.module&&X.env.locals != X.env.globals))=false:=by rw[I.ok.kind];rfl
 have hiσ:i<σ.length:=by rw[I.len];exact (zby9.mp hi).1
 have cne:=I.cne
 have tracked:∀ {a:Addr}{h':Heap},(∃ o,s.heap.get? a=some o/\H a=none)->Heap.SameBut a s.heap h'->HOk X.prog X.w H h':=fun {a h'} ha hs b ob e=>by
  obtain⟨_,_,hfree⟩:=ha
  refine (I.hok b ob e).stay (fun c w' hc q=>(hs.2 c ?_).trans q) (fun _ q=>q) fun _ _ q=>q
  rintro rfl
  rcases hc with rfl|hc
  ·rw[hfree] at e;cases e
  ·rw[hfree] at hc;cases hc
 rcases hx with hk|hk
 ·refine wpAny_storeName_local hk hn (fun h' hn' hs=>?_) hcls
  obtain⟨oL,_,_,hoL,_⟩:=id hn
  refine h _ ⟨I.ok,I.os,I.bare,⟨fun b o e n hb hx=>?_,fun b o e n hb hx=>?_,I.base.free,fun b o e hx=>?_,I.base.tups,I.base.frzs,I.base.tbls⟩,⟨_,hn',fun j y v' e1 e2 e3=>?_⟩,fun y c e=>?_,I.free,I.freeC,fun p hp=>?_,tracked ⟨oL,hoL,I.free⟩ hs,by simpa using I.len⟩ ⟨_,hs,.inl rfl⟩
  ·exact (hs.2 b (zcc8 (zca8 (zca3 e) I.ok.above))).trans (I.base.keep b o e n hb hx)
  ·obtain⟨sl,e1⟩:=I.base.slot b o e n hb hx
   exact⟨sl,(hs.2 b (zcc8 (zca8 (zca3 e) I.ok.above))).trans e1⟩
  ·obtain⟨o',e1⟩:=I.base.there b o e hx
   exact⟨o',(hs.2 b (zcc8 (zca8 (zca3 e) I.ok.above))).trans e1⟩
  ·by_cases hj:j=i
   ·subst hj
    rw[hi] at e1;cases e1
    rw[zce2 hiσ] at e2
    cases e2
    exact⟨u,r,.inl ⟨hk,by simp⟩⟩
   ·rw[zch0 (Ne.symm hj)] at e2
    obtain⟨u',r',q⟩:=hl j y v' e1 e2 e3
    refine⟨u',r',?_⟩
    rcases q with ⟨k,e⟩|⟨k,c,e,z⟩
    ·refine .inl ⟨k,?_⟩
     have:y≠x:=fun e=>hj (zad5 hN e1 (e▸hi))
     simp[this,e]
    ·exact .inr ⟨k,c,e,z.sameBut hs (cne y c e)⟩
  ·obtain⟨w',z⟩:=I.cell y c e
   exact⟨w',z.sameBut hs (cne y c e)⟩
  ·obtain⟨e,n,ne,nf,d⟩:=I.pin p hp
   exact⟨(hs.2 p.1 ne).trans e,n,ne,nf,d⟩
 ·have hfn:X.fn x=true:=by
   rcases hf with z|z
   ·exact z
   ·rw[z] at hk;cases hk
  obtain⟨c,hc⟩:=I.ok.has x (.inl hk)
  obtain⟨w',z⟩:=I.cell x c hc
  refine wpAny_storeName_cell I.ok.kind hk hc z (fun h' hc' hs=>?_)
  obtain⟨oc,hoc,hocd⟩:=id z
  refine h { s with heap:=h' } ⟨I.ok,I.os,I.bare,⟨fun b o e n hb hx=>?_,fun b o e n hb hx=>?_,I.base.free,fun b o e hx=>?_,I.base.tups,I.base.frzs,I.base.tbls⟩,⟨m,hn.sameBut hs (Ne.symm (cne x c hc)),fun j y v' e1 e2 e3=>?_⟩,fun y c' e=>?_,I.free,I.freeC,fun p hp=>?_,tracked ⟨oc,hoc,I.freeC x c hc⟩ hs,by simpa using I.len⟩ ⟨c,hs,.inr hc⟩
  ·exact (hs.2 b (zcc8 (zca8 (zca3 e) (I.ok.cab x c hfn hc)))).trans (I.base.keep b o e n hb hx)
  ·obtain⟨sl,e1⟩:=I.base.slot b o e n hb hx
   exact⟨sl,(hs.2 b (zcc8 (zca8 (zca3 e) (I.ok.cab x c hfn hc)))).trans e1⟩
  ·obtain⟨o',e1⟩:=I.base.there b o e hx
   exact⟨o',(hs.2 b (zcc8 (zca8 (zca3 e) (I.ok.cab x c hfn hc)))).trans e1⟩
  ·by_cases hj:j=i
   ·subst hj
    rw[hi] at e1;cases e1
    rw[zce2 hiσ] at e2
    cases e2
    exact⟨u,r,.inr ⟨.inl hk,c,hc,hc'⟩⟩
   ·rw[zch0 (Ne.symm hj)] at e2
    obtain⟨u',r',q⟩:=hl j y v' e1 e2 e3
    refine⟨u',r',?_⟩
    rcases q with q|⟨k,c',e,z'⟩
    ·exact .inl q
    ·refine .inr ⟨k,c',e,z'.sameBut hs ?_⟩
     rintro rfl
     exact hj (zad5 hN e1 (I.ok.inj _ _ _ e hc▸hi))
  ·by_cases hcc:c'=c
   ·subst hcc;exact⟨_,hc'⟩
   ·obtain⟨w2,z2⟩:=I.cell y c' e
    exact⟨w2,z2.sameBut hs hcc⟩
  ·obtain⟨e,n,ne,nf,d⟩:=I.pin p hp
   refine⟨(hs.2 p.1 ?_).trans e,n,ne,nf,d⟩
   intro q
   rw[q,hoc] at e
   have q':oc=p.2:=Option.some.inj e
   exact d w' (by rw[← q'];exact hocd)
theorem zs6{M:Model}{A:Around}{x:Str}{v:V}{Q:Unit->Shared->Prop}(I:Inv X pins σ H s)(hN:X.N.Nodup)(hi:X.N[i]?=some x)(hx:Loc X.env.scope x)(r:RelV v u)(h:∀ s',Inv X pins (σ.set i (some v)) H s'->Q () s')(hf:X.fn x=true∨X.env.scope.names.lookup x=some .local:=by first|exact .inl rfl|exact .inr rfl|assumption):wpAny M A (storeName X.env x u) Q E s:=
 zak1 I hN hi hx r (fun s' I' _=>h s' I') hf
theorem Inv.call'{s':Shared}{ch:List Addr}(I:Inv X pins σ H s)(ho:s'.os=s.os)(u:Un (frs X.stack) ch H H' s.heap s'.heap)(hok:HOk X.prog X.w H' s'.heap)(hg:AllBare s'.gens)(hch:∀ b∈ch,(b∈X.ex∨X.s₀.heap.objs.size<=b)/\b≠X.env.locals/\(∀ x c,X.env.cells.lookup x=some c->c≠b)/\∀ p∈X.pn++pins,p.1≠b):Inv X pins σ H' s':=by
 obtain⟨h',g',d',t',o'⟩:=s'
 have e:o'=s.os:=ho
 subst e
 exact I.call (g':=g') (t':=t') (d':=d') u hok hg hch
end
abbrev XK:=Value->Option Addr->Hp->Prop
abbrev St:=List (Option V)
variable {σ:St}
abbrev VK:=V->Hp->Prop
abbrev TE:=St->Hp->VK->Prop
abbrev TT:=St->Hp->(Bool->Hp->Prop)->Prop
abbrev TA:=St->Hp->(List V->Hp->Prop)->Prop
structure Ends where
 nx:St->Hp->Prop
 rt:VK
 bk:St->Hp->Prop:=fun _ _=>False
 ct:St->Hp->Prop:=fun _ _=>False
abbrev TS:=Ends->St->Hp->Prop
def EP(X:Cx)(pins:List (Addr×Obj))(σ:St)(Q:VK)(u:Value)(s':Shared):Prop:=∃ v H',Inv X pins σ H' s'/\RelV v u/\Q v H'
def TP(X:Cx)(pins:List (Addr×Obj))(σ:St)(Q:Bool->Hp->Prop)(b:Bool)(s':Shared):Prop:=∃ H',Inv X pins σ H' s'/\Q b H'
def AP(X:Cx)(pins:List (Addr×Obj))(σ:St)(Q:List V->Hp->Prop)(us:List Value)(s':Shared):Prop:=∃ vs H',Inv X pins σ H' s'/\Vals vs us/\Q vs H'
def SP(X:Cx)(pins:List (Addr×Obj))(D:Ends)(f:Flow)(s':Shared):Prop:=
 match f with
 | .next=>∃ σ' H',Inv X pins σ' H' s'/\D.nx σ' H'
 | .brk=>∃ σ' H',Inv X pins σ' H' s'/\D.bk σ' H'
 | .cont=>∃ σ' H',Inv X pins σ' H' s'/\D.ct σ' H'
 | .ret u=>∃ v σ' H',Inv X pins σ' H' s'/\RelV v u/\D.rt v H'
def PE(X:Cx)(e:Expr)(t:TE):Prop:=
 ∀ (pins:List (Addr×Obj)) (s:Shared) (σ:St) (H:Hp) (Q:VK),Inv X pins σ H s->t σ H Q->wpAny (model X.prog X.w) X.A (eval e X.env) (EP X pins σ Q) X.xe s
def PT(X:Cx)(e:Expr)(t:TT):Prop:=
 ∀ (pins:List (Addr×Obj)) (s:Shared) (σ:St) (H:Hp) (Q:Bool->Hp->Prop),Inv X pins σ H s->t σ H Q->wpAny (model X.prog X.w) X.A (isTrue e X.env (eval e X.env)) (TP X pins σ Q) X.xe s
def PW(X:Cx)(e:Expr)(t:TT):Prop:=
 ∀ (whole:Sem Value) (pins:List (Addr×Obj)) (s:Shared) (σ:St) (H:Hp) (Q:Bool->Hp->Prop),Inv X pins σ H s->t σ H Q->wpAny (model X.prog X.w) X.A (isTrue e X.env whole) (TP X pins σ Q) X.xe s
theorem PW.pt{X:Cx}{t:TT}(h:PW X e t):PT X e t:=h _
def PA(X:Cx)(es:List Expr)(t:TA):Prop:=
 ∀ (pos:Pos) (pins:List (Addr×Obj)) (s:Shared) (σ:St) (H:Hp) (Q:List V->Hp->Prop),Inv X pins σ H s->t σ H Q->wpAny (model X.prog X.w) X.A (spliced (backTo pos (starEach es X.env))) (AP X pins σ Q) X.xe s
def PS(X:Cx)(st:Stmt)(t:TS):Prop:=
 ∀ (pins:List (Addr×Obj)) (s:Shared) (σ:St) (H:Hp) (D:Ends),Inv X pins σ H s->t D σ H->wpAny (model X.prog X.w) X.A (exec st X.env) (SP X pins D) X.xe s
def PSs(X:Cx)(st:List Stmt)(t:TS):Prop:=
 ∀ (pins:List (Addr×Obj)) (s:Shared) (σ:St) (H:Hp) (D:Ends),Inv X pins σ H s->t D σ H->wpAny (model X.prog X.w) X.A (execs st X.env) (SP X pins D) X.xe s
theorem thn{α:Type}{t:Sem α}{Q Q':α->Shared->Prop}{M:Model}{A:Around}(h:wpAny M A t Q E s)(hQ:∀ a s,Q a s->Q' a s):wpAny M A t Q' E s:=wpAny_mono h hQ fun _ _ x=>x
section
variable {X:Cx}
theorem bin{a b:Expr}{ta tb:TE}(ha:PE X a ta)(hb:PE X b tb){R:V->V->Hp->Prop}(I:Inv X pins σ H s)(h:ta σ H fun x H1=>tb σ H1 fun y H2=>R x y H2){α:Type}{Q:α->Shared->Prop}{f:Value->Value->Sem α}(hf:∀ v u s2 x y H2,Inv X pins σ H2 s2->RelV x v->RelV y u->R x y H2->wpAny (model X.prog X.w) X.A (f v u) Q X.xe s2) :
  wpAny (model X.prog X.w) X.A (eval a X.env) (fun v s₁=>wpAny (model X.prog X.w) X.A (eval b X.env) (fun u s₂=>wpAny (model X.prog X.w) X.A (f v u) Q X.xe s₂) X.xe s₁) X.xe s:=by
 refine thn (ha pins s σ H _ I h) fun v s1 ⟨x,H1,I1,r1,q1⟩=>?_
 refine thn (hb pins s1 σ H1 _ I1 q1) fun u s2 ⟨y,H2,I2,r2,q2⟩=>?_
 exact hf v u s2 x y H2 I2 r1 r2 q2
def tVar(i:Nat):TE:=fun σ H Q=>∃ v,σ[i]?=some (some v)/\Q v H
def tC(v:V):TE:=fun _ H Q=>Q v H
theorem pe_var{x:Str}(hN:X.N[i]?=some x)(hv:Vis X.env.scope x)(hd:(x==("__debug__":Str))=false:=by decide)(hcd:(x==("__classdict__":Str))=false:=by decide):PE X (.Name x pos) (tVar i):=by
 intro pins s σ H Q I h
 obtain⟨v,e,h⟩:=h
 obtain⟨m,hn,hl⟩:=I.loc
 obtain⟨u,r,l⟩:=hl i x v hN e hv
 have fin:EP X pins σ Q u s:=⟨v,H,I,r,h⟩
 rcases l with ⟨hk,hm⟩|⟨hk,c,hc,hcell⟩
 ·exact wpAny_Name (wpAny_loadName_local I.ok.kind hk hn hm fin) hd
 ·rcases hk with hk|hk
  ·exact wpAny_Name (wpAny_loadName_cell I.ok.kind hk hc hcell fin) hd
  ·exact wpAny_Name (wpAny_loadName_free I.ok.kind hk hc hcell fin hcd) hd
theorem za2{i j pos}:PE X (.Constant (.int i) j pos) (tC (.int i)):=fun _ _ _ H _ I h=>wpAny_Constant_int ⟨.int i,H,I.tok _,⟨_,rfl⟩,h⟩
theorem zaa1{b j pos}:PE X (.Constant (.bool b) j pos) (tC (.bl b)):=fun _ _ _ H _ I h=>Constant_bool ⟨.bl b,H,I,rfl,h⟩
theorem zk6{j pos}:PE X (.Constant .none j pos) (tC .non):=fun _ _ _ H _ I h=>Constant_none ⟨.non,H,I,rfl,h⟩
theorem zc0{x j pos}:PE X (.Constant (.str x) j pos) (tC (.str x)):=fun _ _ _ H _ I h=>Calls.Constant_str ⟨.str x,H,I.tok _,⟨_,rfl⟩,h⟩
def Gl(X:Cx)(x:Str):Prop:=X.env.kindOf x=some .globalImplicit
theorem zl3{x:Str}{Q:Value->Shared->Prop}(I:Inv X pins σ H s)(hg:Gl X x)(hm:X.mg x=some u)(h:Q u s)(hd:(x==("__debug__":Str))=false:=by decide):wpAny (model X.prog X.w) X.A (eval (.Name x pos) X.env) Q E s:=
 Calls.Name_function_global I.ok.kind hg (Calls.loadGlobal_global (by rw[I.ok.glob];exact I.mod.glob.keeps I.bk) hm h) hd
theorem zam2{x:Str}{Q:Value->Shared->Prop}(I:Inv X pins σ H s)(hg:Gl X x)(hm:X.mg x=none)(hv:bootBuiltins x=some u)(h:Q u s)(hn:x≠"__name__":=by decide)(hd:(x==("__debug__":Str))=false:=by decide):wpAny (model X.prog X.w) X.A (eval (.Name x pos) X.env) Q E s:=by
 obtain⟨mb,h1,h2⟩:=I.mod.blt
 exact Calls.Name_function_global I.ok.kind hg (Calls.loadGlobal_builtin (by rw[I.ok.glob];exact I.mod.glob.keeps I.bk) hm (by rw[I.ok.blt];exact h1.keeps I.bk) ((h2 x hn).trans hv) h) hd
theorem zf2{x:Str}{v:V}(hg:Gl X x)(hm:X.mg x=some u)(r:RelV v u)(hd:(x==("__debug__":Str))=false:=by decide):PE X (.Name x pos) (tC v):=
 fun _ _ _ H _ I h=>zl3 I hg hm ⟨v,H,I,r,h⟩ hd
theorem zbn7{x:Str}{v:V}(hg:Gl X x)(hm:X.mg x=none)(hv:bootBuiltins x=some u)(r:RelV v u)(hn:x≠"__name__":=by decide)(hd:(x==("__debug__":Str))=false:=by decide):PE X (.Name x pos) (tC v):=
 fun _ _ _ H _ I h=>zam2 I hg hm hv ⟨v,H,I,r,h⟩ hn hd
variable {a b:Expr}{ta tb:TE}{pos:Pos}
variable {tA tB':TT}{rest:List Expr}
def tAnd(t u:TT):TT:=fun σ H Q=>t σ H fun c H1=>if c=true then u σ H1 Q else Q false H1
def tOr(t u:TT):TT:=fun σ H Q=>t σ H fun c H1=>if c=true then Q true H1 else u σ H1 Q
def tNot(t:TT):TT:=fun σ H Q=>t σ H fun c H1=>Q (!c) H1
theorem zaq8(ha:PT X a tA):PW X (.BoolOp .And [a] pos) tA:=by
 intro wh pins s σ H Q I h
 refine isTrue_and (thn (ha pins s σ H Q I h) fun c s1 e=>?_)
 cases c with
 | true=>exact isTrue_and_nil e
 | false=>exact e
theorem zq9(ha:PT X a tA):PW X (.BoolOp .Or [a] pos) tA:=by
 intro wh pins s σ H Q I h
 refine isTrue_or (thn (ha pins s σ H Q I h) fun c s1 e=>?_)
 cases c with
 | false=>exact isTrue_or_nil e
 | true=>exact e
theorem pw_and(ha:PT X a tA)(hb:PW X (.BoolOp .And (b :: rest) pos) tB'):PW X (.BoolOp .And (a :: b :: rest) pos) (tAnd tA tB'):=by
 intro wh pins s σ H Q I h
 refine isTrue_and (thn (ha pins s σ H _ I h) fun c s1 ⟨H1,I1,q1⟩=>?_)
 cases c with
 | true=>exact hb wh pins s1 σ H1 Q I1 q1
 | false=>exact⟨H1,I1,q1⟩
theorem pw_or(ha:PT X a tA)(hb:PW X (.BoolOp .Or (b :: rest) pos) tB'):PW X (.BoolOp .Or (a :: b :: rest) pos) (tOr tA tB'):=by
 intro wh pins s σ H Q I h
 refine isTrue_or (thn (ha pins s σ H _ I h) fun c s1 ⟨H1,I1,q1⟩=>?_)
 cases c with
 | true=>exact⟨H1,I1,q1⟩
 | false=>exact hb wh pins s1 σ H1 Q I1 q1
theorem zl2(ha:PT X a tA):PT X (.UnaryOp .Not a pos) (tNot tA):=by
 intro pins s σ H Q I h
 exact isTrue_not (ha pins s σ H (fun c H1=>Q (!c) H1) I h)
theorem zn7{op}{t:TE}(h:PE X a t):PE X (.BoolOp op [a] pos) t:=fun pins s σ H Q I hw=>BoolOp_one (h pins s σ H Q I hw)
def tIf(t:TT)(ta tb:TE):TE:=fun σ H Q=>t σ H fun c H1=>if c=true then ta σ H1 Q else tb σ H1 Q
theorem zbh7{c:Expr}(hc:PT X c tA)(ha:PE X a ta)(hb:PE X b tb):PE X (.IfExp c a b pos) (tIf tA ta tb):=by
 intro pins s σ H Q I h
 refine wpAny_IfExp (thn (hc pins s σ H _ I h) fun d s1 ⟨H1,I1,q1⟩=>?_)
 cases d with
 | true=>exact ha pins s1 σ H1 Q I1 q1
 | false=>exact hb pins s1 σ H1 Q I1 q1
end
def SqL(K:zby6)(H:Hp)(a:Addr)(xs:List V):Prop:=
 Rd H a (.lst xs) ∨
  ∃ (o:Obj) (its:Array Value) (n:Nat),K.lookup a=some o/\o.cls=.type "list"/\o.dict=none/\o.data=.seq its n/\its.size<=sizeLine/\Vals xs its.toList
def SqT(K:zby6)(H:Hp)(a:Addr)(xs:List V):Prop:=
 Rd H a (.tup xs) ∨
  ∃ (o:Obj) (its:Array Value) (n:Nat),K.lookup a=some o/\o.cls=.type "tuple"/\o.data=.seq its n/\its.size<=sizeLine/\Vals xs its.toList
def absV:Value->Option V
 | .none=>some .non
 | .bool b=>some (.bl b)
 | .int i _=>some (.int i)
 | .str x _=>some (.str x)
 | .bytes b _=>some (.byt b)
 | .float b _=>some (.flt b)
 | .ref a=>some (.ref a)
 | .type n=>some (.ty n)
 | _=>none
theorem RelV.abs{x:V}(r:RelV x u):absV u=some x:=by
 cases x with
 | non=>cases r;rfl
 | bl _=>cases r;rfl
 | int _=>obtain⟨t,rfl⟩:=r;rfl
 | str _=>obtain⟨t,rfl⟩:=r;rfl
 | byt _=>obtain⟨t,rfl⟩:=r;rfl
 | flt _=>obtain⟨t,rfl⟩:=r;rfl
 | ref _=>cases r;rfl
 | ty _=>cases r;rfl
theorem RelV.inj{x y:V}{u:Value}(r:RelV x u)(q:RelV y u):x=y:=Option.some.inj (r.abs.symm.trans q.abs)
theorem Vals.inj:∀ {xs ys:List V}{us:List Value},Vals xs us->Vals ys us->xs=ys
 | _,_,_,.nil,.nil=>rfl
 | _,_,_,.cons r t,.cons r' t'=>by rw[r.inj r',Vals.inj t t']
section
variable {X:Cx}{pins:List (Addr×Obj)}{σ:St}{H:Hp}{s:Shared}{a:Addr}{xs ys:List V}
theorem SqL.of{K:zby6}(h:H a=some (.lst xs)):SqL K H a xs:=.inl (.inl h)
theorem SqT.of{K:zby6}(h:H a=some (.tup xs)):SqT K H a xs:=.inl (.inl h)
theorem Inv.list(I:Inv X pins σ H s)(h:SqL X.K H a xs):∃ its:List Value,Vals xs its/\PlainL s.heap a its.toArray/\xs.length<=sizeLine:=by
 rcases h with h|⟨o,its,n,hk,hc,hd,hs,hz,r⟩
 ·obtain⟨z,its,n,r,e⟩:=h.ok I.hok
  exact⟨its,r,⟨_,n,e,rfl,rfl,rfl⟩,z⟩
 ·refine⟨its.toList,r,⟨o,n,I.kIn a o hk,hc,hd,by simpa using hs⟩,?_⟩
  have e:=r.length
  simp only[zca0] at e
  omega
theorem Inv.tuple(I:Inv X pins σ H s)(h:SqT X.K H a xs):∃ its:List Value,Vals xs its/\IsTup s.heap a its.toArray/\xs.length<=sizeLine:=by
 rcases h with h|⟨o,its,n,hk,hc,hs,hz,r⟩
 ·obtain⟨z,its,r,p⟩:=h.ok I.hok
  exact⟨its,r,p,z⟩
 ·refine⟨its.toList,r,⟨o,I.kIn a o hk,hc,n,by simpa using hs⟩,?_⟩
  have e:=r.length
  simp only[zca0] at e
  omega
theorem Inv.list_inj(I:Inv X pins σ H s)(h:SqL X.K H a xs)(h':SqL X.K H a ys):xs=ys:=by
 obtain⟨its,r,⟨o,n,e,_,_,d⟩,_⟩:=I.list h
 obtain⟨its',r',⟨o',n',e',_,_,d'⟩,_⟩:=I.list h'
 rw[e] at e';cases e'
 rw[d] at d'
 injection d' with d1 _
 have:its=its':=by simpa using congrArg Array.toList d1
 subst this
 exact r.inj r'
theorem Inv.tuple_inj(I:Inv X pins σ H s)(h:SqT X.K H a xs)(h':SqT X.K H a ys):xs=ys:=by
 obtain⟨its,r,⟨o,e,_,n,d⟩,_⟩:=I.tuple h
 obtain⟨its',r',⟨o',e',_,n',d'⟩,_⟩:=I.tuple h'
 rw[e] at e';cases e'
 rw[d] at d'
 injection d' with d1 _
 have:its=its':=by simpa using congrArg Array.toList d1
 subst this
 exact r.inj r'
end
abbrev Cx.wish(X:Cx)(E:Value->Shared->Prop):Cx:={ X with xe:=E }
abbrev Cx.nox(X:Cx):Cx:=X.wish fun _ _=>False
theorem Cx.Ok.wish{X:Cx}(ok:X.Ok)(E:Value->Shared->Prop):(X.wish E).Ok:=
 ⟨ok.mod,ok.kind,ok.glob,ok.blt,ok.above,ok.inj,ok.has,ok.cab,ok.hd,ok.frames,ok.stk,ok.exf,ok.bs,ok.bsz,ok.noex,ok.exfs,ok.funs,ok.frf⟩
theorem Cx.Ok.unwish{X:Cx}(ok:(X.wish E).Ok):X.Ok:=
 ⟨ok.mod,ok.kind,ok.glob,ok.blt,ok.above,ok.inj,ok.has,ok.cab,ok.hd,ok.frames,ok.stk,ok.exf,ok.bs,ok.bsz,ok.noex,ok.exfs,ok.funs,ok.frf⟩
section
variable {X:Cx}{pins:List (Addr×Obj)}{σ:St}{H:Hp}{s:Shared}{E:Value->Shared->Prop}
theorem Inv.wish(I:Inv X pins σ H s)(E:Value->Shared->Prop):Inv (X.wish E) pins σ H s:=⟨I.ok.wish E,I.os,I.bare,I.base,I.loc,I.cell,I.free,I.freeC,I.pin,I.hok,I.len⟩
theorem Inv.unwish(I:Inv (X.wish E) pins σ H s):Inv X pins σ H s:=⟨I.ok.unwish,I.os,I.bare,I.base,I.loc,I.cell,I.free,I.freeC,I.pin,I.hok,I.len⟩
theorem SP.unwish{D:Ends}{f:Flow}{s':Shared}(h:SP (X.wish E) pins D f s'):SP X pins D f s':=by
 cases f with
 | next=>obtain⟨σ',H',I,q⟩:=h;exact⟨σ',H',I.unwish,q⟩
 | brk=>obtain⟨σ',H',I,q⟩:=h;exact⟨σ',H',I.unwish,q⟩
 | cont=>obtain⟨σ',H',I,q⟩:=h;exact⟨σ',H',I.unwish,q⟩
 | ret u=>obtain⟨v,σ',H',I,r,q⟩:=h;exact⟨v,σ',H',I.unwish,r,q⟩
theorem PSs.nox{st:List Stmt}{t:TS}(h:PSs X.nox st t):PSs X st t:=fun pins s σ H D I hw=>
 wpAny_mono (h pins s σ H D (I.wish _) hw) (fun _ _ q=>q.unwish) fun _ _ z=>False.elim z
end
section
variable {X:Cx}{st:Stmt}{rest:List Stmt}{t u:TS}{e:Expr}{te:TE}{pos:Pos}
def tNext:TS:=fun D σ H=>D.nx σ H
def tSeq(t u:TS):TS:=fun D σ H=>t { D with nx:=u D } σ H
theorem zc1:PSs X [] tNext:=fun _ _ σ H _ I h=>wpAny_execs_nil ⟨σ,H,I,h⟩
theorem za3(h1:PS X st t)(h2:PSs X rest u):PSs X (st :: rest) (tSeq t u):=by
 intro pins s σ H D I h
 refine wpAny_execs_cons (thn (h1 pins s σ H { D with nx:=u D } I h) fun f s1 q=>?_)
 cases f with
 | next=>
  obtain⟨σ',H',I',q⟩:=q
  exact h2 pins s1 σ' H' D I' q
 | ret v=>exact q
 | brk=>exact q
 | cont=>exact q
theorem za7(h1:PS X st t):PSs X [st] t:=by
 intro pins s σ H D I h
 refine wpAny_execs_cons (thn (h1 pins s σ H D I h) fun f s1 q=>?_)
 cases f with
 | next=>exact wpAny_execs_nil q
 | ret v=>exact q
 | brk=>exact q
 | cont=>exact q
theorem Inv.quiet(I:Inv X pins σ H s):interactive X.env=false:=by simp[interactive,I.ok.kind]
def tDrop(te:TE):TS:=fun D σ H=>te σ H fun _ H1=>D.nx σ H1
theorem zag7(he:PE X e te)(hs:swapsWith e none pos.line X.env=pure false:=by rfl):PS X (.Expr e pos) (tDrop te):=by
 intro pins s σ H D I h
 exact wpAny_Expr_any (thn (he pins s σ H _ I h) fun v s1 ⟨x,H1,I1,r1,q1⟩=>⟨σ,H1,I1,q1⟩) I.quiet hs
def tRet(te:TE):TS:=fun D σ H=>te σ H D.rt
theorem zb1(he:PE X e te):PS X (.Return (some e) pos) (tRet te):=by
 intro pins s σ H D I h
 exact wpAny_Return_some (thn (he pins s σ H _ I h) fun v s1 ⟨x,H1,I1,r1,q1⟩=>⟨x,σ,H1,I1,r1,q1⟩)
def tIfS(c:TT)(t u:TS):TS:=fun D σ H=>c σ H fun b H1=>if b=true then t D σ H1 else u D σ H1
theorem ps_if{c:Expr}{a b:List Stmt}{tc:TT}(hc:PT X c tc)(ha:PSs X a t)(hb:PSs X b u):PS X (.If c a b pos) (tIfS tc t u):=by
 intro pins s σ H D I h
 refine wpAny_If (thn (hc pins s σ H _ I h) fun d s1 ⟨H1,I1,q1⟩=>?_)
 cases d with
 | true=>exact ha pins s1 σ H1 D I1 q1
 | false=>exact hb pins s1 σ H1 D I1 q1
end
abbrev TG:=V->St->Hp->(St->Hp->Prop)->Prop
abbrev TGs:=List V->St->Hp->(St->Hp->Prop)->Prop
def PG(X:Cx)(target:Expr)(t:TG):Prop:=
 ∀ (pins:List (Addr×Obj)) (s:Shared) (σ:St) (H:Hp) (v:V) (u:Value) (Q:St->Hp->Prop),Inv X pins σ H s->RelV v u->t v σ H Q ->
  wpAny (model X.prog X.w) X.A (assign target X.env u) (fun _ s'=>∃ σ' H',Inv X pins σ' H' s'/\Q σ' H') X.xe s
def PGs(X:Cx)(ts:List Expr)(t:TGs):Prop:=
 ∀ (pins:List (Addr×Obj)) (s:Shared) (σ:St) (H:Hp) (vs:List V) (us:List Value) (Q:St->Hp->Prop),Inv X pins σ H s->Vals vs us->t vs σ H Q ->
  wpAny (model X.prog X.w) X.A (assignInOrder ((assignEach ts X.env).map (·.2)) us) (fun _ s'=>∃ σ' H',Inv X pins σ' H' s'/\Q σ' H') X.xe s
abbrev TSet:=V->V->V->Hp->(Hp->Prop)->Prop
def PSet(X:Cx)(t:TSet):Prop:=
 ∀ (pins:List (Addr×Obj)) (s:Shared) (σ:St) (H:Hp) (o i v:V) (ov iv u:Value) (Q:Hp->Prop),Inv X pins σ H s->RelV o ov->RelV i iv->RelV v u->t o i v H Q ->
  wpAny (model X.prog X.w) X.A (setItem ov iv u) (fun _ s'=>∃ H',Inv X pins σ H' s'/\Q H') X.xe s
section
variable {X:Cx}{pos:Pos}
def zaz4(i:Nat):TG:=fun v σ H Q=>Q (σ.set i (some v)) H
theorem ze2{x:Str}(hN:X.N.Nodup)(hi:X.N[i]?=some x)(hx:Loc X.env.scope x)(hf:X.fn x=true∨X.env.scope.names.lookup x=some .local:=by first|exact .inl rfl|exact .inr rfl|assumption):PG X (.Name x pos) (zaz4 i):=by
 intro pins s σ H v u Q I r h
 exact wpAny_assign_Name (zs6 I hN hi hx r (fun s' I'=>⟨_,H,I',h⟩) hf)
def gNil:TGs:=fun vs σ H Q=>vs=[]/\Q σ H
def gCons(t:TG)(u:TGs):TGs:=fun vs σ H Q=>∃ v r,vs=v :: r/\t v σ H fun σ' H'=>u r σ' H' Q
theorem zbq4:PGs X [] gNil:=by
 intro pins s σ H vs us Q I r h
 obtain⟨e,h⟩:=h
 subst e
 cases r
 exact assignInOrder_nil ⟨σ,H,I,h⟩
theorem zbi6{es:List Expr}{t:TG}{u:TGs}(h1:PG X e t)(h2:PGs X es u)(hs:(assignEach (e :: es) X.env).map (·.2)=assign e X.env :: (assignEach es X.env).map (·.2):=by rfl):PGs X (e :: es) (gCons t u):=by
 intro pins s σ H vs us Q I r h
 obtain⟨v,vr,e1,h⟩:=h
 subst e1
 cases r with
 | cons r rr=>
  rw[hs]
  refine assignInOrder_cons (thn (h1 pins s σ H _ _ _ I r h) fun _ s1 ⟨σ1,H1,I1,q1⟩=>?_)
  exact h2 pins s1 σ1 H1 _ _ Q I1 rr q1
def gTup(K:zby6)(n:Nat)(t:TGs):TG:=fun v σ H Q=>∃ a xs,v=.ref a/\SqT K H a xs/\xs.length=n/\t xs σ H Q
theorem pg_tup{es:List Expr}{k:Nat}{t:TGs}{n:Nat}(hc:X.calm=true)(h:PGs X es t)(hn:(assignEach es X.env).length=n:=by rfl)(hst:(assignEach es X.env).findIdx? (·.1)=none:=by rfl):PG X (.Tuple es k pos) (gTup X.K n t):=by
 intro pins s σ H v u Q I r hw
 obtain⟨a,xs,e1,hq,hl,hw⟩:=hw
 subst e1
 cases r
 obtain⟨its,rv,ht,hz⟩:=I.tuple hq
 refine assign_Tuple_tuple (I.ok.hd hc) ht (by simp[hn,← hl,rv.length]) hst fun h' hx=>?_
 have I1:Inv X pins σ H { s with heap:=h' }:=I.kept (t':=s.toks) fun b o e=>hx b o (zcc8 (zca3 e)) e
 exact h pins _ σ H xs _ Q I1 (by simpa using rv) hw
def gSub(to ti:TE)(t:TSet):TG:=fun v σ H Q=>to σ H fun o H1=>ti σ H1 fun i H2=>t o i v H2 fun H3=>Q σ H3
theorem zbk2{o i:Expr}{to ti:TE}{t:TSet}(ho:PE X o to)(hi:PE X i ti)(hs:PSet X t)(ha:∀ v,assign (.Subscript o i pos) X.env v=(do
   let ov ← holding [v] (eval o X.env)
   let iv ← holding [v,ov] (eval i X.env)
   standAt pos
   holding [v,ov,iv] (setItem ov iv v)
   release [v,ov,iv] []):=by intro _;rfl):PG X (.Subscript o i pos) (gSub to ti t):=by
 intro pins s σ H v u Q I r h
 rw[ha]
 refine zch8 (zci3 (thn (ho pins s σ H _ I h) fun ov s1 ⟨x,H1,I1,r1,q1⟩=>?_))
 refine zch8 (zci3 (thn (hi pins s1 σ H1 _ I1 q1) fun iv s2 ⟨y,H2,I2,r2,q2⟩=>?_))
 refine zch8 (wpAny_standAt (zch8 (zci3 (thn (hs pins s2 σ H2 x y v ov iv u _ I2 r1 r2 r q2) fun _ s3 ⟨H3,I3,q3⟩=>?_))))
 exact wpAny_release ⟨σ,H3,I3,q3⟩
def tAsg(te:TE)(g:TG):TS:=fun D σ H=>te σ H fun x H1=>g x σ H1 D.nx
theorem zbk9{te:TE}{g:TG}(he:PE X e te)(hg:PG X tg g)(hs:swapsWithSole [tg] e pos.line X.env=pure false:=by rfl)(hw:swappedStores [tg] e X.env=pure none:=by rfl)(h1:(assignEach [tg] X.env).map (·.2)=[assign tg X.env]:=by rfl):PS X (.Assign [tg] e pos) (tAsg te g):=by
 intro pins s σ H D I h
 refine wpAny_Assign_stores (thn (he pins s σ H _ I h) fun v s1 ⟨x,H1,I1,r1,q1⟩=>?_) hs hw
 rw[h1]
 exact thn (hg pins s1 σ H1 x v _ I1 r1 q1) fun _ s2 q=>q
theorem zbf4{x:Str}{te:TE}{pos':Pos}(hN:X.N.Nodup)(hi:X.N[i]?=some x)(hx:Loc X.env.scope x)(he:PE X e te)(hs:swapsWith e (some (.Name x pos')) pos.line X.env=pure false:=by rfl)(hf:X.fn x=true∨X.env.scope.names.lookup x=some .local:=by first|exact .inl rfl|exact .inr rfl|assumption) :
  PS X (.Assign [.Name x pos'] e pos) (tAsg te (zaz4 i)):=by
 intro pins s σ H D I h
 refine wpAny_Assign_Name (thn (he pins s σ H _ I h) fun v s1 ⟨y,H1,I1,r1,q1⟩=>?_) hs
 exact zs6 I1 hN hi hx r1 (fun s2 I2=>⟨_,H1,I2,q1⟩) hf
end
structure It where
 go:Nat->Hp->Prop
 yld:Nat->Hp->V->Hp->Prop
 stop:Nat->Hp->Prop
def FpOk(X:Cx)(pins:List (Addr×Obj))(H:Hp)(b:Addr):Prop:=
 H b=none/\b≠X.env.locals/\b ∉ X.fs/\(b∈X.ex∨X.s₀.heap.objs.size<=b)/\(∀ x c,X.env.cells.lookup x=some c->c≠b)/\∀ p∈X.pn++pins,p.1≠b
theorem Inv.fpOk{X:Cx}{H':Hp}{b:Addr}(I:Inv X pins σ H s)(hb:s.heap.objs.size<=b)(hn:H' b=none):FpOk X pins H' b:=by
 refine⟨hn,zch7 (zca8 I.lt hb),I.nofs hb,.inr (zcc5 I.sz hb),fun x c e z=>?_,fun p hp z=>?_⟩
 ·obtain⟨v,q⟩:=I.cell x c e
  exact absurd (zca8 q.lt (by rw[z];exact hb)) (zch4 _)
 ·exact absurd (zca8 (zca3 (I.pin p hp).1) (by rw[z];exact hb)) (zch4 _)
structure Turn(P:Program)(w:World)(K:zby6)(tg:Expr)(J:It)(fp:List Addr)(it:Addr)(tn:Nat->Heap->Prop):Prop where
 mem:it∈fp
 obj:∀ i h,tn i h->∀ b∈fp,∃ o,h.get? b=some o/\∀ v,o.data≠.cell v
 keep:∀ i h h',tn i h->(∀ b∈fp,∀ o,h.get? b=some o->h'.get? b=some o)->tn i h'
 item:∀ (X:Cx),X.prog=P->X.w=w->X.K=K->X.calm=true->∀ (i:Nat) (pins:List (Addr×Obj)) (s:Shared) (σ:St) (H:Hp) (E:Value->Shared->Prop),Inv X pins σ H s->(∀ b∈fp,FpOk X pins H b)->tn i s.heap->J.go i H ->
  wpAny (model P w) X.A (pyNext (.ref it)) (fun r s1=>∃ u,r=some u /\
   wpAny (model P w) X.A (letOwnedTupleGo tg (.ref it) u) (fun _ s2=>∃ x H',Inv X pins σ H' s2/\RelV x u/\J.yld i H x H'/\tn (i+1) s2.heap/\∀ b∈fp,H' b=none) E s1) E s
 done:∀ (X:Cx),X.prog=P->X.w=w->X.K=K->X.calm=true->∀ (i:Nat) (pins:List (Addr×Obj)) (s:Shared) (σ:St) (H:Hp) (E:Value->Shared->Prop),Inv X pins σ H s->(∀ b∈fp,FpOk X pins H b)->tn i s.heap->J.stop i H ->
  wpAny (model P w) X.A (pyNext (.ref it)) (fun r s1=>r=none/\Inv X pins σ H s1) E s
 self:∀ (A:Around) (i:Nat) (s:Shared) (Q:Value->Shared->Prop) (E:Value->Shared->Prop),tn i s.heap->Q (.ref it) s->wpAny (model P w) A (pyIter (.ref it)) Q E s
abbrev TI:=St->Hp->(It->Hp->Prop)->Prop
def PIE(X:Cx)(pins:List (Addr×Obj))(σ:St)(tg:Expr)(R:It->Hp->Prop)(itv:Value)(s2:Shared):Prop:=
 ∃ (it:Addr) (fp:List Addr) (tn:Nat->Heap->Prop) (J:It) (H':Hp),itv=.ref it/\Inv X pins σ H' s2/\Turn X.prog X.w X.K tg J fp it tn/\tn 0 s2.heap/\(∀ b∈fp,FpOk X pins H' b)/\R J H'
def PI(X:Cx)(tg iter:Expr)(wi:TI):Prop:=
 ∀ (pins:List (Addr×Obj)) (s:Shared) (σ:St) (H:Hp) (R:It->Hp->Prop),Inv X pins σ H s->wi σ H R ->
  wpAny (model X.prog X.w) X.A (eval iter X.env) (fun v s1=>wpAny (model X.prog X.w) X.A (pyIter v) (PIE X pins σ tg R) X.xe s1) X.xe s
theorem go_of{M:Model}{A:Around}{it:Addr}{n:String}{vs:Array Value}{Q:Unit->Shared->Prop}(ho:s.heap.get? it=some o)(hc:o.cls=.type n)(hd:o.data=.fields vs)(hn:["enumerate","zip","dict_itemiterator","dict_reverseitemiterator","odict_iterator","itertools.zip_longest","itertools.pairwise"].contains n=false)(hQ:Q () s):wpAny M A (letOwnedTupleGo tg (.ref it) u) Q E s:=by
 unfold letOwnedTupleGo
 cases tg<;>first
  | exact zch9 hQ
  | (cases u<;>first
    | exact zch9 hQ
    | (refine zch8 (wpAny_load ho ?_);rw[hc,hd];show wpAny M A (if (["enumerate","zip","dict_itemiterator","dict_reverseitemiterator","odict_iterator","itertools.zip_longest","itertools.pairwise"].contains n&&vs[0]?==some (rawInt _))=true then _ else _) Q E s;rw[if_neg (by intro h;rw[hn,zch6] at h;cases h)];exact zch9 hQ))
def Itl(K:zby6)(a:Addr):It:=
 ⟨fun i H=>∃ xs x,SqL K H a xs/\xs[i]?=some x,fun i H x H'=>H'=H/\∀ xs,SqL K H a xs->xs[i]?=some x,fun i H=>∃ xs,SqL K H a xs/\xs.length<=i⟩
def Itt(K:zby6)(a:Addr):It:=
 ⟨fun i H=>∃ xs x,SqT K H a xs/\xs[i]?=some x,fun i H x H'=>H'=H/\∀ xs,SqT K H a xs->xs[i]?=some x,fun i H=>∃ xs,SqT K H a xs/\xs.length<=i⟩
def Itr(lo:Int)(n:Nat):It:=⟨fun i _=>i<n,fun i H x H'=>H'=H/\x=.int (lo+i),fun i _=>n<=i⟩
theorem zbd5{P:Program}{w:World}{K:zby6}(a it:Addr):Turn P w K tg (Itl K a) [it] it (fun i h=>h.IsListIter it a i) where
 mem:=by simp
 obj:=fun i h st b hb=>by
  have e:b=it:=by simpa using hb
  subst e
  obtain⟨o,e,c,d⟩:=st
  exact⟨o,e,fun v z=>by rw[d] at z;cases z⟩
 keep:=fun i h h' st k=>st.at fun o e=>k it (by simp) o e
 item:=by
  intro X hP hw hK hc i pins s σ H E I hf st hg
  subst hP hw hK
  obtain⟨xs,x,hq,hx⟩:=hg
  obtain⟨its,rv,p,hz⟩:=I.list hq
  obtain⟨u,hu,ru⟩:=rv.get hx
  obtain⟨f0,f1,f2,f3,f4,f5⟩:=hf it (by simp)
  refine wpAny_pyNext_list_item st p.isList (x:=u) (by simpa using hu) fun h' st' sb=>?_
  have I1:Inv X pins σ H { s with heap:=h' }:=I.turned (t':=s.toks) (fun b o hb e=>(sb.2 b hb).trans e) f0 f1 f3 f4 f5
  obtain⟨o,e,c,d⟩:=id st'
  exact⟨u,rfl,go_of (s:={ s with heap:=h' }) e c d (by decide) ⟨x,H,I1,ru,⟨rfl,fun ys hy=>by rw[I.list_inj hy hq];exact hx⟩,st',fun b hb=>(hf b hb).1⟩⟩
 done:=by
  intro X hP hw hK hc i pins s σ H E I hf st hg
  subst hP hw hK
  obtain⟨xs,hq,hx⟩:=hg
  obtain⟨its,rv,p,hz⟩:=I.list hq
  obtain⟨f0,f1,f2,f3,f4,f5⟩:=hf it (by simp)
  have hl:=rv.length
  exact wpAny_pyNext_list_end (I.ok.hd hc) st p.isList (by simp;omega) fun h' eb=>⟨rfl,I.turned (t':=s.toks) (fun b o hb e=>eb b o hb e) f0 f1 f3 f4 f5⟩
 self:=fun _ _ _ _ _ st h=>wpAny_pyIter_listiter st h
theorem zax7{P:Program}{w:World}{K:zby6}(a it:Addr):Turn P w K tg (Itt K a) [it] it (fun i h=>h.IsTupleIter it a i) where
 mem:=by simp
 obj:=fun i h st b hb=>by
  have e:b=it:=by simpa using hb
  subst e
  obtain⟨o,e,c,d⟩:=st
  exact⟨o,e,fun v z=>by rw[d] at z;cases z⟩
 keep:=fun i h h' st k=>st.at fun o e=>k it (by simp) o e
 item:=by
  intro X hP hw hK hc i pins s σ H E I hf st hg
  subst hP hw hK
  obtain⟨xs,x,hq,hx⟩:=hg
  obtain⟨its,rv,p,hz⟩:=I.tuple hq
  obtain⟨u,hu,ru⟩:=rv.get hx
  obtain⟨f0,f1,f2,f3,f4,f5⟩:=hf it (by simp)
  refine wpAny_pyNext_tuple_item st (show s.heap.IsTuple a its.toArray from p) (x:=u) (by simpa using hu) fun h' st' sb=>?_
  have I1:Inv X pins σ H { s with heap:=h' }:=I.turned (t':=s.toks) (fun b o hb e=>(sb.2 b hb).trans e) f0 f1 f3 f4 f5
  obtain⟨o,e,c,d⟩:=id st'
  exact⟨u,rfl,go_of (s:={ s with heap:=h' }) e c d (by decide) ⟨x,H,I1,ru,⟨rfl,fun ys hy=>by rw[I.tuple_inj hy hq];exact hx⟩,st',fun b hb=>(hf b hb).1⟩⟩
 done:=by
  intro X hP hw hK hc i pins s σ H E I hf st hg
  subst hP hw hK
  obtain⟨xs,hq,hx⟩:=hg
  obtain⟨its,rv,p,hz⟩:=I.tuple hq
  obtain⟨f0,f1,f2,f3,f4,f5⟩:=hf it (by simp)
  have hl:=rv.length
  exact wpAny_pyNext_tuple_end (I.ok.hd hc) st (show s.heap.IsTuple a its.toArray from p) (by simp;omega) fun h' eb=>⟨rfl,I.turned (t':=s.toks) (fun b o hb e=>eb b o hb e) f0 f1 f3 f4 f5⟩
 self:=fun _ _ _ _ _ st h=>wpAny_pyIter_tupleiter st h
theorem zaz7{P:Program}{w:World}{K:zby6}(it:Addr)(lo:Int)(n:Nat):Turn P w K tg (Itr lo n) [it] it (fun i h=>IsRangeIter h it (lo+(i:Nat)*1) ((n:Int) - (i:Nat)) 1) where
 mem:=by simp
 obj:=fun i h st b hb=>by
  have e:b=it:=by simpa using hb
  subst e
  exact⟨_,st,fun v z=>by
   have z':Data.fields _=Data.cell v:=z
   cases z'⟩
 keep:=fun i h h' st k=>k it (by simp) _ st
 item:=by
  intro X hP hw hK hc i pins s σ H E I hf st hg
  subst hP hw hK
  obtain⟨f0,f1,f2,f3,f4,f5⟩:=hf it (by simp)
  have W:=Walks.range (prog:=X.prog) (w:=X.w) (I.ok.hd hc) it lo 1 n
  refine W.item i s _ _ hg st fun v h' tk hv st' kk=>?_
  obtain⟨t,rfl⟩:=hv
  have I1:Inv X pins σ H { s with heap:=h',toks:=tk }:=I.turned (fun b o hb e=>kk b o (by simpa using hb) e) f0 f1 f3 f4 f5
  refine⟨_,rfl,go_of (s:={ s with heap:=h',toks:=tk }) (n:="range_iterator") st' rfl rfl (by decide) ⟨.int (lo+i),H,I1,⟨t,?_⟩,⟨rfl,rfl⟩,st',fun b hb=>(hf b hb).1⟩⟩
  rw[Int.mul_one]
 done:=by
  intro X hP hw hK hc i pins s σ H E I hf st hg
  subst hP hw hK
  obtain⟨f0,f1,f2,f3,f4,f5⟩:=hf it (by simp)
  exact wpAny_pyNext_range_end (I.ok.hd hc) st (by have:n<=i:=hg;omega) fun h' eb=>⟨rfl,I.turned (t':=s.toks) (fun b o hb e=>eb b o hb e) f0 f1 f3 f4 f5⟩
 self:=fun _ _ _ _ _ st h=>wpAny_pyIter_rangeiter st h
section
variable {X:Cx}{tg:Expr}
theorem zav7{R:It->Hp->Prop}{lo hi:Int}{t u v:Tok}{tk:Nat}(I:Inv X pins σ H s)(h1:-(2 ^ 62)<=lo)(h2:lo<2 ^ 62)(h3:-(2 ^ 62)<=hi)(h4:hi<2 ^ 62)(q:R (Itr lo (hi - lo).toNat) H):wpAny (model X.prog X.w) X.A (pyIter (.ref s.heap.objs.size)) (PIE X pins σ tg R) E { s with heap:=s.heap.push { cls:=.type "range",data:=.fields #[.int lo t,.int hi u,.int 1 v] },toks:=tk }:=by
 refine wpAny_pyIter_range (IsRange.new ..) (small_one h1 h2 h3 h4) ?_
 have I1:Inv X pins σ H { s with heap:=s.heap.push { cls:=.type "range",data:=.fields #[.int lo t,.int hi u,.int 1 v] },toks:=tk }:=I.kept fun b o e=>zbz8 _ e
 refine⟨(s.heap.push { cls:=.type "range",data:=.fields #[.int lo t,.int hi u,.int 1 v] }).objs.size,[(s.heap.push { cls:=.type "range",data:=.fields #[.int lo t,.int hi u,.int 1 v] }).objs.size],_,_,H,rfl,
  I1.kept (t':=tk) fun b o e=>zbz8 _ e,zaz7 _ lo (hi - lo).toNat,?_,fun b hb=>?_,q⟩
 ·have e1:lo+((0:Nat):Int)*1=lo:=by simp
  have e2:(((hi - lo).toNat:Nat):Int) - ((0:Nat):Int)=Builtin.Range.rangeSize lo hi 1:=by rw[rangeSize_one];split<;>omega
  show IsRangeIter _ _ (lo+((0:Nat):Int)*1) ((((hi - lo).toNat:Nat):Int) - ((0:Nat):Int)) 1
  rw[e1,e2]
  exact zcd0 _ rfl
 ·have e:b=(s.heap.push { cls:=.type "range",data:=.fields #[.int lo t,.int hi u,.int 1 v] }).objs.size:=by simpa using hb
  subst e
  exact I1.fpOk (zca7 _) (I1.hok.fresh (zca7 _))
def tFor(wi:TI)(g:TG)(tb:TS):TS:=fun D σ H=>wi σ H fun J H1=>∃ W:Nat->Nat->St->Hp->Prop,(∃ m,W 0 m σ H1)/\∀ i m σ H,W i m σ H ->
 (J.stop i H/\D.nx σ H)∨(J.go i H/\∃ N:St->Hp->Prop,(∀ σ' H',N σ' H'->∃ m',m'<m/\W (i+1) m' σ' H')/\∀ x H',J.yld i H x H'->g x σ H' fun σ2 H2=>tb { D with nx:=N,ct:=N,bk:=D.nx } σ2 H2)
def zai7(fp:List Addr)(h:Heap):List (Addr×Obj):=fp.filterMap fun b=>(h.get? b).map fun o=>(b,o)
theorem zq1{fp:List Addr}{h:Heap}{b:Addr}(hb:b∈fp)(e:h.get? b=some o):(b,o)∈zai7 fp h:=List.mem_filterMap.mpr ⟨b,hb,by rw[e];rfl⟩
theorem zbc9{fp:List Addr}{h:Heap}{p:Addr×Obj}(hp:p∈zai7 fp h):p.1∈fp/\h.get? p.1=some p.2:=by
 obtain⟨b,hb,e⟩:=List.mem_filterMap.mp hp
 cases q:h.get? b with
 | none=>rw[q] at e;cases e
 | some o=>
  rw[q] at e
  have e':(b,o)=p:=Option.some.inj e
  subst e'
  exact⟨hb,q⟩
theorem Inv.pinned{fp:List Addr}(I:Inv X pins σ H s)(hf:∀ b∈fp,FpOk X pins H b)(ho:∀ b∈fp,∃ o,s.heap.get? b=some o/\∀ v,o.data≠.cell v):Inv X (pins++zai7 fp s.heap) σ H s:=
 I.pins_of fun p hp=>(zcc1.mp hp).elim (fun z=>I.pin p (zcc6 _ z)) fun z=>by
  obtain⟨hb,e⟩:=zbc9 z
  obtain⟨f0,f1,f2,_⟩:=hf p.1 hb
  obtain⟨o,e',d⟩:=ho p.1 hb
  rw[e] at e';cases e'
  exact⟨e,f0,f1,f2,d⟩
theorem Inv.unpinned{pl:List (Addr×Obj)}(I:Inv X (pins++pl) σ H s):Inv X pins σ H s:=I.pins_of fun p hp=>I.pin p (zcc6 _ (zce6 _ hp))
theorem ps_for{iter:Expr}{body:List Stmt}{wi:TI}{g:TG}{tb:TS}(hp:PassesOwn (model X.prog X.w) X.A X.env X.xe)(hc:X.calm=true)(hi:PI X tg iter wi)(hg:PG X tg g)(hb:PSs X body tb)(hs:∀ x,foldedSetIterable iter X.env x=pure x:=by intro _;rfl):PS X (.For tg iter body [] pos) (tFor wi g tb):=by
 intro pins s σ H D I h
 refine wpAny_For (thn (hi pins s σ H _ I h) fun v s1 h1=>thn h1 fun itv s2 h2=>?_) hs
 obtain⟨it,fp,tn,J,H2,e,I2,T,st2,f2,W,⟨m0,w0⟩,turn⟩:=h2
 subst e
 have stat:∀ {H':Hp},(∀ b∈fp,H' b=none)->∀ b∈fp,FpOk X pins H' b:=fun hn b hb=>⟨hn b hb,(f2 b hb).2⟩
 refine codeAny_forLoop_any (fun n s'=>∃ i σ' H',Inv X pins σ' H' s'/\tn i s'.heap/\(∀ b∈fp,H' b=none)/\W i n σ' H') ?_ m0 ⟨0,σ,H2,I2,st2,fun b hb=>(f2 b hb).1,w0⟩
 rintro n s3 ⟨i,σ3,H3,I3,st3,fr3,w3⟩
 rcases turn i n σ3 H3 w3 with ⟨stop,qn⟩|⟨go,N,hN,step⟩
 ·refine wpAny_passesOwn hp (thn (T.done X rfl rfl rfl hc i pins s3 σ3 H3 X.xe I3 (stat fr3) st3 stop) fun r s4 ⟨hr,I4⟩=>?_)
  subst hr
  exact wpAny_execs_nil ⟨σ3,H3,I4,qn⟩
 ·refine wpAny_passesOwn hp (thn (T.item X rfl rfl rfl hc i pins s3 σ3 H3 X.xe I3 (stat fr3) st3 go) fun r s4 ⟨u,hr,h4⟩=>?_)
  subst hr
  refine wpAny_passesOwn hp (thn h4 fun _ s5 ⟨x,H5,I5,r5,y5,st5,fr5⟩=>?_)
  have I5':=I5.pinned (stat fr5) (T.obj _ _ st5)
  refine wpAny_passesOwn hp (thn (hg _ s5 σ3 H5 x u _ I5' r5 (step x H5 y5)) fun _ s6 ⟨σ6,H6,I6,q6⟩=>?_)
  refine wpAny_passesOwn hp (thn (hb _ s6 σ6 H6 _ I6 q6) fun f s7 q7=>?_)
  have again:∀ {σ7:St}{H7:Hp},Inv X (pins++zai7 fp s5.heap) σ7 H7 s7->N σ7 H7->∃ m,m<n/\∃ i σ' H',Inv X pins σ' H' s7/\tn i s7.heap/\(∀ b∈fp,H' b=none)/\W i m σ' H':=fun {σ7 H7} I7 n7=>by
   obtain⟨m',hm,w7⟩:=hN σ7 H7 n7
   refine⟨m',hm,i+1,σ7,H7,I7.unpinned,T.keep _ _ _ st5 fun b hb o e=>(I7.pin (b,o) (zcc6 _ (zcc6 _ (zq1 hb e)))).1,fun b hb=>?_,w7⟩
   obtain⟨o,e,d⟩:=T.obj _ _ st5 b hb
   exact (I7.pin (b,o) (zcc6 _ (zcc6 _ (zq1 hb e)))).2.1
  cases f with
  | next=>obtain⟨σ7,H7,I7,n7⟩:=q7;exact again I7 n7
  | cont=>obtain⟨σ7,H7,I7,n7⟩:=q7;exact again I7 n7
  | brk=>obtain⟨σ7,H7,I7,q7⟩:=q7;exact⟨σ7,H7,I7.unpinned,q7⟩
  | ret v=>obtain⟨x7,σ7,H7,I7,r7,q7⟩:=q7;exact⟨x7,σ7,H7,I7.unpinned,r7,q7⟩
end
theorem zbh8{K:zby6}{a:Addr}{xs:List V}{g:TG}{tb:TS}{D:Ends}(Pv:Nat->St->Hp->Prop)(h0:Pv 0 σ H)(hl:∀ i σ H,i<=xs.length->Pv i σ H->SqL K H a xs)(hs:∀ i x σ H,xs[i]?=some x->Pv i σ H->g x σ H fun σ2 H2=>tb { D with nx:=Pv (i+1),ct:=Pv (i+1),bk:=D.nx } σ2 H2)(hd:∀ σ H,Pv xs.length σ H->D.nx σ H) :
  ∃ W:Nat->Nat->St->Hp->Prop,(∃ m,W 0 m σ H)/\∀ i m σ H,W i m σ H ->
   ((Itl K a).stop i H/\D.nx σ H)∨((Itl K a).go i H/\∃ N:St->Hp->Prop,(∀ σ' H',N σ' H'->∃ m',m'<m/\W (i+1) m' σ' H')/\∀ x H',(Itl K a).yld i H x H'->g x σ H' fun σ2 H2=>tb { D with nx:=N,ct:=N,bk:=D.nx } σ2 H2):=by
 refine⟨fun i m σ H=>m=xs.length - i/\i<=xs.length/\Pv i σ H,⟨xs.length,by simp,zcg0 _,h0⟩,?_⟩
 rintro i m σ H ⟨rfl,hi,p⟩
 have q:=hl i σ H hi p
 by_cases hlt:i<xs.length
 ·refine .inr ⟨⟨xs,xs[i],q,by simp[hlt]⟩,Pv (i+1),fun σ' H' p'=>⟨xs.length - (i+1),by omega,rfl,hlt,p'⟩,fun x H' y=>?_⟩
  obtain⟨e,y⟩:=y
  subst e
  exact hs i x σ _ (y xs q) p
 ·have e:i=xs.length:=by omega
  subst e
  exact .inl ⟨⟨xs,q,zca7 _⟩,hd σ H p⟩
theorem zbf5{lo:Int}{n:Nat}{g:TG}{tb:TS}{D:Ends}(Pv:Nat->St->Hp->Prop)(h0:Pv 0 σ H)(hs:∀ i σ H,i<n->Pv i σ H->g (.int (lo+i)) σ H fun σ2 H2=>tb { D with nx:=Pv (i+1),ct:=Pv (i+1),bk:=D.nx } σ2 H2)(hd:∀ σ H,Pv n σ H->D.nx σ H) :
  ∃ W:Nat->Nat->St->Hp->Prop,(∃ m,W 0 m σ H)/\∀ i m σ H,W i m σ H ->
   ((Itr lo n).stop i H/\D.nx σ H)∨((Itr lo n).go i H/\∃ N:St->Hp->Prop,(∀ σ' H',N σ' H'->∃ m',m'<m/\W (i+1) m' σ' H')/\∀ x H',(Itr lo n).yld i H x H'->g x σ H' fun σ2 H2=>tb { D with nx:=N,ct:=N,bk:=D.nx } σ2 H2):=by
 refine⟨fun i m σ H=>m=n - i/\i<=n/\Pv i σ H,⟨n,by simp,zcg0 _,h0⟩,?_⟩
 rintro i m σ H ⟨rfl,hi,p⟩
 by_cases hlt:i<n
 ·refine .inr ⟨hlt,Pv (i+1),fun σ' H' p'=>⟨n - (i+1),by omega,rfl,hlt,p'⟩,fun x H' y=>?_⟩
  obtain⟨e,y⟩:=y
  subst e y
  exact hs i σ _ hlt p
 ·have e:i=n:=by omega
  subst e
  exact .inl ⟨zca7 _,hd σ H p⟩
abbrev R2:=V->V->Hp->VK->Prop
def OpR(X:Cx)(f:Value->Value->Sem Value)(r:R2):Prop:=
 ∀ (pins:List (Addr×Obj)) (s:Shared) (σ:St) (H:Hp) (x y:V) (v u:Value) (Q:VK),Inv X pins σ H s->RelV x v->RelV y u->r x y H Q ->
  wpAny (model X.prog X.w) X.A (f v u) (EP X pins σ Q) X.xe s
def UnR(X:Cx)(f:Value->Sem Value)(r:V->Hp->VK->Prop):Prop:=
 ∀ (pins:List (Addr×Obj)) (s:Shared) (σ:St) (H:Hp) (x:V) (v:Value) (Q:VK),Inv X pins σ H s->RelV x v->r x H Q ->
  wpAny (model X.prog X.w) X.A (f v) (EP X pins σ Q) X.xe s
def zj2(X:Cx)(f:Value)(r:List V->Hp->VK->Prop):Prop:=
 ∀ (pins:List (Addr×Obj)) (s:Shared) (σ:St) (H:Hp) (xs:List V) (us:List Value) (Q:VK),Inv X pins σ H s->Vals xs us->r xs H Q ->
  wpAny (model X.prog X.w) X.A (call f us) (EP X pins σ Q) X.xe s
def TruR(X:Cx)(r:V->Hp->(Bool->Hp->Prop)->Prop):Prop:=
 ∀ (pins:List (Addr×Obj)) (s:Shared) (σ:St) (H:Hp) (x:V) (v:Value) (Q:Bool->Hp->Prop),Inv X pins σ H s->RelV x v->r x H Q ->
  wpAny (model X.prog X.w) X.A (truthy v) (TP X pins σ Q) X.xe s
def tOp(r:R2)(ta tb:TE):TE:=fun σ H Q=>ta σ H fun x H1=>tb σ H1 fun y H2=>r x y H2 Q
def tUn(r:V->Hp->VK->Prop)(ta:TE):TE:=fun σ H Q=>ta σ H fun x H1=>r x H1 Q
def rI(C:Int->Int->Prop)(g:Int->Int->V):R2:=fun x y H Q=>∃ i j,x=.int i/\y=.int j/\C i j/\Q (g i j) H
def rI0(g:Int->Int->V):R2:=fun x y H Q=>∃ i j,x=.int i/\y=.int j/\Q (g i j) H
def rU(g:Int->V):V->Hp->VK->Prop:=fun x H Q=>∃ i,x=.int i/\Q (g i) H
section
variable {X:Cx}{a b c:Expr}{ta tb tc:TE}{pos:Pos}
theorem binT(ha:PE X a ta)(hb:PE X b tb){R:V->V->Hp->Prop}(I:Inv X pins σ H s)(h:ta σ H fun x H1=>tb σ H1 fun y H2=>R x y H2){Q:Value->Shared->Prop}{f:Value->Value->Sem Value}(hf:∀ v u s2 x y H2,Inv X pins σ H2 s2->RelV x v->RelV y u->R x y H2->wpAny (model X.prog X.w) X.A (f v u) Q X.xe s2) :
  wpAny (model X.prog X.w) X.A (eval a X.env) (fun v s₁=>wpAny (model X.prog X.w) X.A (eval b X.env) (fun u s₂=>wpAny (model X.prog X.w) X.A (f v u) Q X.xe s₂) X.xe s₁) X.xe s:=by
 refine thn (ha pins s σ H _ I h) fun v s1 ⟨x,H1,I1,r1,q1⟩=>?_
 refine thn (hb pins s1 σ H1 _ I1 q1) fun u s2 ⟨y,H2,I2,r2,q2⟩=>?_
 exact hf v u s2 x y H2 I2 r1 r2 q2
theorem zc8{op:Operator}{r:R2}(ho:OpR X (binaryOp op) r)(ha:PE X a ta)(hb:PE X b tb):PE X (.BinOp a op b pos) (tOp r ta tb):=by
 intro pins s σ H Q I h
 exact wpAny_BinOp (binT ha hb I h fun v u s2 x y H2 I2 rx ry q=>ho pins s2 σ H2 x y v u Q I2 rx ry q)
theorem zaw0{op:UnaryOp}{r:V->Hp->VK->Prop}(ho:UnR X (unaryOp op) r)(ha:PE X a ta):PE X (.UnaryOp op a pos) (tUn r ta):=by
 intro pins s σ H Q I h
 exact UnaryOp_ (thn (ha pins s σ H _ I h) fun v s1 ⟨x,H1,I1,r1,q1⟩=>ho pins s1 σ H1 x v Q I1 r1 q1)
theorem opI{f:Value->Value->Sem Value}{C:Int->Int->Prop}{g:Int->Int->Int}(rule:∀ (i j:Int) (t u:Tok) (s:Shared) (Q:Value->Shared->Prop) (E:Value->Shared->Prop),C i j->Q (.int (g i j) s.toks) { s with toks:=s.toks+1 }->wpAny (model X.prog X.w) X.A (f (.int i t) (.int j u)) Q E s) :
  OpR X f (rI C fun i j=>.int (g i j)):=by
 intro pins s σ H x y v u Q I rx ry h
 obtain⟨i,j,rfl,rfl,hc,q⟩:=h
 obtain⟨t,rfl⟩:=rx
 obtain⟨t',rfl⟩:=ry
 exact rule i j t t' s _ _ hc ⟨.int (g i j),H,I.tok _,⟨_,rfl⟩,q⟩
theorem opI0{f:Value->Value->Sem Value}{g:Int->Int->Int}(rule:∀ (i j:Int) (t u:Tok) (s:Shared) (Q:Value->Shared->Prop) (E:Value->Shared->Prop),Q (.int (g i j) s.toks) { s with toks:=s.toks+1 }->wpAny (model X.prog X.w) X.A (f (.int i t) (.int j u)) Q E s) :
  OpR X f (rI0 fun i j=>.int (g i j)):=by
 intro pins s σ H x y v u Q I rx ry h
 obtain⟨i,j,rfl,rfl,q⟩:=h
 obtain⟨t,rfl⟩:=rx
 obtain⟨t',rfl⟩:=ry
 exact rule i j t t' s _ _ ⟨.int (g i j),H,I.tok _,⟨_,rfl⟩,q⟩
theorem opB0{f:Value->Value->Sem Value}{g:Int->Int->Bool}(rule:∀ (i j:Int) (t u:Tok) (s:Shared) (Q:Value->Shared->Prop) (E:Value->Shared->Prop),Q (.bool (g i j)) s->wpAny (model X.prog X.w) X.A (f (.int i t) (.int j u)) Q E s) :
  OpR X f (rI0 fun i j=>.bl (g i j)):=by
 intro pins s σ H x y v u Q I rx ry h
 obtain⟨i,j,rfl,rfl,q⟩:=h
 obtain⟨t,rfl⟩:=rx
 obtain⟨t',rfl⟩:=ry
 exact rule i j t t' s _ _ ⟨.bl (g i j),H,I,rfl,q⟩
def CPow(i j:Int):Prop:=0<=j/\j<=1000000/\i.natAbs<2 ^ 64
def CMul(i j:Int):Prop:=(-(2 ^ 64)<i/\i<2 ^ 64)∨(-(2 ^ 64)<j/\j<2 ^ 64)
theorem CMul.ok{i j:Int}(h:CMul i j):IntMulOk i j:=by
 rcases h with ⟨h1,h2⟩|⟨h1,h2⟩
 ·exact .of_left (intBits_le_64 h1 h2)
 ·exact .of_right (intBits_le_64 h1 h2)
theorem op_add:OpR X (binaryOp .Add) (rI0 fun i j=>.int (i+j)):=opI0 fun _ _ _ _ _ _ _ q=>add_int q
theorem op_sub:OpR X (binaryOp .Sub) (rI0 fun i j=>.int (i - j)):=opI0 fun _ _ _ _ _ _ _ q=>sub_int q
theorem zbp0:OpR X (binaryOp .Mod) (rI (fun _ j=>j≠0) fun i j=>.int (i.fmod j)):=opI fun _ _ _ _ _ _ _ hc q=>mod_int' hc q
theorem op_pow:OpR X (binaryOp .Pow) (rI CPow fun i j=>.int (i ^ j.toNat)):=opI fun _ _ _ _ _ _ _ hc q=>pow_int_small hc.1 hc.2.1 hc.2.2 q
theorem unI{f:Value->Sem Value}{g:Int->Int}(rule:∀ (i:Int) (t:Tok) (s:Shared) (Q:Value->Shared->Prop) (E:Value->Shared->Prop),Q (.int (g i) s.toks) { s with toks:=s.toks+1 }->wpAny (model X.prog X.w) X.A (f (.int i t)) Q E s) :
  UnR X f (rU fun i=>.int (g i)):=by
 intro pins s σ H x v Q I rx h
 obtain⟨i,rfl,q⟩:=h
 obtain⟨t,rfl⟩:=rx
 exact rule i t s _ _ ⟨.int (g i),H,I.tok _,⟨_,rfl⟩,q⟩
theorem un_neg:UnR X (unaryOp .USub) (rU fun i=>.int (-i)):=unI fun _ _ _ _ _ q=>neg_int q
end
def scal:V->V->Bool
 | .non,.non=>true | .non,.int _=>true | .int _,.non=>true | .non,.bl _=>true | .bl _,.non=>true | .non,.str _=>true | .str _,.non=>true
 | .int _,.int _=>true | .bl _,.bl _=>true | .str _,.str _=>true | .byt _,.byt _=>true
 | .int _,.str _=>true | .str _,.int _=>true | .bl _,.str _=>true | .str _,.bl _=>true
 | _,_=>false
def rEq:R2:=fun x y H Q=>scal x y=true/\Q (.bl (decide (x=y))) H
def rNe:R2:=fun x y H Q=>scal x y=true/\Q (.bl (!decide (x=y))) H
theorem zbe1{i j:Int}:decide (V.int i=V.int j)=(i==j):=by
 rw[zcg1]
 simp
theorem zbk7{i j:Bool}:decide (V.bl i=V.bl j)=(i==j):=by
 rw[zcg1]
 simp
theorem zbg8{i j:Str}:decide (V.str i=V.str j)=(i==j):=by
 rw[zcg1]
 simp
theorem zbd2{i j:Array UInt8}:decide (V.byt i=V.byt j)=(i.toList==j.toList):=by
 rw[zcg1]
 cases i
 cases j
 simp
section
variable {X:Cx}{a b c:Expr}{ta tb tc:TE}{pos:Pos}
theorem zd5{Q:VK}{k k':Bool}(I:Inv X pins σ H s)(q:Q (.bl k) H)(e:k=k'):EP X pins σ Q (.bool k') s:=by
 subst e
 exact⟨.bl k,H,I,rfl,q⟩
theorem zao4:OpR X (compareOp .Eq) rEq:=by
 intro pins s σ H x y v u Q I rx ry h
 obtain⟨hs,q⟩:=h
 cases x with
 | non=>
  cases rx
  cases y with
  | non=>cases ry;exact PySem.EqNone.eq_none_none (zd5 I q (by simp))
  | bl j=>cases ry;exact PySem.EqNone.eq_none_bool (zd5 I q (by simp))
  | int j=>obtain⟨t',rfl⟩:=ry;exact PySem.EqNone.eq_none_int (zd5 I q (by simp))
  | str j=>obtain⟨t',rfl⟩:=ry;exact PySem.EqNone.eq_none_str (zd5 I q (by simp))
  | _=>exact absurd (show false=true from hs) zbz3
 | bl i=>
  cases rx
  cases y with
  | non=>cases ry;exact PySem.EqNone.eq_bool_none (zd5 I q (by simp))
  | bl j=>cases ry;exact eq_bool (zd5 I q zbk7)
  | str j=>obtain⟨t',rfl⟩:=ry;exact PySem.EqMixed.eq_bool_str (zd5 I q (by simp))
  | _=>exact absurd (show false=true from hs) zbz3
 | int i=>
  obtain⟨t,rfl⟩:=rx
  cases y with
  | non=>cases ry;exact PySem.EqNone.eq_int_none (zd5 I q (by simp))
  | int j=>obtain⟨t',rfl⟩:=ry;exact eq_int (zd5 I q zbe1)
  | str j=>obtain⟨t',rfl⟩:=ry;exact PySem.EqMixed.eq_int_str (zd5 I q (by simp))
  | _=>exact absurd (show false=true from hs) zbz3
 | str i=>
  obtain⟨t,rfl⟩:=rx
  cases y with
  | non=>cases ry;exact PySem.EqNone.eq_str_none (zd5 I q (by simp))
  | bl j=>cases ry;exact PySem.EqMixed.eq_str_bool (zd5 I q (by simp))
  | int j=>obtain⟨t',rfl⟩:=ry;exact PySem.EqMixed.eq_str_int (zd5 I q (by simp))
  | str j=>obtain⟨t',rfl⟩:=ry;exact eq_str (zd5 I q zbg8)
  | _=>exact absurd (show false=true from hs) zbz3
 | byt i=>
  obtain⟨t,rfl⟩:=rx
  cases y with
  | byt j=>obtain⟨t',rfl⟩:=ry;exact PySem.W.eq_bytes (zd5 I q zbd2)
  | _=>exact absurd (show false=true from hs) zbz3
 | _=>cases y<;>exact absurd (show false=true from hs) zbz3
theorem zar1:OpR X (compareOp .NotEq) rNe:=by
 intro pins s σ H x y v u Q I rx ry h
 obtain⟨hs,q⟩:=h
 cases x with
 | non=>
  cases rx
  cases y with
  | non=>cases ry;exact PySem.EqNone.ne_none_none (zd5 I q (by simp))
  | bl j=>cases ry;exact PySem.EqNone.ne_none_bool (zd5 I q (by simp))
  | int j=>obtain⟨t',rfl⟩:=ry;exact PySem.EqNone.ne_none_int (zd5 I q (by simp))
  | str j=>obtain⟨t',rfl⟩:=ry;exact PySem.EqNone.ne_none_str (zd5 I q (by simp))
  | _=>exact absurd (show false=true from hs) zbz3
 | bl i=>
  cases rx
  cases y with
  | non=>cases ry;exact PySem.EqNone.ne_bool_none (zd5 I q (by simp))
  | bl j=>cases ry;exact ne_bool (zd5 I q (congrArg not zbk7))
  | str j=>obtain⟨t',rfl⟩:=ry;exact PySem.EqMixed.ne_bool_str (zd5 I q (by simp))
  | _=>exact absurd (show false=true from hs) zbz3
 | int i=>
  obtain⟨t,rfl⟩:=rx
  cases y with
  | non=>cases ry;exact PySem.EqNone.ne_int_none (zd5 I q (by simp))
  | int j=>obtain⟨t',rfl⟩:=ry;exact ne_int (zd5 I q (congrArg not zbe1))
  | str j=>obtain⟨t',rfl⟩:=ry;exact PySem.EqMixed.ne_int_str (zd5 I q (by simp))
  | _=>exact absurd (show false=true from hs) zbz3
 | str i=>
  obtain⟨t,rfl⟩:=rx
  cases y with
  | non=>cases ry;exact PySem.EqNone.ne_str_none (zd5 I q (by simp))
  | bl j=>cases ry;exact PySem.EqMixed.ne_str_bool (zd5 I q (by simp))
  | int j=>obtain⟨t',rfl⟩:=ry;exact PySem.EqMixed.ne_str_int (zd5 I q (by simp))
  | str j=>obtain⟨t',rfl⟩:=ry;exact ne_str (zd5 I q (congrArg not zbg8))
  | _=>exact absurd (show false=true from hs) zbz3
 | byt i=>
  obtain⟨t,rfl⟩:=rx
  cases y with
  | byt j=>obtain⟨t',rfl⟩:=ry;exact PySem.W.ne_bytes (zd5 I q (congrArg not zbd2))
  | _=>exact absurd (show false=true from hs) zbz3
 | _=>cases y<;>exact absurd (show false=true from hs) zbz3
theorem op_lt:OpR X (compareOp .Lt) (rI0 fun i j=>.bl (decide (i<j))):=opB0 fun _ _ _ _ _ _ _ q=>lt_int q
theorem op_le:OpR X (compareOp .LtE) (rI0 fun i j=>.bl (decide (i<=j))):=opB0 fun _ _ _ _ _ _ _ q=>le_int q
theorem op_gt:OpR X (compareOp .Gt) (rI0 fun i j=>.bl (decide (j<i))):=opB0 fun _ _ _ _ _ _ _ q=>gt_int q
theorem op_ge:OpR X (compareOp .GtE) (rI0 fun i j=>.bl (decide (j<=i))):=opB0 fun _ _ _ _ _ _ _ q=>ge_int q
theorem zbm5:OpR X (compareOp .Is) (fun x y H Q=>y=.non/\Q (.bl (decide (x=.non))) H):=by
 intro pins s σ H x y v u Q I rx ry h
 obtain⟨rfl,q⟩:=h
 cases ry
 refine is_none_gen (zd5 I q ?_)
 cases x<;>first
  | (cases rx;rfl)
  | (obtain⟨t,rfl⟩:=rx;rfl)
theorem OpR.or{f:Value->Value->Sem Value}{r r':R2}(h:OpR X f r)(h':OpR X f r'):OpR X f (fun x y H Q=>r x y H Q∨r' x y H Q):=by
 intro pins s σ H x y v u Q I rx ry q
 rcases q with q|q
 ·exact h pins s σ H x y v u Q I rx ry q
 ·exact h' pins s σ H x y v u Q I rx ry q
theorem zbm1(b:Expr){op:CmpOp}(h:op≠.In:=by decide)(h2:op≠.NotIn:=by decide):behindInMarks op b=false:=by
 have e1:(op==CmpOp.In)=false:=by cases op<;>first|rfl|exact absurd rfl h
 have e2:(op==CmpOp.NotIn)=false:=by cases op<;>first|rfl|exact absurd rfl h2
 cases b<;>simp[behindInMarks,e1,e2]
theorem zbo0{op:CmpOp}{r:R2}(ho:OpR X (compareOp op) r)(ha:PE X a ta)(hb:PE X b tb)(hm:behindInMarks op b=false):PE X (.Compare a [op] [b] pos) (tOp r ta tb):=by
 intro pins s σ H Q I h
 exact wpAny_Compare1 (binT ha hb I h fun v u s2 x y H2 I2 rx ry q=>ho pins s2 σ H2 x y v u Q I2 rx ry q) hm
def TruV(K:zby6)(x:V)(H:Hp)(k:Bool):Prop:=
 match x with
 | .non=>k=false
 | .bl b=>k=b
 | .int i=>k=(i != 0)
 | .str y=>y.length<=sizeLine/\k=((y.length:Int) != 0)
 | .byt y=>y.size<=sizeLine/\k=((y.size:Int) != 0)
 | .ref p=>(∃ xs,SqL K H p xs/\k=!xs.isEmpty)∨(∃ xs,SqT K H p xs/\k=!xs.isEmpty)∨∃ kvs,H p=some (.dK kvs)/\k=!kvs.isEmpty
 | _=>False
theorem zba3{κ:Type}{kvs:List (κ×V)}{vs:List (κ×Value)}(r:KV kvs vs):(!vs.isEmpty)=!kvs.isEmpty:=by
 cases r<;>rfl
theorem zad0{xs:List V}{its:List Value}(r:Vals xs its):(!its.toArray.isEmpty)=!xs.isEmpty:=by
 cases r<;>simp
theorem zz3:(sizeLine:Nat)<2 ^ 63:=by rw[zci0];decide
theorem zba7:TruR X (fun x H Q=>∃ k,TruV X.K x H k/\Q k H):=by
 intro pins s σ H x v Q I rx h
 obtain⟨k,e,q⟩:=h
 have hl:=zz3
 have hs:sizeLine=16777216:=zci0
 cases x with
 | non=>
  cases rx
  have e':k=false:=e
  subst e'
  exact truthy_none ⟨H,I,q⟩
 | bl b=>
  cases rx
  have e':k=b:=e
  subst e'
  exact wpAny_truthy_bool ⟨H,I,q⟩
 | int i=>
  obtain⟨t,rfl⟩:=rx
  have e':k=(i != 0):=e
  subst e'
  exact PySem.P.truthy_int ⟨H,I,q⟩
 | str y=>
  obtain⟨t,rfl⟩:=rx
  obtain⟨hy,e'⟩:y.length<=sizeLine/\k=((y.length:Int) != 0):=e
  subst e'
  exact PySem.P.truthy_str (by omega) ⟨H,I.tok _,q⟩
 | byt y=>
  obtain⟨t,rfl⟩:=rx
  obtain⟨hy,e'⟩:y.size<=sizeLine/\k=((y.size:Int) != 0):=e
  subst e'
  exact PySem.W.truthy_bytes (by omega) ⟨H,I.tok _,q⟩
 | ref p=>
  cases rx
  have e':(∃ xs,SqL X.K H p xs/\k=!xs.isEmpty)∨(∃ xs,SqT X.K H p xs/\k=!xs.isEmpty)∨∃ kvs,H p=some (.dK kvs)/\k=!kvs.isEmpty:=e
  rcases e' with ⟨xs,hx,e'⟩|⟨xs,hx,e'⟩|⟨kvs,hx,e'⟩
  ·subst e'
   obtain⟨its,r,pl,hz⟩:=I.list hx
   have hlen:=r.length
   exact wpAny_truthy_list pl.isList (by simp only[zbz6];omega) ⟨H,I.tok _,by rw[zad0 r];exact q⟩
  ·subst e'
   obtain⟨its,r,pl,hz⟩:=I.tuple hx
   have hlen:=r.length
   exact truthy_tuple pl (by simp only[zbz6];omega) ⟨H,I.tok _,by rw[zad0 r];exact q⟩
  ·subst e'
   obtain⟨hz,hS,vs,r,m⟩:kvs.length<=sizeLine/\(p==sysModules)=false/\∃ vs,KV kvs vs/\s.heap.DictOf (zk8 X.prog X.w) p vs:=I.hok p _ hx
   have hlen:kvs.length=vs.length:=Paired.length r
   exact wpAny_truthy_dict hS m (by omega) ⟨H,I.tok _,by rw[zba3 r];exact q⟩
 | _=>exact (show False from e).elim
theorem zaw2:OpR X (binaryOp .Add) (fun x y H Q=>∃ i j,x=.str i/\y=.str j/\i.length+j.length<=sizeLine/\Q (.str (i++j)) H):=by
 intro pins s σ H x y v u Q I rx ry h
 obtain⟨i,j,rfl,rfl,hz,q⟩:=h
 obtain⟨t,rfl⟩:=rx
 obtain⟨t',rfl⟩:=ry
 exact add_str (fun t' tk=>⟨.str (i++j),H,I.tok _,⟨_,rfl⟩,q⟩) hz
theorem zy3{x:V}(r:Vals [x] us):∃ u,us=[u]/\RelV x u:=by
 cases r with
 | cons r1 r2=>cases r2;exact⟨_,rfl,r1⟩
theorem vals2{x y:V}(r:Vals [x,y] us):∃ u w',us=[u,w']/\RelV x u/\RelV y w':=by
 cases r with
 | cons r1 r2=>
  cases r2 with
  | cons r3 r4=>cases r4;exact⟨_,_,rfl,r1,r3⟩
theorem zaj9:zj2 X (.type "int") (fun xs H Q=>(∃ i,xs=[.int i]/\Q (.int i) H)∨∃ k,xs=[.bl k]/\Q (.int (if k then 1 else 0)) H):=by
 intro pins s σ H xs us Q I r h
 rcases h with ⟨i,rfl,q⟩|⟨k,rfl,q⟩
 ·obtain⟨u,rfl,t,rfl⟩:=zy3 r
  exact call_int_int ⟨.int i,H,I,⟨_,rfl⟩,q⟩
 ·obtain⟨u,rfl,r1⟩:=zy3 r
  cases r1
  exact call_int_bool ⟨.int (if k then 1 else 0),H,I.tok _,⟨_,rfl⟩,q⟩
end
structure ObjM(h:Heap)(x dx C:Addr)(mA:Str->Option Value):Prop where
 obj:h.get? x=some (PySem.W.instObj C dx)
 ns:h.Ns1 dx mA
 ne:dx≠x
theorem zah5{h:Heap}{dx:Addr}{mA:Str->Option Value}(n:h.Ns1 dx mA):∃ od,h.get? dx=some od/\∀ name,PySem.W.lookIn name od=some (mA name):=by
 obtain⟨o,es,ep,ho,hd,hk,_,hm⟩:=n
 refine⟨o,ho,fun name=>?_⟩
 have e:=hm name
 unfold nsFind findBy at e
 rw[← Array.find?_toList] at e
 unfold PySem.W.lookIn
 rw[hd]
 dsimp only
 split
 ·rename_i y q
  rw[q] at e
  exact congrArg some e
 ·rename_i q
  rw[q] at e
  have a:es.toList.any (·.refKey)=false:=by
   rw[List.any_eq_false]
   intro y hy
   obtain⟨z,t,hkey⟩:=hk y (zch1.mp hy)
   simp[DictEntry.refKey,hkey]
  have a':¬ es.toList.any (·.refKey)=true:=by rw[a];exact zbz3
  rw[if_neg a']
  exact congrArg some e
theorem ObjM.look{h:Heap}{x dx:Addr}{mA:Str->Option Value}(I:ObjM h x dx C mA):∃ od,PySem.W.InstAt h x (PySem.W.instObj C dx) C (some od)/\∀ name,PySem.W.lookIn name od=some (mA name):=
 let ⟨od,ho,hl⟩:=zah5 I.ns
 ⟨od,⟨I.obj,rfl,rfl,ho⟩,hl⟩
section
variable {prog:Program}{w:World}{A:Around}{E:Value->Shared->Prop}{s:Shared}{K:zby6}{x dx C f:Addr}{mA:Str->Option Value}{name:Str}{v:Value}
end
theorem RelO.some_of{v:V}{o:Option Value}(r:RelO (some v) o):∃ u,o=some u/\RelV v u:=by
 cases o with
 | none=>exact (show False from r).elim
 | some u=>exact⟨u,rfl,r⟩
theorem zba6{v:V}(r:RelV v u):PySem.W.handedIn u=true:=by
 cases v with
 | non=>cases (show u=Value.none from r);rfl
 | bl b=>cases (show u=Value.bool b from r);rfl
 | int i=>obtain⟨t,e⟩:=(show ∃ t,u=Value.int i t from r);cases e;rfl
 | str x=>obtain⟨t,e⟩:=(show ∃ t,u=Value.str x t from r);cases e;rfl
 | byt b=>obtain⟨t,e⟩:=(show ∃ t,u=Value.bytes b t from r);cases e;rfl
 | flt b=>obtain⟨t,e⟩:=(show ∃ t,u=Value.float b t from r);cases e;rfl
 | ref a=>cases (show u=Value.ref a from r);rfl
 | ty n=>cases (show u=Value.type n from r);rfl
section
variable {P:Program}{w:World}{H H':Hp}{h h':Heap}{a C dx:Addr}{fs fs':List (Str×V)}
theorem zbr1(hok:HOk P w H h)(e:H a=some (.ins C dx fs)):∃ mA,ObjM h a dx C mA/\(∀ f,RelO (fs.lookup f) (mA f))/\PySem.Within mA (fs.map (·.1))/\fs.length<=1000/\H dx=some (.own a):=by
 obtain⟨d,z,ne,ob,mA,n,r,q⟩:=(show zf7 P w H h a (.ins C dx fs) from hok a _ e)
 exact⟨mA,⟨ob,n,ne⟩,r,q,z,d⟩
end
structure Cls(K:zby6)(C:Addr):Prop where
 pg:PySem.W.plainGet K C Str.empty=true
 hd:zcf2 K C=true
 po:PySem.W.plainOver K C=true
 sa:zcb2 K (.ref C) "__setattr__"=some (some (.builtin "object.__setattr__"))
theorem Cls.get{K:zby6}(c:Cls K C)(f:Str):PySem.W.plainGet K C f=true:=c.pg
section
variable {X:Cx}{pins:List (Addr×Obj)}{σ:St}{H:Hp}{s:Shared}{a C dx:Addr}{fs:List (Str×V)}{f:Str}{v:V}{A:Around}{E:Value->Shared->Prop}
theorem zbq1{prog:Program}{w:World}{env:Env}{f:Str}{Q:Value->Shared->Prop}(hb:attributeBase e f env (eval e env)=eval e env)(h:wpAny (model prog w) A (eval e env) (fun o s₁=>wpAny (model prog w) A (getAttr o f true) Q E s₁) E s):wpAny (model prog w) A (eval (.Attribute e f pos) env) Q E s:=
 Attribute_any_ h (by rw[arm_eval_Attribute,hb])
end
section
variable {X:Cx}{pins:List (Addr×Obj)}{σ:St}{H:Hp}{s:Shared}{A:Around}{E:Value->Shared->Prop}{Q:Value->Shared->Prop}{c:Value}{b:Bool}
inductive TyOf(K:zby6)(H:Hp):V->Value->Prop where
 | non:TyOf K H .non (.type "NoneType")
 | bl (x:Bool):TyOf K H (.bl x) (.type "bool")
 | int (i:Int):TyOf K H (.int i) (.type "int")
 | str (x:Str):TyOf K H (.str x) (.type "str")
 | flt (x:UInt64):TyOf K H (.flt x) (.type "float")
 | lst {a:Addr}{xs:List V}(e:H a=some (.lst xs)):TyOf K H (.ref a) (.type "list")
 | frz {a:Addr}{o:Obj}{xs:List V}(e:H a=some (.frz o (.lst xs))):TyOf K H (.ref a) (.type "list")
 | tup {a:Addr}{xs:List V}(e:H a=some (.tup xs)):TyOf K H (.ref a) (.type "tuple")
 | dK {a:Addr}{kvs:List (Key×V)}(e:H a=some (.dK kvs)):TyOf K H (.ref a) (.type "dict")
 | dT {a:Addr}{kvs:List (List Key×V)}(e:H a=some (.dT kvs)):TyOf K H (.ref a) (.type "dict")
 | ins {a C dx:Addr}{fs:List (Str×V)}(e:H a=some (.ins C dx fs)) (cl:Cls K C) (ha:zcb2 K (.ref C) "__class__"=some (some (.builtin "object.__class__")))
   (hn:PySem.W.specialIn K (.builtin "object.__class__") "__get__"=some (some (.builtin "getset_descriptor.__get__"))) (htk:PySem.W.takesIn K (.builtin "object.__class__")=some true)
   (hm:PySem.W.mroIn K C (.type "object")=some true):TyOf K H (.ref a) (.ref C)
theorem zbg3{x:V}{t:Value}(I:Inv X pins σ H s)(rx:RelV x u)(ty:TyOf X.K H x t)(e:zbz0 X.K t c=some b)(h:∀ tk,Q (.bool b) { s with toks:=tk }) :
  wpAny (model X.prog X.w) A (call (.builtin "isinstance") [u,c]) Q E s:=by
 cases ty with
 | non=>cases (show u=Value.none from rx);exact zcd7 PySem.W.kitx_none I.kIn True.intro e (fun z=>nomatch z) h
 | bl y=>cases (show u=Value.bool y from rx);exact zcd7 PySem.W.kitx_bool I.kIn True.intro e (fun z=>nomatch z) h
 | int i=>obtain⟨t,q⟩:=(show ∃ t,u=Value.int i t from rx);cases q;exact zcd7 PySem.W.kitx_int I.kIn True.intro e (fun z=>nomatch z) h
 | str y=>obtain⟨t,q⟩:=(show ∃ t,u=Value.str y t from rx);cases q;exact zcd7 PySem.W.kitx_str I.kIn True.intro e (fun z=>nomatch z) h
 | flt y=>obtain⟨t,q⟩:=(show ∃ t,u=Value.float y t from rx);cases q;exact zcd7 PySem.W.kitx_float I.kIn True.intro e (fun z=>nomatch z) h
 | @lst a xs ea=>
  cases (show u=Value.ref a from rx)
  obtain⟨_,_,n,_,h1⟩:=(show zf7 X.prog X.w H s.heap a (.lst xs) from I.hok a _ ea)
  exact zcd7 PySem.W.kitx_list I.kIn ⟨_,h1,rfl⟩ e (fun z=>nomatch z) h
 | @frz a ob xs ea=>
  cases (show u=Value.ref a from rx)
  obtain⟨_,_,_,n,_,h1⟩:=(show zf7 X.prog X.w H s.heap a (.frz ob (.lst xs)) from I.hok a _ ea)
  exact zcd7 PySem.W.kitx_list I.kIn ⟨_,h1,rfl⟩ e (fun z=>nomatch z) h
 | @tup a xs ea=>
  cases (show u=Value.ref a from rx)
  obtain⟨_,_,_,p⟩:=(show zf7 X.prog X.w H s.heap a (.tup xs) from I.hok a _ ea)
  obtain⟨o,h1,h2,_⟩:=p
  exact zcd7 PySem.W.kitx_tuple I.kIn ⟨o,h1,h2⟩ e (fun z=>nomatch z) h
 | @dK a kvs ea=>
  cases (show u=Value.ref a from rx)
  obtain⟨_,_,vs,_,p⟩:=(show zf7 X.prog X.w H s.heap a (.dK kvs) from I.hok a _ ea)
  obtain⟨o,es,ep,h1,h2,_⟩:=p
  exact zcd7 PySem.W.kitx_dict I.kIn ⟨o,h1,h2.1⟩ e (fun z=>nomatch z) h
 | @dT a kvs ea=>
  cases (show u=Value.ref a from rx)
  obtain⟨_,_,xs,_,o,es,ep,h1,h2,_⟩:=(show zf7 X.prog X.w H s.heap a (.dT kvs) from I.hok a _ ea)
  exact zcd7 PySem.W.kitx_dict I.kIn ⟨o,h1,h2.1⟩ e (fun z=>nomatch z) h
 | @ins a C dx fs ea cl ha hn htk hm=>
  cases (show u=Value.ref a from rx)
  obtain⟨mA,O,_⟩:=zbr1 I.hok ea
  obtain⟨od,J,_⟩:=O.look
  exact zcd7 (PySem.W.kitx_own (cl.get _) cl.hd ha hn htk hm) I.kIn J e (fun z=>nomatch z) h
end
structure Room(k:Nat)(A:Around):Prop where
 hd:A.handled=none
 dp:A.depth+3*k+5<recursionLimit
 un:A.units+16*k+200<cLine
 gd:A.guards=some []
theorem Room.mono{j k:Nat}{A:Around}(r:Room k A)(h:j<=k):Room j A:=⟨r.hd,by have:=r.dp;omega,by have:=r.un;omega,r.gd⟩
theorem Room.deeper{k:Nat}{A:Around}(r:Room (k+1) A)(env:Env):Room k (A.deeper env):=
 ⟨r.hd,by have:=r.dp;show A.depth+1+3*k+5<_;omega,by have:=r.un;show A.units+3+16*k+200<_;omega,r.gd⟩
theorem zac5{A:Around}{kw:List (Str×Value)}:(A.under (.builtin "type.__call__" ⟨.ref C :: us,kw⟩)).depth=A.depth+1:=by
 first|rfl|simp[Around.under,Code.weight,Code.isCreation,Code.isGuard,Code.isCaller,Code.frames,Code.isFrame,guardIds]
theorem zaz5{A:Around}{kw:List (Str×Value)}:(A.under (.builtin "type.__call__" ⟨.ref C :: us,kw⟩)).units=A.units+1:=by
 first|rfl|simp[Around.under,Code.cUnits,Code.frames,Code.isFrame]
theorem zap5{A:Around}{kw:List (Str×Value)}:(A.under (.builtin "type.__call__" ⟨.ref C :: us,kw⟩)).guards=A.guards:=by
 first|rfl|(cases A;simp[Around.under,pushGuards,Code.guards,Code.isGuard,guardIds])
theorem Room.make{k:Nat}{A:Around}(r:Room (k+1) A)(C:Addr)(us:List Value)(kw:List (Str×Value)):Room k (A.under (.builtin "type.__call__" ⟨.ref C :: us,kw⟩)):=
 ⟨r.hd,by have:=r.dp;rw[zac5];omega,by have:=r.un;rw[zaz5];omega,zap5.trans r.gd⟩
theorem Room.depth{k:Nat}{A:Around}(r:Room k A):A.depth<recursionLimit:=by have:=r.dp;omega
theorem Room.units{k:Nat}{A:Around}(r:Room k A):A.units+64<cLine:=by have:=r.un;omega
def tNil:TA:=fun _ H Q=>Q [] H
def tCons(ta:TE)(tr:TA):TA:=fun σ H Q=>ta σ H fun x H1=>tr σ H1 fun xs H2=>Q (x :: xs) H2
section
variable {X:Cx}{e:Expr}{es:List Expr}{te:TE}{t:TA}{pos:Pos}
theorem za1:PA X [] tNil:=fun _ _ _ _ H Q I h=>Calls.spliced_nil ⟨[],H,I,.nil,h⟩
theorem za0(ha:PE X e te)(hr:PA X es t)(hs:starEach (e :: es) X.env=(false,eval e X.env) :: starEach es X.env:=by rfl):PA X (e :: es) (tCons te t):=by
 intro pos pins s σ H Q I h
 rw[hs]
 show wpAny _ _ (spliced ((false,eval e X.env) :: backTo pos (starEach es X.env))) _ _ s
 refine Calls.spliced_cons (thn (ha pins s σ H _ I h) fun u s1 ⟨x,H1,I1,r1,q1⟩=>?_)
 exact thn (hr pos pins s1 σ H1 _ I1 q1) fun us s2 ⟨xs,H2,I2,r2,q2⟩=>⟨x :: xs,H2,I2,.cons r1 r2,q2⟩
end
abbrev Sp:=List V->Hp->VK->XK->Prop
abbrev CXT:=List Env->Hp->Shared->XK->Value->Shared->Prop
structure Env0(P:Program)(w:World)(K:zby6)(mg:Str->Option Value)(base:Heap)(A:Around)(outer:List Env)(s:Shared)(H:Hp):Prop where
 frames:A.frames=some outer
 mod:Mod K mg base
 bs:∀ b o,base.get? b=some o->s.heap.get? b=some o/\H b=none
 bsz:base.objs.size<=s.heap.objs.size
 funs:s.heap.FunFrames base outer
 frf:∀ b∈frs outer,H b=none
 hok:HOk P w H s.heap
 bare:AllBare s.gens
def CE(outer:List Env)(P:Program)(w:World)(H:Hp)(s:Shared)(Q:VK)(u:Value)(s':Shared):Prop:=
 ∃ v H',s'.os=s.os/\AllBare s'.gens/\Un (frs outer) [] H H' s.heap s'.heap/\HOk P w H' s'.heap/\RelV v u/\Q v H'
def CR(CX:CXT)(outer:List Env)(P:Program)(w:World)(H:Hp)(s:Shared)(Q:VK)(E:XK)(r:Result)(s':Shared):Prop:=
 match r with
 | .ok (.ret u)=>CE outer P w H s Q u s'
 | .ok _=>False
 | .error e=>CX outer H s E e s'
structure FnOk(P:Program)(w:World)(K:zby6)(mg:Str->Option Value)(base:Heap)(CX:CXT)(k:Nat)(f:Addr)(fd:FuncData)(ps:List Str)(sp:Sp):Prop where
 len:∀ vs H Q E,sp vs H Q E->vs.length=ps.length
 run:∀ (A:Around) (outer:List Env) (s:Shared) (H:Hp) (args:Args) (us:List Value) (vs:List V) (Q:VK) (E:XK),Room k A->Env0 P w K mg base A outer s H->BindsTo s fd args (ps.zip us)->Vals vs us->sp vs H Q E ->
  codeAny (model P w) A (.call (.ref f) args) (CR CX outer P w H s Q E) s
theorem FnOk.mono{P:Program}{w:World}{K:zby6}{mg:Str->Option Value}{base:Heap}{CX:CXT}{j k:Nat}{f:Addr}{fd:FuncData}{ps:List Str}{sp:Sp}(F:FnOk P w K mg base CX j f fd ps sp)(h:j<=k) :
  FnOk P w K mg base CX k f fd ps sp:=⟨F.len,fun A outer s H args us vs Q E hr=>F.run A outer s H args us vs Q E (hr.mono h)⟩
theorem Env0.make{P:Program}{w:World}{K:zby6}{mg:Str->Option Value}{base:Heap}{A:Around}{outer:List Env}(e:Env0 P w K mg base A outer s H)(C:Addr)(us:List Value)(kw:List (Str×Value)) :
  Env0 P w K mg base (A.under (.builtin "type.__call__" ⟨.ref C :: us,kw⟩)) outer s H:=⟨by first|exact e.frames|(simpa [Around.under,Code.envs,Code.isFrame,pushEnvs] using e.frames),e.mod,e.bs,e.bsz,e.funs,e.frf,e.hok,e.bare⟩
section
variable {X:Cx}{pins:List (Addr×Obj)}{σ:St}{H:Hp}{s s':Shared}
theorem Inv.env0(I:Inv X pins σ H s):Env0 X.prog X.w X.K X.mg X.base X.A X.stack s H:=
 ⟨I.ok.frames,I.ok.mod,I.bs,zcc5 I.ok.bsz I.sz,I.stack,I.stkFree,I.hok,I.bare⟩
theorem Inv.after{Q:VK}(I:Inv X pins σ H s)(h:CE X.stack X.prog X.w H s Q u s'):EP X pins σ Q u s':=by
 obtain⟨v,H',os,bare,un,hok,r,q⟩:=h
 obtain⟨hh,g,d,t,os'⟩:=s'
 obtain rfl:os'=s.os:=os
 exact⟨v,H',I.call (h':=hh) (g':=g) (d':=d) (t':=t) (ch:=[]) un hok bare (fun b z=>absurd z (by simp)),r,q⟩
end
def tCall(sp:Sp)(dvs:List V)(E:XK)(t:TA):TE:=fun σ H Q=>t σ H fun vs H1=>sp (vs++dvs) H1 Q E
def zaa2(K:zby6)(fd:FuncData)(ps:List Str)(ds:List Value):Prop:=
 ∀ (s:Shared) (us:List Value),K.In s.heap->(us++ds).length=ps.length->BindsTo s fd ⟨us,[]⟩ (ps.zip (us++ds))
theorem zaa2.all{K:zby6}{fd:FuncData}{ps:List Str}(h:∀ us:List Value,us.length=ps.length->bindArgs fd ⟨us,[]⟩=pure (ps.zip us)):zaa2 K fd ps []:=fun s us _ hl=>by
 rw[zcc3] at hl ⊢
 exact .of_eq (h us hl)
def zac3(CX:CXT)(X:Cx)(E:XK):Prop:=∀ (pins:List (Addr×Obj)) (σ:St) (H:Hp) (s:Shared) (e:Value) (s':Shared),Inv X pins σ H s->CX X.stack H s E e s'->X.xe e s'
section
variable {X:Cx}{CX:CXT}{k:Nat}{f C:Addr}{fd:FuncData}{ps:List Str}{sp:Sp}{dvs:List V}{ds:List Value}{E:XK}{x m:Str}{p pos apos:Pos}{e o:Expr}{es:List Expr}{ta:TE}{t:TA}
theorem zbl8{Q:VK}{vs:List V}(F:FnOk X.prog X.w X.K X.mg X.base CX k f fd ps sp)(hr:Room k X.A)(hb:zaa2 X.K fd ps ds)(hd:Vals dvs ds)(hx:zac3 CX X E)(I:Inv X pins σ H s)(r:Vals vs us)(h:sp (vs++dvs) H Q E):wpAny (model X.prog X.w) X.A (call (.ref f) us) (EP X pins σ Q) X.xe s:=by
 have r2:Vals (vs++dvs) (us++ds):=r.append hd
 have hl:(us++ds).length=ps.length:=by rw[← r2.length];exact F.len _ _ _ _ h
 refine wpAny_call (codeAny_mono (F.run X.A X.stack s H ⟨us,[]⟩ (us++ds) (vs++dvs) Q E hr I.env0 (hb s us I.kIn hl) r2 h) fun r s' hq=>?_)
 cases r with
 | error e=>exact hx pins σ H s e s' I hq
 | ok fl=>
  cases fl with
  | ret u=>exact I.after hq
  | next=>exact False.elim hq
  | brk=>exact False.elim hq
  | cont=>exact False.elim hq
theorem zbn4(F:FnOk X.prog X.w X.K X.mg X.base CX k f fd ps sp)(hr:Room k X.A)(hg:Gl X x)(hm:X.mg x=some (.ref f))(hk:zcf3 X.K (.ref f)=true)(hb:zaa2 X.K fd ps ds)(hd:Vals dvs ds)(hx:zac3 CX X E)(ha:PA X (e :: es) t)(hdb:(x==("__debug__":Str))=false:=by decide)(he:starEach (e :: es) X.env=(false,eval e X.env) :: starEach es X.env:=by rfl)(hpl:(backTo pos (starEach es X.env)).any (·.1)=false:=by rfl) :
  PE X (.Call (.Name x p) (e :: es) [] pos) (tCall sp dvs E t):=by
 intro pins s σ H Q I h
 refine wpAny_Call_Name_kw (zl3 I hg hm ?_ hdb)
 refine PySem.W.callWith_K (h₀:=X.base) I.ok.mod.kin hk (thn (ha pos pins s σ H _ I h) fun us s1 ⟨vs,H1,I1,r,q⟩=>⟨I1.kIn,?_⟩) he hpl
 exact zbl8 F hr hb hd hx I1 r q
end
structure zb2(N P:List Str)(sc:Scope):Prop where
 kind:sc.kind=.function
 co:sc.isCoroutine=false
 gen:sc.isGenerator=false
 nd:N.Nodup
 pre:N.take P.length=P
 par:∀ x∈P,sc.names.lookup x=some .local∨sc.names.lookup x=some .cell
 nofree:∀ y∈sc.names,y.2≠.free
theorem zak6{kindOf:Str->Option NameKind}{x:Str}:∀ {binds:List (Str×Value)}{m:Str->Option Value},(∀ v,(x,v) ∉ binds)->bindL kindOf binds m x=m x
 | [],_,_=>rfl
 | (n,v) :: r,m,h=>by
  unfold bindL
  rw[zak6 fun w hw=>h w (zcb6 _ hw)]
  split
  ·have:x≠n:=by rintro rfl;exact h v zcb8
   simp[this]
  ·rfl
theorem zaj6{kindOf:Str->Option NameKind}{x:Str}:∀ {binds:List (Str×Value)}{m:Str->Option Value},(∀ v,(x,v) ∉ binds)->bindC kindOf binds m x=m x
 | [],_,_=>rfl
 | (n,v) :: r,m,h=>by
  unfold bindC
  rw[zaj6 fun w hw=>h w (zcb6 _ hw)]
  split
  ·rfl
  ·have:x≠n:=by rintro rfl;exact h v zcb8
   simp[this]
theorem zaj7{kindOf:Str->Option NameKind}{x:Str}{v:Value}:∀ {P:List Str}{vs:List Value}{i:Nat}{m:Str->Option Value},P.Nodup->P[i]?=some x->vs[i]?=some v->kindOf x=some .local ->
  bindL kindOf (P.zip vs) m x=some v
 | [],_,_,_,_,h,_,_=>by simp at h
 | _ :: _,[],_,_,_,_,h,_=>by simp at h
 | p :: P,w :: vs,0,m,nd,h1,h2,hk=>by
  simp at h1 h2;subst h1;subst h2
  show bindL kindOf ((p,w) :: P.zip vs) m p=_
  unfold bindL
  rw[zak6 fun v hv=>(zcf1.mp nd).1 (List.of_mem_zip hv).1,if_pos hk]
  simp
 | p :: P,w :: vs,i+1,m,nd,h1,h2,hk=>by
  show bindL kindOf ((p,w) :: P.zip vs) m x=_
  unfold bindL
  exact zaj7 (i:=i) (zcf1.mp nd).2 (by simpa using h1) (by simpa using h2) hk
theorem zam1{kindOf:Str->Option NameKind}{x:Str}{v:Value}:∀ {P:List Str}{vs:List Value}{i:Nat}{m:Str->Option Value},P.Nodup->P[i]?=some x->vs[i]?=some v->kindOf x≠some .local ->
  bindC kindOf (P.zip vs) m x=some v
 | [],_,_,_,_,h,_,_=>by simp at h
 | _ :: _,[],_,_,_,_,h,_=>by simp at h
 | p :: P,w :: vs,0,m,nd,h1,h2,hk=>by
  simp at h1 h2;subst h1;subst h2
  show bindC kindOf ((p,w) :: P.zip vs) m p=_
  unfold bindC
  rw[zaj6 fun v hv=>(zcf1.mp nd).1 (List.of_mem_zip hv).1,if_neg hk]
  simp
 | p :: P,w :: vs,i+1,m,nd,h1,h2,hk=>by
  show bindC kindOf ((p,w) :: P.zip vs) m x=_
  unfold bindC
  exact zam1 (i:=i) (zcf1.mp nd).2 (by simpa using h1) (by simpa using h2) hk
def zv0(N:List Str)(vs:List V):St:=vs.map some++List.replicate (N.length - vs.length) none
def cxOf(CX:CXT)(P:Program)(w:World)(K:zby6)(mg:Str->Option Value)(base:Heap)(N:List Str)(qual:Str)(scope:Scope)(f:Addr)(cd:Value)(A:Around)(outer:List Env)(s:Shared)(H:Hp)(E:XK):Cx where
 prog:=P
 w:=w
 K:=K
 mg:=mg
 base:=base
 A:=A.deeper (envOfC qual scope s.heap.objs.size f cd)
 N:=N
 s₀:=s
 H₀:=H
 env:=envOfC qual scope s.heap.objs.size f cd
 outer:=outer
 stack:=envOfC qual scope s.heap.objs.size f cd :: outer
 ex:=[]
 calm:=true
 fn:=fun _=>true
 pn:=[]
 xe:=fun e s'=>wpAny (model P w) (A.deeper (envOfC qual scope s.heap.objs.size f cd)) (leaving (envOfC qual scope s.heap.objs.size f cd) e) (fun _ s''=>CX outer H s E e s'') (fun e' s''=>CX outer H s E e' s'') s'
theorem zar8{sc:Scope}{n:Nat}{x:Str}(h:sc.names.lookup x=some .cell):∃ c,(cellsFrom n sc.names []).lookup x=some c:=by
 have q:=PySem.W.cellsFrom_some sc.names n [] (.inl h)
 exact zcf0.mp q
theorem zak0{CX:CXT}{P:Program}{w:World}{K:zby6}{mg:Str->Option Value}{base:Heap}{N ps:List Str}{qual:Str}{scope:Scope}{f:Addr}{cd:Value}{A:Around}{outer:List Env}{s1:Shared}{E:XK}{vs:List V}(S:zb2 N ps scope)(hd:A.handled=none)(e0:Env0 P w K mg base A outer s H)(hl:vs.length=ps.length)(r:Vals vs us)(x:InCallC s s.heap.objs.size (bindL (envOfC qual scope s.heap.objs.size f cd).kindOf (ps.zip us) fun _=>none) (cellsFrom (s.heap.objs.size+1) scope.names []) (bindC (envOfC qual scope s.heap.objs.size f cd).kindOf (ps.zip us) fun _=>none) s1) :
  Inv (cxOf CX P w K mg base N qual scope f cd A outer s H E) [] (zv0 N vs) H s1:=by
 have hpl:ps.length<=N.length:=by have:=congrArg zce8 S.pre;rw[zcd6] at this;omega
 obtain⟨h1,tk,rfl,hk⟩:=x.done
 have noA:∀ b:Addr,b ∉ (cxOf CX P w K mg base N qual scope f cd A outer s H E).ex:=fun b z=>absurd (show b∈([]:List Addr) from z) (by simp)
 refine⟨⟨e0.mod,S.kind,rfl,rfl,zca7 _,fun y z c h1 h2=>?_,fun y hy=>?_,fun y c _ h=>?_,fun _=>hd,Around.frames_deeper e0.frames,.inr ⟨rfl,rfl⟩,fun b z=>absurd z (noA b),e0.bs,e0.bsz,fun b _ _=>noA b,fun b z=>absurd z (noA b),e0.funs,e0.frf⟩,
  rfl,e0.bare,Un.kept hk,⟨_,x.toInCall.ns,fun i y v h1 h2 h3=>?_⟩,fun y c h=>⟨_,x.cell y c h⟩,e0.hok.fresh (zca7 _),fun y c h=>?_,fun p hp=>absurd (show p∈([]:List (Addr×Obj)) from hp) (by simp),e0.hok.kept hk,?_⟩
 ·exact name_of_addr x.apart (PySem.mem_of_lookup h1) (PySem.mem_of_lookup h2)
 ·have hy:scope.names.lookup y=some .cell∨scope.names.lookup y=some .free:=hy
  rcases hy with hy|hy
  ·exact zar8 hy
  ·exact absurd rfl (S.nofree _ (PySem.mem_of_lookup hy))
 ·exact Nat.le_of_lt (x.above y c (PySem.mem_of_lookup h))
 ·have hi:i<vs.length:=by
   unfold zv0 at h2
   by_cases hi:i<vs.length
   ·exact hi
   ·rw[zca4 (by simpa using hi)] at h2
    rw[List.getElem?_replicate] at h2
    split at h2<;>cases h2
  have ha:vs[i]?=some v:=by
   unfold zv0 at h2
   rw[zcb0 (by simpa using hi),zbz1] at h2
   cases e:vs[i]? with
   | none=>rw[e] at h2;cases h2
   | some a=>rw[e] at h2;cases h2;rfl
  obtain⟨u,hu,rv⟩:=r.get ha
  have hp:ps[i]?=some y:=by
   rw[← S.pre,List.getElem?_take_of_lt (by omega)];exact h1
  have ndP:ps.Nodup:=by rw[← S.pre];exact S.nd.sublist (List.take_sublist _ _)
  refine⟨u,rv,?_⟩
  rcases S.par y (zca5 hp) with k|k
  ·exact .inl ⟨k,zaj7 ndP hp hu k⟩
  ·obtain⟨c,e⟩:=zar8 (n:=s.heap.objs.size+1) k
   refine .inr ⟨.inl k,c,e,?_⟩
   have q:=x.cell y c e
   rw[zam1 ndP hp hu (by show scope.names.lookup y≠_;rw[k];decide)] at q
   exact q
 ·exact e0.hok.fresh (Nat.le_of_lt (x.above y c (PySem.mem_of_lookup h)))
 ·unfold zv0
  show _=N.length
  rw[zbz2,zby7,List.length_replicate]
  omega
theorem fn_of{CX:CXT}{P:Program}{w:World}{K:zby6}{mg:Str->Option Value}{base:Heap}{k:Nat}{f:Addr}{name qual:Str}{params:Arguments}{body:List Stmt}{scope:Scope}{dV kV doc pm cdv ct oc:Value}{an od:Option Addr}{osl:Array (Option Value)}{N ps:List Str}{sp:Sp}(lk:K.lookup f=some ⟨oc,od,.func (zce9 name qual params body scope dV kV doc pm an cdv ct),osl⟩)(hcd:zcg4 K cdv qual=true)(S:zb2 N ps scope)(len:∀ vs H Q E,sp vs H Q E->vs.length=ps.length)(hbody:∀ (A:Around) (outer:List Env) (s:Shared) (H:Hp) (vs:List V) (Q:VK) (E:XK),Room k (A.deeper (envOfC qual scope s.heap.objs.size f cdv))->sp vs H Q E ->
   ∃ t,PSs (cxOf CX P w K mg base N qual scope f cdv A outer s H E) body t/\t { nx:=fun _ H'=>Q .non H',rt:=Q } (zv0 N vs) H) :
  FnOk P w K mg base CX (k+1) f (zce9 name qual params body scope dV kV doc pm an cdv ct) ps sp:=by
 refine⟨len,fun A outer s H args us vs Q E hr e0 hb r hsp=>?_⟩
 have hl:=len _ _ _ _ hsp
 have KX:K.In s.heap:=e0.mod.kin.keeps fun b o e=>(e0.bs b o e).1
 have lim:s.heap.NoLimit:=e0.mod.nolimit.keeps fun b o e=>(e0.bs b o e).1
 have hkind:∀ y∈ps.zip us,scope.names.lookup y.1=some .local∨(scope.names.lookup y.1=some .cell/\((cellsFrom (s.heap.objs.size+1) scope.names []).lookup y.1).isSome=true):=fun ⟨n,v⟩ hy=>by
  rcases S.par n (List.of_mem_zip hy).1 with q|q
  ·exact .inl q
  ·exact .inr ⟨q,PySem.W.cellsFrom_some _ _ _ (.inl q)⟩
 refine codeAny_call_function hr.depth (KX _ _ lk) rfl S.co S.gen rfl (PySem.W.codeRec_of KX hcd) (hb _ _ _ _ ?_)
 refine wpAny_newFunctionEnv_cells S.kind hkind fun env he s1 x=>?_
 subst he
 refine⟨lim.keeps x.toInCall.keep,codeAny_func ?_⟩
 obtain⟨t,ht,hq⟩:=hbody A outer s H vs Q E (hr.deeper _) hsp
 have I:Inv (cxOf CX P w K mg base N qual scope f cdv A outer s H E) [] (zv0 N vs) H s1:=zak0 S hr.hd e0 hl r x
 refine wpAny_mono (ht [] s1 (zv0 N vs) H _ I hq) (fun fl s' hs=>?_) fun e s' hs=>hs
 have fin:∀ {σ':St}{H':Hp}{v:V}{u:Value},Inv (cxOf CX P w K mg base N qual scope f cdv A outer s H E) [] σ' H' s'->RelV v u->Q v H'->CE outer P w H s Q u s':=
  fun {σ' H' v u} J rv q=>⟨v,H',J.os,J.bare,J.base,J.hok,rv,q⟩
 cases fl with
 | ret u=>
  obtain⟨v,σ',H',J,rv,q⟩:=hs
  exact fin J rv q
 | next=>
  obtain⟨σ',H',J,q⟩:=hs
  exact fin (v:=V.non) (u:=Value.none) J rfl q
 | brk=>
  obtain⟨_,_,_,q⟩:=hs
  exact False.elim q
 | cont=>
  obtain⟨_,_,_,q⟩:=hs
  exact False.elim q
section
variable {X:Cx}{x:Str}{p pos:Pos}{e:Expr}{es:List Expr}{t:TA}{id T:String}{r:List V->Hp->VK->Prop}
def tCB(r:List V->Hp->VK->Prop)(t:TA):TE:=fun σ H Q=>t σ H fun vs H1=>r vs H1 Q
theorem zbh9(hc:zj2 X (.builtin id) r)(hg:Gl X x)(hm:X.mg x=none)(hv:bootBuiltins x=some (.builtin id))(ha:PA X (e :: es) t)(hn:x≠"__name__":=by decide)(hdb:(x==("__debug__":Str))=false:=by decide)(he:starEach (e :: es) X.env=(false,eval e X.env) :: starEach es X.env:=by rfl)(hpl:(backTo pos (starEach es X.env)).any (·.1)=false:=by rfl):PE X (.Call (.Name x p) (e :: es) [] pos) (tCB r t):=by
 intro pins s σ H Q I h
 refine wpAny_Call_Name_kw (zam2 I hg hm hv ?_ hn hdb)
 exact PyProof.Rows.callWith_builtin1 (thn (ha pos pins s σ H _ I h) fun us s1 ⟨vs,H1,I1,r1,q1⟩=>hc pins s1 σ H1 vs us Q I1 r1 q1) he hpl
theorem zbg9(hc:zj2 X (.type T) r)(hg:Gl X x)(hm:X.mg x=none)(hv:bootBuiltins x=some (.type T))(ha:PA X (e :: es) t)(hn:x≠"__name__":=by decide)(hdb:(x==("__debug__":Str))=false:=by decide)(he:starEach (e :: es) X.env=(false,eval e X.env) :: starEach es X.env:=by rfl)(hpl:(backTo pos (starEach es X.env)).any (·.1)=false:=by rfl):PE X (.Call (.Name x p) (e :: es) [] pos) (tCB r t):=by
 intro pins s σ H Q I h
 refine wpAny_Call_Name_kw (zam2 I hg hm hv ?_ hn hdb)
 exact PyProof.Rows.callWith_type1 (thn (ha pos pins s σ H _ I h) fun us s1 ⟨vs,H1,I1,r1,q1⟩=>hc pins s1 σ H1 vs us Q I1 r1 q1) he hpl
end
end L2
namespace HT
open PySem PyProof.Rows
section
open PySem.SeqAt
open PySem.AutoSeq1 (wpAny_loadPart')
open PySem.MeetsSeq PySem.MeetsSeq2 PySem.MeetsSeq3
end
section
variable {prog:Program}{w:World}{A:Around}{E:Value->Shared->Prop}{s:Shared}
def sIx(n d:Nat):Option Int->Nat
 | none=>d
 | some v=>if v<0 then (v+(n:Int)).toNat else min v.toNat n
theorem sIx_nat(n d k:Nat):sIx n d (some (k:Int))=min k n:=by
 show (if (k:Int)<0 then ((k:Int)+(n:Int)).toNat else min (k:Int).toNat n)=min k n
 rw[if_neg (by omega),zcg7]
theorem sIx_le(n d:Nat)(hd:d<=n)(o:Option Int):sIx n d o<=n:=by
 cases o with
 | none=>exact hd
 | some v=>
  show (if v<0 then (v+(n:Int)).toNat else min v.toNat n)<=n
  by_cases hv:v<0
  ·rw[if_pos hv];omega
  ·rw[if_neg hv];exact Nat.min_le_right _ _
theorem zba4(v:Int)(n d:Nat):(if v<0 then max (v+(n:Int)) 0 else min v (n:Int))=((sIx n d (some v):Nat):Int):=by
 show (if v<0 then max (v+(n:Int)) 0 else min v (n:Int))=(((if v<0 then (v+(n:Int)).toNat else min v.toNat n):Nat):Int)
 by_cases hv:v<0
 ·simp only[if_pos hv];omega
 ·simp only[if_neg hv];omega
theorem zax9(lo hi:Option Int)(n:Nat):Builtin.Slice.sliceAdjust lo hi 1 (n:Int)=(((sIx n 0 lo:Nat):Int),((sIx n n hi:Nat):Int)):=by
 have h1:¬ ((1:Int)<0):=by omega
 unfold Builtin.Slice.sliceAdjust
 simp only[h1,if_false]
 refine Prod.ext ?_ ?_
 ·cases lo with
  | none=>rfl
  | some v=>exact zba4 v n 0
 ·cases hi with
  | none=>rfl
  | some v=>exact zba4 v n n
theorem zay5(i j:Nat):Builtin.Slice.slicePlaces (i:Int) (j:Int) 1=j - i:=by
 unfold Builtin.Slice.slicePlaces
 have h1:(1:Int)>0:=by omega
 simp only[h1,if_true,Int.ediv_one]
 split<;>omega
theorem zac1{v:Value}{o:Option Int}{Q:Option Int->Shared->Prop}(p:IsPart v o)(h:Q o s):wpAny (model prog w) A (Builtin.Slice.slicePartIndex v) Q E s:=by
 cases p with
 | none=>exact slicePart_none h
 | int i t=>exact slicePart_int h
theorem zw1{sl:Addr}{vl vu:Value}{lo hi:Option Int}{n:Nat}{Q:Int×Int×Nat->Shared->Prop}(hs:s.heap.IsSliceOf sl vl vu .none)(pl:IsPart vl lo)(pu:IsPart vu hi)(h:Q (((sIx n 0 lo:Nat):Int),1,sIx n n hi - sIx n 0 lo) s):wpAny (model prog w) A (Builtin.Slice.sliceApplied (.ref sl) (pure (n:Int))) Q E s:=by
 obtain⟨os,hos,hcs,hds⟩:=id hs
 unfold Builtin.Slice.sliceApplied Builtin.Slice.sliceFields
 refine zch8 (zch8 (wpAny_field hos hds (x:=vl) rfl (zch8 (wpAny_field hos hds (x:=vu) rfl (zch8 (wpAny_field hos hds (x:=.none) rfl (zch9 ?_)))))))
 refine zch8 (slicePart_none ?_)
 show wpAny _ _ (if ((1:Int)==0)=true then _ else _) _ _ s
 rw[if_neg (by decide)]
 refine zch8 (zac1 pl (zch8 (zac1 pu (zch8 (zch9 ?_)))))
 show wpAny _ _ (match Builtin.Slice.sliceAdjust lo hi 1 (n:Int) with|(lo,hi)=>pure (lo,(1:Int),Builtin.Slice.slicePlaces lo hi 1)) _ _ s
 rw[zax9 lo hi n]
 show wpAny _ _ (pure (((sIx n 0 lo:Nat):Int),(1:Int),Builtin.Slice.slicePlaces ((sIx n 0 lo:Nat):Int) ((sIx n n hi:Nat):Int) 1)) _ _ s
 rw[zay5]
 exact zch9 h
theorem zbj6(xs:Array Value)(i k:Nat):((List.range k).filterMap fun (m:Nat)=>xs[((i:Int)+(m:Int)*1).toNat]?).toArray=((xs.toList.drop i).take k).toArray:=by
 have e:(fun (m:Nat)=>xs[((i:Int)+(m:Int)*1).toNat]?)=fun m=>xs[i+m]?:=by
  funext m
  have:((i:Int)+(m:Int)*1).toNat=i+m:=by omega
  rw[this]
 rw[e]
 have:=pick_run xs i k
 rw[List.filterMap_map] at this
 have e2:((fun x=>xs[x]?)∘fun x=>i+x)=fun m=>xs[i+m]?:=rfl
 rw[e2] at this
 rw[this]
theorem getItem_tuple_cut{t sl:Addr}{items:Array Value}{vl vu:Value}{lo hi:Option Int}{Q:Value->Shared->Prop}(ht:IsTup s.heap t items)(hs:s.heap.IsSliceOf sl vl vu .none)(pl:IsPart vl lo)(pu:IsPart vu hi)(hw:¬ (sIx items.size 0 lo=0/\sIx items.size items.size hi=items.size))(h:Q (.ref s.heap.objs.size) { s with heap:=s.heap.push { cls:=.type "tuple",data:=.seq ((items.toList.drop (sIx items.size 0 lo)).take (sIx items.size items.size hi - sIx items.size 0 lo)).toArray } })(hsz:items.size<=sizeLine):wpAny (model prog w) A (getItem (.ref t) (.ref sl)) Q E s:=by
 have htake:sizeOk (.seq ((items.toList.drop (sIx items.size 0 lo)).take (sIx items.size items.size hi - sIx items.size 0 lo)).toArray):=by
  show ((items.toList.drop (sIx items.size 0 lo)).take (sIx items.size items.size hi - sIx items.size 0 lo)).toArray.size<=sizeLine
  rw[zbz6,zcd6,zcf5,zca0]
  omega
 have hj:sIx items.size items.size hi<=items.size:=sIx_le _ _ (zca7 _) hi
 obtain⟨os,hos,hcs,hds⟩:=id hs
 have hTs:s.TypeIs (.ref sl) "slice":=⟨os,hos,hcs⟩
 unfold getItem
 try with_reducible refine zci3 ?_
 first|refine zch8 (zch9 ?_)|skip
 refine zch8 (wpAny_sequenceKey ht.typeIs (by decide) ?_)
 refine zch8 (wpAny_callSpecial?_slot (name:=Str.ofString "__getitem__") ht.typeIs PyProof.Rows.slot_tuple_getitem
  (wpAny_call_entry PyProof.Rows.slot_tuple_getitem ht.typeIs entry_tuple_getitem ?_ (args_tuple_getitem _ _)))
 show wpAny _ _ (Builtin.Tuple.tupleItemsOf (.ref t) >>= _) _ _ s
 refine zch8 (tupleItemsOf_ ht ?_)
 refine zch8 (wpAny_typeOf hTs ?_)
 rw[if_pos (by decide)]
 refine zch8 (zw1 hs pl pu ?_)
 have hno:¬ ((((sIx items.size 0 lo:Nat):Int)==0&&(1:Int)==1&&(sIx items.size items.size hi - sIx items.size 0 lo)==items.size)=true):=by
  intro q
  rw[zcb3,zcb3] at q
  have q1:((sIx items.size 0 lo:Nat):Int)=0:=eq_of_beq q.1.1
  have q2:sIx items.size items.size hi - sIx items.size 0 lo=items.size:=eq_of_beq q.2
  exact hw ⟨by omega,by omega⟩
 show wpAny _ _ (if (((sIx items.size 0 lo:Nat):Int)==0&&(1:Int)==1&&(sIx items.size items.size hi - sIx items.size 0 lo)==items.size)=true then _ else _) _ _ s
 rw[if_neg hno,zbj6]
 first
  | exact zch8 (m:=Builtin.Tuple.tupleExact _) (wpAny_newObj_type (zch9 ⟨_,rfl,zch9 h⟩) htake)
  | exact zch8 (m:=Builtin.Tuple.tupleExact _) (wpAny_newObj_type (zch8 (zch9 (zch9 ⟨_,rfl,zch9 h⟩))) htake)
  | exact zch8 (zch8 (m:=Builtin.Tuple.tupleExact _) (wpAny_newObj_type (zch9 (zch9 ⟨_,rfl,zch9 h⟩)) htake))
  | exact zch8 (zch8 (m:=Builtin.Tuple.tupleExact _) (wpAny_newObj_type (zch9 ⟨_,rfl,zch9 h⟩) htake))
end
end HT
namespace L2
open PySem PySem.Spec PyProof.Rows
abbrev TO:=St->Hp->(Option Int->Hp->Prop)->Prop
def PO(X:Cx)(e:Option Expr)(t:TO):Prop:=
 ∀ (pins:List (Addr×Obj)) (s:Shared) (σ:St) (H:Hp) (Q:Option Int->Hp->Prop),Inv X pins σ H s->t σ H Q ->
  wpAny (model X.prog X.w) X.A (evalPart e X.env) (fun u s'=>∃ o H',Inv X pins σ H' s'/\IsPart u o/\Q o H') X.xe s
variable {s:Shared}
def zbp7:TO:=fun _ H Q=>Q none H
section
variable {X:Cx}{e:Expr}{te:TE}{lo hi:Option Expr}{tl th:TO}{pos p2:Pos}
theorem zl4:PO X none zbp7:=by
 intro pins s σ H Q I h
 rw[evalPart_none]
 exact zch9 ⟨none,H,I,.none,h⟩
def SlR(X:Cx)(r:V->Option Int->Option Int->Hp->VK->Prop):Prop:=
 ∀ (pins:List (Addr×Obj)) (s:Shared) (σ:St) (H:Hp) (x:V) (v vl vu:Value) (lo hi:Option Int) (sl:Addr) (Q:VK),Inv X pins σ H s->RelV x v->s.heap.IsSliceOf sl vl vu .none->IsPart vl lo->IsPart vu hi->r x lo hi H Q ->
  ∃ T id,typeLookup (.type T) "__getitem__"=pure (some (.builtin id))/\s.TypeIs v T/\wpAny (model X.prog X.w) X.A (getItem v (.ref sl)) (EP X pins σ Q) X.xe s
theorem SlR.or{r r':V->Option Int->Option Int->Hp->VK->Prop}(h:SlR X r)(h':SlR X r'):SlR X (fun x lo hi H Q=>r x lo hi H Q∨r' x lo hi H Q):=by
 intro pins s σ H x v vl vu lo hi sl Q I rx hs pl pu q
 rcases q with q|q
 ·exact h pins s σ H x v vl vu lo hi sl Q I rx hs pl pu q
 ·exact h' pins s σ H x v vl vu lo hi sl Q I rx hs pl pu q
def tSl(r:V->Option Int->Option Int->Hp->VK->Prop)(te:TE)(tl th:TO):TE:=fun σ H Q=>te σ H fun x H1=>tl σ H1 fun l H2=>th σ H2 fun u H3=>r x l u H3 Q
theorem zh6{r:V->Option Int->Option Int->Hp->VK->Prop}(hr:SlR X r)(he:PE X e te)(hl:PO X lo tl)(hu:PO X hi th):PE X (.Subscript e (.Slice lo hi none p2) pos) (tSl r te tl th):=by
 intro pins s σ H Q I h
 refine Subscript_ (thn (he pins s σ H _ I h) fun v s1 ⟨x,H1,I1,r1,q1⟩=>?_)
 refine wpAny_Slice (thn (hl pins s1 σ H1 _ I1 q1) fun vl s2 ⟨l,H2,I2,pl,q2⟩=>thn (hu pins s2 σ H2 _ I2 q2) fun vu s3 ⟨u,H3,I3,pu,q3⟩=>?_)
 rw[evalPart_none]
 refine zch9 ?_
 have I4:Inv X pins σ H3 { s3 with heap:=s3.heap.push { cls:=.type "slice",data:=.fields #[vl,vu,.none] } }:=I3.kept (t':=s3.toks) fun b ob q=>zbz8 _ q
 obtain⟨T,id,hT,ht,hg⟩:=hr pins { s3 with heap:=s3.heap.push { cls:=.type "slice",data:=.fields #[vl,vu,.none] } } σ H3 x v vl vu l u s3.heap.objs.size Q I4 r1 (Heap.IsSliceOf.new ..) pl pu q3
 show wpAny (model X.prog X.w) X.A (subscriptTail e (.Slice lo hi none p2) v (.ref s3.heap.objs.size)) (EP X pins σ Q) X.xe { s3 with heap:=s3.heap.push { cls:=.type "slice",data:=.fields #[vl,vu,.none] } }
 exact tail_any (ops:=[.ref s3.heap.objs.size,v]) ht hT hg (by with_unfolding_all rfl)
def cutV(xs:List V)(lo hi:Option Int):List V:=(xs.drop (HT.sIx xs.length 0 lo)).take (HT.sIx xs.length xs.length hi - HT.sIx xs.length 0 lo)
theorem zy2(xs:List V)(lo hi:Option Int):(cutV xs lo hi).length<=xs.length:=by
 unfold cutV
 rw[zcd6,zcf5]
 omega
def rSlT(K:zby6):V->Option Int->Option Int->Hp->VK->Prop:=fun x lo hi H Q=>∃ a xs,x=.ref a/\SqT K H a xs /\
 ¬ (HT.sIx xs.length 0 lo=0/\HT.sIx xs.length xs.length hi=xs.length)/\∀ p,H p=none->Q (.ref p) (upd H p (.tup (cutV xs lo hi)))
theorem sl_tup:SlR X (rSlT X.K):=by
 intro pins s σ H x v vl vu lo hi sl Q I rx hs pl pu h
 obtain⟨a,xs,rfl,hx,hw,q⟩:=h
 cases rx
 obtain⟨its,r,ht,hz⟩:=I.tuple hx
 have hlen:its.toArray.size=xs.length:=by rw[zbz6];exact r.length.symm
 refine⟨"tuple",_,PyProof.Rows.slot_tuple_getitem.lookup,ht.typeIs,?_⟩
 refine HT.getItem_tuple_cut ht hs pl pu (by rw[hlen];exact hw) ?_ (by rw[hlen];exact hz)
 rw[hlen]
 refine⟨.ref s.heap.objs.size,_,I.laid (t':=s.toks) (o:=.tup (cutV xs lo hi)) (fun b ob q=>zbz8 _ q) (zca7 _) ?_,rfl,q _ (I.hok.fresh (zca7 _))⟩
 exact⟨zcc5 (zy2 xs lo hi) hz,_,(r.drop (HT.sIx xs.length 0 lo)).take (HT.sIx xs.length xs.length hi - HT.sIx xs.length 0 lo),IsTup.new _ _⟩
end
def ixN(n:Nat)(i:Int):Option Nat:=if 0<=i then (if i<n then some i.toNat else none) else if -(n:Int)<=i then some (i+n).toNat else none
def atI{α:Type}(xs:List α)(i:Int):Option α:=(ixN xs.length i).bind fun j=>xs[j]?
theorem zbd1{n:Nat}{i:Int}{j:Nat}(h:ixN n i=some j):seqIndex? i n=some j/\j<n/\-(n:Int)<=i/\i<n:=by
 unfold ixN at h
 by_cases h0:0<=i
 ·rw[if_pos h0] at h
  by_cases h1:i<n
  ·rw[if_pos h1] at h
   have e:i.toNat=j:=Option.some.inj h
   exact⟨by rw[seqIndex_of h0 h1,e],by omega,by omega,h1⟩
  ·rw[if_neg h1] at h;cases h
 ·rw[if_neg h0] at h
  by_cases h1:-(n:Int)<=i
  ·rw[if_pos h1] at h
   have e:(i+n).toNat=j:=Option.some.inj h
   exact⟨by rw[seqIndex_neg (by omega) h1,e],by omega,h1,by omega⟩
  ·rw[if_neg h1] at h;cases h
theorem zap0{α:Type}{xs:List α}{i:Int}{v:α}(h:atI xs i=some v):∃ j,seqIndex? i xs.length=some j/\xs[j]?=some v/\j<xs.length/\-(xs.length:Int)<=i/\i<xs.length:=by
 unfold atI at h
 cases e:ixN xs.length i with
 | none=>rw[e] at h;cases h
 | some j=>
  rw[e] at h
  obtain⟨h1,h2,h3,h4⟩:=zbd1 e
  exact⟨j,h1,h,h2,h3,h4⟩
theorem zd0{α:Type}{xs:List α}{j:Nat}{v:α}(h:xs[j]?=some v):atI xs (j:Int)=some v:=by
 have hj:j<xs.length:=(zby9.mp h).1
 have e:ixN xs.length (j:Int)=some j:=by
  unfold ixN
  rw[if_pos (by omega),if_pos (by omega)];simp
 unfold atI;rw[e];exact h
def zaf2(b:Expr):Prop:=∀ o i,subscripted b false o i=operate [o,i] (getItem o i)
def IxR(X:Cx)(r:R2):Prop:=
 ∀ (value slice:Expr) (pins:List (Addr×Obj)) (s:Shared) (σ:St) (H:Hp) (x y:V) (v u:Value) (Q:VK),Inv X pins σ H s->RelV x v->RelV y u->r x y H Q ->
  subscripted slice false v u=operate [v,u] (getItem v u)->wpAny (model X.prog X.w) X.A (subscriptTail value slice v u) (EP X pins σ Q) X.xe s
def MtR(X:Cx)(id:String)(r:V->List V->Hp->VK->Prop):Prop:=
 ∀ (pins:List (Addr×Obj)) (s:Shared) (σ:St) (H:Hp) (x:V) (xs:List V) (v:Value) (us:List Value) (Q:VK),Inv X pins σ H s->RelV x v->Vals xs us->r x xs H Q ->
  wpAny (model X.prog X.w) X.A (call (.builtin id) (v :: us)) (EP X pins σ Q) X.xe s
section
variable {X:Cx}{a b:Expr}{ta tb:TE}{pos:Pos}
theorem IxR.or{r r':R2}(h:IxR X r)(h':IxR X r'):IxR X (fun x y H Q=>r x y H Q∨r' x y H Q):=by
 intro value slice pins s σ H x y v u Q I rx ry q hs
 rcases q with q|q
 ·exact h value slice pins s σ H x y v u Q I rx ry q hs
 ·exact h' value slice pins s σ H x y v u Q I rx ry q hs
theorem MtR.or{id:String}{r r':V->List V->Hp->VK->Prop}(h:MtR X id r)(h':MtR X id r'):MtR X id (fun x xs H Q=>r x xs H Q∨r' x xs H Q):=by
 intro pins s σ H x xs v us Q I rx rs q
 rcases q with q|q
 ·exact h pins s σ H x xs v us Q I rx rs q
 ·exact h' pins s σ H x xs v us Q I rx rs q
theorem pe_ix{r:R2}(hr:IxR X r)(ha:PE X a ta)(hb:PE X b tb)(hs:zaf2 b):PE X (.Subscript a b pos) (tOp r ta tb):=by
 intro pins s σ H Q I h
 exact Subscript_ (binT ha hb I h fun v u s2 x y H2 I2 rx ry q=>hr a b pins s2 σ H2 x y v u Q I2 rx ry q (hs _ _))
def rIxL(K:zby6):R2:=fun x y H Q=>∃ p xs i v,x=.ref p/\y=.int i/\SqL K H p xs/\atI xs i=some v/\Q v H
def rIxT(K:zby6):R2:=fun x y H Q=>∃ p xs i v,x=.ref p/\y=.int i/\SqT K H p xs/\atI xs i=some v/\Q v H
def rIxS:R2:=fun x y H Q=>∃ z i c,x=.str z/\y=.int i/\z.length<=sizeLine/\atI z.cps.toList i=some c/\Q (.str ⟨#[c]⟩) H
theorem zbq0:IxR X (rIxL X.K):=by
 intro value slice pins s σ H x y v u Q I rx ry h hs
 obtain⟨p,xs,i,z,rfl,rfl,hq,he,q⟩:=h
 cases rx
 obtain⟨t,rfl⟩:=ry
 obtain⟨its,r,pl,hz⟩:=I.list hq
 obtain⟨j,h1,h2,h3,h4,h5⟩:=zap0 he
 obtain⟨w,ew,rw'⟩:=r.get h2
 have hl:=r.length
 have hn:=zz3
 have fin:EP X pins σ Q w s:=⟨z,H,I,rw',q⟩
 by_cases h0:0<=i
 ·have hj:i.toNat=j:=by
   rw[seqIndex_of h0 h5] at h1
   exact Option.some.inj h1
  exact item_listR pl.isList h0 (by omega) (by rw[hj];simpa using ew) fin hs
 ·have hj:(i+(its.toArray.size:Int)).toNat=j:=by
   rw[seqIndex_neg (by omega) h4] at h1
   rw[zbz6,← hl]
   exact Option.some.inj h1
  exact subscriptTail_builtinR (x:=w) pl.isList.typeIs slot_list_getitem.lookup
   (wpAny_getItem_list_neg (Q:=fun r s'=>r=w/\EP X pins σ Q r s') pl.isList (by omega) (by rw[zbz6]<;>omega) (by omega) (by rw[hj];simpa using ew) ⟨rfl,fin⟩) hs
theorem ix_tup:IxR X (rIxT X.K):=by
 intro value slice pins s σ H x y v u Q I rx ry h hs
 obtain⟨p,xs,i,z,rfl,rfl,hq,he,q⟩:=h
 cases rx
 obtain⟨t,rfl⟩:=ry
 obtain⟨its,r,pl,hz⟩:=I.tuple hq
 obtain⟨j,h1,h2,h3,h4,h5⟩:=zap0 he
 obtain⟨w,ew,rw'⟩:=r.get h2
 have hl:=r.length
 have hn:=zz3
 have fin:EP X pins σ Q w s:=⟨z,H,I,rw',q⟩
 exact subscriptTail_builtinR (x:=w) pl.typeIs slot_tuple_getitem.lookup
  (getItem_tuple (j:=j) (Q:=fun r s'=>r=w/\EP X pins σ Q r s') pl (by omega) (by omega) (by rw[zbz6,← hl];exact h1) (by simpa using ew) ⟨rfl,fin⟩) hs
theorem ix_str:IxR X rIxS:=by
 intro value slice pins s σ H x y v u Q I rx ry h hs
 obtain⟨z,i,c,rfl,rfl,hz,he,q⟩:=h
 obtain⟨t,rfl⟩:=rx
 obtain⟨t',rfl⟩:=ry
 obtain⟨j,h1,h2,h3,h4,h5⟩:=zap0 he
 have hl:z.cps.toList.length=z.length:=by simp[Str.length]
 rw[hl] at h1 h4 h5
 have hn:=zz3
 exact tail_any (typeIs_str s z t) slot_str_getitem.lookup (getItem_str (c:=c) (by
  have e1:decide (i < -(2 ^ 63:Int))=false:=decide_eq_false (by omega)
  have e2:decide (i≥2 ^ 63)=false:=decide_eq_false (by omega)
  rw[e1,e2,Bool.or_false]) (by rw[h1];simpa using h2) ⟨.str ⟨#[c]⟩,H,I.tok _,⟨_,rfl⟩,q⟩) hs
theorem zaz1(its:List Value)(n j:Nat)(u:Value):Obj.mapSeq (·.setIfInBounds j u) { cls:=.type "list",data:=.seq its.toArray n }={ cls:=.type "list",data:=.seq (its.set j u).toArray n }:=by
 simp[Obj.mapSeq]
theorem Inv.lst{pins:List (Addr×Obj)}{σ:St}{H:Hp}{p:Addr}{xs:List V}(I:Inv X pins σ H s)(h:H p=some (.lst xs)) :
  ∃ (its:List Value) (n:Nat),Vals xs its/\s.heap.get? p=some { cls:=.type "list",data:=.seq its.toArray n }/\xs.length<=sizeLine:=by
 obtain⟨z,its,n,r,e⟩:=I.hok p _ h
 exact⟨its,n,r,e,z⟩
theorem Inv.lstUpd{pins:List (Addr×Obj)}{σ:St}{H:Hp}{p:Addr}{xs ys:List V}{its its':List Value}{n n':Nat}{f:Obj->Obj}(I:Inv X pins σ H s)(h:H p=some (.lst xs))(ho:s.heap.get? p=some { cls:=.type "list",data:=.seq its.toArray n })(hf:f { cls:=.type "list",data:=.seq its.toArray n }={ cls:=.type "list",data:=.seq its'.toArray n' })(r:Vals ys its')(hz:ys.length<=sizeLine)(t:Nat) :
  Inv X pins σ (upd H p (.lst ys)) { s with heap:=s.heap.update p f,toks:=t }:=by
 have e:(s.heap.update p f).get? p=some { cls:=.type "list",data:=.seq its'.toArray n' }:=by
  rw[zcc0 f ho (by rw[hf]<;>rfl),hf]
 refine I.write (x:=p) (e:=p) (by rw[h];trivial) (.inl rfl) (fun b u hb q=>(zca1 _ _ (Ne.symm hb)).trans q) ⟨_,e⟩ ?_
 exact⟨hz,its',n',r,e⟩
def rSetL:V->V->V->Hp->(Hp->Prop)->Prop:=fun o i v H Q=>∃ p xs k j,o=.ref p/\i=.int k/\H p=some (.lst xs)/\ixN xs.length k=some j/\Q (upd H p (.lst (xs.set j v)))
theorem zbi0:PSet X rSetL:=by
 intro pins s σ H o i v ov iv u Q I ro ri rv h
 obtain⟨p,xs,k,j,rfl,rfl,hp,hj,q⟩:=h
 cases ro
 obtain⟨t,rfl⟩:=ri
 obtain⟨its,n,r,ho,hz⟩:=I.lst hp
 obtain⟨h1,h2,h3,h4⟩:=zbd1 hj
 have hl:=r.length
 have hn:=zz3
 have I':Inv X pins σ (upd H p (.lst (xs.set j v))) { s with heap:=s.heap.update p (Obj.mapSeq (·.setIfInBounds j u)) }:=
  I.lstUpd hp ho (zaz1 its n j u) (r.set rv j) (by rw[zcg2];exact hz) s.toks
 by_cases h0:0<=k
 ·have hk:k.toNat=j:=by
   rw[seqIndex_of h0 h4] at h1
   exact Option.some.inj h1
  exact PySem.W.ki_setAt ho h0 (by omega) (by rw[zbz6,← hl];exact h4) (by rw[hk];exact⟨_,I',q⟩)
 ·have hk:(k+(its.toArray.size:Int)).toNat=j:=by
   rw[seqIndex_neg (by omega) h3] at h1
   rw[zbz6,← hl]
   exact Option.some.inj h1
  exact PySem.W.ki_setBack ho (by omega) (by rw[zbz6,← hl];exact h3) (by omega) (by rw[hk];exact⟨_,I',q⟩)
theorem zah6(lo hi:Option Int)(n:Nat):(sliceBounds lo hi none n).1=((HT.sIx n 0 lo:Nat):Int)/\(sliceBounds lo hi none n).2.1=((HT.sIx n n hi:Nat):Int)/\(sliceBounds lo hi none n).2.2=1:=by
 refine⟨?_,?_,rfl⟩
 ·cases lo with
  | none=>simp[sliceBounds,HT.sIx]
  | some i=>
   simp only[sliceBounds,HT.sIx,Option.getD_none,show (1:Int)>0 by decide,if_true]
   by_cases h:i<0
   ·simp only[h,if_true]<;>omega
   ·simp only[h,if_false]<;>omega
 ·cases hi with
  | none=>simp[sliceBounds,HT.sIx]
  | some i=>
   simp only[sliceBounds,HT.sIx,Option.getD_none,show (1:Int)>0 by decide,if_true]
   by_cases h:i<0
   ·simp only[h,if_true]<;>omega
   ·simp only[h,if_false]<;>omega
theorem zae4(its:List Value)(lo hi:Option Int):slicePick its.toArray lo hi none=((its.drop (HT.sIx its.length 0 lo)).take (HT.sIx its.length its.length hi - HT.sIx its.length 0 lo)).toArray:=by
 obtain⟨h1,h2,h3⟩:=zah6 lo hi its.toArray.size
 unfold slicePick
 rw[h1,h2,h3]
 simp only[sliceRange_one,pick_run,zbz6]<;>rfl
def rSlL(K:zby6):V->Option Int->Option Int->Hp->VK->Prop:=fun x lo hi H Q=>∃ a xs,x=.ref a/\SqL K H a xs/\∀ p,H p=none->Q (.ref p) (upd H p (.lst (cutV xs lo hi)))
theorem zbo2:SlR X (rSlL X.K):=by
 intro pins s σ H x v vl vu lo hi sl Q I rx hs pl pu h
 obtain⟨a,xs,rfl,hx,q⟩:=h
 cases rx
 obtain⟨its,r,ht,hz⟩:=I.list hx
 have hlen:=r.length
 refine⟨"list",_,slot_list_getitem.lookup,ht.isList.typeIs,?_⟩
 refine wpAny_getItem_list_slice ht.isList hs pl pu .none (by simp) ?_ (by rw[zbz6]<;>omega)
 rw[zae4,← hlen]
 refine⟨.ref s.heap.objs.size,_,I.laid (t':=s.toks) (o:=.lst (cutV xs lo hi)) (fun b ob q=>zbz8 _ q) (zca7 _) ?_,rfl,q _ (I.hok.fresh (zca7 _))⟩
 exact⟨zcc5 (zy2 xs lo hi) hz,_,0,(r.drop (HT.sIx xs.length 0 lo)).take (HT.sIx xs.length xs.length hi - HT.sIx xs.length 0 lo),zcd0 _ rfl⟩
def zj5:V->Bool
 | .non=>true
 | .bl _=>true
 | .int _=>true
 | .str _=>true
 | _=>false
def eqV:V->V->Bool
 | .non,.non=>true
 | .bl a,.bl b=>a==b
 | .bl a,.int b=>(if a then 1 else 0)==b
 | .int a,.bl b=>a==(if b then 1 else 0)
 | .int a,.int b=>a==b
 | .str a,.str b=>a==b
 | _,_=>false
theorem zbe7{A:Around}{y x:V}{u v:Value}(ry:RelV y u)(rx:RelV x v)(fy:zj5 y=true)(fx:zj5 x=true):SeqAt.EqAt A s u v (eqV y x):=by
 cases y with
 | non=>
  cases ry
  cases x with
  | non=>cases rx;exact SeqAt.EqAt.same _
  | bl b=>cases rx;exact SeqAt.EqAt.none_bool b
  | int b=>obtain⟨t,rfl⟩:=rx;exact SeqAt.EqAt.none_int b t
  | str b=>obtain⟨t,rfl⟩:=rx;exact SeqAt.EqAt.none_str b t
  | _=>exact absurd (show false=true from fx) zbz3
 | bl a=>
  cases ry
  cases x with
  | non=>cases rx;exact SeqAt.EqAt.bool_none a
  | bl b=>cases rx;exact SeqAt.EqAt.bool_bool a b
  | int b=>obtain⟨t,rfl⟩:=rx;exact SeqAt.EqAt.bool_int a b t
  | str b=>obtain⟨t,rfl⟩:=rx;exact SeqAt.EqAt.bool_str a b t
  | _=>exact absurd (show false=true from fx) zbz3
 | int a=>
  obtain⟨t',rfl⟩:=ry
  cases x with
  | non=>cases rx;exact SeqAt.EqAt.int_none a t'
  | bl b=>cases rx;exact SeqAt.EqAt.int_bool a t' b
  | int b=>obtain⟨t,rfl⟩:=rx;exact SeqAt.EqAt.int_int a t' b t
  | str b=>obtain⟨t,rfl⟩:=rx;exact SeqAt.EqAt.int_str a t' b t
  | _=>exact absurd (show false=true from fx) zbz3
 | str a=>
  obtain⟨t',rfl⟩:=ry
  cases x with
  | non=>cases rx;exact SeqAt.EqAt.str_none a t'
  | bl b=>cases rx;exact SeqAt.EqAt.str_bool a t' b
  | int b=>obtain⟨t,rfl⟩:=rx;exact SeqAt.EqAt.str_int a t' b t
  | str b=>obtain⟨t,rfl⟩:=rx;exact SeqAt.EqAt.str_str a t' b t
  | _=>exact absurd (show false=true from fx) zbz3
 | _=>exact absurd (show false=true from fy) zbz3
def eqU(x:V)(u:Value):Bool:=match u with
 | .none=>eqV .non x
 | .bool b=>eqV (.bl b) x
 | .int i _=>eqV (.int i) x
 | .str z _=>eqV (.str z) x
 | _=>false
theorem zav2{x y:V}{u:Value}(r:RelV y u)(f:zj5 y=true):eqU x u=eqV y x:=by
 cases y with
 | non=>cases r;rfl
 | bl b=>cases r;rfl
 | int i=>obtain⟨t,rfl⟩:=r;rfl
 | str z=>obtain⟨t,rfl⟩:=r;rfl
 | _=>exact absurd (show false=true from f) zbz3
theorem zaq6{x:V}:∀ {xs:List V}{us:List Value},Vals xs us->xs.all zj5=true->us.any (eqU x)=xs.any fun y=>eqV y x
 | _,_,.nil,_=>rfl
 | y :: xs,u :: us,.cons r t,f=>by
  rw[List.all_cons,zcb3] at f
  rw[List.any_cons,List.any_cons,zav2 r f.1,zaq6 t f.2]
theorem zt3{A:Around}{s:Shared}{x:V}{v:Value}(rx:RelV x v)(fx:zj5 x=true):∀ {xs:List V}{us:List Value},Vals xs us->xs.all zj5=true->∀ u∈us,SeqAt.EqAt A s u v (eqU x u)
 | _,_,.nil,_=>fun u hu=>by cases hu
 | y :: xs,u :: us,.cons r t,f=>fun u' hu=>by
  rw[List.all_cons,zcb3] at f
  rcases zbz4.mp hu with rfl|hu
  ·rw[zav2 r f.1];exact zbe7 r rx f.1 fx
  ·exact zt3 rx fx t f.2 u' hu
def inV(x:V)(xs:List V):Bool:=xs.any fun y=>eqV y x
def rIn(K:zby6)(neg:Bool):R2:=fun x y H Q=>∃ p xs,y=.ref p/\(SqL K H p xs∨SqT K H p xs)/\zj5 x=true/\xs.all zj5=true/\Q (.bl (if neg then !inV x xs else inV x xs)) H
theorem zbf8:OpR X (compareOp .In) (rIn X.K false):=by
 intro pins s σ H x y v u Q I rx ry h
 obtain⟨p,xs,rfl,hq,fx,fs,q⟩:=h
 cases ry
 rcases hq with hq|hq
 ·obtain⟨its,r,pl,hz⟩:=I.list hq
  refine SeqAt.in_listAt (eqU x) pl.isList (fun w hw=>zt3 rx fx r fs w (by simpa using hw)) ⟨.bl _,H,I,rfl,?_⟩
  rw[show its.toArray.any (eqU x)=its.any (eqU x) by simp,zaq6 r fs]
  exact q
 ·obtain⟨its,r,pl,hz⟩:=I.tuple hq
  refine SeqAt.in_tupleAt (eqU x) pl (fun w hw=>zt3 rx fx r fs w (by simpa using hw)) ⟨.bl _,H,I,rfl,?_⟩
  rw[show its.toArray.any (eqU x)=its.any (eqU x) by simp,zaq6 r fs]
  exact q
theorem zan4:zj2 X (.builtin "len") (fun xs H Q=>∃ p ys,xs=[.ref p]/\(SqL X.K H p ys∨SqT X.K H p ys)/\Q (.int ys.length) H):=by
 intro pins s σ H xs us Q I r h
 obtain⟨p,ys,rfl,hq,q⟩:=h
 obtain⟨u,rfl,rx⟩:=zy3 r
 cases rx
 have hn:=zz3
 rcases hq with hq|hq
 ·obtain⟨its,r',pl,hz⟩:=I.list hq
  have hlen:=r'.length
  exact Calls.call_len_list pl.isList (by simp only[zbz6]<;>omega) ⟨.int ys.length,H,I.tok _,⟨s.toks+1,by rw[zbz6,hlen]⟩,q⟩
 ·obtain⟨its,r',pl,hz⟩:=I.tuple hq
  have hlen:=r'.length
  exact len_tuple pl (by simp only[zbz6]<;>omega) ⟨.int ys.length,H,I.tok _,⟨s.toks+1,by rw[zbz6,hlen]⟩,q⟩
theorem zai1:zj2 X (.builtin "len") (fun xs H Q=>∃ z,xs=[.str z]/\z.length<=sizeLine/\Q (.int z.length) H):=by
 intro pins s σ H xs us Q I r h
 obtain⟨z,rfl,hz,q⟩:=h
 obtain⟨u,rfl,t,rfl⟩:=zy3 r
 have hn:=zz3
 exact len_str (by omega) ⟨.int z.length,H,I.tok _,⟨_,rfl⟩,q⟩
theorem zj2.or{f:Value}{r r':List V->Hp->VK->Prop}(h:zj2 X f r)(h':zj2 X f r'):zj2 X f (fun xs H Q=>r xs H Q∨r' xs H Q):=by
 intro pins s σ H xs us Q I rs q
 rcases q with q|q
 ·exact h pins s σ H xs us Q I rs q
 ·exact h' pins s σ H xs us Q I rs q
theorem zah8:zj2 X (.type "list") (fun xs H Q=>∃ p ys,xs=[.ref p]/\(SqL X.K H p ys∨SqT X.K H p ys)/\∀ l,H l=none->Q (.ref l) (upd H l (.lst ys))):=by
 intro pins s σ H xs us Q I r h
 obtain⟨p,ys,rfl,hq,q⟩:=h
 obtain⟨u,rfl,rx⟩:=zy3 r
 cases rx
 have fin:∀ (its:List Value),Vals ys its->ys.length<=sizeLine->∀ (h':Heap) (c':Nat),(∀ b o',s.heap.get? b=some o'->h'.get? b=some o') ->
   h'.get? s.heap.objs.size=some { cls:=.type "list",dict:=none,data:=.seq its.toArray c',slots:=#[] }->EP X pins σ Q (.ref s.heap.objs.size) { s with heap:=h' }:=fun its r' hz h' c' kp e=>
  ⟨.ref s.heap.objs.size,_,I.laid (t':=s.toks) kp (zca7 _) (show zf7 X.prog X.w _ h' _ (.lst ys) from ⟨hz,its,c',r',e⟩),rfl,q _ (I.hok.fresh (zca7 _))⟩
 rcases hq with hq|hq
 ·obtain⟨its,r',pl,hz⟩:=I.list hq
  have hlen:=r'.length
  obtain⟨o,ho,hc,n,hd⟩:=pl.isList
  exact call_list_seq p (.inl rfl) ho hc hd (fun h' c' kp e=>fin its r' hz h' c' kp e) (by simp only[zbz6]<;>omega)
 ·obtain⟨its,r',pl,hz⟩:=I.tuple hq
  have hlen:=r'.length
  obtain⟨o,ho,hc,n,hd⟩:=pl
  exact call_list_seq p (.inr rfl) ho hc hd (fun h' c' kp e=>fin its r' hz h' c' kp e) (by simp only[zbz6]<;>omega)
theorem zaf0:zj2 X (.type "tuple") (fun xs H Q=>∃ p ys,xs=[.ref p]/\((SqL X.K H p ys/\∀ l,H l=none->Q (.ref l) (upd H l (.tup ys)))∨(SqT X.K H p ys/\Q (.ref p) H))):=by
 intro pins s σ H xs us Q I r h
 obtain⟨p,ys,rfl,h⟩:=h
 obtain⟨u,rfl,rx⟩:=zy3 r
 cases rx
 rcases h with ⟨hq,q⟩|⟨hq,q⟩
 ·obtain⟨its,r',pl,hz⟩:=I.list hq
  have hlen:=r'.length
  refine call_tuple_list pl.isList (fun h' kp=>?_) (by simp only[zbz6]<;>omega)
  have I1:Inv X pins σ H { s with heap:=h' }:=I.kept (t':=s.toks) kp
  have I2:Inv X pins σ (upd H h'.objs.size (.tup ys)) { s with heap:=h'.push { cls:=.type "tuple",data:=.seq its.toArray } }:=
   I1.laid (t':=s.toks) (fun b o e=>zbz8 _ e) (zca7 _) (show zf7 X.prog X.w _ _ _ (.tup ys) from ⟨hz,its,r',IsTup.new _ _⟩)
  exact⟨.ref h'.objs.size,_,I2,rfl,q _ (I1.hok.fresh (zca7 _))⟩
 ·obtain⟨its,r',pl,hz⟩:=I.tuple hq
  exact call_tuple_same pl ⟨.ref p,H,I,rfl,q⟩
def tyV(K:zby6)(T:String)(x:V)(H:Hp):Prop:=match x with
 | .str _=>T="str"
 | .int _=>T="int"
 | .ref p=>(T="list"/\∃ xs,SqL K H p xs)∨(T="tuple"/\∃ o,K.lookup p=some o/\o.cls=.type "tuple"/\o.dict=none) ∨
   (T="dict"/\((∃ kvs,H p=some (.dK kvs))∨∃ kvs,H p=some (.dT kvs)))∨(T="set"/\∃ S n,H p=some (.set S n))
 | _=>False
theorem zbk3{pins:List (Addr×Obj)}{σ:St}{H:Hp}{T:String}{x:V}{v:Value}(I:Inv X pins σ H s)(r:RelV x v)(ty:tyV X.K T x H) :
  s.TypeIs v T/\∀ a,v=.ref a->∃ ob,s.heap.get? a=some ob/\ob.dict=none:=by
 cases x with
 | str z=>
  obtain⟨t,rfl⟩:=r
  cases (show T="str" from ty)
  exact⟨typeIs_str s z t,fun _ e=>nomatch e⟩
 | int i=>
  obtain⟨t,rfl⟩:=r
  cases (show T="int" from ty)
  exact⟨typeIs_int s i t,fun _ e=>nomatch e⟩
 | ref p=>
  cases r
  rcases ty with ⟨rfl,xs,hq⟩|⟨rfl,o,hk,hc,hd⟩|⟨rfl,hk⟩|⟨rfl,S,n,hk⟩
  ·obtain⟨its,_,pl,_⟩:=I.list hq
   refine⟨pl.isList.typeIs,fun a e=>?_⟩
   cases e
   obtain⟨o,n,e,c,hd,_⟩:=pl
   exact⟨o,e,hd⟩
  ·refine⟨⟨o,I.kIn p o hk,hc⟩,fun a e=>?_⟩
   cases e
   exact⟨o,I.kIn _ o hk,hd⟩
  ·have z:∃ o,s.heap.get? p=some o/\o.ExactDict:=by
    rcases hk with ⟨kvs,hk⟩|⟨kvs,hk⟩
    ·obtain⟨_,_,_,_,o,_,_,e,ex,_⟩:=I.hok p _ hk
     exact⟨o,e,ex⟩
    ·obtain⟨_,_,_,_,o,_,_,e,ex,_⟩:=I.hok p _ hk
     exact⟨o,e,ex⟩
   obtain⟨o,e,ex⟩:=z
   refine⟨⟨o,e,ex.1⟩,fun a e2=>?_⟩
   cases e2
   exact⟨o,e,ex.2.1⟩
  ·obtain⟨o,_,_,_,e,ex,_⟩:=I.hok p _ hk
   refine⟨⟨o,e,ex.1⟩,fun a e2=>?_⟩
   cases e2
   exact⟨o,e,ex.2.1⟩
 | _=>exact False.elim ty
variable {o e:Expr}{es:List Expr}{to:TE}{t:TA}{name:Str}{apos cpos:Pos}{T id:String}{r:V->List V->Hp->VK->Prop}
end
def MtM(X:Cx)(id:String)(r:V->List V->Hp->VK->Prop):Prop:=
 ∀ (pins:List (Addr×Obj)) (s:Shared) (σ:St) (H:Hp) (x:V) (xs:List V) (v:Value) (us:List Value) (Q:VK),Inv X pins σ H s->RelV x v->Vals xs us->r x xs H Q ->
  wpAny (model X.prog X.w) X.A (call (.builtin id) (v :: us)) (EP X pins σ Q) X.xe s
theorem Vals.one:∀ {x:V}{us:List Value},Vals [x] us->∃ u,us=[u]/\RelV x u
 | _,_,.cons r .nil=>⟨_,rfl,r⟩
theorem Vals.two:∀ {x y:V}{us:List Value},Vals [x,y] us->∃ u v,us=[u,v]/\RelV x u/\RelV y v
 | _,_,_,.cons r (.cons q .nil)=>⟨_,_,rfl,r,q⟩
theorem Vals.rep{xs:List V}{us:List Value}(h:Vals xs us):∀ k:Nat,Vals (List.replicate k xs).flatten (List.replicate k us).flatten
 | 0=>.nil
 | k+1=>by
  rw[zcd9,zcd9,zcf9,zcf9]
  exact Vals.append h (Vals.rep h k)
theorem zan3(its:List Value):∀ (k:Nat) (acc:List Value),
  List.foldl (fun x1 x2=>x1++x2) acc.toArray (List.replicate k its.toArray)=(acc++(List.replicate k its).flatten).toArray
 | 0,acc=>by simp
 | k+1,acc=>by
  have e:acc.toArray++its.toArray=(acc++its).toArray:=by simp
  have e2:(acc++its)++(List.replicate k its).flatten=acc++(List.replicate (k+1) its).flatten:=by
   rw[zcd9,zcf9,zcb4]
  rw[← e2,← zan3 its k (acc++its),← e,zcd9,List.foldl_cons]
section
variable {X:Cx}{pins:List (Addr×Obj)}{σ:St}{H:Hp}{s:Shared}{l b:Addr}{xs ys zs:List V}
theorem Inv.lset{its its':List Value}{n:Nat}{f:Array Value->Array Value}{t':Nat}(I:Inv X pins σ H s)(hH:H l=some (.lst xs))(e:s.heap.get? l=some { cls:=.type "list",data:=.seq its.toArray n })(hf:f its.toArray=its'.toArray)(hv:Vals ys its')(hz:ys.length<=sizeLine) :
  Inv X pins σ (upd H l (.lst ys)) { s with heap:=s.heap.update l (Obj.mapSeq f),toks:=t' }:=by
 have q:=PySem.IsL.update e f
 rw[hf] at q
 refine I.write (x:=l) (e:=l) (by rw[hH];exact trivial) (.inl rfl) (fun b' u hb hu=>(zca1 s.heap (Obj.mapSeq f) (Ne.symm hb)).trans hu) ⟨_,q⟩ ?_
 exact⟨hz,its',_,hv,q⟩
theorem Inv.lnew{its:List Value}{t':Nat}(I:Inv X pins σ H s)(hv:Vals ys its)(hz:ys.length<=sizeLine) :
  Inv X pins σ (upd H s.heap.objs.size (.lst ys)) { s with heap:=s.heap.push { cls:=.type "list",data:=.seq its.toArray },toks:=t' }:=
 I.laid (fun _ _ q=>zbz8 _ q) (zca7 _) ⟨hz,its,0,hv,zcd0 _ rfl⟩
theorem Inv.fresh(I:Inv X pins σ H s):H s.heap.objs.size=none:=I.hok.fresh (zca7 _)
theorem Inv.lstM(I:Inv X pins σ H s)(hH:H l=some (.lst xs)):xs.length<=sizeLine/\∃ (its:List Value) (n:Nat),Vals xs its/\xs.length=its.length/\s.heap.get? l=some { cls:=.type "list",data:=.seq its.toArray n }:=by
 obtain⟨z,its,n,r,e⟩:=I.hok l _ hH
 exact⟨z,its,n,r,r.length,e⟩
theorem zas3{n:Nat}(h:n<=sizeLine):Builtin.List.listTooLong n=false:=by
 unfold Builtin.List.listTooLong
 exact decide_eq_false (by omega)
end
section
variable {X:Cx}
def zbp1:V->List V->Hp->VK->Prop:=fun x vs H Q=>∃ l xs y,x=.ref l/\vs=[y]/\H l=some (.lst xs)/\xs.length<sizeLine/\Q .non (upd H l (.lst (xs++[y])))
theorem zan2:MtM X "list.append" zbp1:=by
 intro pins s σ H x vs v us Q I rx rv h
 obtain⟨l,xs,y,rfl,rfl,hH,hz,q⟩:=h
 cases rx
 obtain⟨u,rfl,ru⟩:=rv.one
 obtain⟨z,its,n,r,hl,e⟩:=I.lstM hH
 refine call_meets F.slot_list_append ⟨_,e,rfl⟩ F.entry_list_append (F.args_list_append_2 _ _) (PySem.list_append l its.toArray n u (by rw[zbz6];omega)) ⟨e,?_⟩
 refine⟨.non,_,I.lset (its':=its++[u]) hH e (by simp) (r.append (.cons ru .nil)) ?_,rfl,q⟩
 rw[zbz2,zcb1]
 omega
def zbn0:V->List V->Hp->VK->Prop:=fun x vs H Q=>∃ l b xs zs,x=.ref l/\vs=[.ref b]/\H l=some (.lst xs)/\H b=some (.lst zs)/\xs.length+zs.length<=sizeLine/\Q .non (upd H l (.lst (xs++zs)))
theorem mt_extend:MtM X "list.extend" zbn0:=by
 intro pins s σ H x vs v us Q I rx rv h
 obtain⟨l,b,xs,zs,rfl,rfl,hH,hB,hz,q⟩:=h
 cases rx
 obtain⟨u,rfl,ru⟩:=rv.one
 cases ru
 obtain⟨z,its,n,r,hl,e⟩:=I.lstM hH
 obtain⟨z2,its2,n2,r2,hl2,e2⟩:=I.lstM hB
 have hsz:its.toArray.size+its2.toArray.size<=sizeLine:=by rw[zbz6,zbz6];omega
 have hlong:¬ (!its.toArray.isEmpty&&Builtin.List.listTooLong (its.toArray.size+its2.toArray.size))=true:=by
  rw[zas3 hsz,Bool.and_false]
  exact zbz3
 refine call_meets F.slot_list_extend ⟨_,e,rfl⟩ F.entry_list_extend (F.args_list_extend_2 _ _)
  (AutoSeq1.list_extend_list_list_0 l its.toArray n b its2.toArray n2 hlong (by rw[zbz6];omega) (by omega)) ⟨e,e2,?_⟩
 refine⟨.non,_,I.lset (its':=its++its2) hH e (by simp) (r.append r2) ?_,rfl,q⟩
 rw[zbz2]
 omega
def rCat:R2:=fun x y H Q=>∃ l b xs zs,x=.ref l/\y=.ref b/\H l=some (.lst xs)/\H b=some (.lst zs)/\xs.length+zs.length<=sizeLine/\∀ p,H p=none->Q (.ref p) (upd H p (.lst (xs++zs)))
theorem op_cat:OpR X (binaryOp .Add) rCat:=by
 intro pins s σ H x y v u Q I rx ry h
 obtain⟨l,b,xs,zs,rfl,rfl,hH,hB,hz,q⟩:=h
 cases rx
 cases ry
 obtain⟨z,its,n,r,hl,e⟩:=I.lstM hH
 obtain⟨z2,its2,n2,r2,hl2,e2⟩:=I.lstM hB
 refine PySem.P.add_list e e2 ?_ (by rw[zbz6,zbz6];omega)
 have ea:its.toArray++its2.toArray=(its++its2).toArray:=by simp
 rw[ea]
 exact⟨.ref _,_,I.lnew (t':=s.toks) (r.append r2) (by rw[zbz2];omega),rfl,q _ I.fresh⟩
def rRep:R2:=fun x y H Q=>∃ l k xs,x=.ref l/\y=.int k/\H l=some (.lst xs)/\-(2 ^ 63)<=k/\k<2 ^ 63/\xs.length*k.toNat<=sizeLine /\
 ∀ p,H p=none->Q (.ref p) (upd H p (.lst (List.replicate k.toNat xs).flatten))
theorem zbq5{α:Type}(xs:List α)(k:Nat):(List.replicate k xs).flatten.length=k*xs.length:=by
 induction k with
 | zero=>simp
 | succ k ih=>rw[zcd9,zcf9,zbz2,ih,Nat.succ_mul,Nat.add_comm]
theorem op_rep:OpR X (binaryOp .Mult) rRep:=by
 intro pins s σ H x y v u Q I rx ry h
 obtain⟨l,k,xs,rfl,rfl,hH,h1,h2,hz,q⟩:=h
 cases rx
 obtain⟨t,rfl⟩:=ry
 obtain⟨z,its,n,r,hl,e⟩:=I.lstM hH
 have hlen:its.toArray.size*k.toNat<=sizeLine:=by rw[zbz6,← hl];exact hz
 have hcap:¬ its.toArray.size*k.toNat>(2 ^ 63 - 1) / 8:=by
  have:(sizeLine:Nat)<=(2 ^ 63 - 1) / 8:=by decide
  omega
 have hfit:¬ (!Builtin.List.listFitsIndex k)=true:=by
  rw[fitsIndex_both h1 h2]
  exact zbz3
 have hlong:¬ Builtin.List.listTooLong (its.toArray.size*k.toNat)=true:=by
  rw[zas3 hlen]
  exact zbz3
 have hnew:List.foldl (fun x1 x2=>x1++x2) #[] (List.replicate (if its.toArray.isEmpty=true then 0 else k.toNat) its.toArray)=(List.replicate k.toNat its).flatten.toArray:=by
  have f0:∀ m:Nat,List.foldl (fun x1 x2=>x1++x2) #[] (List.replicate m its.toArray)=(List.replicate m its).flatten.toArray:=fun m=>by
   have:=zan3 its m []
   rw[zce4] at this
   exact this
  rw[f0]
  cases its with
  | nil=>simp
  | cons a r'=>rw[if_neg (by simp)]
 refine wpAny_binaryOp_repeat_ref (T:="list") (U:="int") (by decide) ⟨_,e,rfl⟩ (fun s'=>typeIs_int s' k t) noFill_list_mul F.fills_int_mul F.slot_int_rmul repeat_list F.slot_int_index.lookup
  (call_meets F.slot_int_rmul (typeIs_int s k t) F.entry_int_rmul (F.args_int_rmul_2 _ _) (int___rmul___int_list k t l its.toArray n)
   ⟨e,rfl,⟨_,e,rfl⟩,call_meets F.slot_list_mul ⟨_,e,rfl⟩ F.entry_list_mul (F.args_list_mul_2 _ _) (AutoListH.list___mul___list_int_3 l its.toArray n k t hfit hcap hlong) ⟨e,?_⟩⟩)
 rw[hnew]
 exact⟨.ref _,_,I.lnew (t':=s.toks) (r.rep k.toNat) (by rw[zbq5,Nat.mul_comm];exact hz),rfl,q _ I.fresh⟩
end
end L2
namespace Att
open PySem PySem.W PySem.Calls PyProof.Rows
theorem zx1{P:Params}{h:Heap}:∀ (ns:List Int) (vs:List Value),WellAll P h vs (ns.map WData.int)->IntsAre vs ns:=by
 intro ns
 induction ns with
 | nil=>
  intro vs w
  rw[List.map_nil] at w
  cases w
  exact .nil
 | cons n ns ih=>
  intro vs w
  rw[zcf8] at w
  cases w with
  | cons a b=>
   cases a
   exact .cons _ _ (ih _ b)
theorem zbf6{l:OpenLaw}{n:Nat}(hn:l.most=some n){P:Params}{h:Heap}{args:List WData}{vals:List Value}(hpre:l.row.toRowW.claim.pre args=true)(hwl:WellAll P h vals args) :
  ∃ a vs ns,vals=[Value.ref a]/\args=[WData.list (ns.map WData.int)]/\h.get? a=some { cls:=.type "list",data:=.seq vs.toArray }/\IntsAre vs ns/\ns.length<=n:=by
 have hsh:WShape.hasAll [] args [.list .int]=true:=(pre_splitW hpre).1
 have hc:l.pre.holds [] { args:=args }=true:=(pre_splitW hpre).2
 obtain⟨d,r,rfl,h1,h2⟩:=hasAllW_cons hsh
 obtain rfl:=hasAllW_nil h2
 obtain⟨xs,rfl,h3⟩:=hasW_list h1
 obtain⟨ns,rfl⟩:=items_int h3
 have hlen:ns.length<=n:=by
  unfold OpenLaw.pre at hc
  have h4:(WTm.not (.lt (.lit (.int (n:Int))) (.len (.arg 0)))).holds [] { args:=[.list (ns.map .int)] }=true:=by
   have h4:=(holds_andW hc).1
   rw[hn] at h4
   exact h4
  have h5:=condW_of h4 (w_not (w_lt w_lit (w_len_list (w_arg rfl))))
  rw[zby7] at h5
  refine Nat.le_of_not_lt fun q=>?_
  have q':(n:Int)<((ns.length:Nat):Int):=by omega
  first
   | (rw[decide_eq_true q'] at h5;exact absurd h5 (by decide))
   | (simp at h5;omega)
 cases hwl with
 | cons w1 w2=>
  cases w2
  cases w1 with
  | list ho hall=>exact⟨_,_,ns,rfl,rfl,ho,zx1 ns _ hall,hlen⟩
theorem zbh1(l:OpenLaw)(args:List WData):l.row.toRowW.claim.post args (.bool true) args=true:=
 postW_of (r:=l.row.toRowW) (X:=(true==true))
  (show WShape.has [] (.bool true) .bool=true by first|rfl|decide|simp[WShape.has,WShape.arms,WShape.armsAll])
  (show (WTm.eq .res (.lit (.bool true))).value [] { args:=args,res:=some (.bool true),after:=args }=some (.bool (true==true)) from w_eq_bool (w_res rfl) w_lit) rfl
theorem attach_call{l:OpenLaw}{n:Nat}{q:Program}{loose:List Str}{XP:(Str->Option Value)->Heap->Prop}{YP:World->Heap->Prop}{d:DefRec}(hn:l.most=some n)(hdf:d.params.defaults=[])(call:∀ (w:World) (s₀ s₁:Shared) (mg mb:Str->Option Value) (fa:Addr) (o:Obj) (pm cd doc:Value) (a:Addr) (vs:List Value) (ns:List Int),
   Ground q loose [] XP w s₀ mg mb s₁.heap->YP w s₁.heap ->
   s₁.heap.get? fa=some o->o.data=.func (docDef d.name d.params d.body d.scope pm cd doc)->s₁.heap.CodeRec cd d.name->mg d.name=some (.ref fa) ->
   s₁.heap.get? a=some { cls:=.type "list",data:=.seq vs.toArray }->IntsAre vs ns->ns.length<=n->s₁.gens=#[] ->
   codeAny (model l.prog w) callerA (.call (.ref fa) ⟨[.ref a],[]⟩) (fun r s'=>r=.ok (.ret (.bool true))/\OldK s₁.heap s'.heap/\s'.os=s₁.os/\AllBare s'.gens) s₁) :
  WalkO q loose XP YP l.row.toRowW d [] (fun f vs=>PySem.call f vs):=by
 intro w s₀ s₁ mg mb G Y fa o pm cd doc dV kV ho hd hcd hD hmg hg args vals as hpre hlay hrd hwl hlo
 obtain rfl:dV=.none:=Dflts.none hD hdf
 obtain rfl:kV=.none:=Dflts.noKw hD
 obtain⟨a,vs,ns,rfl,rfl,hobj,hints,hlen⟩:=zbf6 hn hpre hwl
 refine enter_call (codeAny_mono (call w s₀ s₁ mg mb fa o pm cd doc a vs ns G Y ho (fd_plain hd) hcd hmg hobj hints hlen hg) fun r s' hq=>?_)
 obtain⟨rfl,h2,h3,h4⟩:=hq
 exact⟨.inl ⟨.bool true,.bool true,[],rfl,fun _=>rfl,.bool true,zbh1 l _,fun _=>⟨List.Pairwise.nil,fun _ hm=>(nomatch hm)⟩⟩,h2,h3,h4⟩
section
variable {prog:Program}{w:World}{A:Around}{E:Value->Shared->Prop}{s:Shared}{K:Frag}
def ledger(h:Heap)(L d:Addr):List (Addr×Obj):=(List.range h.objs.size).filterMap fun a=>if a=L∨a=d then none else (h.get? a).map fun o=>(a,o)
end
end Att
namespace L2
open PySem PySem.Spec PyProof.Rows
variable {sp:Sp}{qual:Str}{st:Stmt}{ps:List Str}{H H' H1:Hp}{o:HO}{pos:Pos}{e iter tg:Expr}{es:List Expr}{i j:Nat}{scope:Scope}{C D:Addr}{Q:VK}
theorem zan1:∀ {vs:List Value}{ns:List Int},IntsAre vs ns->Vals (ns.map V.int) vs
 | _,_,.nil=>.nil
 | _,_,.cons n t h=>.cons ⟨t,rfl⟩ (zan1 h)
def Only(H:Hp):Prop:=∀ b,H b=none∨∃ o xs,H b=some (.frz o (.lst xs))
theorem zbh5{P:Program}{w:World}{K:zby6}{mg mb:Str->Option Value}{CX:CXT}{k:Nat}{fa a:Addr}{fd:FuncData}{x:Str}{s₁:Shared}{vs:List Value}{ns:List Int}(KX:K.In s₁.heap)(hns:s₁.heap.Ns zci4 mg)(hb:s₁.heap.Ns builtinsNs mb)(hbb:∀ x:Str,x≠"__name__"->mb x=bootBuiltins x)(hlim:s₁.heap.NoLimit)(hg:s₁.gens=#[])(ha:s₁.heap.get? a=some { cls:=.type "list",data:=.seq vs.toArray })(hi:IntsAre vs ns)(hl:ns.length<=sizeLine)(hr:Room k callerA)(F:∀ base:Heap,K.In base->base.Ns zci4 mg->FnOk P w K mg base CX k fa fd [x] sp)(hbind:∀ (s:Shared) (u:Value),BindsTo s fd ⟨[u],[]⟩ [(x,u)])(hsp:∀ H:Hp,Only H->SqL K H a (ns.map V.int)->sp [.ref a] H (fun v _=>v=.bl true) fun _ _ _=>False)(hCX:∀ H e s',CX [] H s₁ (fun _ _ _=>False) e s'->False) :
  codeAny (model P w) callerA (.call (.ref fa) ⟨[.ref a],[]⟩) (fun r s'=>r=.ok (.ret (.bool true))/\OldK s₁.heap s'.heap/\s'.os=s₁.os/\AllBare s'.gens) s₁:=by
 have rv:=zan1 hi
 have lenV:=hi.length
 have core:∀ H:Hp,Only H->SqL K H a (ns.map V.int)->HOk P w H s₁.heap->(∀ b,H b≠none->b=a)->(H a≠none->K.lookup a=none) ->
   codeAny (model P w) callerA (.call (.ref fa) ⟨[.ref a],[]⟩) (fun r s'=>r=.ok (.ret (.bool true))/\OldK s₁.heap s'.heap/\s'.os=s₁.os/\AllBare s'.gens) s₁:=by
  intro H hO hS hok hA hK
  have base_of:∀ {b:Addr}{o:Obj},s₁.heap.get? b=some o->H b=none->(hidT s₁.heap H).get? b=some o:=fun e n=>zbi9 e n
  have noA:∀ {b:Addr}{o:Obj}{es:Array DictEntry}{ep:Nat},s₁.heap.get? b=some o->o.data=.dict es ep->H b=none:=fun {b o es ep} e d=>by
   cases q:H b with
   | none=>rfl
   | some u=>
    have e':b=a:=hA b (by rw[q];simp)
    subst e'
    rw[ha] at e;cases e
    have d':Data.seq vs.toArray _=Data.dict es ep:=d
    cases d'
  have nsK:∀ {b:Addr}{m:Str->Option Value},s₁.heap.Ns b m->(hidT s₁.heap H).Ns b m:=fun {b m} ⟨o,es,ep,e,d,r⟩=>⟨o,es,ep,base_of e (noA e d),d,r⟩
  have hKb:K.In (hidT s₁.heap H):=fun b o e=>base_of (KX b o e) (by
   cases q:H b with
   | none=>rfl
   | some u=>
    have e':b=a:=hA b (by rw[q];simp)
    subst e'
    rw[hK (by rw[q];simp)] at e;cases e)
  have hM:Mod K mg (hidT s₁.heap H):=⟨hKb,nsK hns,⟨mb,nsK hb,hbb⟩,let ⟨mc,h1,h2⟩:=hlim;⟨mc,nsK h1,h2⟩⟩
  have e0:Env0 P w K mg (hidT s₁.heap H) callerA [] s₁ H:=⟨rfl,hM,fun b o e=>zbo6 e,Nat.le_of_eq (zbe6 _ _),trivial,fun b hb=>absurd (show b∈([]:List Addr) from hb) (by simp),hok,.of_eq hg⟩
  refine codeAny_mono ((F _ hKb (nsK hns)).run callerA [] s₁ H ⟨[.ref a],[]⟩ [.ref a] [.ref a] _ _ hr e0 (hbind s₁ (.ref a)) (.cons rfl .nil) (hsp H hO hS)) fun r s' h=>?_
  cases r with
  | error e=>exact (hCX H e s' h).elim
  | ok fl=>
   cases fl with
   | next=>exact False.elim h
   | brk=>exact False.elim h
   | cont=>exact False.elim h
   | ret u=>
    obtain⟨v,H',os,bare,un,hok',r',q⟩:=h
    have q':v=.bl true:=q
    subst q'
    obtain rfl:u=Value.bool true:=r'
    refine⟨rfl,OldK.of_keep fun b o e=>?_,os,bare⟩
    cases q:H b with
    | none=>exact un.keep b o e q (by intro z;exact absurd (show b∈([]:List Addr) from z) (by simp)) (by simp)
    | some u=>
     rcases hO b with z|⟨ob,xs,z⟩
     ·rw[q] at z;cases z
     ·have z2:=un.frzs b ob _ z
      obtain⟨e1,_⟩:=hok b _ z
      obtain⟨e2,_⟩:=hok' b _ z2
      rw[e] at e1;cases e1
      exact e2
 cases hk:K.lookup a with
 | some o=>
  have e:=KX a o hk
  rw[ha] at e
  cases e
  refine core (fun _=>none) (fun _=>.inl rfl) (.inr ⟨_,vs.toArray,_,hk,rfl,rfl,rfl,by rw[zbz6,lenV];exact hl,by simpa using rv⟩) (fun b u z=>by have z':(none:Option HO)=some u:=z;cases z') (fun b z=>absurd rfl z) fun z=>absurd rfl z
 | none=>
  refine core (fun b=>if b=a then some (.frz { cls:=.type "list",data:=.seq vs.toArray } (.lst (ns.map V.int))) else none) (fun b=>?_) (.inl (.inr ⟨{ cls:=.type "list",data:=.seq vs.toArray },if_pos rfl⟩)) (fun b u z=>?_) (fun b z=>?_) fun _=>hk
  ·by_cases hb:b=a
   ·exact .inr ⟨_,_,if_pos hb⟩
   ·exact .inl (if_neg hb)
  ·by_cases hb:b=a
   ·have z':=(if_pos hb).symm.trans z
    cases z'
    subst hb
    exact⟨ha,by rw[zby7];exact hl,vs,_,rv,ha⟩
   ·have z':=(if_neg hb).symm.trans z
    cases z'
  ·by_cases hb:b=a
   ·exact hb
   ·exact absurd (if_neg hb) z
theorem walk_of{l:PySem.W.OpenLaw}{n k:Nat}{q:Program}{loose:List Str}{XP:(Str->Option Value)->Heap->Prop}{YP:World->Heap->Prop}{d:DefRec}{K:Params->zby6}{CX:World->CXT}{sp:World->Sp}{x:Str}(hn:l.most=some n)(hn2:n<=sizeLine)(hdf:d.params.defaults=[])(hr:Room k callerA)(hY:∀ (w:World) (h:Heap),YP w h->(K w.params).In h)(F:∀ (w:World) (mg:Str->Option Value) (fa:Addr) (h:Heap),(K w.params).In h->h.Ns zci4 mg->mg d.name=some (.ref fa) ->
   ∃ fd:FuncData,(∀ (s:Shared) (u:Value),BindsTo s fd ⟨[u],[]⟩ [(x,u)]) /\
    ∀ base:Heap,(K w.params).In base->base.Ns zci4 mg->FnOk l.prog w (K w.params) mg base (CX w) k fa fd [x] (sp w))(hsp:∀ (w:World) (H:Hp) (a:Addr) (ns:List Int),ns.length<=n->Only H->SqL (K w.params) H a (ns.map V.int)->sp w [.ref a] H (fun v _=>v=.bl true) fun _ _ _=>False)(hCX:∀ (w:World) (H:Hp) (s:Shared) (e:Value) (s':Shared),CX w [] H s (fun _ _ _=>False) e s'->False) :
  PySem.W.WalkO q loose XP YP l.row.toRowW d [] (fun f vs=>PySem.call f vs):=by
 refine Att.attach_call hn hdf fun w s₀ s₁ mg mb fa o pm cd doc a vs ns G Y ho hd hcd hmg hobj hints hlen hg=>?_
 have KX:=hY w _ Y
 obtain⟨fd,hb,hF⟩:=F w mg fa _ KX G.T.g hmg
 exact zbh5 KX G.T.g G.T.b G.T.builtins G.T.nolimit hg hobj hints (zcc5 hlen hn2) hr hF hb (fun H hO hS=>hsp w H a ns hlen hO hS) fun H e s'=>hCX w H s₁ e s'
def zbb8(s:Stmt)(j:Nat):Stmt:=match s with
 | .ClassDef _ _ _ body _ _ _ _ _ _ _=>body.getD j (.Pass ⟨0,0,0,0⟩)
 | _=>.Pass ⟨0,0,0,0⟩
def zk7(s:Stmt):Arguments:=match s with
 | .FunctionDef _ a _ _ _ _ _ _ _ _=>a
 | _=>{ posonlyargs:=[],args:=[],vararg:=none,kwonlyargs:=[],kw_defaults:=[],kwarg:=none,defaults:=[] }
def zh7(s:Stmt):List Stmt:=match s with
 | .FunctionDef _ _ b _ _ _ _ _ _ _=>b
 | _=>[]
def za5(s:Stmt):Scope:=match s with
 | .FunctionDef _ _ _ _ _ _ sc _ _ _=>sc
 | _=>{ kind:=.function,names:=[],isGenerator:=false,isCoroutine:=false }
abbrev CX0:CXT:=fun _ _ _ _ _ _=>False
abbrev E0:XK:=fun _ _ _=>False
theorem zd6{X:Cx}:zac3 CX0 X E0:=fun _ _ _ _ _ _ _ h=>h.elim
structure Fun(K:zby6)(x qual:Str)(st:Stmt)(f:Addr)(fd:FuncData):Prop where
 ex:∃ (oc:Value) (od:Option Addr) (kV doc pm:Value) (an:Option Addr) (cdv ct:Value) (osl:Array (Option Value)),
  fd=zce9 x qual (zk7 st) (zh7 st) (za5 st) .none kV doc pm an cdv ct/\K.lookup f=some ⟨oc,od,.func fd,osl⟩/\zcg4 K cdv qual=true
 kp:zcf3 K (.ref f)=true
section
variable {P:Program}{w:World}{K:zby6}{mg:Str->Option Value}{base:Heap}
theorem Fun.ok{x:Str}{f:Addr}{fd:FuncData}{N:List Str}{k:Nat}(F:Fun K x qual st f fd)(S:zb2 N ps (za5 st))(len:∀ vs H Q E,sp vs H Q E->vs.length=ps.length)(hbody:∀ (cdv:Value) (A:Around) (outer:List Env) (s:Shared) (H:Hp) (vs:List V) (Q:VK) (E:XK),Room k (A.deeper (envOfC qual (za5 st) s.heap.objs.size f cdv))->sp vs H Q E ->
   ∃ t,PSs (cxOf CX0 P w K mg base N qual (za5 st) f cdv A outer s H E).nox (zh7 st) t/\t { nx:=fun _ H'=>Q .non H',rt:=Q } (zv0 N vs) H):FnOk P w K mg base CX0 (k+1) f fd ps sp:=by
 obtain⟨oc,od,kV,doc,pm,an,cdv,ct,osl,rfl,lk,hcd⟩:=F.ex
 refine fn_of lk hcd S len fun A outer s H vs Q E hr hsp=>?_
 obtain⟨t,h,q⟩:=hbody cdv A outer s H vs Q E hr hsp
 exact⟨t,h.nox,q⟩
theorem Fun.binds{x:Str}{f:Addr}{fd:FuncData}(F:Fun K x qual st f fd)(h:∀ (kV doc pm:Value) (an:Option Addr) (cdv ct:Value) (us:List Value),us.length=ps.length->bindArgs (zce9 x qual (zk7 st) (zh7 st) (za5 st) .none kV doc pm an cdv ct) ⟨us,[]⟩=pure (ps.zip us)):zaa2 K fd ps []:=by
 obtain⟨oc,od,kV,doc,pm,an,cdv,ct,osl,rfl,lk,hcd⟩:=F.ex
 exact .all (h kV doc pm an cdv ct)
theorem zac8{x:Str}{f:Addr}{oc:Value}{od an:Option Addr}{osl:Array (Option Value)}{kV doc pm cdv ct:Value}(l:K.lookup f=some ⟨oc,od,.func (zce9 x qual (zk7 st) (zh7 st) (za5 st) .none kV doc pm an cdv ct),osl⟩)(c:zcg4 K cdv qual=true)(k:zcf3 K (.ref f)=true):Fun K x qual st f (zce9 x qual (zk7 st) (zh7 st) (za5 st) .none kV doc pm an cdv ct):=⟨⟨oc,od,kV,doc,pm,an,cdv,ct,osl,rfl,l,c⟩,k⟩
end
theorem iteF{A B:Prop}(h:B):if false=true then A else B:=by
 rw[if_neg zbz3]
 exact h
theorem iteT{A B:Prop}(h:A):if true=true then A else B:=by
 rw[if_pos rfl]
 exact h
def Same(H H':Hp):Prop:=∀ b o,H b=some o->H' b=some o
theorem Same.refl(H:Hp):Same H H:=fun _ _ h=>h
theorem Same.trans{H2:Hp}(a:Same H H1)(b:Same H1 H2):Same H H2:=fun c o h=>b c o (a c o h)
theorem Same.free(e:Same H H'){l:Addr}(h:H' l=Option.none):H l=Option.none:=by
 cases q:H l with
 | none=>rfl
 | some o=>
  rw[e l o q] at h
  cases h
theorem Same.seq{K:zby6}{a:Addr}{xs:List V}(e:Same H H')(h:SqL K H a xs):SqL K H' a xs:=by
 rcases h with (h|⟨o,h⟩)|h
 ·exact .inl (.inl (e _ _ h))
 ·exact .inl (.inr ⟨o,e _ _ h⟩)
 ·exact .inr h
set_option maxHeartbeats 1000000
@[irreducible] def br(c:Bool)(A B:Prop):Prop:=if c=true then A else B
section
variable {A B p:Prop}{c:Bool}
theorem zq7:br c A B=(if c=true then A else B):=by unfold br;rfl
theorem br_T(h:A):br true A B:=by unfold br;exact iteT h
theorem br_F(h:B):br false A B:=by unfold br;exact iteF h
theorem br_any(h1:c=true->A)(h2:c=false->B):br c A B:=by
 cases c with
 | true=>exact br_T (h1 rfl)
 | false=>exact br_F (h2 rfl)
theorem ze0 [Decidable p](h1:p->A)(h2:¬ p->B):br (decide p) A B:=br_any (fun h=>h1 (of_decide_eq_true h)) fun h=>h2 (of_decide_eq_false h)
theorem zk9 [Decidable p](hp:p)(h:A):br (decide p) A B:=ze0 (fun _=>h) fun n=>absurd hp n
theorem zm3 [Decidable p](hp:¬ p)(h:B):br (decide p) A B:=ze0 (fun n=>absurd n hp) fun _=>h
theorem zc6(h:br c B A):br (!c) A B:=by
 cases c with
 | true=>unfold br at h ⊢;simpa using h
 | false=>unfold br at h ⊢;simpa using h
end
def Chg(a:Addr)(H H':Hp):Prop:=∀ b o,b≠a->H b=some o->H' b=some o
theorem Chg.upd{H:Hp}{a:Addr}{o:HO}:Chg a H (upd H a o):=fun b u hb e=>by rw[zb0 hb];exact e
theorem Same.upd{H:Hp}{a:Addr}{o:HO}(h:H a=none):Same H (L2.upd H a o):=fun b u e=>by rw[zb0 (za4 e h)];exact e
theorem Same.chg{H0:Hp}{a:Addr}(s:Same H0 H)(n:H0 a=none)(c:Chg a H H'):Same H0 H':=fun b o e=>c b o (za4 e n) (s b o e)
theorem Chg.refl(a:Addr)(H:Hp):Chg a H H:=fun _ _ _ e=>e
theorem Chg.trans{H2:Hp}{a:Addr}(x:Chg a H H1)(y:Chg a H1 H2):Chg a H H2:=fun b o h e=>y b o h (x b o h e)
theorem Chg.same{H2:Hp}{a:Addr}(x:Chg a H H1)(y:Same H1 H2):Chg a H H2:=fun b o h e=>y b o (x b o h e)
theorem Same.toChg{a:Addr}(x:Same H H1):Chg a H H1:=fun b o _ e=>x b o e
theorem Same.at{b:Addr}(s:Same H H')(e:H b=some o):H' b=some o:=s b o e
theorem Chg.at{a b:Addr}(s:Chg a H H')(e:H b=some o)(n:b≠a):H' b=some o:=s b o n e
def qV(i:Nat):TE:=fun σ H Q=>match σ[i]? with
 | some (some v)=>Q v H
 | _=>False
section
variable {X:Cx}
theorem pq(i:Nat){x:Str}(hN:X.N[i]?=some x:=by rfl)(hv:Vis X.env.scope x:=by first|exact Or.inl rfl|exact Or.inr (Or.inl rfl)|exact Or.inr (Or.inr rfl))(hd:(x==("__debug__":Str))=false:=by decide)(hcd:(x==("__classdict__":Str))=false:=by decide):PE X (.Name x pos) (qV i):=fun pins s σ H Q I h=>by
 refine pe_var hN hv hd hcd pins s σ H Q I ?_
 unfold qV at h
 split at h
 ·rename_i v e
  exact⟨v,e,h⟩
 ·exact h.elim
@[irreducible] def zay7(i j:Int)(H:Hp)(Q:VK):Prop:=IntMulOk i j/\Q (.int (i*j)) H
@[irreducible] def rDivI(i j:Int)(H:Hp)(Q:VK):Prop:=(j≠0/\j.natAbs.log2<9000)/\Q (.int (i.fdiv j)) H
@[irreducible] def zbb9(i j:Int)(H:Hp)(Q:VK):Prop:=j≠0/\Q (.int (i.fmod j)) H
@[irreducible] def rPowI(i j:Int)(H:Hp)(Q:VK):Prop:=CPow i j/\Q (.int (i ^ j.toNat)) H
@[irreducible] def rCatL(a b:Addr)(H:Hp)(Q:VK):Prop:=∃ xs zs,H a=some (.lst xs)/\H b=some (.lst zs)/\xs.length+zs.length<=sizeLine /\
 ∀ p H',H p=none->Same H H'->H' p=some (.lst (xs++zs))->Q (.ref p) H'
@[irreducible] def rRepL(a:Addr)(k:Int)(H:Hp)(Q:VK):Prop:=∃ xs,H a=some (.lst xs)/\-(2 ^ 63)<=k/\k<2 ^ 63/\xs.length*k.toNat<=sizeLine /\
 ∀ p H',H p=none->Same H H'->H' p=some (.lst (List.replicate k.toNat xs).flatten)->Q (.ref p) H'
def rAddM:R2:=fun x y H Q=>match x,y with
 | .int i,.int j=>Q (.int (i+j)) H
 | .ref a,.ref b=>rCatL a b H Q
 | .str a,.str b=>a.length+b.length<=sizeLine/\Q (.str (a++b)) H
 | _,_=>False
def rSubM:R2:=fun x y H Q=>match x,y with
 | .int i,.int j=>Q (.int (i - j)) H
 | _,_=>False
def rMulM:R2:=fun x y H Q=>match x,y with
 | .int i,.int j=>zay7 i j H Q
 | .ref a,.int k=>rRepL a k H Q
 | _,_=>False
def rDivM:R2:=fun x y H Q=>match x,y with
 | .int i,.int j=>rDivI i j H Q
 | _,_=>False
def rModM:R2:=fun x y H Q=>match x,y with
 | .int i,.int j=>zbb9 i j H Q
 | _,_=>False
def rPowM:R2:=fun x y H Q=>match x,y with
 | .int i,.int j=>rPowI i j H Q
 | _,_=>False
theorem oAdd:OpR X (binaryOp .Add) rAddM:=by
 intro pins s σ H x y v u Q I rx ry h
 unfold rAddM at h
 split at h
 ·exact op_add pins s σ H _ _ v u Q I rx ry ⟨_,_,rfl,rfl,h⟩
 ·unfold rCatL at h
  obtain⟨xs,zs,h1,h2,h3,h4⟩:=h
  exact op_cat pins s σ H _ _ v u Q I rx ry ⟨_,_,xs,zs,rfl,rfl,h1,h2,h3,fun p hp=>h4 p _ hp (Same.upd hp) zb8⟩
 ·exact zaw2 pins s σ H _ _ v u Q I rx ry ⟨_,_,rfl,rfl,h.1,h.2⟩
 ·exact h.elim
theorem oSub:OpR X (binaryOp .Sub) rSubM:=by
 intro pins s σ H x y v u Q I rx ry h
 unfold rSubM at h
 split at h
 ·exact op_sub pins s σ H _ _ v u Q I rx ry ⟨_,_,rfl,rfl,h⟩
 ·exact h.elim
theorem oMul:OpR X (binaryOp .Mult) rMulM:=by
 intro pins s σ H x y v u Q I rx ry h
 unfold rMulM at h
 split at h
 ·unfold zay7 at h
  obtain⟨t,rfl⟩:=rx
  obtain⟨t',rfl⟩:=ry
  exact mul_int ⟨.int _,H,I.tok _,⟨_,rfl⟩,h.2⟩ h.1
 ·unfold rRepL at h
  obtain⟨xs,h1,h2,h3,h4,h5⟩:=h
  exact op_rep pins s σ H _ _ v u Q I rx ry ⟨_,_,xs,rfl,rfl,h1,h2,h3,h4,fun p hp=>h5 p _ hp (Same.upd hp) zb8⟩
 ·exact h.elim
theorem oDiv:OpR X (binaryOp .FloorDiv) rDivM:=by
 intro pins s σ H x y v u Q I rx ry h
 unfold rDivM at h
 split at h
 ·unfold rDivI at h
  obtain⟨⟨h1,h2⟩,h3⟩:=h
  obtain⟨t,rfl⟩:=rx
  obtain⟨t',rfl⟩:=ry
  exact floordiv_int h1 ⟨.int _,H,I.tok _,⟨_,rfl⟩,h3⟩ (.inl (PyProof.noPylong_of_log2 h2))
 ·exact h.elim
theorem oMod:OpR X (binaryOp .Mod) rModM:=by
 intro pins s σ H x y v u Q I rx ry h
 unfold rModM at h
 split at h
 ·unfold zbb9 at h
  exact zbp0 pins s σ H _ _ v u Q I rx ry ⟨_,_,rfl,rfl,h.1,h.2⟩
 ·exact h.elim
theorem oPow:OpR X (binaryOp .Pow) rPowM:=by
 intro pins s σ H x y v u Q I rx ry h
 unfold rPowM at h
 split at h
 ·unfold rPowI at h
  exact op_pow pins s σ H _ _ v u Q I rx ry ⟨_,_,rfl,rfl,h.1,h.2⟩
 ·exact h.elim
def rNegM:V->Hp->VK->Prop:=fun x H Q=>match x with
 | .int i=>Q (.int (-i)) H
 | _=>False
theorem uNeg:UnR X (unaryOp .USub) rNegM:=by
 intro pins s σ H x v Q I rx h
 unfold rNegM at h
 split at h
 ·exact un_neg pins s σ H _ v Q I rx ⟨_,rfl,h⟩
 ·exact h.elim
section
variable {i j:Int}{H:Hp}{Q:VK}
theorem zbg1(h:IntMulOk i j)(q:Q (.int (i*j)) H):zay7 i j H Q:=by unfold zay7;exact⟨h,q⟩
theorem log2_lt{n k:Nat}(h:n<2 ^ k)(hk:0<k):n.log2<k:=by
 by_cases h0:n=0
 ·subst h0;simpa using hk
 ·exact (Nat.log2_lt h0).mpr h
theorem zbr3{j:Int}(h1:-(10 ^ 240)<j)(h2:j<10 ^ 240):j.natAbs<2 ^ 2000:=by
 have e:(10:Int) ^ 240=((10 ^ 240:Nat):Int):=by norm_cast
 have e2:(10:Nat) ^ 240<2 ^ 2000:=by decide +kernel
 rw[e] at h1 h2
 generalize hN:(10:Nat) ^ 240=N at h1 h2 e2
 generalize hM:(2:Nat) ^ 2000=M at e2
 omega
theorem div_rd(h1:0<j)(h2:j<10 ^ 240)(q:Q (.int (i / j)) H):rDivI i j H Q:=by
 unfold rDivI
 refine⟨⟨by omega,?_⟩,?_⟩
 ·have h:=log2_lt (zbr3 (j:=j) (by have:(0:Int)<10 ^ 240:=(by decide +kernel);generalize (10:Int) ^ 240=N at this;omega) h2) (by decide)
  omega
 ·rw[Int.fdiv_eq_ediv_of_nonneg _ (by omega)];exact q
theorem mod_rd(h1:0<j)(q:Q (.int (i % j)) H):zbb9 i j H Q:=by
 unfold zbb9
 refine⟨by omega,?_⟩
 rw[Int.fmod_eq_emod_of_nonneg _ (by omega)];exact q
theorem pow_rd(h:CPow i j)(q:Q (.int (i ^ j.toNat)) H):rPowI i j H Q:=by unfold rPowI;exact⟨h,q⟩
theorem zy6{a b:Addr}{xs zs:List V}(h1:H a=some (.lst xs))(h2:H b=some (.lst zs))(h3:xs.length+zs.length<=sizeLine)(q:∀ p H',H p=none->Same H H'->H' p=some (.lst (xs++zs))->Q (.ref p) H'):rCatL a b H Q:=by unfold rCatL;exact⟨xs,zs,h1,h2,h3,q⟩
end
def rLtM:R2:=fun x y H Q=>match x,y with
 | .int i,.int j=>Q (.bl (decide (i<j))) H
 | _,_=>False
def rLeM:R2:=fun x y H Q=>match x,y with
 | .int i,.int j=>Q (.bl (decide (i<=j))) H
 | _,_=>False
def rGtM:R2:=fun x y H Q=>match x,y with
 | .int i,.int j=>Q (.bl (decide (j<i))) H
 | _,_=>False
def rGeM:R2:=fun x y H Q=>match x,y with
 | .int i,.int j=>Q (.bl (decide (j<=i))) H
 | _,_=>False
theorem oLt:OpR X (compareOp .Lt) rLtM:=by
 intro pins s σ H x y v u Q I rx ry h
 unfold rLtM at h
 split at h
 ·exact op_lt pins s σ H _ _ v u Q I rx ry ⟨_,_,rfl,rfl,h⟩
 ·exact h.elim
theorem oLe:OpR X (compareOp .LtE) rLeM:=by
 intro pins s σ H x y v u Q I rx ry h
 unfold rLeM at h
 split at h
 ·exact op_le pins s σ H _ _ v u Q I rx ry ⟨_,_,rfl,rfl,h⟩
 ·exact h.elim
theorem oGt:OpR X (compareOp .Gt) rGtM:=by
 intro pins s σ H x y v u Q I rx ry h
 unfold rGtM at h
 split at h
 ·exact op_gt pins s σ H _ _ v u Q I rx ry ⟨_,_,rfl,rfl,h⟩
 ·exact h.elim
theorem oGe:OpR X (compareOp .GtE) rGeM:=by
 intro pins s σ H x y v u Q I rx ry h
 unfold rGeM at h
 split at h
 ·exact op_ge pins s σ H _ _ v u Q I rx ry ⟨_,_,rfl,rfl,h⟩
 ·exact h.elim
inductive EqR(K:zby6)(H:Hp):Nat->V->V->Bool->Prop where
 | flat {n:Nat}{x y:V}(fx:zj5 x=true) (fy:zj5 y=true):EqR K H n x y (eqV x y)
 | tup {n:Nat}{a b:Addr}{xs ys:List V}(e:Nat->Bool) (ha:SqT K H a xs) (hb:SqT K H b ys) (h:∀ (j:Nat) (x y:V),xs[j]?=some x->ys[j]?=some y->EqR K H n x y (e j)) :
   EqR K H (n+1) (.ref a) (.ref b) ((List.range (min xs.length ys.length)).all e&&xs.length==ys.length)
 | lst {n:Nat}{a b:Addr}{xs ys:List V}(e:Nat->Bool) (ha:SqL K H a xs) (hb:SqL K H b ys) (hl:xs.length=ys.length) (h:∀ (j:Nat) (x y:V),xs[j]?=some x->ys[j]?=some y->EqR K H n x y (e j)) :
   EqR K H (n+1) (.ref a) (.ref b) ((List.range xs.length).all e)
 | lstN {n:Nat}{a b:Addr}{xs ys:List V}(ha:SqL K H a xs) (hb:SqL K H b ys) (hl:xs.length≠ys.length):EqR K H (n+1) (.ref a) (.ref b) false
theorem zw6{x:V}(f:zj5 x=true):eqV x x=true:=by
 cases x<;>first|rfl|(simp[eqV];done)|exact absurd (show false=true from f) zbz3
section
variable {pins:List (Addr×Obj)}{σ:St}{H:Hp}{s:Shared}
theorem EqR.self(I:Inv X pins σ H s){n:Nat}{x y:V}{b:Bool}(h:EqR X.K H n x y b):x=y->b=true:=by
 induction h with
 | flat fx fy=>rintro rfl;exact zw6 fx
 | tup e ha hb h ih=>
  intro q
  cases q
  have q:=I.tuple_inj ha hb
  subst q
  rw[Nat.min_self,zcb3]
  refine⟨zcc9.mpr fun j hj=>?_,by simp⟩
  have hj:=List.mem_range.mp hj
  exact ih j _ _ (zby8 hj) (zby8 hj) rfl
 | lst e ha hb hl h ih=>
  intro q
  cases q
  have q:=I.list_inj ha hb
  subst q
  refine zcc9.mpr fun j hj=>?_
  have hj:=List.mem_range.mp hj
  exact ih j _ _ (zby8 hj) (zby8 hj) rfl
 | lstN ha hb hl=>
  intro q
  cases q
  exact absurd (congrArg zce8 (I.list_inj ha hb)) hl
theorem zo8(A:Around):A.in1.units=A.units+1:=rfl
mutual
theorem EqR.at(I:Inv X pins σ H s):∀ {n:Nat}{x y:V}{b:Bool},EqR X.K H n x y b->∀ {u v:Value}{A:Around},RelV x u->RelV y v->A.units+n<cLine->SeqAt.EqAt A s u v b
 | _,_,_,_,.flat fx fy,u,v,A,rx,ry,_=>zbe7 rx ry fx fy
 | _,.ref a,.ref b,_,h,u,v,A,rx,ry,hu=>by
  cases rx
  cases ry
  by_cases e:a=b
  ·subst e
   rw[h.self I rfl]
   exact SeqAt.EqAt.same _
  ·exact SeqAt.EqAt.of_refs e (EqR.rc I h hu)
theorem EqR.rc(I:Inv X pins σ H s):∀ {n:Nat}{a b:Addr}{c:Bool},EqR X.K H n (.ref a) (.ref b) c->∀ {A:Around},A.units+n<cLine->SeqAt.RcAt A s (.ref a) (.ref b) c
 | _,_,_,_,.flat fx _,_,_=>absurd (show false=true from fx) zbz3
 | _,a,b,_,.tup (xs:=xs) (ys:=ys) e ha hb h,A,hu=>by
  obtain⟨its,r1,t1,z1⟩:=I.tuple ha
  obtain⟨its2,r2,t2,z2⟩:=I.tuple hb
  have l1:its.toArray.size=xs.length:=by rw[zbz6];exact r1.length.symm
  have l2:its2.toArray.size=ys.length:=by rw[zbz6];exact r2.length.symm
  have q:=SeqAt.RcAt.tuples (A:=A) (e:=e) t1 t2 (by omega) fun j h1 h2=>by
   rw[l1] at h1
   rw[l2] at h2
   obtain⟨u1,e1,q1⟩:=r1.get (zby8 h1)
   obtain⟨u2,e2,q2⟩:=r2.get (zby8 h2)
   have i1:its.toArray[j]=u1:=by
    have:=(zby9.mp e1).2
    simpa using this
   have i2:its2.toArray[j]=u2:=by
    have:=(zby9.mp e2).2
    simpa using this
   rw[i1,i2]
   exact EqR.at I (h j _ _ (zby8 h1) (zby8 h2)) q1 q2 (by rw[zo8];omega)
  rw[l1,l2] at q
  exact q
 | _,a,b,_,.lst (xs:=xs) (ys:=ys) e ha hb hl h,A,hu=>by
  obtain⟨its,r1,t1,z1⟩:=I.list ha
  obtain⟨its2,r2,t2,z2⟩:=I.list hb
  have l1:its.toArray.size=xs.length:=by rw[zbz6];exact r1.length.symm
  have l2:its2.toArray.size=ys.length:=by rw[zbz6];exact r2.length.symm
  have q:=SeqAt.RcAt.lists (A:=A) (e:=e) t1.isList t2.isList (by rw[l1,l2];exact hl) (by omega) fun j h1 h2=>by
   rw[l1] at h1
   rw[l2] at h2
   obtain⟨u1,e1,q1⟩:=r1.get (zby8 h1)
   obtain⟨u2,e2,q2⟩:=r2.get (zby8 h2)
   have i1:its.toArray[j]=u1:=by
    have:=(zby9.mp e1).2
    simpa using this
   have i2:its2.toArray[j]=u2:=by
    have:=(zby9.mp e2).2
    simpa using this
   rw[i1,i2]
   exact EqR.at I (h j _ _ (zby8 h1) (zby8 h2)) q1 q2 (by rw[zo8];omega)
  rw[l1] at q
  exact q
 | _,a,b,_,.lstN (xs:=xs) (ys:=ys) ha hb hl,A,hu=>by
  obtain⟨its,r1,t1,z1⟩:=I.list ha
  obtain⟨its2,r2,t2,z2⟩:=I.list hb
  have l1:its.toArray.size=xs.length:=by rw[zbz6];exact r1.length.symm
  have l2:its2.toArray.size=ys.length:=by rw[zbz6];exact r2.length.symm
  exact SeqAt.RcAt.lists_lengths t1.isList t2.isList (by rw[l1,l2];simpa using hl) (by omega)
end
theorem EqR.rcNe(I:Inv X pins σ H s):∀ {n:Nat}{a b:Addr}{c:Bool},EqR X.K H n (.ref a) (.ref b) c->∀ {A:Around},A.units+n<cLine->SeqAt.RcNeAt A s (.ref a) (.ref b) (!c)
 | _,_,_,_,.flat fx _,_,_=>absurd (show false=true from fx) zbz3
 | _,a,b,_,.tup (xs:=xs) (ys:=ys) e ha hb h,A,hu=>by
  obtain⟨its,r1,t1,z1⟩:=I.tuple ha
  obtain⟨its2,r2,t2,z2⟩:=I.tuple hb
  have l1:its.toArray.size=xs.length:=by rw[zbz6];exact r1.length.symm
  have l2:its2.toArray.size=ys.length:=by rw[zbz6];exact r2.length.symm
  have q:=SeqAt.RcNeAt.tuples (A:=A) (e:=e) t1 t2 (by omega) fun j h1 h2=>by
   rw[l1] at h1
   rw[l2] at h2
   obtain⟨u1,e1,q1⟩:=r1.get (zby8 h1)
   obtain⟨u2,e2,q2⟩:=r2.get (zby8 h2)
   have i1:its.toArray[j]=u1:=by
    have:=(zby9.mp e1).2
    simpa using this
   have i2:its2.toArray[j]=u2:=by
    have:=(zby9.mp e2).2
    simpa using this
   rw[i1,i2]
   exact EqR.at I (h j _ _ (zby8 h1) (zby8 h2)) q1 q2 (by rw[zo8];omega)
  rw[l1,l2] at q
  exact q
 | _,a,b,_,.lst (xs:=xs) (ys:=ys) e ha hb hl h,A,hu=>by
  obtain⟨its,r1,t1,z1⟩:=I.list ha
  obtain⟨its2,r2,t2,z2⟩:=I.list hb
  have l1:its.toArray.size=xs.length:=by rw[zbz6];exact r1.length.symm
  have l2:its2.toArray.size=ys.length:=by rw[zbz6];exact r2.length.symm
  have q:=SeqAt.RcNeAt.lists (A:=A) (e:=e) t1.isList t2.isList (by rw[l1,l2];exact hl) (by omega) fun j h1 h2=>by
   rw[l1] at h1
   rw[l2] at h2
   obtain⟨u1,e1,q1⟩:=r1.get (zby8 h1)
   obtain⟨u2,e2,q2⟩:=r2.get (zby8 h2)
   have i1:its.toArray[j]=u1:=by
    have:=(zby9.mp e1).2
    simpa using this
   have i2:its2.toArray[j]=u2:=by
    have:=(zby9.mp e2).2
    simpa using this
   rw[i1,i2]
   exact EqR.at I (h j _ _ (zby8 h1) (zby8 h2)) q1 q2 (by rw[zo8];omega)
  rw[l1] at q
  exact q
 | _,a,b,_,.lstN (xs:=xs) (ys:=ys) ha hb hl,A,hu=>by
  obtain⟨its,r1,t1,z1⟩:=I.list ha
  obtain⟨its2,r2,t2,z2⟩:=I.list hb
  have l1:its.toArray.size=xs.length:=by rw[zbz6];exact r1.length.symm
  have l2:its2.toArray.size=ys.length:=by rw[zbz6];exact r2.length.symm
  exact SeqAt.RcNeAt.lists_lengths t1.isList t2.isList (by rw[l1,l2];simpa using hl) (by omega)
end
@[irreducible] def rEqO(K:zby6)(a b:Addr)(H:Hp)(Q:VK):Prop:=∃ n c,n<=40/\EqR K H n (.ref a) (.ref b) c/\Q (.bl c) H
def rEqM(K:zby6):R2:=fun x y H Q=>match x,y with
 | .int i,.int j=>Q (.bl (decide (i=j))) H
 | .bl i,.bl j=>Q (.bl (decide (i=j))) H
 | .str i,.str j=>Q (.bl (decide (i=j))) H
 | .ref a,.ref b=>rEqO K a b H Q
 | x,y=>scal x y=true/\Q (.bl (decide (x=y))) H
def rNeM(K:zby6):R2:=fun x y H Q=>rEqM K x y H fun v H'=>match v with
 | .bl b=>Q (.bl (!b)) H'
 | _=>False
theorem zj7{α β:Type}[DecidableEq α][DecidableEq β]{f:α->β}(hf:∀ a b,f a=f b->a=b)(a b:α):decide (f a=f b)=decide (a=b):=by
 by_cases h:a=b
 ·subst h;simp
 ·rw[decide_eq_false h,decide_eq_false fun e=>h (hf _ _ e)]
theorem oEq(hu:X.A.units+40<cLine):OpR X (compareOp .Eq) (rEqM X.K):=by
 intro pins s σ H x y v u Q I rx ry h
 unfold rEqM at h
 split at h
 ·rename_i i j
  exact zao4 pins s σ H _ _ v u Q I rx ry ⟨rfl,by rw[zj7 (f:=V.int) fun a b e=>V.int.inj e];exact h⟩
 ·exact zao4 pins s σ H _ _ v u Q I rx ry ⟨rfl,by rw[zj7 (f:=V.bl) fun a b e=>V.bl.inj e];exact h⟩
 ·exact zao4 pins s σ H _ _ v u Q I rx ry ⟨rfl,by rw[zj7 (f:=V.str) fun a b e=>V.str.inj e];exact h⟩
 ·unfold rEqO at h
  obtain⟨n,c,hn,h1,h2⟩:=h
  cases rx
  cases ry
  exact EqR.rc I h1 (A:=X.A) (by omega) _ _ _ _ ⟨.bl c,H,I,rfl,h2⟩
 ·exact zao4 pins s σ H _ _ v u Q I rx ry h
theorem oNe(hu:X.A.units+40<cLine):OpR X (compareOp .NotEq) (rNeM X.K):=by
 intro pins s σ H x y v u Q I rx ry h
 unfold rNeM rEqM at h
 split at h
 ·rename_i i j
  exact zar1 pins s σ H _ _ v u Q I rx ry ⟨rfl,by rw[zj7 (f:=V.int) fun a b e=>V.int.inj e];exact h⟩
 ·exact zar1 pins s σ H _ _ v u Q I rx ry ⟨rfl,by rw[zj7 (f:=V.bl) fun a b e=>V.bl.inj e];exact h⟩
 ·exact zar1 pins s σ H _ _ v u Q I rx ry ⟨rfl,by rw[zj7 (f:=V.str) fun a b e=>V.str.inj e];exact h⟩
 ·unfold rEqO at h
  obtain⟨n,c,hn,h1,h2⟩:=h
  cases rx
  cases ry
  exact EqR.rcNe I h1 (A:=X.A) (by omega) _ _ _ _ ⟨.bl (!c),H,I,rfl,h2⟩
 ·exact zar1 pins s σ H _ _ v u Q I rx ry ⟨h.1,h.2⟩
def qB(t:TE):TT:=fun σ H Q=>t σ H fun x H1=>match x with
 | .bl c=>Q c H1
 | .int i=>Q (!decide (i=0)) H1
 | _=>False
theorem ptV{t:TE}(h:PE X e t)(he:∀ whole,isTrue e X.env whole=(do let v ← whole;standAt e.pos;holding [v] (truthy v)):=by intro _;rfl):PT X e (qB t):=fun pins s σ H Q I hw=>by
 refine isTrue_plain (thn (h pins s σ H _ I hw) fun v s1 ⟨x,H1,I1,r1,q1⟩=>?_) (he _)
 dsimp only at q1
 split at q1
 ·exact zba7 pins s1 σ H1 _ v Q I1 r1 ⟨_,rfl,q1⟩
 ·rename_i i
  refine zba7 pins s1 σ H1 _ v Q I1 r1 ⟨_,rfl,?_⟩
  have e:(i != 0)=!decide (i=0):=by by_cases h:i=0<;>simp[h]
  rw[e];exact q1
 ·exact q1.elim
theorem ptC{a b:Expr}{ta tb:TE}{op:CmpOp}{r:R2}(ho:OpR X (compareOp op) r)(ha:PE X a ta)(hb:PE X b tb)(hm:behindInMarks op b=false:=by first|exact zbm1 _|with_unfolding_all rfl):PT X (.Compare a [op] [b] pos) (qB (tOp r ta tb)):=by
 intro pins s σ H Q I h
 refine wpAny_isTrue_Compare1 (thn (ha pins s σ H _ I h) fun v s1 ⟨x,H1,I1,r1,q1⟩=>thn (hb pins s1 σ H1 _ I1 q1) fun u s2 ⟨y,H2,I2,r2,q2⟩=>
  thn (ho pins s2 σ H2 x y v u _ I2 r1 r2 q2) fun c s3 ⟨z,H3,I3,r3,q3⟩=>?_) hm
 dsimp only at q3
 split at q3
 ·cases r3
  exact wpAny_truthy_bool ⟨H3,I3,q3⟩
 ·rename_i i
  refine zba7 pins s3 σ H3 _ c Q I3 r3 ⟨_,rfl,?_⟩
  have e:(i != 0)=!decide (i=0):=by by_cases h:i=0<;>simp[h]
  rw[e];exact q3
 ·exact q3.elim
theorem peC{a b:Expr}{ta tb:TE}{op:CmpOp}{r:R2}(ho:OpR X (compareOp op) r)(ha:PE X a ta)(hb:PE X b tb)(hm:behindInMarks op b=false:=by first|exact zbm1 _|with_unfolding_all rfl):PE X (.Compare a [op] [b] pos) (tOp r ta tb):=
 zbo0 ho ha hb hm
variable {a b:Expr}{rest:List Expr}{tA tB':TT}{ta tb:TE}{pos:Pos}
def qAnd(t u:TT):TT:=fun σ H Q=>t σ H fun c H1=>br c (u σ H1 Q) (Q false H1)
def qOr(t u:TT):TT:=fun σ H Q=>t σ H fun c H1=>br c (Q true H1) (u σ H1 Q)
theorem pwAnd(ha:PT X a tA)(hb:PW X (.BoolOp .And (b :: rest) pos) tB'):PW X (.BoolOp .And (a :: b :: rest) pos) (qAnd tA tB'):=fun wh pins s σ H Q I h=>
 pw_and ha hb wh pins s σ H Q I (by unfold qAnd at h;simp only[zq7] at h;exact h)
theorem pwOr(ha:PT X a tA)(hb:PW X (.BoolOp .Or (b :: rest) pos) tB'):PW X (.BoolOp .Or (a :: b :: rest) pos) (qOr tA tB'):=fun wh pins s σ H Q I h=>
 pw_or ha hb wh pins s σ H Q I (by unfold qOr at h;simp only[zq7] at h;exact h)
def qAndV(ta tb:TE):TE:=fun σ H Q=>ta σ H fun x H1=>match x with
 | .bl c=>br c (tb σ H1 Q) (Q (.bl false) H1)
 | _=>False
def qOrV(ta tb:TE):TE:=fun σ H Q=>ta σ H fun x H1=>match x with
 | .bl c=>br c (Q (.bl true) H1) (tb σ H1 Q)
 | _=>False
def qNotV(ta:TE):TE:=fun σ H Q=>ta σ H fun x H1=>match x with
 | .bl c=>Q (.bl (!c)) H1
 | _=>False
theorem zw0(ha:PE X a ta)(hb:PE X (.BoolOp .And (b :: rest) pos) tb):PE X (.BoolOp .And (a :: b :: rest) pos) (qAndV ta tb):=by
 intro pins s σ H Q I h
 refine BoolOp_and (thn (ha pins s σ H _ I h) fun v s1 ⟨x,H1,I1,r1,q1⟩=>?_)
 dsimp only at q1
 split at q1
 ·rename_i c
  cases r1
  refine wpAny_truthy_bool ?_
  rw[zq7] at q1
  cases c with
  | true=>exact hb pins s1 σ H1 Q I1 (by simpa using q1)
  | false=>exact⟨.bl false,H1,I1,rfl,by simpa using q1⟩
 ·exact q1.elim
theorem peOr(ha:PE X a ta)(hb:PE X (.BoolOp .Or (b :: rest) pos) tb):PE X (.BoolOp .Or (a :: b :: rest) pos) (qOrV ta tb):=by
 intro pins s σ H Q I h
 refine BoolOp_or (thn (ha pins s σ H _ I h) fun v s1 ⟨x,H1,I1,r1,q1⟩=>?_)
 dsimp only at q1
 split at q1
 ·rename_i c
  cases r1
  refine wpAny_truthy_bool ?_
  rw[zq7] at q1
  cases c with
  | false=>exact hb pins s1 σ H1 Q I1 (by simpa using q1)
  | true=>exact⟨.bl true,H1,I1,rfl,by simpa using q1⟩
 ·exact q1.elim
theorem peNot(ha:PE X a ta):PE X (.UnaryOp .Not a pos) (qNotV ta):=by
 intro pins s σ H Q I h
 refine UnaryOp_ (thn (ha pins s σ H _ I h) fun v s1 ⟨x,H1,I1,r1,q1⟩=>?_)
 dsimp only at q1
 split at q1
 ·rename_i c
  cases r1
  exact not_of (wpAny_truthy_bool ⟨.bl (!c),H1,I1,rfl,q1⟩)
 ·exact q1.elim
def qIf(t:TT)(ta tb:TE):TE:=fun σ H Q=>t σ H fun c H1=>br c (ta σ H1 Q) (tb σ H1 Q)
theorem peIf{c:Expr}(hc:PT X c tA)(ha:PE X a ta)(hb:PE X b tb):PE X (.IfExp c a b pos) (qIf tA ta tb):=fun pins s σ H Q I h=>
 zbh7 hc ha hb pins s σ H Q I (by unfold qIf at h;simp only[zq7] at h;exact h)
def qChain(r r':R2)(ta tb tc:TE):TE:=fun σ H Q=>ta σ H fun x H1=>tb σ H1 fun y H2=>r x y H2 fun z H3=>match z with
 | .bl k=>br k (tc σ H3 fun w' H4=>r' y w' H4 Q) (Q (.bl false) H3)
 | _=>False
theorem zbn9{c:Expr}{tc:TE}{op op':CmpOp}{r r':R2}(ho:OpR X (compareOp op) r)(ho':OpR X (compareOp op') r')(ha:PE X a ta)(hb:PE X b tb)(hc:PE X c tc)(hm:lastMarks [op,op'] [b,c]=false:=by with_unfolding_all rfl):PE X (.Compare a [op,op'] [b,c] pos) (qChain r r' ta tb tc):=by
 intro pins s σ H Q I h
 refine Compare_chain (thn (ha pins s σ H _ I h) fun v s1 ⟨x,H1,I1,r1,q1⟩=>chain_link (thn (hb pins s1 σ H1 _ I1 q1) fun u s2 ⟨y,H2,I2,r2,q2⟩=>
  thn (ho pins s2 σ H2 x y v u _ I2 r1 r2 q2) fun d s3 ⟨z,H3,I3,r3,q3⟩=>?_)) hm
 dsimp only at q3
 split at q3
 ·rename_i k
  cases r3
  refine wpAny_truthy_bool ?_
  rw[zq7] at q3
  cases k with
  | false=>exact ite_ff ⟨.bl false,H3,I3,rfl,by simpa using q3⟩
  | true=>exact ite_tt (chain_last (thn (hc pins s3 σ H3 _ I3 (by simpa using q3)) fun w' s4 ⟨z',H4,I4,r4,q4⟩=>ho' pins s4 σ H4 y z' u w' Q I4 r2 r4 q4))
 ·exact q3.elim
variable {st:Stmt}{t u:TS}{e:Expr}{te:TE}
def qIfS(c:TT)(t u:TS):TS:=fun D σ H=>c σ H fun b H1=>br b (t D σ H1) (u D σ H1)
theorem psIf{c:Expr}{a b:List Stmt}{tc:TT}(hc:PT X c tc)(ha:PSs X a t)(hb:PSs X b u):PS X (.If c a b pos) (qIfS tc t u):=fun pins s σ H D I h=>
 ps_if hc ha hb pins s σ H D I (by unfold qIfS at h;simp only[zq7] at h;exact h)
@[irreducible] def zal5(J:It)(g:TG)(tb:TS)(D:Ends)(σ:St)(H1:Hp):Prop:=∃ W:Nat->Nat->St->Hp->Prop,(∃ m,W 0 m σ H1)/\∀ i m σ H,W i m σ H ->
 (J.stop i H/\D.nx σ H)∨(J.go i H/\∃ N:St->Hp->Prop,(∀ σ' H',N σ' H'->∃ m',m'<m/\W (i+1) m' σ' H')/\∀ x H',J.yld i H x H'->g x σ H' fun σ2 H2=>tb { D with nx:=N,ct:=N,bk:=D.nx } σ2 H2)
def qFor(wi:TI)(g:TG)(tb:TS):TS:=fun D σ H=>wi σ H fun J H1=>zal5 J g tb D σ H1
theorem zax8{body:List Stmt}{wi:TI}{g:TG}{tb:TS}(hp:PassesOwn (model X.prog X.w) X.A X.env X.xe)(hc:X.calm=true)(hi:PI X tg iter wi)(hg:PG X tg g)(hb:PSs X body tb)(hs:∀ x,foldedSetIterable iter X.env x=pure x:=by intro _;rfl):PS X (.For tg iter body [] pos) (qFor wi g tb):=fun pins s σ H D I h=>
 ps_for hp hc hi hg hb hs pins s σ H D I (by unfold qFor at h;unfold zal5 at h;exact h)
@[irreducible] def rIter(K:zby6)(a:Addr)(H:Hp)(R:It->Hp->Prop):Prop:=((∃ xs,SqL K H a xs)/\R (Itl K a) H)∨((∃ xs,SqT K H a xs)/\R (Itt K a) H)
def qiSeq(K:zby6)(tl:TE):TI:=fun σ H R=>tl σ H fun x H1=>match x with
 | .ref a=>rIter K a H1 R
 | _=>False
theorem piSeq{l:Expr}{tl:TE}(hl:PE X l tl):PI X tg l (qiSeq X.K tl):=by
 intro pins s σ H R I h
 refine thn (hl pins s σ H _ I h) fun v s1 ⟨x,H1,I1,r1,q1⟩=>?_
 dsimp only at q1
 split at q1
 ·rename_i a
  unfold rIter at q1
  cases r1
  have fp:∀ b∈[s1.heap.objs.size],FpOk X pins H1 b:=fun b hb=>by
   have e:b=s1.heap.objs.size:=by simpa using hb
   subst e
   exact I1.fpOk (zca7 _) (I1.hok.fresh (zca7 _))
  rcases q1 with ⟨⟨xs,hq⟩,q⟩|⟨⟨xs,hq⟩,q⟩
  ·obtain⟨its,rv,p,hz⟩:=I1.list hq
   refine wpAny_pyIter_list p.isList ?_
   exact⟨s1.heap.objs.size,[s1.heap.objs.size],_,_,H1,rfl,I1.kept (t':=s1.toks) fun b o e=>zbz8 _ e,zbd5 a _,⟨_,zcd0 _ rfl,rfl,rfl⟩,fp,q⟩
  ·obtain⟨its,rv,p,hz⟩:=I1.tuple hq
   refine wpAny_pyIter_tuple (show s1.heap.IsTuple a its.toArray from p) ?_
   exact⟨s1.heap.objs.size,[s1.heap.objs.size],_,_,H1,rfl,I1.kept (t':=s1.toks) fun b o e=>zbz8 _ e,zax7 a _,⟨_,zcd0 _ rfl,rfl,rfl⟩,fp,q⟩
 ·exact q1.elim
@[irreducible] def zac9(i j:Int)(H:Hp)(R:It->Hp->Prop):Prop:=(-(2 ^ 62)<=i/\i<2 ^ 62/\-(2 ^ 62)<=j/\j<2 ^ 62)/\R (Itr i (j - i).toNat) H
def qiRng(ta:TA):TI:=fun σ H R=>ta σ H fun vs H1=>match vs with
 | [.int j]=>zac9 0 j H1 R
 | [.int i,.int j]=>zac9 i j H1 R
 | _=>False
theorem zbk6{a:Expr}{ta:TA}{p:Pos}(hm:X.mg "range"=none)(ha:PA X [a] ta)(hg:Gl X "range":=by rfl)(hs:starEach [a] X.env=[(false,eval a X.env)]:=by rfl):PI X tg (.Call (.Name "range" p) [a] [] pos) (qiRng ta):=by
 intro pins s σ H R I h
 refine Call_ (zam2 I hg hm boot_range (PyProof.Rows.callWith_type1 (thn (ha pos pins s σ H _ I h) fun us s1 ⟨vs,H1,I1,r1,q1⟩=>?_) hs rfl))
 dsimp only at q1
 split at q1
 ·unfold zac9 at q1
  obtain⟨⟨a1,a2,a3,a4⟩,q⟩:=q1
  cases r1 with
  | cons r rr=>
   cases rr
   obtain⟨t,rfl⟩:=r
   exact call_range_1 (zav7 I1 a1 a2 a3 a4 q)
 ·unfold zac9 at q1
  cases r1 with
  | cons r rr=>
   cases rr with
   | cons r' rr=>
    cases rr
    obtain⟨t,rfl⟩:=r
    obtain⟨t',rfl⟩:=r'
    obtain⟨⟨a1,a2,a3,a4⟩,q⟩:=q1
    exact call_range_2 (zav7 I1 a1 a2 a3 a4 q)
 ·exact q1.elim
section
variable {K:zby6}{g:TG}{tb:TS}{D:Ends}{σ:St}{H:Hp}{R:It->Hp->Prop}
theorem zj9{a:Addr}{xs:List V}(h:H a=some (.lst xs))(q:R (Itl K a) H):rIter K a H R:=by unfold rIter;exact .inl ⟨⟨xs,SqL.of h⟩,q⟩
theorem zat1{i j:Int}(h1:-(2 ^ 62)<=i)(h2:i<2 ^ 62)(h3:-(2 ^ 62)<=j)(h4:j<2 ^ 62)(q:R (Itr i (j - i).toNat) H):zac9 i j H R:=by unfold zac9;exact⟨⟨h1,h2,h3,h4⟩,q⟩
theorem zah7{a:Addr}{xs:List V}(Pv:Nat->St->Hp->Prop)(h0:Pv 0 σ H)(hl:∀ i σ H,i<=xs.length->Pv i σ H->SqL K H a xs)(hs:∀ i x σ H,xs[i]?=some x->Pv i σ H->g x σ H fun σ2 H2=>tb { D with nx:=Pv (i+1),ct:=Pv (i+1),bk:=D.nx } σ2 H2)(hd:∀ σ H,Pv xs.length σ H->D.nx σ H):zal5 (Itl K a) g tb D σ H:=by
 unfold zal5;exact zbh8 Pv h0 hl hs hd
theorem zax1{lo:Int}{n:Nat}(Pv:Nat->St->Hp->Prop)(h0:Pv 0 σ H)(hs:∀ i σ H,i<n->Pv i σ H->g (.int (lo+i)) σ H fun σ2 H2=>tb { D with nx:=Pv (i+1),ct:=Pv (i+1),bk:=D.nx } σ2 H2)(hd:∀ σ H,Pv n σ H->D.nx σ H):zal5 (Itr lo n) g tb D σ H:=by
 unfold zal5;exact zbf5 Pv h0 hs hd
end
@[irreducible] def rNewT(xs:List V)(H:Hp)(Q:VK):Prop:=xs.length<=sizeLine/\∀ p H',H p=none->Same H H'->H' p=some (.tup xs)->Q (.ref p) H'
@[irreducible] def rNewL(xs:List V)(H:Hp)(Q:VK):Prop:=xs.length<=sizeLine/\∀ p H',H p=none->Same H H'->H' p=some (.lst xs)->Q (.ref p) H'
def qTup(t:TA):TE:=fun σ H Q=>t σ H fun xs H1=>rNewT xs H1 Q
def qLst(t:TA):TE:=fun σ H Q=>t σ H fun xs H1=>rNewL xs H1 Q
theorem zu2{x1}{t:TA}(h:PA X es t):PE X (.Tuple es x1 pos) (qTup t):=by
 intro pins s σ H Q I hq
 refine wpAny_Tuple_spliced (thn (h pos pins s σ H _ I hq) fun us s1 ⟨xs,H1,I1,r,z⟩=>?_)
 unfold rNewT at z
 obtain⟨z,q⟩:=z
 refine⟨by rw[← r.length];exact z,?_⟩
 have hf:H1 s1.heap.objs.size=none:=I1.hok.fresh (zca7 _)
 refine⟨.ref s1.heap.objs.size,upd H1 s1.heap.objs.size (.tup xs),I1.laid (t':=s1.toks) (fun b u e=>zbz8 _ e) (zca7 _) ?_,rfl,q _ _ hf (Same.upd hf) zb8⟩
 exact⟨z,us,r,⟨_,zcd0 _ rfl,rfl,_,rfl⟩⟩
theorem zn4{t:TA}(h:PA X es t):PE X (.List es pos) (qLst t):=by
 intro pins s σ H Q I hq
 refine wpAny_List_spliced (thn (h pos pins s σ H _ I hq) fun us s1 ⟨xs,H1,I1,r,z⟩=>?_)
 unfold rNewL at z
 obtain⟨z,q⟩:=z
 refine⟨by rw[← r.length];exact z,?_⟩
 have hf:H1 s1.heap.objs.size=none:=I1.hok.fresh (zca7 _)
 refine⟨.ref s1.heap.objs.size,upd H1 s1.heap.objs.size (.lst xs),I1.laid (t':=s1.toks) (fun b u e=>zbz8 _ e) (zca7 _) ?_,rfl,q _ _ hf (Same.upd hf) zb8⟩
 exact⟨z,us,0,r,zcd0 _ rfl⟩
@[irreducible] def rIxA(K:zby6)(p:Addr)(i:Int)(H:Hp)(Q:VK):Prop:=∃ xs v,(SqL K H p xs∨SqT K H p xs)/\atI xs i=some v/\Q v H
def rIxM(K:zby6):R2:=fun x y H Q=>match x,y with
 | .ref p,.int i=>rIxA K p i H Q
 | .str z,.int i=>∃ c,z.length<=sizeLine/\atI z.cps.toList i=some c/\Q (.str ⟨#[c]⟩) H
 | _,_=>False
theorem ixM:IxR X (rIxM X.K):=by
 intro value slice pins s σ H x y v u Q I rx ry h hs
 unfold rIxM at h
 split at h
 ·unfold rIxA at h
  obtain⟨xs,z,h1,h2,q⟩:=h
  rcases h1 with h1|h1
  ·exact zbq0 value slice pins s σ H _ _ v u Q I rx ry ⟨_,xs,_,z,rfl,rfl,h1,h2,q⟩ hs
  ·exact ix_tup value slice pins s σ H _ _ v u Q I rx ry ⟨_,xs,_,z,rfl,rfl,h1,h2,q⟩ hs
 ·obtain⟨c,h1,h2,q⟩:=h
  exact ix_str value slice pins s σ H _ _ v u Q I rx ry ⟨_,_,c,rfl,rfl,h1,h2,q⟩ hs
 ·exact h.elim
theorem peIx(ha:PE X a ta)(hb:PE X b tb)(hs:zaf2 b:=by exact fun _ _=>rfl):PE X (.Subscript a b pos) (tOp (rIxM X.K) ta tb):=pe_ix ixM ha hb hs
@[irreducible] def rSetA(p:Addr)(k:Int)(v:V)(H:Hp)(Q:Hp->Prop):Prop:=∃ xs j,H p=some (.lst xs)/\ixN xs.length k=some j/\∀ H',Chg p H H'->H' p=some (.lst (xs.set j v))->Q H'
def rSetM:TSet:=fun o i v H Q=>match o,i with
 | .ref p,.int k=>rSetA p k v H Q
 | _,_=>False
theorem setM:PSet X rSetM:=by
 intro pins s σ H o i v ov iv u Q I ro ri rv h
 unfold rSetM at h
 split at h
 ·unfold rSetA at h
  obtain⟨xs,j,h1,h2,q⟩:=h
  exact zbi0 pins s σ H _ _ v ov iv u Q I ro ri rv ⟨_,xs,_,j,rfl,rfl,h1,h2,q _ Chg.upd zb8⟩
 ·exact h.elim
def qPart(t:TE):TO:=fun σ H Q=>t σ H fun x H1=>match x with
 | .int i=>Q (some i) H1
 | _=>False
theorem zn8(h:PE X e te):PO X (some e) (qPart te):=by
 intro pins s σ H Q I hw
 rw[evalPart_some]
 refine thn (h pins s σ H _ I hw) fun u s1 ⟨x,H1,I1,r1,q1⟩=>?_
 dsimp only at q1
 split at q1
 ·rename_i i
  obtain⟨t,rfl⟩:=r1
  exact⟨some i,H1,I1,.int i t,q1⟩
 ·exact q1.elim
section
variable {K:zby6}{H:Hp}{Q:VK}{p:Addr}{xs:List V}{v:V}{i:Int}
theorem zd3(q:∀ p H',H p=none->Same H H'->H' p=some (.tup xs)->Q (.ref p) H')(h:xs.length<=sizeLine:=by first|assumption|(simp only[zca2,zcd1,zch2,Nat.reduceAdd];decide)):rNewT xs H Q:=by unfold rNewT;exact⟨h,q⟩
theorem zb6(q:∀ p H',H p=none->Same H H'->H' p=some (.lst xs)->Q (.ref p) H')(h:xs.length<=sizeLine:=by first|assumption|(simp only[zca2,zcd1,zch2,Nat.reduceAdd];decide)):rNewL xs H Q:=by unfold rNewL;exact⟨h,q⟩
theorem zb3(h:H p=some (.tup xs))(e:atI xs i=some v)(q:Q v H):rIxA K p i H Q:=by unfold rIxA;exact⟨xs,v,.inr (SqT.of h),e,q⟩
theorem zn5(h:H p=some (.lst xs))(e:atI xs i=some v)(q:Q v H):rIxA K p i H Q:=by unfold rIxA;exact⟨xs,v,.inl (SqL.of h),e,q⟩
theorem zbm2{R:Hp->Prop}(h:H p=some (.lst xs))(e:ixN xs.length i=some j)(q:∀ H',Chg p H H'->H' p=some (.lst (xs.set j v))->R H'):rSetA p i v H R:=by unfold rSetA;exact⟨xs,j,h,e,q⟩
end
def qgNil:TGs:=fun vs σ H Q=>match vs with
 | []=>Q σ H
 | _=>False
def zbl6(t:TG)(u:TGs):TGs:=fun vs σ H Q=>match vs with
 | v :: r=>t v σ H fun σ' H'=>u r σ' H' Q
 | _=>False
theorem zav6:PGs X [] qgNil:=fun pins s σ H vs us Q I r h=>by
 unfold qgNil at h
 split at h
 ·exact zbq4 pins s σ H _ us Q I r ⟨rfl,h⟩
 ·exact h.elim
theorem zo4{t:TG}{u:TGs}(h1:PG X e t)(h2:PGs X es u)(hs:(assignEach (e :: es) X.env).map (·.2)=assign e X.env :: (assignEach es X.env).map (·.2):=by rfl):PGs X (e :: es) (zbl6 t u):=fun pins s σ H vs us Q I r h=>by
 unfold zbl6 at h
 split at h
 ·exact zbi6 h1 h2 hs pins s σ H _ us Q I r ⟨_,_,rfl,h⟩
 ·exact h.elim
end
section
variable {X:Cx}
def rAbsM:List V->Hp->VK->Prop:=fun xs H Q=>match xs with
 | [.int i]=>Q (.int (i.natAbs:Int)) H
 | _=>False
def rIntM:List V->Hp->VK->Prop:=fun xs H Q=>match xs with
 | [.int i]=>Q (.int i) H
 | [.bl k]=>Q (.int (if k=true then 1 else 0)) H
 | _=>False
theorem cInt:zj2 X (.type "int") rIntM:=fun pins s σ H xs us Q I r h=>by
 unfold rIntM at h
 split at h
 ·exact zaj9 pins s σ H _ us Q I r (.inl ⟨_,rfl,h⟩)
 ·exact zaj9 pins s σ H _ us Q I r (.inr ⟨_,rfl,h⟩)
 ·exact h.elim
@[irreducible] def zaw4(K:zby6)(p:Addr)(H:Hp)(Q:VK):Prop:=∃ ys,(SqL K H p ys∨SqT K H p ys)/\Q (.int ys.length) H
def rLenM(K:zby6):List V->Hp->VK->Prop:=fun xs H Q=>match xs with
 | [.ref p]=>zaw4 K p H Q
 | [.str z]=>z.length<=sizeLine/\Q (.int z.length) H
 | _=>False
theorem cLen:zj2 X (.builtin "len") (rLenM X.K):=fun pins s σ H xs us Q I r h=>by
 unfold rLenM at h
 split at h
 ·unfold zaw4 at h
  obtain⟨ys,h1,h2⟩:=h
  exact zan4 pins s σ H _ us Q I r ⟨_,ys,rfl,h1,h2⟩
 ·exact zai1 pins s σ H _ us Q I r ⟨_,rfl,h.1,h.2⟩
 ·exact h.elim
@[irreducible] def zu4(K:zby6)(x c:V)(H:Hp)(Q:VK):Prop:=∃ t b,TyOf K H x t/\(∀ cv,RelV c cv->zbz0 K t cv=some b)/\Q (.bl b) H
def rIsiM(K:zby6):List V->Hp->VK->Prop:=fun xs H Q=>match xs with
 | [x,c]=>zu4 K x c H Q
 | _=>False
theorem cIsi:zj2 X (.builtin "isinstance") (rIsiM X.K):=fun pins s σ H xs us Q I r h=>by
 unfold rIsiM at h
 split at h
 ·unfold zu4 at h
  obtain⟨t,b,h1,h2,h3⟩:=h
  obtain⟨u,w,rfl,r1,r2⟩:=vals2 r
  exact zbg3 I r1 h1 (h2 _ r2) fun tk=>⟨.bl b,H,I.tok _,rfl,h3⟩
 ·exact h.elim
section
variable {K:zby6}{H:Hp}{Q:VK}{p:Addr}{xs:List V}
theorem zg7(h:H p=some (.lst xs))(q:Q (.int xs.length) H):zaw4 K p H Q:=by unfold zaw4;exact⟨xs,.inl (SqL.of h),q⟩
theorem zj6(h:H p=some (.tup xs))(q:Q (.int xs.length) H):zaw4 K p H Q:=by unfold zaw4;exact⟨xs,.inr (SqT.of h),q⟩
theorem zbn1{i:Int}{n:String}{b:Bool}(q:Q (.bl b) H)(e:zbz0 K (.type "int") (.type n)=some b:=by rfl):zu4 K (.int i) (.ty n) H Q:=by
 unfold zu4;exact⟨_,b,.int i,fun cv r=>by cases r;exact e,q⟩
theorem zbp5{i:Bool}{n:String}{b:Bool}(q:Q (.bl b) H)(e:zbz0 K (.type "bool") (.type n)=some b:=by rfl):zu4 K (.bl i) (.ty n) H Q:=by
 unfold zu4;exact⟨_,b,.bl i,fun cv r=>by cases r;exact e,q⟩
theorem zbo5{n:String}{b:Bool}(q:Q (.bl b) H)(e:zbz0 K (.type "NoneType") (.type n)=some b:=by rfl):zu4 K .non (.ty n) H Q:=by
 unfold zu4;exact⟨_,b,.non,fun cv r=>by cases r;exact e,q⟩
theorem zag6{n:String}{b:Bool}(h:H p=some (.tup xs))(q:Q (.bl b) H)(e:zbz0 K (.type "tuple") (.type n)=some b:=by rfl):zu4 K (.ref p) (.ty n) H Q:=by
 unfold zu4;exact⟨_,b,.tup h,fun cv r=>by cases r;exact e,q⟩
theorem zao0{n:String}{b:Bool}(h:H p=some (.lst xs))(q:Q (.bl b) H)(e:zbz0 K (.type "list") (.type n)=some b:=by rfl):zu4 K (.ref p) (.ty n) H Q:=by
 unfold zu4;exact⟨_,b,.lst h,fun cv r=>by cases r;exact e,q⟩
end
theorem zi2:bootBuiltins "len"=some (.builtin "len"):=by decide +kernel
theorem zam9:bootBuiltins "all"=some (.builtin "all"):=by decide +kernel
theorem za8:bootBuiltins "isinstance"=some (.builtin "isinstance"):=by decide +kernel
theorem zq3:bootBuiltins "int"=some (.type "int"):=by decide +kernel
theorem zbo3:bootBuiltins "bool"=some (.type "bool"):=by decide +kernel
theorem zag5:bootBuiltins "list"=some (.type "list"):=by decide +kernel
theorem zau5:bootBuiltins "tuple"=some (.type "tuple"):=by decide +kernel
theorem pTy{x:Str}{n:String}(hm:X.mg x=none)(hv:bootBuiltins x=some (.type n))(hg:Gl X x:=by rfl)(hn:x≠"__name__":=by decide)(hd:(x==("__debug__":Str))=false:=by decide):PE X (.Name x pos) (tC (.ty n)):=
 zbn7 hg hm hv rfl hn hd
theorem pB{x:Str}{p:Pos}{t:TA}{id:String}{r:List V->Hp->VK->Prop}(hc:zj2 X (.builtin id) r)(hm:X.mg x=none)(hv:bootBuiltins x=some (.builtin id))(ha:PA X (e :: es) t)(hg:Gl X x:=by rfl)(hn:x≠"__name__":=by decide)(hdb:(x==("__debug__":Str))=false:=by decide)(he:starEach (e :: es) X.env=(false,eval e X.env) :: starEach es X.env:=by rfl)(hpl:(backTo pos (starEach es X.env)).any (·.1)=false:=by rfl):PE X (.Call (.Name x p) (e :: es) [] pos) (tCB r t):=zbh9 hc hg hm hv ha hn hdb he hpl
theorem pT{x:Str}{p:Pos}{t:TA}{id:String}{r:List V->Hp->VK->Prop}(hc:zj2 X (.type id) r)(hm:X.mg x=none)(hv:bootBuiltins x=some (.type id))(ha:PA X (e :: es) t)(hg:Gl X x:=by rfl)(hn:x≠"__name__":=by decide)(hdb:(x==("__debug__":Str))=false:=by decide)(he:starEach (e :: es) X.env=(false,eval e X.env) :: starEach es X.env:=by rfl)(hpl:(backTo pos (starEach es X.env)).any (·.1)=false:=by rfl):PE X (.Call (.Name x p) (e :: es) [] pos) (tCB r t):=zbg9 hc hg hm hv ha hn hdb he hpl
structure Def(P:Program)(w:World)(K:zby6)(mg:Str->Option Value)(base:Heap)(CX:CXT)(k:Nat)(x:Str)(ps:List Str)(sp:Sp):Prop where
 ex:∃ (f:Addr) (fd:FuncData),FnOk P w K mg base CX k f fd ps sp/\mg x=some (.ref f)/\zcf3 K (.ref f)=true/\zaa2 K fd ps []
def qCall(sp:Sp)(E:XK)(t:TA):TE:=fun σ H Q=>t σ H fun vs H1=>sp vs H1 Q E
theorem pD{CX:CXT}{k:Nat}{x:Str}{E:XK}{p:Pos}{t:TA}(F:Def X.prog X.w X.K X.mg X.base CX k x ps sp)(hr:Room j X.A)(hx:zac3 CX X E)(ha:PA X (e :: es) t)(hk:k<=j:=by decide)(hg:Gl X x:=by rfl)(hdb:(x==("__debug__":Str))=false:=by decide)(he:starEach (e :: es) X.env=(false,eval e X.env) :: starEach es X.env:=by rfl)(hpl:(backTo pos (starEach es X.env)).any (·.1)=false:=by rfl) :
  PE X (.Call (.Name x p) (e :: es) [] pos) (qCall sp E t):=by
 obtain⟨f,fd,F1,F2,F3,F4⟩:=F.ex
 intro pins s σ H Q I h
 refine zbn4 F1 (hr.mono hk) hg F2 F3 F4 .nil hx ha hdb he hpl pins s σ H Q I ?_
 unfold tCall
 simp only[zcc3]
 exact h
theorem psS{x:Str}{te:TE}{pos':Pos}(hN:X.N.Nodup)(he:PE X e te)(hi:X.N[i]?=some x:=by rfl)(hx:Loc X.env.scope x:=by first|exact Or.inl rfl|exact Or.inr rfl)(hs:swapsWith e (some (.Name x pos')) pos.line X.env=pure false:=by rfl)(hf:X.fn x=true∨X.env.scope.names.lookup x=some .local:=by first|exact .inl rfl|exact .inr rfl|assumption) :
  PS X (.Assign [.Name x pos'] e pos) (tAsg te (zaz4 i)):=zbf4 hN hi hx he hs hf
section
variable {K:zby6}{H:Hp}{Q:VK}{p:Addr}{xs:List V}{i j:Int}
theorem zap6(h1:-18446744073709551616<i)(h2:i<18446744073709551616)(q:Q (.int (i*j)) H):zay7 i j H Q:=zbg1 (.of_left (intBits_le_64 (by simpa using h1) (by simpa using h2))) q
theorem zbp9(h1:-18446744073709551616<j)(h2:j<18446744073709551616)(q:Q (.int (i*j)) H):zay7 i j H Q:=zbg1 (.of_right (intBits_le_64 (by simpa using h1) (by simpa using h2))) q
theorem zbp6(h:0<j)(q:∀ r:Int,0<=r->r<j->Q (.int r) H):zbb9 i j H Q:=mod_rd h (q _ (Int.emod_nonneg _ (by omega)) (Int.emod_lt_of_pos _ h))
theorem zae6(h:H p=some (.lst xs))(h0:0<=i)(h1:i<xs.length)(q:∀ v,v∈xs->Q v H):rIxA K p i H Q:=by
 have hl:i.toNat<xs.length:=by omega
 refine zn5 h (v:=xs[i.toNat]) ?_ (q _ (List.getElem_mem hl))
 have e:((i.toNat:Nat):Int)=i:=by omega
 have z:=zd0 (zby8 hl)
 rw[e] at z
 exact z
theorem hu40{A:Around}{k:Nat}(hr:Room k A):A.units+40<cLine:=by have:=hr.units;omega
end
@[irreducible] def qCut(t:TS):TS:=fun D σ H=>∃ R:St->Hp->Prop,t { D with nx:=R } σ H/\∀ σ' H',R σ' H'->D.nx σ' H'
theorem zbd6{t:TS}(h:PS X st t):PS X st (qCut t):=fun pins s σ H D I hq=>by
 unfold qCut at hq
 obtain⟨R,h1,h2⟩:=hq
 refine thn (h pins s σ H _ I h1) fun f s' q=>?_
 cases f with
 | next=>obtain⟨σ',H',I',z⟩:=q;exact⟨σ',H',I',h2 _ _ z⟩
 | brk=>exact q
 | cont=>exact q
 | ret u=>exact q
theorem zas0{t:TS}{D:Ends}{σ:St}(R:St->Hp->Prop)(h1:t { D with nx:=R } σ H)(h2:∀ σ' H',R σ' H'->D.nx σ' H'):qCut t D σ H:=by unfold qCut;exact⟨R,h1,h2⟩
theorem cut_id{t:TS}{D:Ends}{σ:St}(h1:t D σ H):qCut t D σ H:=by unfold qCut;exact⟨D.nx,h1,fun _ _ h=>h⟩
theorem EqR.ints2{K:zby6}{a b:Addr}{t u x y:Int}(ha:H a=some (.tup [.int t,.int u]))(hb:H b=some (.tup [.int x,.int y])):EqR K H 1 (.ref a) (.ref b) (decide (t=x/\u=y)):=by
 have h:=EqR.tup (K:=K) (H:=H) (n:=0) (fun j=>match j with|0=>decide (t=x)|1=>decide (u=y)|_=>true) (SqT.of ha) (SqT.of hb) (fun j p q hp hq=>by
  have fl:∀ (i k:Int),EqR K H 0 (.int i) (.int k) (decide (i=k)):=fun i k=>by
   have:=EqR.flat (K:=K) (H:=H) (n:=0) (x:=.int i) (y:=.int k) rfl rfl
   have e:eqV (.int i) (.int k)=decide (i=k):=by
    by_cases z:i=k
    ·subst z;simp[eqV]
    ·simp[eqV,z]
   rw[e] at this;exact this
  match j with
  | 0=>simp at hp hq;subst hp hq;exact fl t x
  | 1=>simp at hp hq;subst hp hq;exact fl u y
  | j+2=>simp at hp)
 have e:((List.range (min [V.int t,V.int u].length [V.int x,V.int y].length)).all (fun j=>match j with|0=>decide (t=x)|1=>decide (u=y)|_=>true)&&([V.int t,V.int u].length==[V.int x,V.int y].length))=decide (t=x/\u=y):=by
  show ((decide (t=x)&&(decide (u=y)&&true))&&true)=_
  rw[zce3,zce3,Bool.decide_and]
 rw[e] at h
 exact h
end
set_option maxHeartbeats 2000000
theorem zu6{env:Env}:∀ (names:List (Str×NameKind)) (acc:List (Str×Addr)),(∀ x∈names,x.2=.free->∃ c,env.cells.lookup x.1=some c) ->
  ∃ acc',(forIn (m:=Sem) names acc (fun (x:Str×NameKind) (r:List (Str×Addr))=>if (x.2==.free)=true then (do let c ← cellOf env x.1;pure (ForInStep.yield ((x.1,c) :: r))) else pure (ForInStep.yield r)))=pure acc' /\
   (∀ x c,acc'.lookup x=some c->acc.lookup x=some c∨env.cells.lookup x=some c)/\(∀ x c,acc.lookup x=some c->∃ c',acc'.lookup x=some c')/\∀ x∈names,x.2=.free->∃ c,acc'.lookup x.1=some c
 | [],acc,_=>⟨acc,rfl,fun _ _ h=>.inl h,fun _ c h=>⟨c,h⟩,fun _ h=>by cases h⟩
 | (n,k) :: r,acc,h=>by
  by_cases hk:k=.free
  ·subst hk
   obtain⟨c,hc⟩:=h (n,.free) zcb8 rfl
   obtain⟨acc',e,h1,h2,h3⟩:=zu6 r ((n,c) :: acc) fun x hx=>h x (zcb6 _ hx)
   have hco:cellOf env n=pure c:=by unfold cellOf;rw[hc]
   refine⟨acc',?_,fun x d hd=>?_,fun x d hd=>?_,fun x hx hf=>?_⟩
   ·rw[List.forIn_cons]
    simp only[hco]
    exact e
   ·rcases h1 x d hd with q|q
    ·rw[zcd4] at q
     split at q
     ·rename_i hx
      have hx:x=n:=by simpa using hx
      subst hx
      cases q
      exact .inr hc
     ·exact .inl q
    ·exact .inr q
   ·by_cases hx:x=n
    ·subst hx
     exact h2 x c (by simp[zcd4])
    ·refine h2 x d ?_
     rw[zcd4]
     have:(x==n)=false:=by simpa using hx
     rw[this];exact hd
   ·rcases zbz4.mp hx with rfl|hx
    ·exact h2 n c (by simp[zcd4])
    ·exact h3 x hx hf
  ·obtain⟨acc',e,h1,h2,h3⟩:=zu6 r acc fun x hx=>h x (zcb6 _ hx)
   refine⟨acc',?_,h1,h2,fun x hx hf=>?_⟩
   ·rw[List.forIn_cons]
    have:(k==NameKind.free)=false:=by simpa using hk
    simp only[this]
    exact e
   ·rcases zbz4.mp hx with rfl|hx
    ·exact absurd hf hk
    ·exact h3 x hx hf
theorem zad1{env:Env}(h:∀ x∈scope.names,x.2=.free->∃ c,env.cells.lookup x.1=some c) :
  ∃ cl,closureFor scope env=pure cl/\(∀ x c,cl.lookup x=some c->env.cells.lookup x=some c)/\∀ x∈scope.names,x.2=.free->∃ c,cl.lookup x.1=some c:=by
 obtain⟨cl,e,h1,_,h3⟩:=zu6 (env:=env) scope.names [] h
 refine⟨cl,?_,fun x c hc=>(h1 x c hc).elim (fun q=>by cases q) id,h3⟩
 unfold closureFor
 show (forIn (m:=Sem) scope.names ([]:List (Str×Addr)) _ >>= fun r=>pure r)=_
 rw[e]
 rfl
theorem zv7{env:Env}:∀ {names:List (Str×NameKind)}{x:Str},names.lookup x=some .free ->
  (names.map fun (n,k)=>if (k==NameKind.free&&env.scope.kind==.function&&env.kindOf n==some .cell) then (n,NameKind.cell) else (n,k)).lookup x=some .cell ∨
  (names.map fun (n,k)=>if (k==NameKind.free&&env.scope.kind==.function&&env.kindOf n==some .cell) then (n,NameKind.cell) else (n,k)).lookup x=some .free
 | [],_,h=>by simp at h
 | (n,k) :: r,x,h=>by
  have ih:=@zv7 env r x
  show List.lookup x ((if (k==NameKind.free&&env.scope.kind==.function&&env.kindOf n==some .cell)=true then (n,NameKind.cell) else (n,k)) :: _)=_∨List.lookup x ((if (k==NameKind.free&&env.scope.kind==.function&&env.kindOf n==some .cell)=true then (n,NameKind.cell) else (n,k)) :: _)=_
  cases hx:x==n with
  | true=>
   simp only[zcd4,hx] at h
   cases h
   by_cases hc:(NameKind.free==NameKind.free&&env.scope.kind==.function&&env.kindOf n==some .cell)=true
   ·left;rw[if_pos hc];simp only[zcd4,hx]
   ·right;rw[if_neg hc];simp only[zcd4,hx]
  | false=>
   simp only[zcd4,hx] at h
   by_cases hc:(k==NameKind.free&&env.scope.kind==.function&&env.kindOf n==some .cell)=true
   ·rw[if_pos hc];simp only[zcd4,hx];exact ih h
   ·rw[if_neg hc];simp only[zcd4,hx];exact ih h
theorem zp2{env:Env}:∀ {names:List (Str×NameKind)}{x:Str}{k':NameKind},(∀ y∈names,y.2≠.cell)->(k'=.cell∨k'=.free) ->
  (names.map fun (n,k)=>if (k==NameKind.free&&env.scope.kind==.function&&env.kindOf n==some .cell) then (n,NameKind.cell) else (n,k)).lookup x=some k'->∃ y∈names,y.1=x/\y.2=.free
 | [],_,_,_,_,h=>by simp at h
 | (n,k) :: r,x,k',hn,hk,h=>by
  have ih:=@zp2 env r x k' (fun y hy=>hn y (zcb6 _ hy)) hk
  replace h:List.lookup x ((if (k==NameKind.free&&env.scope.kind==.function&&env.kindOf n==some .cell)=true then (n,NameKind.cell) else (n,k)) :: List.map (fun (n,k)=>if (k==NameKind.free&&env.scope.kind==.function&&env.kindOf n==some .cell) then (n,NameKind.cell) else (n,k)) r)=some k':=h
  cases hx:x==n with
  | true=>
   have hx':x=n:=by simpa using hx
   by_cases hf:k=.free
   ·exact⟨(n,k),zcb8,hx'.symm,hf⟩
   ·have hc:¬ (k==NameKind.free&&env.scope.kind==.function&&env.kindOf n==some .cell)=true:=by
     have:(k==NameKind.free)=false:=by simpa using hf
     rw[this];simp
    rw[if_neg hc] at h
    simp only[zcd4,hx] at h
    have:k=k':=Option.some.inj h
    subst this
    rcases hk with hk|hk
    ·exact absurd hk (hn (n,k) zcb8)
    ·exact absurd hk hf
  | false=>
   have h':List.lookup x (List.map (fun (n,k)=>if (k==NameKind.free&&env.scope.kind==.function&&env.kindOf n==some .cell) then (n,NameKind.cell) else (n,k)) r)=some k':=by
    by_cases hc:(k==NameKind.free&&env.scope.kind==.function&&env.kindOf n==some .cell)=true
    ·rw[if_pos hc] at h;simp only[zcd4,hx] at h;exact h
    ·rw[if_neg hc] at h;simp only[zcd4,hx] at h;exact h
   obtain⟨y,hy,h1,h2⟩:=ih h'
   exact⟨y,zcb6 _ hy,h1,h2⟩
def blk(X:Cx)(N:List Str)(scope:Scope)(cl:List (Str×Addr))(C:Addr)(s3:Shared)(H3:Hp)(fp:List Addr):Cx:=
 { X with N:=N,s₀:=s3,H₀:=H3,env:=compEnvC scope cl C X.env,outer:=X.stack,ex:=fp,fn:=fun _=>false,pn:=[],xe:=fun _ _=>False }
def PTs(X:Cx)(ifs:List Expr)(t:TT):Prop:=
 ∀ (pins:List (Addr×Obj)) (s:Shared) (σ:St) (H:Hp) (Q:Bool->Hp->Prop),Inv X pins σ H s->t σ H Q ->
  wpAny (model X.prog X.w) X.A (forIn ifs true fun c r=>if r=true then do let ok ← isTrue c X.env (eval c X.env);pure (ForInStep.yield ok) else pure (ForInStep.yield r)) (TP X pins σ Q) X.xe s
theorem zo6{X:Cx}:PTs X [] (fun _ H Q=>Q true H):=fun _ _ _ H _ I h=>wpAny_tests_nil ⟨H,I,h⟩
theorem zbc8{X:Cx}{c:Expr}{t:TT}(h:PT X c t):PTs X [c] t:=fun pins s σ H Q I hq=>wpAny_tests_one (h pins s σ H Q I hq)
@[irreducible] def cPut(W:Nat->Nat->List V->St->Hp->Prop)(acc:Addr)(ys:List V)(i m:Nat)(σ2:St)(v:V)(H5:Hp):Prop:=
 H5 acc=some (.lst ys)/\∀ H6,Chg acc H5 H6->H6 acc=some (.lst (ys++[v]))->∃ m',m'<m/\W (i+1) m' (ys++[v]) σ2 H6
@[irreducible] def zaq7(W:Nat->Nat->List V->St->Hp->Prop)(ys:List V)(i m:Nat)(σ2:St)(H4:Hp):Prop:=∃ m',m'<m/\W (i+1) m' ys σ2 H4
@[irreducible] def zae5(J:It)(g:TG)(tt:TT)(te:TE)(σ0:St)(H1:Hp)(Q:VK):Prop:=
 ∀ acc H2,H1 acc=none->Same H1 H2->H2 acc=some (.lst [])->∃ W:Nat->Nat->List V->St->Hp->Prop,(∃ m,W 0 m [] σ0 H2)/\∀ i m ys σ H,W i m ys σ H->H acc=some (.lst ys)/\ys.length<sizeLine /\
  ((J.stop i H/\Q (.ref acc) H)∨(J.go i H/\∀ x H',J.yld i H x H'->g x σ H' fun σ2 H3=>tt σ2 H3 fun b H4=>
   br b (te σ2 H4 fun v H5=>cPut W acc ys i m σ2 v H5) (zaq7 W ys i m σ2 H4)))
section
variable {X:Cx}{pins:List (Addr×Obj)}{σ:St}{H:Hp}{s2:Shared}
theorem zbr2{N:List Str}{cl:List (Str×Addr)}{s3 s4:Shared}{H3:Hp}{fp:List Addr}{σc:St}(I:Inv X pins σ H3 s3)(hcl1:∀ x c,cl.lookup x=some c->X.env.cells.lookup x=some c)(hcl2:∀ x∈scope.names,x.2=.free->∃ c,cl.lookup x.1=some c)(hkind:scope.kind=.function)(hcell:∀ y∈scope.names,y.2≠.cell)(hcap:∀ (i:Nat) (x:Str) (v:V),N[i]?=some x->σc[i]?=some (some v)->∃ j:Nat,X.N[j]?=some x/\σ[j]?=some (some v)/\scope.names.lookup x=some .free/\(X.env.kindOf x=some .cell∨X.env.kindOf x=some .free))(hlen:σc.length=N.length)(hC:s3.heap.objs.size=C)(hfp:∀ b∈fp,FpOk X pins H3 b)(hfpl:∀ b∈fp,b<C)(hex:∀ b o,X.base.get? b=some o->b ∉ fp)(hns:∃ m,s4.heap.Ns C m)(hk:∀ b o,s3.heap.get? b=some o->s4.heap.get? b=some o)(h4:s4.os=s3.os)(h5:s4.gens=s3.gens) :
  Inv (blk X N scope cl C s3 H3 fp) [] σc H3 s4:=by
 subst hC
 have look:∀ x,(blk X N scope cl s3.heap.objs.size s3 H3 fp).env.kindOf x=(relabel scope X.env).names.lookup x:=fun x=>rfl
 have cne:∀ x c,cl.lookup x=some c->c<s3.heap.objs.size:=fun x c h=>by
  obtain⟨v,o,ho,_⟩:=I.cell x c (hcl1 x c h)
  exact zca3 ho
 refine⟨⟨I.ok.mod,?_,I.ok.glob,I.ok.blt,zca7 _,fun x y c h1 h2=>I.ok.inj x y c (hcl1 _ _ h1) (hcl1 _ _ h2),fun x hx=>?_,fun x c h=>?_,I.ok.hd,I.ok.frames,.inl rfl,fun b hb=>⟨zcc8 (hfpl b hb),fun x c h=>?_⟩,fun b o e=>I.bs b o e,zcc5 I.ok.bsz I.sz,fun b o e=>hex b o e,fun b hb=>?_,I.stack,I.stkFree⟩,
  h4,by rw[h5];exact I.bare,Un.kept hk,?_,fun x c h=>?_,I.hok.fresh (zca7 _),fun x c h=>I.freeC x c (hcl1 _ _ h),fun p hp=>(by cases hp),I.hok.kept hk,hlen⟩
 ·exact hkind
 ·have hx':(relabel scope X.env).names.lookup x=some .cell∨(relabel scope X.env).names.lookup x=some .free:=hx
  have hz:∃ y∈scope.names,y.1=x/\y.2=.free:=by
   rcases hx' with q|q
   ·exact zp2 hcell (.inl rfl) q
   ·exact zp2 hcell (.inr rfl) q
  obtain⟨y,hy,rfl,hf⟩:=hz
  exact hcl2 y hy hf
 ·exact absurd (show false=true from h) zbz3
 ·exact (hfp b hb).2.2.2.2.1 x c (hcl1 x c h)
 ·have:=(hfp b hb).1
  intro hz
  obtain⟨f0,f1,f2,_⟩:=hfp b hb
  have hz:b∈frs X.stack:=hz
  rcases zbz4.mp (I.stkSub b hz) with q|q
  ·exact f1 q
  ·exact f2 q
 ·obtain⟨m,hm⟩:=hns
  refine⟨m,hm,fun i x v h1 h2 h3=>?_⟩
  obtain⟨j,e1,e2,e3,e4⟩:=hcap i x v h1 h2
  obtain⟨mX,_,hl⟩:=I.loc
  obtain⟨u,r,q⟩:=hl j x v e1 e2 (by rcases e4 with e4|e4;exact .inr (.inl e4);exact .inr (.inr e4))
  refine⟨u,r,.inr ⟨zv7 e3,?_⟩⟩
  obtain⟨c,hc⟩:=hcl2 (x,.free) (PySem.mem_of_lookup e3) rfl
  refine⟨c,hc,?_⟩
  have hc':=hcl1 x c hc
  rcases q with ⟨k,_⟩|⟨_,c2,e5,o,ho,hd⟩
  ·rcases e4 with e4|e4<;>rw[e4] at k<;>cases k
  ·rw[hc'] at e5
   cases e5
   exact⟨o,hk _ _ ho,hd⟩
 ·obtain⟨v,o,ho,hd⟩:=I.cell x c (hcl1 x c h)
  exact⟨v,o,hk _ _ ho,hd⟩
theorem zbc4{prog:Program}{w:World}{A:Around}{R:Result->Shared->Prop}{s:Shared}{elt target:Expr}{ifs:List Expr}{it acc:Value}{env:Env}(I:Nat->Shared->Prop)(turn:∀ n s,I n s->wpAny (model prog w) A (pyNext it) (fun r s₁=>match r with
   | none=>R (.ok .next) s₁
   | some v=>wpAny (model prog w) A (letOwnedTupleGo target it v) (fun _ s₁'=>wpAny (model prog w) A (assign target env v) (fun _ s₂=>
     wpAny (model prog w) A (forIn ifs true fun c r=>if r=true then do let ok ← isTrue c env (eval c env);pure (ForInStep.yield ok) else pure (ForInStep.yield r)) (fun ok s₃=>
      if ok=true then wpAny (model prog w) A (eval elt env) (fun x s₄=>
       wpAny (model prog w) A (call (.builtin "list.append") [acc,x]) (fun _ s₅=>∃ m,m<n/\I m s₅) (fun _ _=>False) s₄) (fun _ _=>False) s₃
      else ∃ m,m<n/\I m s₃) (fun _ _=>False) s₂) (fun _ _=>False) s₁') (fun _ _=>False) s₁) (fun _ _=>False) s)(n:Nat)(h:I n s):codeAny (model prog w) A (.compLoop (.ListComp elt [⟨target,iter,ifs,0⟩] scope pos) 0 it acc env) R s:=by
 refine codeAny_loop rfl I (fun n s hI=>?_) n h
 show wpAny _ A ((compTurn (.ListComp elt [⟨target,iter,ifs,0⟩] scope pos) 0 it acc env).onRaise (fun x=>do noteFrame x env;theTreesLotGoes x)) _ _ s
 refine wpAny_noted ?_
 rw[compTurn_list]
 refine zch8 (wpAny_standAt (zch8 (wpAny_mono (turn n s hI) (fun r s₁ h₁=>?_) fun _ _ h'=>h'.elim)))
 cases r with
 | none=>exact zch9 h₁
 | some v=>
  refine zch8 (wpAny_mono h₁ (fun _ s₁' h₁'=>?_) fun _ _ h'=>h'.elim)
  refine zch8 (wpAny_mono h₁' (fun _ s₂ h₂=>zch8 (wpAny_mono h₂ (fun ok s₃ h₃=>?_) fun _ _ h'=>h'.elim)) fun _ _ h'=>h'.elim)
  cases ok with
  | false=>exact zch9 ⟨rfl,h₃⟩
  | true=>
   exact zch8 (zch8 (wpAny_mono h₃ (fun x s₄ h₄=>zch8 (wpAny_mono h₄ (fun _ s₅ h₅=>zch9 (zch9 ⟨rfl,h₅⟩)) fun _ _ h'=>h'.elim)) fun _ _ h'=>h'.elim))
theorem zal7{E:Value->Shared->Prop}{elt:Expr}{ifs:List Expr}{cl:List (Str×Addr)}{N:List Str}{σc:St}{J:It}{fp:List Addr}{it:Addr}{tn:Nat->Heap->Prop}{g:TG}{tt:TT}{te:TE}{RR:Value->Addr->Result->Shared->Prop}(hcl1:∀ x c,cl.lookup x=some c->X.env.cells.lookup x=some c)(hcl2:∀ x∈scope.names,x.2=.free->∃ c,cl.lookup x.1=some c)(hkind:scope.kind=.function)(hcell:∀ y∈scope.names,y.2≠.cell)(hcap:∀ (i:Nat) (x:Str) (v:V),N[i]?=some x->σc[i]?=some (some v)->∃ j:Nat,X.N[j]?=some x/\σ[j]?=some (some v)/\scope.names.lookup x=some .free/\(X.env.kindOf x=some .cell∨X.env.kindOf x=some .free))(hlen:σc.length=N.length)(hc:X.calm=true)(I:Inv X pins σ H s2)(T:Turn X.prog X.w X.K tg J fp it tn)(st:tn 0 s2.heap)(fpok:∀ b∈fp,FpOk X pins H b)(hg:∀ C s3 H3 fp,PG (blk X N scope cl C s3 H3 fp) tg g)(ht:∀ C s3 H3 fp,PTs (blk X N scope cl C s3 H3 fp) ifs tt)(he:∀ C s3 H3 fp,PE (blk X N scope cl C s3 H3 fp) elt te)(h:zae5 J g tt te σc H Q)(hRR:∀ (acc C:Addr) (H':Hp) (s':Shared),Inv X pins σ H' s'->FpOk X pins H' C->(∃ m,s'.heap.Ns C m)->Q (.ref acc) H'->RR (.ref acc) C (.ok .next) s') :
  wpAny (model X.prog X.w) X.A (newList []) (fun acc s₃=>wpAny (model X.prog X.w) X.A (newFunctionEnv scope X.env.globals cl [] X.env.qual none .none (some X.env)) (fun cenv s₄=>
   codeAny (model X.prog X.w) X.A (.compStart (.ListComp elt [⟨tg,iter,ifs,0⟩] scope pos) 0 (.ref it) acc { cenv with scope:=relabel scope X.env }) (RR acc cenv.locals) s₄) E s₃) E s2:=by
 refine wpAny_newObj_type (wpAny_newFunctionEnv hcell (by intro y hy;simp at hy) (fun h₁ hns₁ hsb₁=>?_) hkind)
 dsimp only at hns₁ hsb₁ ⊢
 have hf:H s2.heap.objs.size=none:=I.fresh
 have I3:Inv X pins σ (upd H s2.heap.objs.size (.lst [])) { s2 with heap:=s2.heap.push { cls:=.type "list",data:=.seq ([]:List Value).toArray } }:=I.lnew (t':=s2.toks) (its:=[]) .nil (zcg0 _)
 generalize hs3:({ s2 with heap:=s2.heap.push { cls:=.type "list",data:=.seq ([]:List Value).toArray } }:Shared)=s3 at I3
 have hH:s2.heap.push { cls:=.type "list",dict:=none,data:=.seq ([]:List Value).toArray }=s3.heap:=by rw[← hs3]
 rw[hH] at hns₁ hsb₁ ⊢
 have hsz:s3.heap.objs.size=s2.heap.objs.size+1:=by rw[← hH,Heap.size_push]
 have old23:∀ b o,s2.heap.get? b=some o->s3.heap.get? b=some o:=fun b o e=>by rw[← hH];exact zbz8 _ e
 have fplt:∀ b∈fp,b<s2.heap.objs.size:=fun b hb=>by
  obtain⟨o,e,_⟩:=T.obj 0 _ st b hb
  exact zca3 e
 have fp3:∀ b∈fp,FpOk X pins (upd H s2.heap.objs.size (.lst [])) b:=fun b hb=>by
  obtain⟨f0,f1⟩:=fpok b hb
  refine⟨?_,f1⟩
  rw[zb0 (zcc8 (fplt b hb))]
  exact f0
 have old34:∀ b o,s3.heap.get? b=some o->h₁.get? b=some o:=fun b o e=>hsb₁.extBut b o (zcc8 (zca3 e)) (zbz8 _ e)
 have nob:∀ b o,X.base.get? b=some o->b ∉ fp:=fun b o e hb=>by
  obtain⟨_,_,_,f3,_,_⟩:=fpok b hb
  rcases f3 with f3|f3
  ·exact I.ok.noex b o e f3
  ·exact absurd (zca8 (zca3 e) I.ok.bsz) (Nat.not_lt.mpr f3)
 have hs4e:({ s2 with heap:=h₁,toks:=s2.toks+([]:List (Str×Value)).length }:Shared).os=s3.os:=by rw[← hs3]
 have hs4g:({ s2 with heap:=h₁,toks:=s2.toks+([]:List (Str×Value)).length }:Shared).gens=s3.gens:=by rw[← hs3]
 have I4:Inv (blk X N scope cl s3.heap.objs.size s3 (upd H s2.heap.objs.size (.lst [])) fp) [] σc (upd H s2.heap.objs.size (.lst [])) { s2 with heap:=h₁,toks:=s2.toks+([]:List (Str×Value)).length }:=
  zbr2 (s4:={ s2 with heap:=h₁,toks:=s2.toks+([]:List (Str×Value)).length }) I3 hcl1 hcl2 hkind hcell hcap hlen rfl fp3 (fun b hb=>zca8 (fplt b hb) (by rw[hsz];exact Nat.le_succ _)) nob ⟨_,hns₁⟩ old34 hs4e hs4g
 have st4:tn 0 h₁:=T.keep _ _ _ st fun b hb o e=>old34 b o (old23 b o e)
 unfold zae5 at h
 obtain⟨W,⟨m0,w0⟩,turn⟩:=h s2.heap.objs.size _ hf (Same.upd hf) zb8
 have loop:codeAny (model X.prog X.w) X.A (.compLoop (.ListComp elt [⟨tg,iter,ifs,0⟩] scope pos) 0 (.ref it) (.ref s2.heap.objs.size) (blk X N scope cl s3.heap.objs.size s3 (upd H s2.heap.objs.size (.lst [])) fp).env)
   (RR (.ref s2.heap.objs.size) s3.heap.objs.size) { s2 with heap:=h₁,toks:=s2.toks+([]:List (Str×Value)).length }:=by
  refine zbc4 (fun n s'=>∃ i ys σ' H',Inv (blk X N scope cl s3.heap.objs.size s3 (upd H s2.heap.objs.size (.lst [])) fp) [] σ' H' s'/\tn i s'.heap/\(∀ b∈fp,H' b=none)/\W i n ys σ' H') ?_ m0 ⟨0,[],σc,_,I4,st4,fun b hb=>(fp3 b hb).1,w0⟩
  rintro n s5 ⟨i,ys,σ5,H5,I5,st5,fr5,w5⟩
  obtain⟨hacc,hl5,hcase⟩:=turn i n ys σ5 H5 w5
  have stat:∀ {H':Hp},(∀ b∈fp,H' b=none)->∀ b∈fp,FpOk (blk X N scope cl s3.heap.objs.size s3 (upd H s2.heap.objs.size (.lst [])) fp) [] H' b:=fun hn b hb=>by
   obtain⟨_,f1,f2,f3,f4,_⟩:=fpok b hb
   refine⟨hn b hb,zcc8 (zca8 (fplt b hb) (by rw[hsz];exact Nat.le_succ _)),fun hz=>?_,.inl hb,fun x c hx=>f4 x c (hcl1 x c hx),fun p hp=>by cases hp⟩
   rcases zbz4.mp (I.stkSub b hz) with q|q
   ·exact f1 q
   ·exact f2 q
  rcases hcase with ⟨stop,hq⟩|⟨go,step⟩
  ·refine thn (T.done (blk X N scope cl s3.heap.objs.size s3 (upd H s2.heap.objs.size (.lst [])) fp) rfl rfl rfl hc i [] s5 σ5 H5 (fun _ _=>False) I5 (stat fr5) st5 stop) fun r s6 ⟨hr,I6⟩=>?_
   subst hr
   have u1:Un (frs X.stack) fp H (upd H s2.heap.objs.size (.lst [])) s2.heap s3.heap:=Un.laid old23 (zca7 _) hf
   have u2:Un (frs X.stack) fp (upd H s2.heap.objs.size (.lst [])) H5 s3.heap s6.heap:=I6.base
   have hC:H5 s3.heap.objs.size=none:=I6.free
   obtain⟨m6,hm6,_⟩:=I6.loc
   have hos:s6.os=s2.os:=by rw[I6.os];show s3.os=s2.os;rw[← hs3]
   have hok6:=I6.hok
   have bare6:=I6.bare
   obtain⟨hh,gg,dd,tt',os'⟩:=s6
   obtain rfl:os'=s2.os:=hos
   exact hRR _ _ H5 _ (I.call (h':=hh) (g':=gg) (d':=dd) (t':=tt') (ch:=fp) (u1.trans u2) hok6 bare6 fun b hb=>⟨(fpok b hb).2.2.2.1,(fpok b hb).2.1,(fpok b hb).2.2.2.2.1,(fpok b hb).2.2.2.2.2⟩)
    (I.fpOk (by rw[hsz];exact Nat.le_succ _) hC) ⟨m6,hm6⟩ hq
  ·refine thn (T.item (blk X N scope cl s3.heap.objs.size s3 (upd H s2.heap.objs.size (.lst [])) fp) rfl rfl rfl hc i [] s5 σ5 H5 (fun _ _=>False) I5 (stat fr5) st5 go) fun r s6 ⟨u,hr,h6⟩=>?_
   subst hr
   refine thn h6 fun _ s7 ⟨x,H7,I7,r7,y7,st7,fr7⟩=>?_
   have I7':=I7.pinned (stat fr7) (T.obj _ _ st7)
   refine thn (hg _ _ _ _ _ s7 σ5 H7 x u _ I7' r7 (step x H7 y7)) fun _ s8 ⟨σ8,H8,I8,q8⟩=>?_
   refine thn (ht _ _ _ _ _ s8 σ8 H8 _ I8 q8) fun ok s9 ⟨H9,I9,q9⟩=>?_
   have again:∀ {s10:Shared}{σ10:St}{H10:Hp}{zs:List V},Inv (blk X N scope cl s3.heap.objs.size s3 (upd H s2.heap.objs.size (.lst [])) fp) ([]++zai7 fp s7.heap) σ10 H10 s10->(∃ m',m'<n/\W (i+1) m' zs σ10 H10) ->
     ∃ m,m<n/\∃ i ys σ' H',Inv (blk X N scope cl s3.heap.objs.size s3 (upd H s2.heap.objs.size (.lst [])) fp) [] σ' H' s10/\tn i s10.heap/\(∀ b∈fp,H' b=none)/\W i m ys σ' H':=fun {s10 σ10 H10 zs} I10 ⟨m',hm,w10⟩=>by
    refine⟨m',hm,i+1,zs,σ10,H10,I10.unpinned,T.keep _ _ _ st7 fun b hb o e=>(I10.pin (b,o) (zcc6 _ (zcc6 _ (zq1 hb e)))).1,fun b hb=>?_,w10⟩
    obtain⟨o,e,d⟩:=T.obj _ _ st7 b hb
    exact (I10.pin (b,o) (zcc6 _ (zcc6 _ (zq1 hb e)))).2.1
   dsimp only at q9
   rw[zq7] at q9
   cases ok with
   | false=>
    have q9:∃ m',m'<n/\W (i+1) m' ys σ8 H9:=by rw[if_neg zbz3] at q9;unfold zaq7 at q9;exact q9
    exact again I9 q9
   | true=>
    have q9:=(if_pos rfl▸q9:te σ8 H9 _)
    refine thn (he _ _ _ _ _ s9 σ8 H9 _ I9 q9) fun v s10 ⟨y,H10,I10,r10,q10⟩=>?_
    unfold cPut at q10
    obtain⟨e10,q10⟩:=q10
    refine thn (zan2 _ s10 σ8 H10 (.ref s2.heap.objs.size) [y] (.ref s2.heap.objs.size) [v] (fun _ H11=>∃ m',m'<n/\W (i+1) m' (ys++[y]) σ8 H11) I10 rfl (.cons r10 .nil) ⟨_,ys,y,rfl,rfl,e10,hl5,q10 _ Chg.upd zb8⟩) fun _ s11 ⟨z,H11,I11,_,q11⟩=>?_
    exact again I11 q11
 exact codeAny_compStart_list loop (T.self _ 0 _ _ _ st4 loop)
def capS(ks:List (Option Nat))(σ:St):St:=ks.map fun k=>match k with
 | none=>none
 | some j=>(σ[j]?).join
inductive zy0(X:Cx)(scope:Scope):List Str->List (Option Nat)->Prop where
 | nil:zy0 X scope [] []
 | skip {x:Str}{N:List Str}{ks:List (Option Nat)}(t:zy0 X scope N ks):zy0 X scope (x :: N) (none :: ks)
 | take {x:Str}{N:List Str}{ks:List (Option Nat)}{j:Nat}(h1:X.N[j]?=some x) (h2:scope.names.lookup x=some .free) (h3:X.env.kindOf x=some .cell∨X.env.kindOf x=some .free) (t:zy0 X scope N ks):zy0 X scope (x :: N) (some j :: ks)
theorem zy0.cap{N:List Str}{ks:List (Option Nat)}(h:zy0 X scope N ks)(σ:St):∀ (i:Nat) (x:Str) (v:V),N[i]?=some x->(capS ks σ)[i]?=some (some v)->∃ j:Nat,X.N[j]?=some x/\σ[j]?=some (some v)/\scope.names.lookup x=some .free/\(X.env.kindOf x=some .cell∨X.env.kindOf x=some .free):=by
 induction h with
 | nil=>intro i x v h;simp at h
 | skip t ih=>
  intro i x v h1 h2
  cases i with
  | zero=>simp[capS] at h2
  | succ i=>exact ih i x v (by simpa using h1) (by simpa [capS] using h2)
 | take a b c t ih=>
  intro i x v h1 h2
  cases i with
  | zero=>
   simp only[List.getElem?_cons_zero,Option.some.injEq] at h1
   subst h1
   refine⟨_,a,?_,b,c⟩
   simpa [capS,Option.join_eq_some_iff] using h2
  | succ i=>exact ih i x v (by simpa using h1) (by simpa [capS] using h2)
theorem zy0.len{N:List Str}{ks:List (Option Nat)}(h:zy0 X scope N ks)(σ:St):(capS ks σ).length=N.length:=by
 have:ks.length=N.length:=by
  induction h with
  | nil=>rfl
  | skip t ih=>simp[ih]
  | take a b c t ih=>simp[ih]
 simp[capS,this]
def qComp(ks:List (Option Nat))(wi:TI)(g:TG)(tt:TT)(te:TE):TE:=fun σ H Q=>wi σ H fun J H1=>zae5 J g tt te (capS ks σ) H1 Q
def freeB(scope:Scope)(f:Str->Option NameKind):Bool:=scope.names.all fun x=>x.2 != .free || (f x.1==some .cell || f x.1==some .free)
def zas8(scope:Scope):Bool:=scope.names.all (fun x=>x.2 != .cell)&&scope.names.all fun x=>x.2 != .local || scope.names.lookup x.1==some .local
theorem zar3{f:Str->Option NameKind}(h:freeB scope f=true):∀ x∈scope.names,x.2=.free->f x.1=some .cell∨f x.1=some .free:=fun x hx hf=>by
 have:=zcc9.mp h x hx
 simpa [hf] using this
theorem zal0(h:zas8 scope=true):(∀ y∈scope.names,y.2≠.cell)/\∀ x∈scope.names,x.2=.local->scope.names.lookup x.1=some .local:=by
 unfold zas8 at h
 rw[zcb3] at h
 refine⟨fun y hy=>?_,fun x hx hl=>?_⟩
 ·have:=zcc9.mp h.1 y hy
  simpa using this
 ·have:=zcc9.mp h.2 x hx
  simpa [hl] using this
theorem zv6{elt:Expr}{ifs:List Expr}{N:List Str}{ks:List (Option Nat)}{wi:TI}{g:TG}{tt:TT}{te:TE}(hi:PI X tg iter wi)(hg:∀ cl C s3 H3 fp,PG (blk X N scope cl C s3 H3 fp) tg g)(ht:∀ cl C s3 H3 fp,PTs (blk X N scope cl C s3 H3 fp) ifs tt)(he:∀ cl C s3 H3 fp,PE (blk X N scope cl C s3 H3 fp) elt te)(hcap:zy0 X scope N ks)(hc:X.calm=true:=by rfl)(hkind:scope.kind=.function:=by rfl)(hb:freeB scope X.env.kindOf=true:=by rfl)(hn:zas8 scope=true:=by rfl)(hs:∀ x,foldedSetIterable iter X.env x=pure x:=by intro _;rfl) :
  PE X (.ListComp elt [⟨tg,iter,ifs,0⟩] scope pos) (qComp ks wi g tt te):=by
 intro pins s σ H Q I h
 obtain⟨hcell,hnames⟩:=zal0 hn
 obtain⟨cl,hcl,hcl1,hcl2⟩:=zad1 (scope:=scope) (env:=X.env) fun x hx hf=>I.ok.has x.1 (zar3 hb x hx hf)
 rw[eval_ListComp]
 refine wpAny_comprehension_free (use:=none) rfl hs hcl hkind hnames ?_
 show wpAny _ _ (eval iter X.env) _ _ s
 refine thn (hi pins s σ H _ I h) fun v s1 h1=>thn h1 fun itv s2 h2=>?_
 obtain⟨it,fp,tn,J,H2,e,I2,T,st2,f2,q2⟩:=h2
 subst e
 refine zal7 (RR:=fun acc C=>compPost (model X.prog X.w) X.A X.xe none (EP X pins σ Q) acc C) hcl1 hcl2 hkind hcell (hcap.cap σ) (hcap.len σ) hc I2 T st2 f2 (hg cl) (ht cl) (he cl) q2 ?_
 rintro acc C H' s' I' hC ⟨m,hm⟩ hq
 refine⟨m,hm,fun h' hsb=>⟨.ref acc,H',?_,rfl,hq⟩⟩
 exact I'.turned (t':=s'.toks) (fun b o hb e=>hsb.extBut b o hb e) hC.1 hC.2.1 hC.2.2.2.1 hC.2.2.2.2.1 hC.2.2.2.2.2
theorem psC{y:Str}{py spos:Pos}{elt:Expr}{ifs:List Expr}{N:List Str}{ks:List (Option Nat)}{wi:TI}{g:TG}{tt:TT}{te:TE}(hN:X.N.Nodup)(hi:PI X tg iter wi)(hg:∀ cl C s3 H3 fp,PG (blk X N scope cl C s3 H3 fp) tg g)(ht:∀ cl C s3 H3 fp,PTs (blk X N scope cl C s3 H3 fp) ifs tt)(he:∀ cl C s3 H3 fp,PE (blk X N scope cl C s3 H3 fp) elt te)(hcap:zy0 X scope N ks)(hy:X.N[i]?=some y:=by rfl)(hl:X.env.scope.names.lookup y=some .local:=by rfl)(hsw:swapsWith (.ListComp elt [⟨tg,iter,ifs,0⟩] scope pos) (some (.Name y py)) spos.line X.env=pure true:=by rfl)(hc:X.calm=true:=by rfl)(hkind:scope.kind=.function:=by rfl)(hb:freeB scope X.env.kindOf=true:=by rfl)(hn:zas8 scope=true:=by rfl)(hs:∀ x,foldedSetIterable iter X.env x=pure x:=by intro _;rfl) :
  PS X (.Assign [.Name y py] (.ListComp elt [⟨tg,iter,ifs,0⟩] scope pos) spos) (tAsg (qComp ks wi g tt te) (zaz4 i)):=by
 intro pins s σ H D I h
 obtain⟨hcell,hnames⟩:=zal0 hn
 obtain⟨cl,hcl,hcl1,hcl2⟩:=zad1 (scope:=scope) (env:=X.env) fun x hx hf=>I.ok.has x.1 (zar3 hb x hx hf)
 rw[exec_Assign_Name_used _ _ _ _ hsw]
 refine zch8 (wpAny_standAt (zch8 ?_))
 show wpAny _ X.A (do let _ ← comprehension (.ListComp elt [⟨tg,iter,ifs,0⟩] scope pos) scope X.env _ (newList []) false (eval iter X.env) (some (assign (.Name y py) X.env))) _ _ s
 refine zch8 (wpAny_mono (wpAny_comprehension_free (use:=some (assign (.Name y py) X.env)) (Q:=fun _ s'=>SP X pins D .next s') rfl hs hcl hkind hnames ?_) (fun _ s' hq=>zch9 (zch9 hq)) fun _ _ e=>e)
 refine thn (hi pins s σ H _ I h) fun v s1 h1=>thn h1 fun itv s2 h2=>?_
 obtain⟨it,fp,tn,J,H2,e,I2,T,st2,f2,q2⟩:=h2
 subst e
 refine zal7 (RR:=fun acc C=>compPost (model X.prog X.w) X.A X.xe (some (assign (.Name y py) X.env)) (fun _ s'=>SP X pins D .next s') acc C) hcl1 hcl2 hkind hcell (hcap.cap σ) (hcap.len σ) hc I2 T st2 f2 (hg cl) (ht cl) (he cl) q2 ?_
 rintro acc C H' s' I' hC ⟨m,hm⟩ hq
 show wpAny _ _ (assign (.Name y py) X.env (.ref acc)) _ _ _
 refine wpAny_assign_Name (zak1 I' hN hy (.inl hl) (v:=.ref acc) rfl (fun s'' I'' hsb=>?_) (.inr hl))
 obtain⟨a,hsb,ha⟩:=hsb
 have hCa:C≠a:=by
  rcases ha with ha|ha
  ·rw[ha];exact hC.2.1
  ·exact (hC.2.2.2.2.1 y a ha).symm
 refine⟨m,hm.sameBut hsb hCa,fun h' hsb'=>⟨σ.set i (some (.ref acc)),H',?_,hq⟩⟩
 exact I''.turned (t':=s''.toks) (fun b o hb e=>hsb'.extBut b o hb e) hC.1 hC.2.1 hC.2.2.2.1 hC.2.2.2.2.1 hC.2.2.2.2.2
end
section
variable {X:Cx}
@[irreducible] def rSumA(K:zby6)(p:Addr)(H:Hp)(Q:VK):Prop:=∃ ns:List Int,SqL K H p (ns.map V.int)/\Q (.int ns.sum) H
def rSumM(K:zby6):List V->Hp->VK->Prop:=fun xs H Q=>match xs with
 | [.ref p]=>rSumA K p H Q
 | _=>False
theorem zz1:∀ {bs:List Bool}{us:List Value},Vals (bs.map V.bl) us->LSm.BoolsAre us bs
 | [],us,r=>by rw[List.map_nil] at r;cases r;exact .nil
 | b :: bs,us,r=>by
  rw[zcf8] at r
  cases r with
  | cons r1 r2=>
   cases r1
   exact .cons b (zz1 r2)
@[irreducible] def rAllA(K:zby6)(p:Addr)(H:Hp)(Q:VK):Prop:=∃ bs:List Bool,SqL K H p (bs.map V.bl)/\Q (.bl (bs.all id)) H
def rAllM(K:zby6):List V->Hp->VK->Prop:=fun xs H Q=>match xs with
 | [.ref p]=>rAllA K p H Q
 | _=>False
theorem cAll(hc:X.calm=true):zj2 X (.builtin "all") (rAllM X.K):=fun pins s σ H xs us Q I r h=>by
 unfold rAllM at h
 split at h
 ·rename_i p
  unfold rAllA at h
  obtain⟨bs,h1,h2⟩:=h
  obtain⟨u,rfl,rx⟩:=zy3 r
  cases rx
  obtain⟨its,r',pl,hz⟩:=I.list h1
  have hb:=zz1 r'
  have hlt:p<s.heap.objs.size:=by obtain⟨_,e,_⟩:=pl.isList;exact zca3 e
  refine call_all_walk (wpAny_pyIter_list pl.isList ?_)
  refine⟨s.heap.objs.size,[s.heap.objs.size,_],[s.heap.objs.size],its.toArray.size,_,_,fun i=>(bs[i]?).getD true,rfl,Walks.list (A:=X.A.in1) (I.ok.hd hc) _ _ (zcc8 hlt) its.toArray,
   ⟨⟨_,zcd0 _ rfl,rfl,rfl⟩,pl.isList.push _⟩,fun i v s' Q' E' hP hQ=>?_,fun h' tk hk=>?_⟩
  ·obtain⟨b,e,rfl⟩:=hb.get i v (by simpa using hP)
   simp only[e,Option.getD_some] at hQ
   exact wpAny_truthy_bool hQ
  ·have e:((List.range its.toArray.size).all fun i=>(bs[i]?).getD true)=bs.all id:=by
    rw[zbz6,hb.length];exact LSm.range_all bs
   rw[e]
   exact⟨.bl _,H,I.kept (LSm.kept_iter hk),rfl,h2⟩
 ·exact h.elim
theorem zas6{K:zby6}{p:Addr}{bs:List Bool}(h:H p=some (.lst (bs.map V.bl)))(q:Q (.bl (bs.all id)) H):rAllA K p H Q:=by unfold rAllA;exact⟨bs,SqL.of h,q⟩
@[irreducible] def zas2(K:zby6)(p:Addr)(H:Hp)(Q:VK):Prop:=∃ ys,(SqL K H p ys∨SqT K H p ys)/\∀ l H',H l=none->Same H H'->H' l=some (.lst ys)->Q (.ref l) H'
def zbd3(K:zby6):List V->Hp->VK->Prop:=fun xs H Q=>match xs with
 | [.ref p]=>zas2 K p H Q
 | _=>False
theorem cList:zj2 X (.type "list") (zbd3 X.K):=fun pins s σ H xs us Q I r h=>by
 unfold zbd3 at h
 split at h
 ·unfold zas2 at h
  obtain⟨ys,h1,h2⟩:=h
  exact zah8 pins s σ H _ us Q I r ⟨_,ys,rfl,h1,fun l hl=>h2 l _ hl (Same.upd hl) zb8⟩
 ·exact h.elim
@[irreducible] def zat7(K:zby6)(p:Addr)(H:Hp)(R:Prop):Prop:=(∃ xs,SqL K H p xs)/\R
def qBM(K:zby6)(r:Addr->List V->Hp->VK->Prop)(to:TE)(t:TA):TE:=fun σ H Q=>to σ H fun x H1=>match x with
 | .ref p=>zat7 K p H1 (t σ H1 fun xs H2=>r p xs H2 Q)
 | _=>False
theorem zac4{K:zby6}{p:Addr}{R:Prop}{xs:List V}(h:H p=some (.lst xs))(q:R):zat7 K p H R:=by unfold zat7;exact⟨⟨xs,SqL.of h⟩,q⟩
def MtA(X:Cx)(id:String)(r:Addr->List V->Hp->VK->Prop):Prop:=
 ∀ (pins:List (Addr×Obj)) (s:Shared) (σ:St) (H:Hp) (p:Addr) (xs:List V) (us:List Value) (Q:VK),Inv X pins σ H s->Vals xs us->r p xs H Q ->
  wpAny (model X.prog X.w) X.A (call (.builtin id) (.ref p :: us)) (EP X pins σ Q) X.xe s
theorem peBM{o:Expr}{to:TE}{t:TA}{name:Str}{apos cpos:Pos}{id:String}{r:Addr->List V->Hp->VK->Prop}(slot:Slot "list" name id)(hty:typeOf (.builtin id)=pure (.type "method_descriptor"))(hm:MtA X id r)(ho:PE X o to)(ha:PA X (e :: es) t)(hbase:attributeBase o name X.env (eval o X.env)=eval o X.env:=by rfl)(hfew:((backTo cpos (starEach (e :: es) X.env)).all (fun x=>!x.1)&&(backToKw cpos (keywordEach [] X.env)).all (fun x=>x.1.isSome)
   && decide ((e :: es).length+([]:List Keyword).length+(if ([]:List Keyword).isEmpty then 0 else 1)<30))=true:=by rfl)(hline:(apos.endLine==cpos.line)=true:=by rfl)(hs:starEach (e :: es) X.env=(false,eval e X.env) :: starEach es X.env:=by rfl)(hplain:(backTo cpos (starEach es X.env)).any (·.1)=false:=by rfl) :
  PE X (.Call (.Attribute o name apos) (e :: es) [] cpos) (qBM X.K r to t):=by
 intro pins s σ H Q I h
 refine wpAny_Call_method_late hbase hfew hline rfl (thn (ho pins s σ H _ I h) fun v s1 ⟨x,H1,I1,r1,q1⟩=>?_)
 dsimp only at q1
 split at q1
 ·rename_i p
  unfold zat7 at q1
  obtain⟨hq,q1⟩:=q1
  obtain⟨h1,h2⟩:=zbk3 (T:="list") I1 r1 (.inl ⟨rfl,hq⟩)
  refine⟨"list",id,PySem.F.plainAttrs_list,slot,hty,h1,h2,?_⟩
  have hA:=ha cpos pins s1 σ H1 _ I1 q1
  rw[hs] at hA ⊢
  refine Calls.callWith_builtin (by show (false || (backTo cpos (starEach es X.env)).any (·.1))=false;rw[hplain]<;>rfl) (Calls.evalArgs_plain ?_)
  cases r1
  exact thn hA fun us s2 ⟨vs,H2,I2,r2,q2⟩=>hm pins s2 σ H2 p vs us Q I2 r2 q2
 ·exact q1.elim
@[irreducible] def rAppA(p:Addr)(v:V)(H:Hp)(Q:VK):Prop:=∃ xs,H p=some (.lst xs)/\xs.length<sizeLine/\∀ H',Chg p H H'->H' p=some (.lst (xs++[v]))->Q .non H'
def rAppM:Addr->List V->Hp->VK->Prop:=fun p vs H Q=>match vs with
 | [v]=>rAppA p v H Q
 | _=>False
theorem zbr5:MtA X "list.append" rAppM:=fun pins s σ H p xs us Q I r h=>by
 unfold rAppM at h
 split at h
 ·unfold rAppA at h
  obtain⟨ys,h1,h2,h3⟩:=h
  exact zan2 pins s σ H (.ref p) _ (.ref p) us Q I rfl r ⟨p,ys,_,rfl,rfl,h1,h2,h3 _ Chg.upd zb8⟩
 ·exact h.elim
theorem zau9{p:Addr}{v:V}{xs:List V}(h:H p=some (.lst xs))(hz:xs.length<sizeLine)(q:∀ H',Chg p H H'->H' p=some (.lst (xs++[v]))->Q .non H'):rAppA p v H Q:=by unfold rAppA;exact⟨xs,h,hz,q⟩
theorem zq0{o:Expr}{to:TE}{t:TA}{apos cpos:Pos}(ho:PE X o to)(ha:PA X [e] t)(hbase:attributeBase o "append" X.env (eval o X.env)=eval o X.env:=by rfl)(hfew:((backTo cpos (starEach [e] X.env)).all (fun x=>!x.1)&&(backToKw cpos (keywordEach [] X.env)).all (fun x=>x.1.isSome)
   && decide ([e].length+([]:List Keyword).length+(if ([]:List Keyword).isEmpty then 0 else 1)<30))=true:=by rfl)(hline:(apos.endLine==cpos.line)=true:=by rfl)(hs:starEach [e] X.env=(false,eval e X.env) :: starEach [] X.env:=by rfl)(hplain:(backTo cpos (starEach [] X.env)).any (·.1)=false:=by rfl):PE X (.Call (.Attribute o "append" apos) [e] [] cpos) (qBM X.K rAppM to t):=
 peBM PySem.F.slot_list_append PySem.F.type_list_append zbr5 ho ha hbase hfew hline hs hplain
def rIsM:R2:=fun x y H Q=>match y with
 | .non=>Q (.bl (decide (x=.non))) H
 | _=>False
theorem oIs:OpR X (compareOp .Is) rIsM:=by
 intro pins s σ H x y v u Q I rx ry h
 unfold rIsM at h
 split at h
 ·exact zbm5 pins s σ H _ _ v u Q I rx ry ⟨rfl,h⟩
 ·exact h.elim
section
variable {prog:Program}{w:World}{A:Around}{E:Value->Shared->Prop}{s:Shared}
theorem zak7{it t:Addr}{items:Array Value}(hne:t≠it):∀ (n i:Nat) (s:Shared) (Q:List Value->Shared->Prop),s.heap.IsListIter it t i->s.heap.IsList t items->i+n<=items.size ->
  (∀ h',h'.IsListIter it t (i+n)->Heap.SameBut it s.heap h'->Q ((items.toList.drop i).take n) { s with heap:=h' })->wpAny (model prog w) A (draw (.ref it) n) Q E s
 | 0,i,s,Q,hit,_,_,hQ=>by
  show wpAny _ _ (pure []) Q E s
  exact zch9 (by simpa using hQ s.heap hit (Heap.SameBut.refl ..))
 | n+1,i,s,Q,hit,ht,hle,hQ=>by
  have hlt:i<items.size:=by omega
  show wpAny _ _ (pyNext (.ref it) >>= _) Q E s
  refine zch8 (wpAny_pyNext_list_item hit ht (x:=items[i]) (by simp[hlt]) fun h₁ hit₁ hs₁=>?_)
  refine zch8 (zci3 (zak7 hne n (i+1) _ _ hit₁ (ht.extBut hs₁.extBut hne) (by omega) fun h₂ hit₂ hs₂=>zch9 ?_))
  have hd:items.toList.drop i=items[i] :: items.toList.drop (i+1):=by simp[List.drop_eq_getElem_cons,hlt]
  have:=hQ h₂ (by rw[show i+(n+1)=i+1+n by omega];exact hit₂) (hs₁.trans hs₂)
  rw[hd,List.take_succ_cons] at this
  exact this
theorem zt5{env:Env}{elts:List Expr}{x1}{t:Addr}{items:Array Value}{Q:Unit->Shared->Prop}(hh:A.handled=none)(ht:s.heap.IsList t items)(hn:(assignEach elts env).length=items.size)(hstar:(assignEach elts env).findIdx? (·.1)=none)(h:∀ h',Heap.ExtBut s.heap.objs.size s.heap h'->wpAny (model prog w) A (assignInOrder ((assignEach elts env).map (·.2)) items.toList) Q E { s with heap:=h' }) :
  wpAny (model prog w) A (assign (.Tuple elts x1 pos) env (.ref t)) Q E s:=by
 rw[assign_Tuple]
 refine zch8 (wpAny_standAt ?_)
 unfold unpack
 rw[hn,hstar]
 refine zch8 (zci3 ?_)
 have hlt:t≠s.heap.objs.size:=by obtain⟨o,ho,_⟩:=ht;exact zcc8 (zca3 ho)
 unfold unpackItems
 refine zch8 ?_
 unfold notIterableAtAll
 refine zch8 (wpAny_specialOf ht.typeIs F.slot_list_iter.lookup ?_)
 refine zch9 ?_
 simp only[Bool.false_eq_true,if_false]
 refine zch8 (zci3 (wpAny_pyIter_list ht ?_))
 refine zch8 (zci3 (zak7 hlt items.size 0 _ _ ⟨_,zcd0 _ rfl,rfl,rfl⟩ (ht.push _) (by omega) fun h₁ hit₁ hs₁=>?_))
 have hall:List.take items.size (List.drop 0 items.toList)=items.toList:=by
  rw[List.drop_zero];exact zcd3 (by simp)
 rw[hall]
 rw[if_neg (by simp)]
 have ht₁:h₁.IsList t items:=(ht.push _).extBut hs₁.extBut hlt
 refine zch8 (zci3 (wpAny_pyNext_list_end hh hit₁ ht₁ (by simp) fun h₂ he₂=>?_))
 simp only[Option.isSome_none,Bool.false_eq_true,if_false]
 exact zch9 (h h₂ fun b o hb e=>he₂ b o hb (hs₁.extBut b o hb (zbz8 _ e)))
end
@[irreducible] def rUnpA(K:zby6)(a:Addr)(n:Nat)(t:TGs)(σ:St)(H:Hp)(Q:St->Hp->Prop):Prop:=∃ xs,(SqT K H a xs∨SqL K H a xs)/\xs.length=n/\t xs σ H Q
def qgAny(K:zby6)(n:Nat)(t:TGs):TG:=fun v σ H Q=>match v with
 | .ref a=>rUnpA K a n t σ H Q
 | _=>False
theorem pgAny{k:Nat}{t:TGs}{n:Nat}(hc:X.calm=true)(h:PGs X es t)(hn:(assignEach es X.env).length=n:=by rfl)(hst:(assignEach es X.env).findIdx? (·.1)=none:=by rfl):PG X (.Tuple es k pos) (qgAny X.K n t):=fun pins s σ H v u Q I r hq=>by
 unfold qgAny at hq
 split at hq
 ·unfold rUnpA at hq
  obtain⟨xs,a1,a2,a3⟩:=hq
  rcases a1 with a1|a1
  ·exact pg_tup hc h hn hst pins s σ H _ u Q I r ⟨_,xs,rfl,a1,a2,a3⟩
  ·cases r
   obtain⟨its,rv,pl,hz⟩:=I.list a1
   refine zt5 (I.ok.hd hc) pl.isList (by simp[hn,← a2,rv.length]) hst fun h' hx=>?_
   have I1:Inv X pins σ H { s with heap:=h' }:=I.kept (t':=s.toks) fun b o e=>hx b o (zcc8 (zca3 e)) e
   exact h pins _ σ H xs _ Q I1 (by simpa using rv) a3
 ·exact hq.elim
theorem zx0{K:zby6}{a:Addr}{n:Nat}{t:TGs}{σ:St}{Q:St->Hp->Prop}{xs:List V}(h:H a=some (.tup xs))(q:t xs σ H Q)(e:xs.length=n:=by rfl):rUnpA K a n t σ H Q:=by
 unfold rUnpA;exact⟨xs,.inl (SqT.of h),e,q⟩
end
def Chg2(a c:Addr)(H H':Hp):Prop:=∀ b o,b≠a->b≠c->H b=some o->H' b=some o
theorem Chg2.refl(a c:Addr)(H:Hp):Chg2 a c H H:=fun _ _ _ _ e=>e
theorem Chg2.at{a c b:Addr}(x:Chg2 a c H H')(e:H b=some o)(h1:b≠a)(h2:b≠c):H' b=some o:=x b o h1 h2 e
section
variable {X:Cx}{K:zby6}
theorem zb9{a b:Expr}{ta tb:TE}(hK:X.K=K)(ha:PE X a ta)(hb:PE X b tb)(hs:zaf2 b:=by exact fun _ _=>rfl):PE X (.Subscript a b pos) (tOp (rIxM K) ta tb):=by subst hK;exact peIx ha hb hs
theorem zn1(hK:X.K=K):zj2 X (.builtin "len") (rLenM K):=by subst hK;exact cLen
theorem zba1(hK:X.K=K):zj2 X (.builtin "isinstance") (rIsiM K):=by subst hK;exact cIsi
theorem zba9(hK:X.K=K)(hc:X.calm=true):zj2 X (.builtin "all") (rAllM K):=by subst hK;exact cAll hc
theorem cListK(hK:X.K=K):zj2 X (.type "list") (zbd3 K):=by subst hK;exact cList
theorem oEqK(hK:X.K=K)(hu:X.A.units+40<cLine):OpR X (compareOp .Eq) (rEqM K):=by subst hK;exact oEq hu
theorem oNeK(hK:X.K=K)(hu:X.A.units+40<cLine):OpR X (compareOp .NotEq) (rNeM K):=by subst hK;exact oNe hu
theorem zq5{l:Expr}{tl:TE}(hK:X.K=K)(hl:PE X l tl):PI X tg l (qiSeq K tl):=by subst hK;exact piSeq hl
theorem zar4{k:Nat}{t:TGs}{n:Nat}(hK:X.K=K)(hc:X.calm=true)(h:PGs X es t)(hn:(assignEach es X.env).length=n:=by rfl)(hst:(assignEach es X.env).findIdx? (·.1)=none:=by rfl):PG X (.Tuple es k pos) (qgAny K n t):=by subst hK;exact pgAny hc h hn hst
end
def Ite(K:zby6)(a:Addr):It:=
 ⟨fun i H=>∃ xs x,SqL K H a xs/\xs[i]?=some x,fun i H v H'=>∃ p y,v=.ref p/\H p=none/\Same H H'/\H' p=some (.tup [.int i,y])/\∀ xs,SqL K H a xs->xs[i]?=some y,fun i H=>∃ xs,SqL K H a xs/\xs.length<=i⟩
theorem zbb4{P:Program}{w:World}{K:zby6}{elts:List Expr}{k:Nat}(a it e:Addr)(hne:e≠it):Turn P w K (.Tuple elts k pos) (Ite K a) [it,e] e (fun i h=>(∃ old,IsEnum h e it i old)/\h.IsListIter it a i) where
 mem:=by simp
 obj:=fun i h st b hb=>by
  obtain⟨⟨old,he⟩,o,e1,c,d⟩:=st
  rcases zbz4.mp hb with rfl|hb
  ·exact⟨o,e1,fun v z=>by rw[d] at z;cases z⟩
  ·have:b=e:=by simpa using hb
   subst this
   exact⟨_,he,fun v z=>by cases z⟩
 keep:=fun i h h' st kp=>by
  obtain⟨⟨old,he⟩,hi⟩:=st
  exact⟨⟨old,kp e (by simp) _ he⟩,hi.at fun o x=>kp it (by simp) o x⟩
 item:=by
  intro X hP hw hK hc i pins s σ H E I hf st hg
  subst hP hw hK
  obtain⟨⟨old,he⟩,hit⟩:=st
  obtain⟨xs,x,hq,hx⟩:=hg
  obtain⟨its,rv,p,hz⟩:=I.list hq
  obtain⟨u,hu,ru⟩:=rv.get hx
  obtain⟨f0,f1,f2,f3,f4,f5⟩:=hf it (by simp)
  obtain⟨g0,g1,g2,g3,g4,g5⟩:=hf e (by simp)
  refine wpAny_pyNext_enum_item he hit p.isList (x:=u) (by simpa using hu) hne fun h1 heo hit1 ht1 hz1 hk1=>?_
  refine⟨_,rfl,wpAny_letOwnedTupleGo_enum heo fun h2 he2 hs2=>?_⟩
  replace hs2:Heap.SameBut e h1 h2:=hs2
  have hel:e<s.heap.objs.size:=zca3 he
  have kp:∀ b o,b ∉ [it,e]->s.heap.get? b=some o->h2.get? b=some o:=fun b o hb x=>by
   have b1:b≠it:=fun z=>hb (by simp[z])
   have b2:b≠e:=fun z=>hb (by simp[z])
   exact (hs2.2 b b2).trans (hk1 b o b2 b1 x)
  have ht2:h2.get? s.heap.objs.size=some { cls:=.type "tuple",data:=.seq #[.int i s.toks,u] }:=(hs2.2 _ (zch7 hel)).trans ht1
  have hfr:H s.heap.objs.size=none:=I.fresh
  have nof:∀ b v,H b=some v->b ∉ [it,e]:=fun b v hb z=>by
   rcases zbz4.mp z with rfl|z
   ·rw[f0] at hb;cases hb
   ·have:b=e:=by simpa using z
    subst this
    rw[g0] at hb;cases hb
  have nlt:∀ b o,s.heap.get? b=some o->b≠s.heap.objs.size:=fun b o x=>zcc8 (zca3 x)
  have hok:HOk X.prog X.w (upd H s.heap.objs.size (.tup [.int i,x])) h2:=fun b v hb=>by
   by_cases e1:b=s.heap.objs.size
   ·subst e1
    rw[zb8] at hb
    cases hb
    exact⟨by show 2<=sizeLine;decide,[.int i s.toks,u],.cons ⟨_,rfl⟩ (.cons ru .nil),⟨_,ht2,rfl,_,rfl⟩⟩
   ·rw[zb0 e1] at hb
    refine (I.hok b v hb).stay (fun c w' hc q=>?_) (fun c q=>?_) (fun c ys q=>?_)
    ·rcases hc with rfl|hc
     ·exact kp _ _ (nof _ _ hb) q
     ·exact kp _ _ (nof _ _ hc) q
    ·rw[zb0 (za4 q hfr)];exact q
    ·rw[zb0 (za4 q hfr)];exact q
  have chs:∀ b∈[it,e],(b∈X.ex∨X.s₀.heap.objs.size<=b)/\b≠X.env.locals/\(∀ x c,X.env.cells.lookup x=some c->c≠b)/\∀ p∈X.pn++pins,p.1≠b:=fun b hb=>by
   rcases zbz4.mp hb with rfl|hb
   ·exact⟨f3,f1,f4,f5⟩
   ·have:b=e:=by simpa using hb
    subst this
    exact⟨g3,g1,g4,g5⟩
  have I2:Inv X pins σ (upd H s.heap.objs.size (.tup [.int i,x])) { s with heap:=h2,toks:=s.toks+1 }:=
   I.step (g':=s.gens) (d':=s.drawn) (t':=s.toks+1) (ch:=[it,e]) chs (fun b o _ _ hb x _=>kp b o hb x) (fun b o _ _ hb x _=>⟨o.slots,kp b o hb x⟩)
    (fun b o _ x n=>by rw[zb0 (nlt b o x)];exact n) (fun b o hb x=>⟨o,kp b o hb x⟩) (fun b ys q=>by rw[zb0 (za4 q hfr)];exact q) (fun b o v q=>by rw[zb0 (za4 q hfr)];exact q)
    (fun b ps q=>⟨#[],by rw[zb0 (za4 q hfr),q];simp⟩)
    (fun m hm=>by
     obtain⟨o,es,ep,ho,r⟩:=hm
     exact⟨o,es,ep,kp _ o (fun z=>by
      rcases zbz4.mp z with z|z
      ·exact f1 z.symm
      ·exact g1 (by simpa using z:X.env.locals=e).symm) ho,r⟩) hok I.bare
  have hi1:h2.IsListIter it a (i+1):=hit1.extBut hs2.extBut (Ne.symm hne)
  have he3:IsEnum h2 e it ((i+1:Nat):Int) u:=by
   have:((i+1:Nat):Int)=(i:Int)+1:=by push_cast;rfl
   rw[this];exact he2
  refine⟨.ref s.heap.objs.size,_,I2,rfl,⟨_,x,rfl,hfr,Same.upd hfr,zb8,fun ys hy=>by rw[I.list_inj hy hq];exact hx⟩,⟨⟨u,he3⟩,hi1⟩,fun b hb=>?_⟩
  have hb0:H b=none:=(hf b hb).1
  have hlt:b≠s.heap.objs.size:=by
   rcases zbz4.mp hb with rfl|hb
   ·obtain⟨o,ho,_⟩:=hit;exact nlt _ _ ho
   ·have:b=e:=by simpa using hb
    subst this
    exact zcc8 hel
  rw[zb0 hlt];exact hb0
 done:=by
  intro X hP hw hK hc i pins s σ H E I hf st hg
  subst hP hw hK
  obtain⟨⟨old,he⟩,hit⟩:=st
  obtain⟨xs,hq,hx⟩:=hg
  obtain⟨its,rv,p,hz⟩:=I.list hq
  obtain⟨f0,f1,f2,f3,f4,f5⟩:=hf it (by simp)
  have hl:=rv.length
  exact wpAny_pyNext_enum_end (I.ok.hd hc) he hit p.isList (by simp;omega) fun h' eb=>⟨rfl,I.turned (t':=s.toks) (fun b o hb e=>eb b o hb e) f0 f1 f3 f4 f5⟩
 self:=fun _ _ _ _ _ st h=>by
  obtain⟨⟨old,he⟩,_⟩:=st
  exact wpAny_pyIter_enum he h
section
variable {X:Cx}{K:zby6}
theorem zam5:bootBuiltins "enumerate"=some (.type "enumerate"):=by decide +kernel
@[irreducible] def rEnum(K:zby6)(a:Addr)(H:Hp)(R:It->Hp->Prop):Prop:=(∃ xs,SqL K H a xs)/\R (Ite K a) H
def zbl4(K:zby6)(ta:TA):TI:=fun σ H R=>ta σ H fun vs H1=>match vs with
 | [.ref a]=>rEnum K a H1 R
 | _=>False
theorem piEnum{elts:List Expr}{k:Nat}{pt:Pos}{a:Expr}{ta:TA}{p:Pos}(hm:X.mg "enumerate"=none)(ha:PA X [a] ta)(hg:Gl X "enumerate":=by rfl)(hs:starEach [a] X.env=[(false,eval a X.env)]:=by rfl) :
  PI X (.Tuple elts k pt) (.Call (.Name "enumerate" p) [a] [] pos) (zbl4 X.K ta):=by
 intro pins s σ H R I h
 refine Call_ (zam2 I hg hm zam5 (PyProof.Rows.callWith_type1 (thn (ha pos pins s σ H _ I h) fun us s1 ⟨vs,H1,I1,r1,q1⟩=>?_) hs rfl))
 dsimp only at q1
 split at q1
 ·rename_i l
  unfold rEnum at q1
  obtain⟨⟨xs,hq⟩,q⟩:=q1
  obtain⟨u,rfl,rx⟩:=zy3 r1
  cases rx
  obtain⟨its,rv,pl,hz⟩:=I1.list hq
  refine call_enumerate_list pl.isList fun h' he hit hsz hk=>?_
  refine wpAny_pyIter_enum he ?_
  have I2:Inv X pins σ H1 { s1 with heap:=h' }:=I1.kept (t':=s1.toks) hk
  refine⟨s1.heap.objs.size+1,[s1.heap.objs.size,s1.heap.objs.size+1],_,Ite X.K l,H1,rfl,I2,zbb4 l _ _ (Nat.succ_ne_self _),⟨⟨_,he⟩,hit⟩,fun b hb=>?_,q⟩
  have hb':s1.heap.objs.size<=b:=by
   rcases zbz4.mp hb with rfl|hb
   ·exact zca7 _
   ·have:b=s1.heap.objs.size+1:=by simpa using hb
    subst this
    exact Nat.le_succ _
  exact I1.fpOk hb' (I1.hok.fresh hb')
 ·exact q1.elim
theorem zap9{elts:List Expr}{k:Nat}{pt:Pos}{a:Expr}{ta:TA}{p:Pos}(hK:X.K=K)(hm:X.mg "enumerate"=none)(ha:PA X [a] ta)(hg:Gl X "enumerate":=by rfl)(hs:starEach [a] X.env=[(false,eval a X.env)]:=by rfl) :
  PI X (.Tuple elts k pt) (.Call (.Name "enumerate" p) [a] [] pos) (zbl4 K ta):=by subst hK;exact piEnum hm ha hg hs
end
section
variable {K:zby6}{g:TG}{tb:TS}{D:Ends}{σ:St}{H:Hp}{R:It->Hp->Prop}
theorem zah1{a:Addr}{xs:List V}(h:H a=some (.lst xs))(q:R (Ite K a) H):rEnum K a H R:=by unfold rEnum;exact⟨⟨xs,SqL.of h⟩,q⟩
theorem zs9{a:Addr}{xs:List V}(Pv:Nat->St->Hp->Prop)(h0:Pv 0 σ H)(hl:∀ i σ H,i<=xs.length->Pv i σ H->SqL K H a xs)(hs:∀ i y σ H p H',xs[i]?=some y->Pv i σ H->H p=none->Same H H'->H' p=some (.tup [.int i,y])->g (.ref p) σ H' fun σ2 H2=>tb { D with nx:=Pv (i+1),ct:=Pv (i+1),bk:=D.nx } σ2 H2)(hd:∀ σ H,Pv xs.length σ H->D.nx σ H):zal5 (Ite K a) g tb D σ H:=by
 unfold zal5
 refine⟨fun i m σ H=>m=xs.length - i/\i<=xs.length/\Pv i σ H,⟨xs.length,by simp,zcg0 _,h0⟩,?_⟩
 rintro i m σ H ⟨rfl,hi,p⟩
 have q:=hl i σ H hi p
 by_cases hlt:i<xs.length
 ·refine .inr ⟨⟨xs,xs[i],q,by simp[hlt]⟩,Pv (i+1),fun σ' H' p'=>⟨xs.length - (i+1),by omega,rfl,hlt,p'⟩,fun x H' y=>?_⟩
  obtain⟨pp,yy,rfl,y1,y2,y3,y4⟩:=y
  exact hs i yy σ H pp H' (y4 xs q) p y1 y2 y3
 ·have e:i=xs.length:=by omega
  subst e
  exact .inl ⟨⟨xs,q,zca7 _⟩,hd σ H p⟩
end
section
variable {X:Cx}{K:zby6}
theorem zai6{x:V}:∀ {xs:List V}{us:List Value},Vals xs us->xs.all zj5=true->us.countP (eqU x)=xs.countP fun y=>eqV y x
 | _,_,.nil,_=>rfl
 | y :: xs,u :: us,.cons r t,f=>by
  rw[List.all_cons,zcb3] at f
  rw[List.countP_cons,List.countP_cons,zav2 r f.1,zai6 t f.2]
@[irreducible] def rCntA(p:Addr)(x:V)(H:Hp)(Q:VK):Prop:=∃ xs,H p=some (.lst xs)/\zj5 x=true/\xs.all zj5=true/\Q (.int (xs.countP fun y=>eqV y x:Nat)) H
def rCntM:Addr->List V->Hp->VK->Prop:=fun p vs H Q=>match vs with
 | [v]=>rCntA p v H Q
 | _=>False
theorem mCount:MtA X "list.count" rCntM:=fun pins s σ H p xs us Q I r h=>by
 unfold rCntM at h
 split at h
 ·rename_i v
  unfold rCntA at h
  obtain⟨ys,h1,h2,h3,h4⟩:=h
  obtain⟨u,rfl,ru⟩:=r.one
  obtain⟨z,its,n,r',hl,e⟩:=I.lstM h1
  refine call_meets F.slot_list_count ⟨_,e,rfl⟩ F.entry_list_count (F.args_list_count_2 _ _) (SeqAt.list_countAt p its.toArray n none #[] u (eqU v)) ⟨e,fun y hy=>zt3 ru h2 r' h3 y (by simpa using hy),?_⟩
  have ec:its.toArray.toList.countP (eqU v)=ys.countP fun y=>eqV y v:=zai6 r' h3
  exact⟨.int _,H,I.tok _,⟨_,by rw[ec]⟩,h4⟩
 ·exact h.elim
theorem cnt_rd{p:Addr}{x:V}{xs:List V}(h:H p=some (.lst xs))(h1:zj5 x=true)(h2:xs.all zj5=true)(q:Q (.int (xs.countP fun y=>eqV y x:Nat)) H):rCntA p x H Q:=by unfold rCntA;exact⟨xs,h,h1,h2,q⟩
theorem zbh0{o:Expr}{to:TE}{t:TA}{apos cpos:Pos}(hK:X.K=K)(ho:PE X o to)(ha:PA X [e] t)(hbase:attributeBase o "count" X.env (eval o X.env)=eval o X.env:=by rfl)(hfew:((backTo cpos (starEach [e] X.env)).all (fun x=>!x.1)&&(backToKw cpos (keywordEach [] X.env)).all (fun x=>x.1.isSome)
   && decide ([e].length+([]:List Keyword).length+(if ([]:List Keyword).isEmpty then 0 else 1)<30))=true:=by rfl)(hline:(apos.endLine==cpos.line)=true:=by rfl)(hs:starEach [e] X.env=(false,eval e X.env) :: starEach [] X.env:=by rfl)(hplain:(backTo cpos (starEach [] X.env)).any (·.1)=false:=by rfl):PE X (.Call (.Attribute o "count" apos) [e] [] cpos) (qBM K rCntM to t):=by
 subst hK
 exact peBM PySem.F.slot_list_count PySem.F.type_list_count mCount ho ha hbase hfew hline hs hplain
end
theorem zw8{xs:List V}{k:Int}(h:0<=k):cutV xs (some k) none=xs.drop k.toNat:=by
 show List.take (xs.length - (if k<0 then (k+(xs.length:Int)).toNat else min k.toNat xs.length)) (List.drop (if k<0 then (k+(xs.length:Int)).toNat else min k.toNat xs.length) xs)=_
 rw[if_neg (by omega)]
 by_cases hk:k.toNat<=xs.length
 ·rw[Nat.min_eq_left hk,zcd3 (by rw[zcf5];omega)]
 ·rw[Nat.min_eq_right (by omega),List.drop_of_length_le (by omega),List.drop_of_length_le (by omega),List.take_nil]
theorem zak2{xs:List V}{k:Int}(h:0<=k):cutV xs none (some k)=xs.take k.toNat:=by
 show List.take ((if k<0 then (k+(xs.length:Int)).toNat else min k.toNat xs.length) - 0) (List.drop 0 xs)=_
 rw[if_neg (by omega),List.drop_zero,Nat.sub_zero]
 by_cases hk:k.toNat<=xs.length
 ·rw[Nat.min_eq_left hk]
 ·rw[Nat.min_eq_right (by omega),zcd3 (zca7 _),zcd3 (by omega)]
theorem zat5{xs:List V}:cutV xs none (some (-1))=xs.take (xs.length - 1):=by
 show List.take ((if (-1:Int)<0 then ((-1:Int)+(xs.length:Int)).toNat else min (-1:Int).toNat xs.length) - 0) (List.drop 0 xs)=_
 rw[if_pos (by decide),List.drop_zero,Nat.sub_zero]
 congr 1
 omega
def rowV(n:Nat)(r:Nat->Int):List V:=(List.range n).map fun t=>V.int (r t)
theorem zbe5{xs:List V}{v:V}{n:Nat}(h:xs.length=n+1)(e:xs[n]?=some v):atI xs (-1)=some v:=by
 unfold atI ixN
 rw[if_neg (by decide),if_pos (by omega)]
 show xs[((-1:Int)+xs.length).toNat]?=_
 rw[show ((-1:Int)+xs.length).toNat=n by omega];exact e
structure zbe2(H:Hp)(a:Addr)(ps:List Addr)(n h:Nat)(g:Nat->Nat->Int):Prop where
 out:H a=some (.lst (ps.map V.ref))
 len:ps.length=n
 row:∀ (i:Nat) (p:Addr),ps[i]?=some p->H p=some (.lst (rowV h (g i)))
theorem zbe2.some{H:Hp}{a:Addr}{ps:List Addr}{n h:Nat}{g:Nat->Nat->Int}(G:zbe2 H a ps n h g){i:Nat}(hi:i<n):∃ p,ps[i]?=.some p/\H p=.some (.lst (rowV h (g i))):=by
 have hl:i<ps.length:=by rw[G.len];exact hi
 exact⟨ps[i],zby8 hl,G.row i _ (zby8 hl)⟩
structure Wk(J:It)(n:Nat)(H1:Hp)(X:Nat->V->Hp->Prop):Prop where
 go:∀ i H,Same H1 H->i<n->J.go i H
 stop:∀ H,Same H1 H->J.stop n H
 yld:∀ i H x H',Same H1 H->i<n->J.yld i H x H'->Same H H'/\X i x H'
theorem Wk.range{lo:Int}{n:Nat}:Wk (Itr lo n) n H1 fun i x _=>x=.int (lo+i):=
 ⟨fun i H _ h=>h,fun H _=>zca7 _,fun i H x H' _ _ y=>by obtain⟨rfl,rfl⟩:=y;exact⟨Same.refl _,rfl⟩⟩
theorem Wk.list{K:zby6}{a:Addr}{xs:List V}(h:SqL K H1 a xs):Wk (Itl K a) xs.length H1 fun i x _=>xs[i]?=some x:=
 ⟨fun i H s hi=>⟨xs,xs[i],s.seq h,by simp[hi]⟩,fun H s=>⟨xs,s.seq h,zca7 _⟩,fun i H x H' s _ y=>by
  obtain⟨e,y⟩:=y
  subst e
  exact⟨Same.refl _,y xs (s.seq h)⟩⟩
structure zac7(H1 H:Hp)(acc:Addr)(ps:List Addr)(n:Nat)(f:Nat->HO):Prop where
 facc:H1 acc=none
 same:Same H1 H
 out:H acc=some (.lst (ps.map V.ref))
 len:ps.length=n
 nd:ps.Nodup
 nin:acc ∉ ps
 row:∀ i p,ps[i]?=some p->H1 p=none/\H p=some (f i)
theorem zac7.free{acc:Addr}{ps:List Addr}{n:Nat}{f:Nat->HO}(F:zac7 H1 H acc ps n f){p:Addr}(h:p∈ps):H1 p=none:=by
 obtain⟨i,hi⟩:=zce0 h
 exact (F.row i p hi).1
theorem zac7.some{H1 H:Hp}{acc:Addr}{ps:List Addr}{n:Nat}{f:Nat->HO}(F:zac7 H1 H acc ps n f){i:Nat}(hi:i<n):∃ p,ps[i]?=.some p/\H p=.some (f i):=by
 have hl:i<ps.length:=by rw[F.len];exact hi
 exact⟨ps[i],zby8 hl,(F.row i _ (zby8 hl)).2⟩
section
variable {K:zby6}{g:TG}{tt:TT}{te:TE}{σ0:St}{H1:Hp}{Q:VK}{J:It}{n:Nat}{X:Nat->V->Hp->Prop}
theorem comp_F(w:Wk J n H1 X)(hn:n<sizeLine)(f:Nat->HO)(Ps:Nat->St->Prop)(h0:Ps 0 σ0)(turn:∀ i x σ H (R:St->V->Hp->Prop) (S:St->Hp->Prop),i<n->Same H1 H->X i x H->Ps i σ->(∀ σ2 p H5,H p=none->Same H H5->H5 p=some (f i)->Ps (i+1) σ2->R σ2 (.ref p) H5)->g x σ H fun σ2 H3=>tt σ2 H3 fun b H4=>br b (te σ2 H4 fun v H5=>R σ2 v H5) (S σ2 H4))(fin:∀ acc ps H,zac7 H1 H acc ps n f->Q (.ref acc) H):zae5 J g tt te σ0 H1 Q:=by
 unfold zae5
 intro acc H2 hf hs ha
 refine⟨fun i m ys σ H=>m=n - i/\i<=n/\∃ ps:List Addr,ys=ps.map V.ref/\zac7 H1 H acc ps i f/\Ps i σ,⟨n,by simp,zcg0 _,[],rfl,⟨hf,hs,ha,rfl,List.nodup_nil,by simp,fun i p e=>by simp at e⟩,h0⟩,?_⟩
 rintro i m ys σ H ⟨rfl,hi,ps,rfl,F,P⟩
 refine⟨F.out,by rw[zby7,F.len];omega,?_⟩
 by_cases hlt:i<n
 ·refine .inr ⟨w.go i H F.same hlt,fun x H' y=>?_⟩
  obtain⟨s1,x1⟩:=w.yld i H x H' F.same hlt y
  refine turn i x σ H' (fun σ2 v H5=>cPut _ acc (ps.map V.ref) i (n - i) σ2 v H5) (fun σ2 H4=>zaq7 _ (ps.map V.ref) i (n - i) σ2 H4) hlt (F.same.trans s1) x1 P ?_
  intro σ2 p H5 fp s5 hp P2
  have fp0:H p=none:=s1.free fp
  have s15:=s1.trans s5
  have na:p≠acc:=Ne.symm (za4 F.out fp0)
  unfold cPut
  refine⟨s15 _ _ F.out,fun H6 c6 h6=>⟨n - (i+1),by omega,rfl,hlt,ps++[p],by rw[zcd2];rfl,⟨F.facc,(F.same.trans s15).chg F.facc c6,by rw[zcd2];exact h6,by rw[zbz2,F.len];rfl,?_,?_,?_⟩,P2⟩⟩
  ·rw[List.nodup_append]
   refine⟨F.nd,by simp,fun a ha b hb=>?_⟩
   have:b=p:=by simpa using hb
   subst this
   obtain⟨k,hk⟩:=zce0 ha
   exact za4 (F.row k a hk).2 fp0
  ·intro hz
   rcases zcc1.mp hz with hz|hz
   ·exact F.nin hz
   ·exact na (by simpa using hz:acc=p).symm
  ·intro k q e
   by_cases hk:k<ps.length
   ·rw[zcb0 hk] at e
    obtain⟨z1,z2⟩:=F.row k q e
    exact⟨z1,c6 _ _ (fun z=>F.nin (z▸zca5 e)) (s15 _ _ z2)⟩
   ·rw[zca4 (by omega)] at e
    have hk2:k - ps.length=0:=by
     have:=(zby9.mp e).1
     simp at this;omega
    rw[hk2] at e
    have:p=q:=by simpa using e
    subst this
    have:k=i:=by have:=F.len;omega
    subst this
    exact⟨F.same.free fp0,c6 _ _ na hp⟩
 ·have e:i=n:=by omega
  subst e
  exact .inl ⟨w.stop H F.same,fin acc ps H F⟩
theorem zam4(w:Wk J n H1 X)(hn:n<sizeLine)(f:Nat->V)(p:Nat->Bool)(Ps:Nat->St->Prop)(h0:Ps 0 σ0)(turn:∀ i x σ H (R:St->V->Hp->Prop) (S:St->Hp->Prop),i<n->Same H1 H->X i x H->Ps i σ->(p i=true->∀ σ2 H5,Same H H5->Ps (i+1) σ2->R σ2 (f i) H5)->(p i=false->∀ σ2 H5,Same H H5->Ps (i+1) σ2->S σ2 H5) ->
   g x σ H fun σ2 H3=>tt σ2 H3 fun b H4=>br b (te σ2 H4 fun v H5=>R σ2 v H5) (S σ2 H4))(fin:∀ acc H,H1 acc=none->Same H1 H->H acc=some (.lst (((List.range n).filter p).map f))->Q (.ref acc) H):zae5 J g tt te σ0 H1 Q:=by
 unfold zae5
 intro acc H2 hf hs ha
 refine⟨fun i m ys σ H=>m=n - i/\i<=n/\ys=((List.range i).filter p).map f/\Same H1 H/\H acc=some (.lst ys)/\Ps i σ,⟨n,by simp,zcg0 _,rfl,hs,ha,h0⟩,?_⟩
 rintro i m ys σ H ⟨rfl,hi,rfl,s,hy,P⟩
 have hlen:(((List.range i).filter p).map f).length<=i:=by
  rw[zby7]
  have:=List.length_filter_le p (List.range i)
  rwa [zcg8] at this
 refine⟨hy,by omega,?_⟩
 by_cases hlt:i<n
 ·refine .inr ⟨w.go i H s hlt,fun x H' y=>?_⟩
  obtain⟨s1,x1⟩:=w.yld i H x H' s hlt y
  refine turn i x σ H' (fun σ2 v H5=>cPut _ acc _ i (n - i) σ2 v H5) (fun σ2 H4=>zaq7 _ _ i (n - i) σ2 H4) hlt (s.trans s1) x1 P ?_ ?_
  ·intro hp σ2 H5 s5 P2
   unfold cPut
   refine⟨s5 _ _ (s1 _ _ hy),fun H6 c6 h6=>⟨n - (i+1),by omega,rfl,hlt,?_,((s.trans s1).trans s5).chg hf c6,h6,P2⟩⟩
   rw[List.range_succ,zcg5,zcd2]
   congr 1
   simp[hp]
  ·intro hp σ2 H5 s5 P2
   unfold zaq7
   refine⟨n - (i+1),by omega,rfl,hlt,?_,(s.trans s1).trans s5,s5 _ _ (s1 _ _ hy),P2⟩
   rw[List.range_succ,zcg5,zcd2]
   simp[hp]
 ·have e:i=n:=by omega
  subst e
  exact .inl ⟨w.stop H s,fin acc H hf s hy⟩
theorem zs1(n:Nat):(List.range n).filter (fun _=>true)=List.range n:=by simp
end
def ChgS(ps:List Addr)(H H':Hp):Prop:=∀ b o,b ∉ ps->H b=some o->H' b=some o
theorem ChgS.refl(ps:List Addr)(H:Hp):ChgS ps H H:=fun _ _ _ e=>e
theorem EqR.intL{K:zby6}{a b:Addr}{xs ys:List Int}(ha:SqL K H a (xs.map V.int))(hb:SqL K H b (ys.map V.int)):EqR K H 1 (.ref a) (.ref b) (decide (xs=ys)):=by
 by_cases hl:xs.length=ys.length
 ·have h:=EqR.lst (K:=K) (H:=H) (n:=0) (fun j=>decide (xs[j]?=ys[j]?)) ha hb (by simpa using hl) (fun j x y hx hy=>by
   rw[zbz1] at hx hy
   obtain⟨i,e1,rfl⟩:=zbz5.mp hx
   obtain⟨k,e2,rfl⟩:=zbz5.mp hy
   have e:eqV (.int i) (.int k)=decide (xs[j]?=ys[j]?):=by
    rw[e1,e2]
    by_cases z:i=k
    ·subst z;simp[eqV]
    ·simp[eqV,z]
   rw[← e]
   exact EqR.flat rfl rfl)
  have e:(List.range (xs.map V.int).length).all (fun j=>decide (xs[j]?=ys[j]?))=decide (xs=ys):=by
   rw[zcg1,zcc9,decide_eq_true_iff]
   constructor
   ·intro q
    apply zcg9
    intro j
    by_cases hj:j<xs.length
    ·exact of_decide_eq_true (q j (List.mem_range.mpr (by simpa using hj)))
    ·rw[zcc7 (by omega),zcc7 (by omega)]
   ·rintro rfl j _
    exact decide_eq_true rfl
  rw[e] at h
  exact h
 ·have:decide (xs=ys)=false:=decide_eq_false fun e=>hl (by rw[e])
  rw[this]
  exact EqR.lstN ha hb (by simpa using hl)
theorem zae9(n:Nat):(List.range n).all (fun _=>true)=true:=by simp
theorem EqR.allT{K:zby6}{a b:Addr}{xs ys:List V}{n:Nat}(ha:SqL K H a xs)(hb:SqL K H b ys)(hl:xs.length=ys.length)(h:∀ (j:Nat) (x y:V),xs[j]?=some x->ys[j]?=some y->EqR K H n x y true):EqR K H (n+1) (.ref a) (.ref b) true:=by
 have:=EqR.lst (fun _=>true) ha hb hl h
 rwa [zae9] at this
theorem EqR.rows{K:zby6}{a b:Addr}{ps qs:List Addr}(ha:SqL K H a (ps.map V.ref))(hb:SqL K H b (qs.map V.ref))(hl:ps.length=qs.length)(h:∀ (i:Nat) (p q:Addr),ps[i]?=some p->qs[i]?=some q->∃ xs:List Int,SqL K H p (xs.map V.int)/\SqL K H q (xs.map V.int)):EqR K H 2 (.ref a) (.ref b) true:=by
 refine EqR.allT ha hb (by simpa using hl) fun j x y hx hy=>?_
 rw[zbz1] at hx hy
 obtain⟨p,e1,rfl⟩:=zbz5.mp hx
 obtain⟨q,e2,rfl⟩:=zbz5.mp hy
 obtain⟨xs,h1,h2⟩:=h j p q e1 e2
 have:=EqR.intL h1 h2
 rwa [decide_eq_true rfl] at this
section
variable {X:Cx}{K:zby6}
theorem ptW{t:TT}(h:PW X e t):PT X e t:=h.pt
end
def zag1(o:Obj):Bool:=match o.data with
 | .cls cd=>cd.name=="NoText"
 | _=>false
def Chd(B:Heap)(cls:Value):Prop:=∃ (C:Addr) (o:Obj),cls=.ref C/\B.get? C=some o/\zag1 o=true
def ExAt(B h:Heap)(e:Addr)(cls:Value)(dx:Option Addr):Prop:=
 ∃ (oe:Obj) (vs:Array Value),h.get? e=some oe/\oe.cls=cls/\oe.dict=dx/\oe.data=.fields vs/\1<vs.size /\
  (vs[1]?=some .none∨∃ (T:Addr) (oT:Obj) (ts:Array Value),vs[1]?=some (.ref T)/\B.get? T=none/\T≠e/\h.get? T=some oT/\oT.data=.fields ts/\3<ts.size/\ts[3]?=some .none)/\(vs[2]?=some .none∨Chd B cls)
def Th(h h':Heap):Prop:=∀ b o,h.get? b=some o->∃ o',h'.get? b=some o'
structure FlyX(B:Heap)(l:List Env)(e:Addr)(cls:Value)(dx:Option Addr)(h:Heap):Prop where
 stays:B.StaysIn h
 new:B.get? e=none
 frames:h.FunFrames B l
 ex:ExAt B h e cls dx
section
variable {M:Model}{A:Around}{E:Value->Shared->Prop}{s:Shared}{B:Heap}{env:Env}{outer:List Env}{L e:Addr}{cls:Value}{dx:Option Addr}{Q:Unit->Shared->Prop}
theorem zz2(f:Array Value->Array Value)(o:Obj):(Obj.mapFields f o).cls=o.cls/\(Obj.mapFields f o).dict=o.dict:=by
 obtain⟨c,d,dt,sl⟩:=o
 cases dt<;>exact⟨rfl,rfl⟩
theorem zai5{head:Value}{hn:Bool}{oe:Obj}{vs:Array Value}(hfr:A.frames=some (env :: outer))(hf:env.frame=some L)(f1:B.StaysIn s.heap)(f2:B.get? e=none)(f3:s.heap.FunFrames B (env :: outer))(he:s.heap.get? e=some oe)(hc:oe.cls=cls)(hdx:oe.dict=dx)(hd:oe.data=.fields vs)(hsz:1<vs.size)(h2c:vs[2]?=some .none∨Chd B cls)(hQ:∀ h',FlyX B (env :: outer) e cls dx h'->s.heap.UpToSlots h'->Th s.heap h'->Q () { s with heap:=h' }) :
  wpAny M A (do let a ← frameOf env;let pl ← entryPlaceOf L hn;let b ← EntryCells.newEntry head a .none (rawInt L) .none pl;setField (.ref e) 1 b) (fun _ s1=>wpAny M A (setFlight (.ref e) none) Q E s1) E s:=by
 have hene:e ∉ (env :: outer).filterMap (·.frame):=fun hm=>by
  obtain⟨_,o,ho,hnf⟩:=f3.mem hm
  rw[he] at ho
  cases ho
  exact hnf vs hd
 refine zch8 (wpAny_frameOf_fun hfr f3 hf fun g hg=>zch8 (wpAny_entryPlaceOf fun pl hpl=>?_))
 refine zch8 (wpAny_newObj_type ?_ (hpl.sizeOk5 _ _ _ _ _))
 have e1:g.get? e=some oe:=(hg.2.1 e hene).trans he
 have lt1:=zca3 e1
 generalize hO:({ cls:=.type "traceback",data:=.fields ([head,.ref L,.none,rawInt L,.none]++(if pl.isEmpty then List.replicate 6 Value.none else pl)).toArray }:Obj)=O
 have hOd:O.data=.fields ([head,.ref L,.none,rawInt L,.none]++(if pl.isEmpty then List.replicate 6 Value.none else pl)).toArray:=by rw[← hO]
 have hOz:3<([head,.ref L,.none,rawInt L,.none]++(if pl.isEmpty then List.replicate 6 Value.none else pl)).toArray.size:=by simp
 have hOf:O.isFreed=false:=by rw[← hO];rfl
 generalize ([head,.ref L,.none,rawInt L,.none]++(if pl.isEmpty then List.replicate 6 Value.none else pl)).toArray=ts at hOd hOz
 have e2:(g.push O).get? e=some oe:=zbz8 _ e1
 have t2:(g.push O).get? g.objs.size=some O:=zcd0 _ hOf
 have nT:g.objs.size≠e:=zch7 lt1
 refine wpAny_setField e2 hd hsz ?_
 have d3:=Obj.data_mapFields hd (fun a=>a.setIfInBounds 1 (Value.ref g.objs.size))
 have e3:=zcc0 (Obj.mapFields fun a=>a.setIfInBounds 1 (Value.ref g.objs.size)) e2 (Obj.isFreed_of_fields d3)
 have t3:=(zca1 (g.push O) (Obj.mapFields fun a=>a.setIfInBounds 1 (Value.ref g.objs.size)) (Ne.symm nT)).trans t2
 unfold setFlight
 refine zch8 (wpAny_field e3 d3 (x:=.ref g.objs.size) (by simp[hsz]) ?_)
 rw[if_pos (by simp)]
 refine wpAny_setField t3 hOd hOz (hQ _ ?_ ?_ ?_)
 ·have kp:∀ b o,b≠e->g.get? b=some o->(((g.push O).update e (Obj.mapFields fun a=>a.setIfInBounds 1 (Value.ref g.objs.size))).update g.objs.size (Obj.mapFields fun a=>a.setIfInBounds 3 Value.none)).get? b=some o:=fun b o hb hz=>by
   rw[zca1 _ _ (zch7 (zca3 hz)),zca1 _ _ (Ne.symm hb)]
   exact zbz8 _ hz
  have d4:=Obj.data_mapFields hOd (fun a=>a.setIfInBounds 3 Value.none)
  have t4:=zcc0 (Obj.mapFields fun a=>a.setIfInBounds 3 Value.none) t3 (Obj.isFreed_of_fields d4)
  have e4:=(zca1 ((g.push O).update e (Obj.mapFields fun a=>a.setIfInBounds 1 (Value.ref g.objs.size))) (Obj.mapFields fun a=>a.setIfInBounds 3 Value.none) nT).trans e3
  have pf:=zz2 (fun a=>a.setIfInBounds 1 (Value.ref g.objs.size)) oe
  refine⟨fun b o hb=>kp b o (fun z=>by rw[z,f2] at hb;cases hb) ((hg.2.1 b fun hm=>by rw[(f3.mem hm).1] at hb;cases hb).trans (f1 b o hb)),f2,f3.of_keeps fun b o hb hnf=>?_,_,_,e4,pf.1.trans hc,pf.2.trans hdx,d3,by simpa using hsz,.inr ⟨_,_,_,by simp[hsz],?_,nT,t4,d4,by simpa using hOz,by simp[hOz]⟩,h2c.imp (fun z=>by rw[Array.getElem?_setIfInBounds_ne (by decide)];exact z) id⟩
  ·obtain⟨sl,hs⟩:=hg.2.2 b o hb
   refine⟨_,kp b _ (fun z=>?_) hs,rfl⟩
   rw[z,he] at hb
   cases hb
   exact hnf vs hd
  ·cases q:B.get? g.objs.size with
   | none=>rfl
   | some o=>
    have z1:=f1 _ _ q
    have z2:=(hg.2.1 _ fun hm=>by rw[(f3.mem hm).1] at q;cases q).trans z1
    exact absurd (zca3 z2) (zch4 _)
 ·intro b o hb hnf
  obtain⟨sl,hs⟩:=hg.2.2 b o hb
  refine⟨sl,?_⟩
  rw[zca1 _ _ (zch7 (zca3 hs)),zca1 _ _ (fun z=>?_)]
  ·exact zbz8 _ hs
  ·rw[← z,he] at hb
   cases hb
   exact hnf vs hd
 ·intro b o hb
  by_cases hbe:b=e
  ·subst hbe
   exact⟨_,(zca1 _ _ nT).trans e3⟩
  ·obtain⟨sl,hs⟩:=hg.2.2 b o hb
   refine⟨{ o with slots:=sl },?_⟩
   rw[zca1 _ _ (zch7 (zca3 hs)),zca1 _ _ (Ne.symm hbe)]
   exact zbz8 _ hs
theorem zag2(hfr:A.frames=some (env :: outer))(hf:env.frame=some L)(F:FlyX B (env :: outer) e cls dx s.heap)(hQ:∀ h',FlyX B (env :: outer) e cls dx h'->s.heap.UpToSlots h'->Th s.heap h'->Q () { s with heap:=h' }):wpAny M A (noteFrame (.ref e) env) (fun _ s1=>wpAny M A (setFlight (.ref e) none) Q E s1) E s:=by
 obtain⟨f1,f2,f3,oe,vs,he,hc,hdx,hd,hsz,hT,h2c⟩:=F
 unfold noteFrame
 rw[hf]
 rcases hT with h1|⟨T,oT,ts,h1,bT,nT,gT,dT,zT,vT⟩
 ·refine zch8 (wpAny_field he hd h1 ?_)
  dsimp only
  rw[if_neg (by simp)]
  exact zai5 hfr hf f1 f2 f3 he hc hdx hd hsz h2c hQ
 ·refine zch8 (wpAny_field he hd h1 ?_)
  dsimp only
  rw[if_pos (by simp)]
  refine zch8 (wpAny_field gT dT vT ?_)
  rw[if_neg (by simp[rawInt])]
  refine zch8 (wpAny_setField gT dT zT ?_)
  have ne:∀ b o,s.heap.get? b=some o->(∀ vs,o.data≠.fields vs)->b≠T:=fun b o hb hnf z=>by
   rw[z,gT] at hb
   cases hb
   exact hnf ts dT
  have kp:∀ b o,b≠T->s.heap.get? b=some o->(s.heap.update T (Obj.mapFields fun a=>a.setIfInBounds 3 Value.none)).get? b=some o:=fun b o hb hz=>by
   rw[zca1 _ _ (Ne.symm hb)];exact hz
  refine zai5 (s:={ s with heap:=s.heap.update T (Obj.mapFields fun a=>a.setIfInBounds 3 Value.none) }) hfr hf (fun b o hb=>kp b o (fun z=>by rw[z,bT] at hb;cases hb) (f1 b o hb)) f2 (f3.of_keeps fun b o hb hnf=>⟨o,kp b o (ne b o hb hnf) hb,rfl⟩)
   (kp e oe (Ne.symm nT) he) hc hdx hd hsz h2c fun h' F' U W=>hQ h' F' (fun b o hb hnf=>U b o (kp b o (ne b o hb hnf) hb) hnf) fun b o hb=>?_
  by_cases hbT:b=T
  ·subst hbT
   exact W b _ (zcc0 (Obj.mapFields fun a=>a.setIfInBounds 3 Value.none) gT (Obj.isFreed_of_fields (Obj.data_mapFields dT _)))
  ·exact W b o (kp b o hbT hb)
theorem zbd9(F:FlyX B outer e cls dx s.heap)(hQ:∀ h',FlyX B outer e cls dx h'->s.heap.UpToSlots h'->Th s.heap h'->Q () { s with heap:=h' }):wpAny M A (setFlight (.ref e) none) Q E s:=by
 obtain⟨f1,f2,f3,oe,vs,he,hc,hdx,hd,hsz,hT,h2c⟩:=F
 unfold setFlight
 rcases hT with h1|⟨T,oT,ts,h1,bT,nT,gT,dT,zT,vT⟩
 ·refine zch8 (wpAny_field he hd h1 ?_)
  rw[if_neg (by simp)]
  exact zch9 (hQ s.heap ⟨f1,f2,f3,oe,vs,he,hc,hdx,hd,hsz,.inl h1,h2c⟩ (Heap.UpToSlots.refl _) fun b o hb=>⟨o,hb⟩)
 ·refine zch8 (wpAny_field he hd h1 ?_)
  rw[if_pos (by simp)]
  refine wpAny_setField gT dT zT ?_
  have kp:∀ b o,b≠T->s.heap.get? b=some o->(s.heap.update T (Obj.mapFields fun a=>a.setIfInBounds 3 Value.none)).get? b=some o:=fun b o hb hz=>by
   rw[zca1 _ _ (Ne.symm hb)];exact hz
  have ne:∀ b o,s.heap.get? b=some o->(∀ vs,o.data≠.fields vs)->b≠T:=fun b o hb hnf z=>by
   rw[z,gT] at hb
   cases hb
   exact hnf ts dT
  have d4:=Obj.data_mapFields dT (fun a=>a.setIfInBounds 3 Value.none)
  have t4:=zcc0 (Obj.mapFields fun a=>a.setIfInBounds 3 Value.none) gT (Obj.isFreed_of_fields d4)
  exact hQ _ ⟨fun b o hb=>kp b o (fun z=>by rw[z,bT] at hb;cases hb) (f1 b o hb),f2,f3.of_keeps fun b o hb hnf=>⟨o,kp b o (ne b o hb hnf) hb,rfl⟩,oe,vs,kp e oe (Ne.symm nT) he,hc,hdx,hd,hsz,
   .inr ⟨T,_,_,h1,bT,nT,t4,d4,by simpa using zT,by simp[zT]⟩,h2c⟩ (fun b o hb hnf=>⟨o.slots,kp b o (ne b o hb hnf) hb⟩) fun b o hb=>(Classical.em (b=T)).elim (fun z=>by subst z;exact⟨_,t4⟩) fun z=>⟨o,kp b o z hb⟩
theorem zbg7(hfr:A.frames=some (env :: outer))(hf:env.frame=some L)(F:FlyX B (env :: outer) e cls dx s.heap)(hQ:∀ h',FlyX B outer e cls dx h'->s.heap.UpToSlots h'->Th s.heap h'->Q () { s with heap:=h' }):wpAny M A (leaving env (.ref e)) Q E s:=by
 unfold leaving
 exact zch8 (zag2 hfr hf F fun h' F' U W=>hQ h' ⟨F'.stays,F'.new,F'.frames.2.2,F'.ex⟩ U W)
end
structure zl6(X:Cx)(pins:List (Addr×Obj))(σ:St)(H:Hp)(B:Heap)(e:Addr)(cls:Value)(dx:Option Addr)(s:Shared):Prop where
 inv:Inv X pins σ H s
 hok:HOk X.prog X.w H B
 fly:FlyX B X.stack e cls dx s.heap
 kb:∀ b o,X.s₀.heap.get? b=some o->X.H₀ b=none->b ∉ X.fs->b ∉ X.ex->B.get? b=some o
 en:∀ o,X.s₀.heap.get? e=some o->e∈X.ex
def CXR(P:Program)(w:World):CXT:=fun outer H s E e s'=>∃ (ea:Addr) (cls:Value) (dx:Option Addr) (H':Hp) (B:Heap),e=.ref ea/\s'.os=s.os/\AllBare s'.gens/\HOk P w H' B/\FlyX B outer ea cls dx s'.heap /\
 Un (frs outer) [] H H' s.heap s'.heap/\(∀ b o,s.heap.get? b=some o->H b=none->b ∉ frs outer->B.get? b=some o)/\(∀ o,s.heap.get? ea≠some o)/\E cls dx H'
section
variable {X:Cx}{pins:List (Addr×Obj)}{σ:St}{H:Hp}{s s':Shared}
theorem zt1(I:Inv X pins σ H s){b:Addr}{o:Obj}(e:X.s₀.heap.get? b=some o)(h:b ∉ X.fs):b ∉ frs X.stack:=fun hm=>by
 rcases zbz4.mp (I.stkSub b hm) with z|z
 ·exact absurd (zca8 (zca3 e) I.ok.above) (by rw[z];exact zch4 _)
 ·exact h z
theorem zl6.of_call{E:XK}{e:Value}(I:Inv X pins σ H s)(h:CXR X.prog X.w X.stack H s E e s'):∃ (ea:Addr) (cls:Value) (dx:Option Addr) (H':Hp) (B:Heap),e=.ref ea/\zl6 X pins σ H' B ea cls dx s'/\E cls dx H':=by
 obtain⟨ea,cls,dx,H',B,rfl,os,bare,hok,fly,un,kb,en,hE⟩:=h
 refine⟨ea,cls,dx,H',B,rfl,⟨I.call' os un (hok.kept fly.stays) bare (fun b hb=>absurd hb (by simp)),hok,fly,fun b o e n h1 h2=>?_,fun o e=>?_⟩,hE⟩
 ·have k:=I.base.keep b o e n h1 h2
  exact kb b o k (I.base.free b o e n h2) (zt1 I e h1)
 ·apply Classical.byContradiction
  intro hx
  obtain⟨o',k⟩:=I.base.there ea o e hx
  exact en o' k
def XOut(X:Cx)(E:XK):Prop:=∀ (pins:List (Addr×Obj)) (σ:St) (H:Hp) (B:Heap) (e:Addr) (cls:Value) (dx:Option Addr) (s:Shared),zl6 X pins σ H B e cls dx s->E cls dx H->X.xe (.ref e) s
theorem passR{E:XK}(hx:XOut X E):zac3 (CXR X.prog X.w) X E:=fun pins σ H s e s' I h=>by
 obtain⟨ea,cls,dx,H',B,rfl,F,hE⟩:=zl6.of_call I h
 exact hx _ _ _ _ _ _ _ _ F hE
end
theorem xout{P:Program}{w:World}{K:zby6}{mg:Str->Option Value}{base:Heap}{N:List Str}{f:Addr}{cd:Value}{A:Around}{outer:List Env}{s:Shared}{E:XK} :
  XOut (cxOf (CXR P w) P w K mg base N qual scope f cd A outer s H E) E:=fun pins σ H' B e cls dx s' F hE=>by
 have I:=F.inv
 refine zbg7 (outer:=outer) I.ok.frames (rfl:(envOfC qual scope s.heap.objs.size f cd).frame=some s.heap.objs.size) F.fly fun h' F' U W=>?_
 have kb:∀ b o,s.heap.get? b=some o->H b=none->b ∉ frs outer->B.get? b=some o:=fun b o e n h1=>F.kb b o e n h1 (by exact zbz7)
 refine⟨e,cls,dx,H',B,rfl,I.os,I.bare,F.hok,F',?_,kb,fun o z=>absurd (F.en o z) (by exact zbz7),hE⟩
 have un:Un (frs outer) [] H H' s.heap s'.heap:=I.base
 refine⟨fun b o e n h1 _=>F'.stays _ _ (kb b o e n h1),fun b o e n h1 h2=>?_,un.free,fun b o e h2=>?_,un.tups,un.frzs,un.tbls⟩
 ·obtain⟨sl,k⟩:=un.slot b o e n h1 h2
  obtain⟨_,o2,ho2,hd⟩:=I.ok.funs.mem h1
  have:o2=o:=Option.some.inj (ho2.symm.trans e)
  subst this
  obtain⟨sl',k'⟩:=U b _ k hd
  exact⟨sl',k'⟩
 ·obtain⟨o',k⟩:=un.there b o e h2
  exact W b o' k
section
variable {P:Program}{w:World}{K:zby6}{mg:Str->Option Value}{base:Heap}
theorem Fun.okR{x:Str}{f:Addr}{fd:FuncData}{N:List Str}{k:Nat}(F:Fun K x qual st f fd)(S:zb2 N ps (za5 st))(len:∀ vs H Q E,sp vs H Q E->vs.length=ps.length)(hbody:∀ (cdv:Value) (A:Around) (outer:List Env) (s:Shared) (H:Hp) (vs:List V) (Q:VK) (E:XK),Room k (A.deeper (envOfC qual (za5 st) s.heap.objs.size f cdv))->XOut (cxOf (CXR P w) P w K mg base N qual (za5 st) f cdv A outer s H E) E->sp vs H Q E ->
   ∃ t,PSs (cxOf (CXR P w) P w K mg base N qual (za5 st) f cdv A outer s H E) (zh7 st) t/\t { nx:=fun _ H'=>Q .non H',rt:=Q } (zv0 N vs) H):FnOk P w K mg base (CXR P w) (k+1) f fd ps sp:=by
 obtain⟨oc,od,kV,doc,pm,an,cdv,ct,osl,rfl,lk,hcd⟩:=F.ex
 refine fn_of lk hcd S len fun A outer s H vs Q E hr hsp=>?_
 exact hbody cdv A outer s H vs Q E hr xout hsp
end
set_option maxHeartbeats 4000000
structure ExcK(K:zby6)(D:Addr):Prop where
 h1:zcb2 K (.ref D) "__getattribute__"=some (some (.builtin "BaseException.__getattribute__"))
 h2:zcb2 K (.ref D) "__getattr__"=some none
 h3:zcb2 K (.ref D) "__class__"=some (some (.builtin "object.__class__"))
 h4:zbz9 K (.ref D) (.type "BaseException")=some true
 h5:PySem.W.mroIn K D (.type "object")=some true
def ExcIs(e:Addr)(cls:Value)(dx:Option Addr)(h:Heap):Prop:=∃ (oe:Obj) (vs:Array Value),h.get? e=some oe/\oe.cls=cls/\oe.dict=dx/\oe.data=.fields vs
section
open PySem.W PySem.Calls
theorem zbe3{prog:Program}{w:World}{A:Around}{E:Value->Shared->Prop}{K:Frag}{e:Addr}{h:Heap}{g d t os}{Q:Option Value->Shared->Prop}(X:K.In h)(x:ExcIs e (.ref D) none h)(k:ExcK K D)(hq:Q (some (.ref D)) ⟨h,g,d,t+1,os⟩):wpAny (model prog w) A (getAttr? (.ref e) "__class__") Q E ⟨h,g,d,t,os⟩:=by
 obtain⟨oe,vs,he,hc,hdx,hd⟩:=x
 obtain⟨h1,h2,h3,h4,h5⟩:=k
 have L0:Looks (model prog w) h (typeOf (.ref e)) (.ref D):=hc▸(Looks.ld he).andThen .now
 have L1:=looks_findIn (M:=model prog w) X h1
 have L2:=looks_findIn (M:=model prog w) X h2
 have L3:=looks_findIn (M:=model prog w) X h3
 have hx:(onTheHeap (Value.ref D)&&Value.builtin "BaseException.__getattribute__"==Value.builtin "object.__getattribute__")=false:=by
  have z:(Value.builtin "BaseException.__getattribute__"==Value.builtin "object.__getattribute__")=false:=by decide +kernel
  rw[z];rfl
 have I:InstAt h e oe D none:=⟨he,hc,by unfold notCls;rw[hd],by rw[hdx];trivial⟩
 have L4:Looks (model prog w) h (isInstance (.ref e) (.type "BaseException")) true:=L0.andThen (looks_subIn X h4)
 have FB:=PySem.F.attrBase_ValueError
 have f3:=FB.ga.bind (.ref e)
 have kd:builtinKind "BaseException.__getattribute__"=some .slot:=by decide +kernel
 have sid:splitId "BaseException.__getattribute__"=some ("BaseException","__getattribute__"):=by decide +kernel
 have aok:=PySem.F.args_bexc_ga (.ref e) (.str "__class__" t)
 have f5:=KF.type_class
 have f6:=PySem.F.slot_gs_get.lookup
 have f7:=PySem.F.slot_gs_set.lookup
 unfold getAttr? getAttrBy? getAttrBy
 refine zch8 (wpAny_mkText (zch8 (wpAny_attempt (zci3 (zch8 (L0.at (zch8 (L1.at ?_))))))))
 dsimp only
 rw[if_neg (by rw[hx];decide)]
 unfold getAttrByItsOwn hookBefore
 repeat (any_goals (first|assumption|with_reducible refine L0.at ?_|with_reducible refine L1.at ?_|with_reducible refine L2.at ?_|with_reducible refine L3.at ?_|wp_step))
 refine codeAny_call_builtin FB.ga.plain PySem.F.entry_bexc_ga ?_
 simp only[checkBuiltinCall,kd,sid]
 refine zch8 (L4.at ?_)
 repeat (any_goals (first|assumption|with_reducible refine L0.at ?_|with_reducible refine L1.at ?_|with_reducible refine L2.at ?_|with_reducible refine L3.at ?_|wp_step))
 refine class_get (ox:=oe) (od:=none) X I h5 ?_
 repeat (any_goals (first|assumption|wp_step))
theorem zbj3{K:Frag}{e:Addr}(k:ExcK K D)(hcl:(clsIn K D).isSome=true):KitX K (.ref e) (.ref D) (ExcIs e (.ref D) none) where
 ty:=fun M h _ p=>by
  obtain⟨oe,vs,he,hc,_⟩:=p
  exact hc▸(Looks.ld he).andThen .now
 it:=fun M h X p=>by
  obtain⟨cd,hcd⟩:=zcf0.mp hcl
  unfold clsIn at hcd
  split at hcd
  ·rename_i ho
   intro A' Q' E' s' kk q
   unfold isType loadHead
   exact zch8 (wpAny_loadPart (kk _ _ (X _ _ ho)) (zch9 q))
  ·cases hcd
 ne:=fun h tp dd its n sl X htp=>by
  refine Bool.eq_false_iff.mpr fun q=>?_
  have z:D=tp:=Value.ref.inj (beq_iff_eq.mp q)
  subst z
  obtain⟨cd,hcd⟩:=zcf0.mp hcl
  unfold clsIn at hcd
  split at hcd
  ·rename_i ho
   cases (X _ _ ho).symm.trans htp
  ·cases hcd
 ca:=fun {prog w A E Q s} X p q=>by
  obtain⟨hh,g,d,t,os⟩:=s
  exact zbe3 X p k q
end
abbrev excO(ea:Addr)(cls:Value)(dx:Option Addr):HO:=.ext (ExcIs ea cls dx)
section
variable {X:Cx}{K:zby6}{H:Hp}{Q:VK}
@[irreducible] def zaj2(K:zby6)(x c:V)(H:Hp)(Q:VK):Prop:=zu4 K x c H Q∨∃ (ea D:Addr) (b:Bool),x=.ref ea/\H ea=some (excO ea (.ref D) none)/\ExcK K D/\(zcb5 K D).isSome=true/\(∀ cv,RelV c cv->zbz0 K (.ref D) cv=some b)/\Q (.bl b) H
def zbl5(K:zby6):List V->Hp->VK->Prop:=fun xs H Q=>match xs with
 | [x,c]=>zaj2 K x c H Q
 | _=>False
theorem cIsiX(hK:X.K=K):zj2 X (.builtin "isinstance") (zbl5 K):=by
 subst hK
 intro pins s σ H xs us Q I r h
 unfold zbl5 at h
 split at h
 ·unfold zaj2 at h
  rcases h with h|⟨ea,D,b,rfl,h1,h2,h3,h4,h5⟩
  ·exact cIsi pins s σ H _ us Q I r h
  ·obtain⟨u,w,rfl,r1,r2⟩:=vals2 r
   cases r1
   obtain⟨p,_⟩:=I.hok ea _ h1
   exact zcd7 (zbj3 h2 h3) I.kIn p (h4 _ r2) (fun z=>nomatch z) fun tk=>⟨.bl b,H,I.tok _,rfl,h5⟩
 ·exact h.elim
theorem zbm9{ea:Addr}{b:Bool}(h1:H ea=some (excO ea (.ref D) none))(h2:ExcK K D)(h3:(zcb5 K D).isSome=true)(e:zbz0 K (.ref D) (.ref C)=some b)(q:Q (.bl b) H):zaj2 K (.ref ea) (.ref C) H Q:=by
 unfold zaj2;exact .inr ⟨ea,D,b,rfl,h1,h2,h3,fun cv r=>by cases r;exact e,q⟩
theorem zbi4{ea:Addr}{n:String}{b:Bool}(h1:H ea=some (excO ea (.ref D) none))(h2:ExcK K D)(h3:(zcb5 K D).isSome=true)(e:zbz0 K (.ref D) (.type n)=some b)(q:Q (.bl b) H):zaj2 K (.ref ea) (.ty n) H Q:=by
 unfold zaj2;exact .inr ⟨ea,D,b,rfl,h1,h2,h3,fun cv r=>by cases r;exact e,q⟩
theorem zag3:bootBuiltins "ValueError"=some (.type "ValueError"):=by decide +kernel
end
section
variable {X:Cx}{pins:List (Addr×Obj)}{σ:St}{H:Hp}{s:Shared}
def ExcP(X:Cx)(pins:List (Addr×Obj))(σ:St)(EX:XK)(e:Value)(s':Shared):Prop:=∃ (H':Hp) (B:Heap) (ea:Addr) (cls:Value) (dx:Option Addr),e=.ref ea/\zl6 X pins σ H' B ea cls dx s'/\(∀ p∈X.pn++pins,B.get? p.1=some p.2)/\EX cls dx H'
def PSX(X:Cx)(st:Stmt)(t:XK->TS):Prop:=∀ (pins:List (Addr×Obj)) (s:Shared) (σ:St) (H:Hp) (D:Ends) (EX:XK),Inv X pins σ H s->t EX D σ H->wpAny (model X.prog X.w) X.A (exec st X.env) (SP X pins D) (ExcP X pins σ EX) s
def PSXs(X:Cx)(l:List Stmt)(t:XK->TS):Prop:=∀ (pins:List (Addr×Obj)) (s:Shared) (σ:St) (H:Hp) (D:Ends) (EX:XK),Inv X pins σ H s->t EX D σ H->wpAny (model X.prog X.w) X.A (execs l X.env) (SP X pins D) (ExcP X pins σ EX) s
theorem zbp3{EX:XK}{e:Value}{s':Shared}(I:Inv X pins σ H s)(h:CXR X.prog X.w X.stack H s EX e s'):ExcP X pins σ EX e s':=by
 obtain⟨ea,cls,dx,H',B,rfl,os,bare,hok,fly,un,k,en,hE⟩:=h
 refine⟨H',B,ea,cls,dx,rfl,⟨I.call' os un (hok.kept fly.stays) bare (fun b hb=>absurd hb (by simp)),hok,fly,fun b o e n h1 h2=>?_,fun o e=>?_⟩,fun p hp=>?_,hE⟩
 ·exact k b o (I.base.keep b o e n h1 h2) (I.base.free b o e n h2) (zt1 I e h1)
 ·apply Classical.byContradiction
  intro hx
  obtain⟨o',k'⟩:=I.base.there ea o e hx
  exact en o' k'
 ·obtain⟨q1,q2,q3,q4,_⟩:=I.pin p hp
  exact k _ _ q1 q2 fun hm=>(zbz4.mp (I.stkSub _ hm)).elim q3 q4
theorem zl6.move{B:Heap}{e:Addr}{cls:Value}{dx:Option Addr}{h':Heap}(F:zl6 X pins σ H B e cls dx s)(hp:∀ p∈X.pn++pins,B.get? p.1=some p.2)(F':FlyX B X.stack e cls dx h')(U:s.heap.UpToSlots h')(W:Th s.heap h') :
  zl6 X pins σ H B e cls dx { s with heap:=h' }:=by
 have I:=F.inv
 have cell:∀ {c:Addr}{v:Option Value},s.heap.IsCell c v->h'.IsCell c v:=fun ⟨o,ho,hd⟩=>by
  obtain⟨sl,z⟩:=U _ o ho fun vs q=>by rw[hd] at q;cases q
  exact⟨_,z,hd⟩
 refine⟨⟨I.ok,I.os,I.bare,⟨fun b o e n h1 h2=>F'.stays _ _ (F.kb b o e n h1 h2),fun b o e n h1 h2=>?_,I.base.free,fun b o e h2=>?_,I.base.tups,I.base.frzs,I.base.tbls⟩,?_,fun x c hc=>?_,I.free,I.freeC,fun p hpp=>?_,F.hok.kept F'.stays,I.len⟩,F.hok,F',F.kb,F.en⟩
 ·obtain⟨sl,k⟩:=I.base.slot b o e n h1 h2
  obtain⟨_,o2,ho2,hd⟩:=I.ok.funs.mem h1
  have:o2=o:=Option.some.inj (ho2.symm.trans e)
  subst this
  obtain⟨sl',k'⟩:=U b _ k hd
  exact⟨sl',k'⟩
 ·obtain⟨o',k⟩:=I.base.there b o e h2
  exact W b o' k
 ·obtain⟨m,hn,hl⟩:=I.loc
  refine⟨m,U.ns hn,fun i x v h1 h2 h3=>?_⟩
  obtain⟨u,r,q⟩:=hl i x v h1 h2 h3
  refine⟨u,r,?_⟩
  rcases q with q|⟨k,c,e,z⟩
  ·exact .inl q
  ·exact .inr ⟨k,c,e,cell z⟩
 ·obtain⟨v,z⟩:=I.cell x c hc
  exact⟨v,cell z⟩
 ·obtain⟨_,q2,q3,q4,q5⟩:=I.pin p hpp
  exact⟨F'.stays _ _ (hp p hpp),q2,q3,q4,q5⟩
theorem callX{k:Nat}{x:Str}{p:Pos}{t:TA}(F:Def X.prog X.w X.K X.mg X.base (CXR X.prog X.w) k x ps sp)(hr:Room j X.A)(ha:PA X.nox (e :: es) t)(hk:k<=j:=by decide)(hg:Gl X x:=by rfl)(hdb:(x==("__debug__":Str))=false:=by decide)(he:starEach (e :: es) X.env=(false,eval e X.env) :: starEach es X.env:=by rfl)(hpl:(backTo pos (starEach es X.env)).any (·.1)=false:=by rfl){EX:XK}(I:Inv X pins σ H s)(h:t σ H fun vs H1=>sp vs H1 Q EX):wpAny (model X.prog X.w) X.A (eval (.Call (.Name x p) (e :: es) [] pos) X.env) (EP X pins σ Q) (ExcP X pins σ EX) s:=by
 obtain⟨f,fd,F1,F2,F3,F4⟩:=F.ex
 refine wpAny_Call_Name_kw (zl3 I hg F2 ?_ hdb)
 have hA:=ha pos pins s σ H _ (I.wish _) h
 refine PySem.W.callWith_K (h₀:=X.base) I.ok.mod.kin F3 (wpAny_mono hA (fun us s1 h1=>?_) fun _ _ z=>z.elim) he hpl
 obtain⟨vs,H1,I1,r,q⟩:=h1
 have I1:Inv X pins σ H1 s1:=I1.unwish
 refine⟨I1.kIn,?_⟩
 have hl:us.length=ps.length:=by rw[← r.length];exact F1.len _ _ _ _ q
 have hb:=F4 s1 us I1.kIn (by rw[zcc3];exact hl)
 rw[zcc3] at hb
 refine wpAny_call (codeAny_mono (F1.run X.A X.stack s1 H1 ⟨us,[]⟩ us vs Q EX (hr.mono hk) I1.env0 hb r q) fun r s' hq=>?_)
 cases r with
 | error e=>exact zbp3 I1 hq
 | ok fl=>
  cases fl with
  | ret u=>exact I1.after hq
  | next=>exact False.elim hq
  | brk=>exact False.elim hq
  | cont=>exact False.elim hq
def qxCall(sp:Sp)(t:TA):XK->TS:=fun EX D σ H=>t σ H fun vs H1=>sp vs H1 (fun _ H2=>D.nx σ H2) EX
theorem zbm8{k:Nat}{x:Str}{p spos:Pos}{t:TA}(F:Def X.prog X.w X.K X.mg X.base (CXR X.prog X.w) k x ps sp)(hr:Room j X.A)(ha:PA X.nox (e :: es) t)(hk:k<=j:=by decide)(hg:Gl X x:=by rfl)(hdb:(x==("__debug__":Str))=false:=by decide)(he:starEach (e :: es) X.env=(false,eval e X.env) :: starEach es X.env:=by rfl)(hpl:(backTo pos (starEach es X.env)).any (·.1)=false:=by rfl)(hs:swapsWith (.Call (.Name x p) (e :: es) [] pos) none spos.line X.env=pure false:=by rfl):PSX X (.Expr (.Call (.Name x p) (e :: es) [] pos) spos) (qxCall sp t):=by
 intro pins s σ H D EX I h
 exact wpAny_Expr_any (wpAny_mono (callX F hr ha hk hg hdb he hpl I h) (fun v s1 ⟨x,H1,I1,r1,q1⟩=>⟨σ,H1,I1,q1⟩) fun _ _ z=>z) I.quiet hs
def qxSet(i:Nat)(sp:Sp)(t:TA):XK->TS:=fun EX D σ H=>t σ H fun vs H1=>sp vs H1 (fun v H2=>D.nx (σ.set i (some v)) H2) EX
theorem zbm7{k:Nat}{y:Str}{x:Str}{p py spos:Pos}{t:TA}(hN:X.N.Nodup)(F:Def X.prog X.w X.K X.mg X.base (CXR X.prog X.w) k x ps sp)(hr:Room j X.A)(ha:PA X.nox (e :: es) t)(hi:X.N[i]?=some y:=by rfl)(hy:Loc X.env.scope y:=by first|exact Or.inl rfl|exact Or.inr rfl)(hk:k<=j:=by decide)(hg:Gl X x:=by rfl)(hdb:(x==("__debug__":Str))=false:=by decide)(he:starEach (e :: es) X.env=(false,eval e X.env) :: starEach es X.env:=by rfl)(hpl:(backTo pos (starEach es X.env)).any (·.1)=false:=by rfl)(hs:swapsWith (.Call (.Name x p) (e :: es) [] pos) (some (.Name y py)) spos.line X.env=pure false:=by rfl)(hf:X.fn y=true∨X.env.scope.names.lookup y=some .local:=by first|exact .inl rfl|exact .inr rfl):PSX X (.Assign [.Name y py] (.Call (.Name x p) (e :: es) [] pos) spos) (qxSet i sp t):=by
 intro pins s σ H D EX I h
 refine wpAny_Assign_Name (wpAny_mono (callX F hr ha hk hg hdb he hpl I h) (fun v s1 ⟨z,H1,I1,r1,q1⟩=>?_) fun _ _ z=>z) hs
 exact zs6 I1 hN hi hy r1 (fun s2 I2=>⟨_,H1,I2,q1⟩) hf
def qxIf(c:TT)(t u:XK->TS):XK->TS:=fun EX D σ H=>c σ H fun b H1=>br b (t EX D σ H1) (u EX D σ H1)
theorem psxIf{c:Expr}{a b:List Stmt}{tc:TT}{t u:XK->TS}(hc:PT X.nox c tc)(ha:PSXs X a t)(hb:PSXs X b u):PSX X (.If c a b pos) (qxIf tc t u):=by
 intro pins s σ H D EX I h
 refine wpAny_If (wpAny_mono (hc pins s σ H _ (I.wish _) h) (fun d s1 ⟨H1,I1,q1⟩=>?_) fun _ _ z=>z.elim)
 have I1:Inv X pins σ H1 s1:=I1.unwish
 have q1:br d (t EX D σ H1) (u EX D σ H1):=q1
 rw[zq7] at q1
 cases d with
 | true=>exact ha pins s1 σ H1 D EX I1 (by simpa using q1)
 | false=>exact hb pins s1 σ H1 D EX I1 (by simpa using q1)
theorem zat8{t:XK->TS}(h:PSX X st t):PSXs X [st] t:=by
 intro pins s σ H D EX I hq
 refine wpAny_execs_cons (wpAny_mono (h pins s σ H D EX I hq) (fun f s1 q=>?_) fun _ _ z=>z)
 cases f with
 | next=>exact wpAny_execs_nil q
 | brk=>exact q
 | cont=>exact q
 | ret u=>exact q
theorem zf7.ex{P:Program}{w:World}{h:Heap}{a:Addr}(x:zf7 P w H h a o):∃ u,h.get? a=some u:=by
 cases o with
 | lst xs=>obtain⟨_,_,_,_,e⟩:=x;exact⟨_,e⟩
 | tup xs=>obtain⟨_,_,_,ob,e,_⟩:=x;exact⟨ob,e⟩
 | dK kvs=>obtain⟨_,_,_,_,ob,_,_,e,_⟩:=x;exact⟨ob,e⟩
 | dT kvs=>obtain⟨_,_,_,_,ob,_,_,e,_⟩:=x;exact⟨ob,e⟩
 | set S n=>obtain⟨ob,_,_,_,e,_⟩:=x;exact⟨ob,e⟩
 | ins C dx fs=>obtain⟨_,_,_,e,_⟩:=x;exact⟨_,e⟩
 | own y=>exact x
 | xd fs=>obtain⟨_,⟨ob,_,_,e,_⟩,_⟩:=x;exact⟨ob,e⟩
 | rng lo hi=>obtain⟨_,_,_,e⟩:=x;exact⟨_,e⟩
 | frz ob u=>obtain⟨e,_⟩:=x;exact⟨_,e⟩
 | tbl ps=>exact⟨_,(show h.get? a=some _ from x)⟩
 | met f y=>exact⟨_,(show h.get? a=some _ from x)⟩
 | ext φ=>obtain⟨_,e,_⟩:=x;exact e
theorem zl6.track{B:Heap}{ea:Addr}{cls:Value}{dx:Option Addr}(F:zl6 X pins σ H B ea cls dx s)(hp:∀ p∈X.pn++pins,B.get? p.1=some p.2)(hex:X.ex=[]) :
  H ea=none/\Inv X pins σ (upd H ea (excO ea cls dx)) s:=by
 have I:=F.inv
 obtain⟨oe,vs,he,hc,hdx,hd,_⟩:=F.fly.ex
 have hn:H ea=none:=by
  cases q:H ea with
  | none=>rfl
  | some o=>
   obtain⟨u,z⟩:=zf7.ex (F.hok ea o q)
   rw[F.fly.new] at z
   cases z
 have nl:∀ {b:Addr}{o:Obj},s.heap.get? b=some o->(∀ vs,o.data≠.fields vs)->b≠ea:=fun hb hnf z=>by
  rw[z,he] at hb
  cases hb
  exact hnf vs hd
 have n0:∀ {b:Addr}{o:Obj},X.s₀.heap.get? b=some o->b≠ea:=fun hb z=>by
  have:=F.en _ (z▸hb)
  rw[hex] at this
  cases this
 refine⟨hn,I.ok,I.os,I.bare,⟨I.base.keep,I.base.slot,fun b o e n h1=>?_,I.base.there,fun b xs q=>?_,fun b o u q=>?_,fun b ps q=>?_⟩,I.loc,I.cell,?_,fun x c hcl=>?_,fun p hpp=>?_,fun b o q=>?_,I.len⟩
 ·rw[zb0 (n0 e)];exact I.base.free b o e n h1
 ·have z:=I.base.tups b xs q
  rw[zb0 (za4 z hn)];exact z
 ·have z:=I.base.frzs b o u q
  rw[zb0 (za4 z hn)];exact z
 ·obtain⟨more,z⟩:=I.base.tbls b ps q
  exact⟨more,by rw[zb0 (za4 z hn)];exact z⟩
 ·obtain⟨m,⟨o,es,ep,ho,hdd,_⟩,_⟩:=I.loc
  rw[zb0 (nl ho fun vs q=>by rw[hdd] at q;cases q)];exact I.free
 ·obtain⟨v,o,ho,hdd⟩:=I.cell x c hcl
  rw[zb0 (nl ho fun vs q=>by rw[hdd] at q;cases q)];exact I.freeC x c hcl
 ·obtain⟨q1,q2,q3,q4,q5⟩:=I.pin p hpp
  refine⟨q1,?_,q3,q4,q5⟩
  rw[zb0 fun z=>?_]
  ·exact q2
  ·have:=hp p hpp
   rw[z,F.fly.new] at this
   cases this
 ·by_cases hb:b=ea
  ·subst hb
   rw[zb8] at q
   cases q
   refine⟨⟨oe,vs,he,hc,hdx,hd⟩,⟨oe,he⟩,fun h1 h2 x k=>?_⟩
   obtain⟨o1,v1,e1,r⟩:=x
   exact⟨o1,v1,k _ e1,r⟩
  ·rw[zb0 hb] at q
   refine (I.hok b o q).stay (fun _ _ _ z=>z) (fun c z=>?_) fun c xs z=>?_
   ·rw[zb0 (za4 z hn)];exact z
   ·rw[zb0 (za4 z hn)];exact z
theorem zbf9{M:Model}{A:Around}{E:Value->Shared->Prop}{n:Str}{v:V}{Q:Unit->Shared->Prop}(I:Inv X pins σ H s)(hN:X.N.Nodup)(hi:X.N[i]?=some n)(hl:X.env.kindOf n=some .local)(hv:σ[i]?=some (some v))(h:∀ s',Inv X pins (σ.set i none) H s'->Q () s'):wpAny M A (unbindName X.env n) Q E s:=by
 obtain⟨m,hn,hlk⟩:=id I.loc
 have hcls:(X.env.scope.kind==.class || (X.env.scope.kind==.module&&X.env.locals != X.env.globals))=false:=by rw[I.ok.kind];rfl
 obtain⟨u,_,q⟩:=hlk i n v hi hv (.inl hl)
 have hm:m n=some u:=by
  rcases q with q|⟨k,_⟩
  ·exact q.2
  ·rw[hl] at k
   rcases k with k|k<;>cases k
 refine wpAny_unbindName_local hl hn hm hcls fun h' u' hn' hs=>h _ ?_
 obtain⟨oL,_,_,hoL,_⟩:=id hn
 have below:∀ {b:Addr}{o:Obj},X.s₀.heap.get? b=some o->b≠X.env.locals:=fun e=>zcc8 (zca8 (zca3 e) I.ok.above)
 refine⟨I.ok,I.os,I.bare,⟨fun b o e n hb hx=>(hs.2 b (below e)).trans (I.base.keep b o e n hb hx),fun b o e n hb hx=>?_,I.base.free,fun b o e hx=>?_,I.base.tups,I.base.frzs,I.base.tbls⟩,⟨_,hn',fun j y v' e1 e2 e3=>?_⟩,fun y c e=>?_,I.free,I.freeC,fun p hp=>?_,fun b ob e=>?_,by rw[zcg2];exact I.len⟩
 ·obtain⟨sl,z⟩:=I.base.slot b o e n hb hx
  exact⟨sl,(hs.2 b (below e)).trans z⟩
 ·obtain⟨o',z⟩:=I.base.there b o e hx
  exact⟨o',(hs.2 b (below e)).trans z⟩
 ·by_cases hj:j=i
  ·subst hj
   rw[zce2 (by rw[I.len];exact (zby9.mp hi).1)] at e2
   cases e2
  ·rw[zch0 (Ne.symm hj)] at e2
   obtain⟨w',r',q⟩:=hlk j y v' e1 e2 e3
   refine⟨w',r',?_⟩
   rcases q with ⟨k,z⟩|⟨k,c,z,zz⟩
   ·refine .inl ⟨k,?_⟩
    have:y≠n:=fun z=>hj (zad5 hN e1 (z▸hi))
    show (if y=n then u' else m y)=_
    rw[if_neg this];exact z
   ·exact .inr ⟨k,c,z,zz.sameBut hs (I.cne y c z)⟩
 ·obtain⟨w',z⟩:=I.cell y c e
  exact⟨w',z.sameBut hs (I.cne y c e)⟩
 ·obtain⟨e,n,ne,nf,d⟩:=I.pin p hp
  exact⟨(hs.2 p.1 ne).trans e,n,ne,nf,d⟩
 ·refine (I.hok b ob e).stay (fun c w' hc q=>(hs.2 c ?_).trans q) (fun _ q=>q) fun _ _ q=>q
  rintro rfl
  rcases hc with z|hc
  ·rw[← z,I.free] at e;cases e
  ·rw[I.free] at hc;cases hc
def zq4(X:Cx)(e:Value):Cx:={ X with A:=X.A.mark (some e),calm:=false,xe:=fun _ _=>False }
theorem Inv.mark(I:Inv X pins σ H s)(e:Value):Inv (zq4 X e) pins σ H s:=
 ⟨⟨I.ok.mod,I.ok.kind,I.ok.glob,I.ok.blt,I.ok.above,I.ok.inj,I.ok.has,I.ok.cab,(fun z=>absurd (show false=true from z) zbz3),I.ok.frames,I.ok.stk,I.ok.exf,I.ok.bs,I.ok.bsz,I.ok.noex,I.ok.exfs,I.ok.funs,I.ok.frf⟩,I.os,I.bare,I.base,I.loc,I.cell,I.free,I.freeC,I.pin,I.hok,I.len⟩
theorem Inv.unmark{e:Value}(I0:Inv X pins σ H s){σ':St}{s':Shared}(I:Inv (zq4 X e) pins σ' H' s'):Inv X pins σ' H' s':=
 ⟨I0.ok,I.os,I.bare,I.base,I.loc,I.cell,I.free,I.freeC,I.pin,I.hok,I.len⟩
@[irreducible] def zar9(K:zby6)(CH:Addr)(D:Ends)(σ:St)(ke ky:Nat)(cls:Value)(dx:Option Addr)(H':Hp):Prop:=zcg6 K cls (.ref CH)=some true /\
 ∀ ea H'',H' ea=none->Same H' H''->H'' ea=some (excO ea cls dx)->D.nx ((σ.set ke none).set ky (some (.ref ea))) H''
def qTry(K:zby6)(CH:Addr)(t:XK->TS)(ke ky:Nat):TS:=fun D σ H=>t (fun cls dx H'=>zar9 K CH D σ ke ky cls dx H') D σ H
theorem psTry{K:zby6}{body:List Stmt}{t:XK->TS}{hx n y:Str}{CH:Addr}{ke ky:Nat}{np p1 p2 p3 hpos:Pos}(hK:X.K=K)(hN:X.N.Nodup)(hcl:X.mg hx=some (.ref CH))(hb:PSXs X body t)(hke:X.N[ke]?=some n:=by rfl)(hky:X.N[ky]?=some y:=by rfl)(hkk:ke≠ky:=by decide)(hln:X.env.kindOf n=some .local:=by rfl)(hly:X.env.kindOf y=some .local:=by rfl)(hgl:Gl X hx:=by rfl)(hdb:(hx==("__debug__":Str))=false:=by decide)(hnd:(n==("__debug__":Str))=false:=by decide)(hnc:(n==("__classdict__":Str))=false:=by decide)(hstk:X.stack=X.env :: X.outer:=by rfl)(hfr:X.env.frame=some X.env.locals:=by rfl)(hex:X.ex=[]:=by rfl)(hs:swapsWith (.Name n p2) (some (.Name y p1)) p3.line X.env=pure false:=by rfl) :
  PS X (.Try body [.ExceptHandler (some (.Name hx np)) (some n) [.Assign [.Name y p1] (.Name n p2) p3] hpos] [] [] pos) (qTry K CH t ke ky):=by
 subst hK
 intro pins s σ H D I h
 rw[arm_exec_Try]
 refine zch8 (wpAny_standAt (wpAny_tryStmt_except (wpAny_mono (hb pins s σ H D _ I h) (fun f s1 q=>?_) fun e s1 q=>?_)))
 ·cases f with
  | next=>exact wpAny_execs_nil q
  | brk=>exact q
  | cont=>exact q
  | ret u=>exact q
 ·obtain⟨H1,B,ea,cls,dx,rfl,F,hp,q⟩:=q
  unfold zar9 at q
  obtain⟨hm,q⟩:=q
  have I1:=F.inv
  refine zag2 (L:=X.env.locals) (outer:=X.outer) (by rw[← hstk];exact I1.ok.frames) hfr (by rw[← hstk];exact F.fly) fun h2 F2 U2 W2=>?_
  rw[← hstk] at F2
  have F2:=F.move hp F2 U2 W2
  have I2:=F2.inv
  refine wpAny_handleBy_cons (codeAny_handlers_test ?_) (by intro z;cases z)
  refine zl3 (X:=zq4 X (.ref ea)) (I2.mark _) hgl hcl ?_ hdb
  have LT:PySem.W.Looks (model X.prog X.w) h2 (typeOf (.ref ea)) cls:=by
   obtain⟨oe,vs,he,hc,_⟩:=F2.fly.ex
   exact hc▸(PySem.W.Looks.ld he).andThen .now
  refine (PySem.W.exm_one I2.kIn LT hm).here ?_
  refine codeAny_handlers_suite_as ?_
  refine zbd9 F2.fly fun h3 F3 U3 W3=>?_
  have F3:=F2.move hp F3 U3 W3
  obtain⟨hn,I3⟩:=F3.track hp hex
  have hlσ:ke<σ.length:=by rw[I1.len];exact (zby9.mp hke).1
  refine zs6 I3 hN hke (.inl hln) (v:=.ref ea) rfl (fun s4 I4=>?_) (.inr hln)
  have pn:PS (zq4 X (.ref ea)) (.Assign [.Name y p1] (.Name n p2) p3) (tAsg (qV ke) (zaz4 ky)):=zbf4 (X:=zq4 X (.ref ea)) hN hky (.inl hly) (pq (X:=zq4 X (.ref ea)) ke hke (.inl hln) hnd hnc) hs (.inr hly)
  refine wpAny_mono (za7 pn pins s4 _ _ { nx:=fun σ' H'=>σ'=(σ.set ke (some (.ref ea))).set ky (some (.ref ea))/\H'=upd H1 ea (excO ea cls dx),rt:=fun _ _=>False } (I4.mark (.ref ea)) ?_) (fun f s5 q5=>?_) fun _ _ z=>(show False from z).elim
  ·show qV ke (σ.set ke (some (.ref ea))) _ _
   unfold qV
   rw[zce2 hlσ]
   exact⟨rfl,rfl⟩
  ·cases f with
   | next=>
    obtain⟨σ5,H5,I5,rfl,rfl⟩:=q5
    have I5:=Inv.unmark I1 I5
    refine zch8 (wpAny_bindName (zs6 I5 hN hke (.inl hln) (v:=.non) rfl (fun s6 I6=>?_) (.inr hln)))
    refine wpAny_onRaise (zbf9 (v:=.non) I6 hN hke hln (by rw[zce2 (by rw[zcg2,zcg2];exact hlσ)]) fun s7 I7=>?_)
    refine⟨_,_,I7,?_⟩
    rw[List.set_set,List.set_comm _ _ (Ne.symm hkk),List.set_set]
    exact q ea _ hn (Same.upd hn) zb8
   | brk=>obtain⟨_,_,_,z⟩:=q5;exact False.elim z
   | cont=>obtain⟨_,_,_,z⟩:=q5;exact False.elim z
   | ret u=>obtain⟨_,_,_,_,_,z⟩:=q5;exact False.elim z
end
section
open PySem.W
theorem zv1{K:Frag}{t:Value}{cd:ClassData}{b:Bool}(h1:clsIn K C=some cd)(h2:typeIn K (.ref C)=some (.type "type"))(h3:subIn K t (.ref C)=some b):kitCls K t (.ref C)=some b:=by
 unfold kitCls
 dsimp only
 rw[h1,h2,if_pos (by simp)]
 exact h3
theorem zc7{K:Frag}{t:Value}{cd:ClassData}{b:Bool}(h1:clsIn K C=some cd)(h2:typeIn K (.ref C)=some (.type "type"))(h3:subIn K t (.ref C)=some b)(h4:subIn K t t=some true):kitOne K t (.ref C)=some b:=by
 unfold kitOne
 split
 ·rename_i z
  have z:t=.ref C:=by simpa using z
  subst z
  rw[h3] at h4
  exact h4.symm
 ·exact zv1 h1 h2 h3
theorem zf9{K:Frag}{cd:ClassData}{b:Bool}(h1:clsIn K C=some cd)(h2:typeIn K (.ref C)=some (.type "type"))(h3:subIn K (.type "NoneType") (.ref C)=some b):kitOne K (.type "NoneType") (.ref C)=some b:=by
 unfold kitOne
 rw[if_neg (by simp)]
 exact zv1 h1 h2 h3
theorem zq6{K:Frag}{b:Bool}(h:subIn K (.ref D) (.type "ValueError")=some b):kitOne K (.ref D) (.type "ValueError")=some b:=by
 unfold kitOne kitCls
 rw[if_neg (by simp)]
 dsimp only
 rw[if_pos (by decide +kernel)]
 exact h
theorem zao6{K:Frag}{t:Value}{cd:ClassData}{b:Bool}(h0:subIn K (.ref C) (.type "BaseException")=some true)(h1:clsIn K C=some cd)(h2:typeIn K (.ref C)=some (.type "type"))(h3:subIn K t (.ref C)=some b):exmOne K t (.ref C)=some b:=by
 unfold exmOne
 rw[if_pos (by rw[h0];simp)]
 exact zv1 h1 h2 h3
end
theorem zau0{K:zby6}{CH:Addr}{D:Ends}{σ:St}{ke ky:Nat}{cls:Value}{dx:Option Addr}(h1:zcg6 K cls (.ref CH)=some true)(h2:∀ ea H'',H' ea=none->Same H' H''->H'' ea=some (excO ea cls dx)->D.nx ((σ.set ke none).set ky (some (.ref ea))) H''):zar9 K CH D σ ke ky cls dx H':=by
 unfold zar9;exact⟨h1,h2⟩
abbrev bmV:List Value:=[.type "ValueError",.type "Exception",.type "BaseException",.type "object"]
abbrev newV:String:="ValueError.__new__"
section
variable {X:Cx}{K:zby6}
@[irreducible] def rIdxA(p:Addr)(x:V)(H:Hp)(Q:VK):Prop:=∃ (xs:List V) (j:Nat),H p=some (.lst xs)/\zj5 x=true/\xs.all zj5=true/\(∃ y,xs[j]?=some y/\eqV y x=true)/\(∀ m y,m<j->xs[m]?=some y->eqV y x=false)/\Q (.int j) H
def rIdxM:Addr->List V->Hp->VK->Prop:=fun p vs H Q=>match vs with
 | [v]=>rIdxA p v H Q
 | _=>False
theorem mIndex:MtA X "list.index" rIdxM:=fun pins s σ H p xs us Q I r h=>by
 unfold rIdxM at h
 split at h
 ·rename_i v
  unfold rIdxA at h
  obtain⟨ys,j,h1,h2,h3,⟨y,hy,hit⟩,hno,h4⟩:=h
  obtain⟨u,rfl,ru⟩:=r.one
  obtain⟨z,its,n,r',hl,e⟩:=I.lstM h1
  have hj:j<its.toArray.size:=by
   have:=(zby9.mp hy).1
   rw[zbz6];omega
  have at_:∀ (m:Nat) (hm:m<its.toArray.size),∃ y,ys[m]?=some y/\eqU v its.toArray[m]=eqV y v:=fun m hm=>by
   rw[zbz6] at hm
   obtain⟨w',e1,q1⟩:=r'.get (zby8 (show m<ys.length by omega))
   refine⟨_,zby8 (by omega),?_⟩
   have i1:its.toArray[m]=w':=by
    have:=(zby9.mp e1).2
    simpa using this
   rw[i1]
   exact zav2 q1 (zcc9.mp h3 _ (List.getElem_mem _))
  have hz:its.length<=sizeLine:=by omega
  rw[zci0] at hz
  refine call_meets F.slot_list_index ⟨_,e,rfl⟩ F.entry_list_index (F.args_list_index_2 _ _) (SeqAt.list_indexAt p its.toArray n none #[] u (eqU v) j hj (by rw[zbz6] at hj;omega) ?_ ?_) ⟨e,fun y hy=>zt3 ru h2 r' h3 y (by simpa using hy),⟨.int _,H,I.tok _,⟨_,rfl⟩,h4⟩⟩
  ·obtain⟨y',e1,e2⟩:=at_ j hj
   rw[hy] at e1
   cases e1
   rw[e2];exact hit
  ·intro m hm hlt
   obtain⟨y',e1,e2⟩:=at_ m hm
   rw[e2];exact hno m y' hlt e1
 ·exact h.elim
theorem idx_rd{p:Addr}{x:V}{xs:List V}(j:Nat)(h:H p=some (.lst xs))(h1:zj5 x=true)(h2:xs.all zj5=true)(h3:∃ y,xs[j]?=some y/\eqV y x=true)(h4:∀ m y,m<j->xs[m]?=some y->eqV y x=false)(q:Q (.int j) H):rIdxA p x H Q:=by unfold rIdxA;exact⟨xs,j,h,h1,h2,h3,h4,q⟩
theorem zbg4{o:Expr}{to:TE}{t:TA}{apos cpos:Pos}(hK:X.K=K)(ho:PE X o to)(ha:PA X [e] t)(hbase:attributeBase o "index" X.env (eval o X.env)=eval o X.env:=by rfl)(hfew:((backTo cpos (starEach [e] X.env)).all (fun x=>!x.1)&&(backToKw cpos (keywordEach [] X.env)).all (fun x=>x.1.isSome)
   && decide ([e].length+([]:List Keyword).length+(if ([]:List Keyword).isEmpty then 0 else 1)<30))=true:=by rfl)(hline:(apos.endLine==cpos.line)=true:=by rfl)(hs:starEach [e] X.env=(false,eval e X.env) :: starEach [] X.env:=by rfl)(hplain:(backTo cpos (starEach [] X.env)).any (·.1)=false:=by rfl):PE X (.Call (.Attribute o "index" apos) [e] [] cpos) (qBM K rIdxM to t):=by
 subst hK
 exact peBM PySem.F.slot_list_index PySem.F.type_list_index mIndex ho ha hbase hfew hline hs hplain
end
section
variable {X:Cx}{st:Stmt}{rest:List Stmt}{t u:TS}{e:Expr}{es:List Expr}{te:TE}{ta:TA}
@[irreducible] def PSsI(X:Cx)(st:List Stmt)(t:TS):Prop:=PSs X st t
@[irreducible] def PSI(X:Cx)(st:Stmt)(t:TS):Prop:=PS X st t
@[irreducible] def PEI(X:Cx)(e:Expr)(t:TE):Prop:=PE X e t
@[irreducible] def PAI(X:Cx)(es:List Expr)(t:TA):Prop:=PA X es t
theorem psOf(h:PS X st t):PSI X st t:=by unfold PSI;exact h
theorem pssTo{st:List Stmt}(h:PSsI X st t):PSs X st t:=by unfold PSsI at h;exact h
theorem zb7(h1:PSI X st t)(h2:PSsI X rest u):PSsI X (st :: rest) (tSeq t u):=by unfold PSsI PSI at *;exact za3 h1 h2
theorem zm6(h1:PSI X st t):PSsI X [st] t:=by unfold PSsI PSI at *;exact za7 h1
theorem zs5:PSsI X [] tNext:=by unfold PSsI;exact zc1
theorem psIS{x:Str}{pos':Pos}(hN:X.N.Nodup)(he:PEI X e te)(hi:X.N[i]?=some x:=by rfl)(hx:Loc X.env.scope x:=by first|exact Or.inl rfl|exact Or.inr rfl)(hs:swapsWith e (some (.Name x pos')) pos.line X.env=pure false:=by rfl)(hf:X.fn x=true∨X.env.scope.names.lookup x=some .local:=by first|exact .inl rfl|exact .inr rfl|assumption) :
  PSI X (.Assign [.Name x pos'] e pos) (tAsg te (zaz4 i)):=by unfold PSI PEI at *;exact zbf4 hN hi hx he hs hf
theorem zj4(h:PAI X es ta):PEI X (.List es pos) (qLst ta):=by unfold PEI PAI at *;exact zn4 h
theorem zf1{x j pos}:PEI X (.Constant (.str x) j pos) (tC (.str x)):=by unfold PEI;exact zc0
theorem zd1:PAI X [] tNil:=by unfold PAI;exact za1
theorem za6(ha:PEI X e te)(hr:PAI X es ta)(hs:starEach (e :: es) X.env=(false,eval e X.env) :: starEach es X.env:=by rfl):PAI X (e :: es) (tCons te ta):=by unfold PEI PAI at *;exact za0 ha hr hs
end
set_option maxHeartbeats 1000000
set_option maxHeartbeats 2000000
section
variable {X:Cx}{K:zby6}
end
section
variable {J:It}{n:Nat}{H1:Hp}{X:Nat->V->Hp->Prop}{g:TG}{tt:TT}{te:TE}{σ0:St}{Q:VK}
theorem zbb1(w:Wk J n H1 X)(hn:n<sizeLine)(Pv:Addr->Nat->List V->St->Hp->Prop)(h0:∀ acc H,H1 acc=none->Same H1 H->H acc=some (.lst [])->Pv acc 0 [] σ0 H)(hP:∀ acc i ys σ H H',Same H H'->Pv acc i ys σ H->Pv acc i ys σ H')(turn:∀ acc i x ys σ H (R:St->V->Hp->Prop) (S:St->Hp->Prop),i<n->H1 acc=none->Same H1 H->H acc=some (.lst ys)->X i x H->Pv acc i ys σ H ->
   (∀ σ2 v H5,Same H H5->(∀ H6,Chg acc H5 H6->Pv acc (i+1) (ys++[v]) σ2 H6)->R σ2 v H5)->(∀ σ2 H5,Same H H5->Pv acc (i+1) ys σ2 H5->S σ2 H5) ->
   g x σ H fun σ2 H3=>tt σ2 H3 fun b H4=>br b (te σ2 H4 fun v H5=>R σ2 v H5) (S σ2 H4))(fin:∀ acc ys σ H,H1 acc=none->Same H1 H->H acc=some (.lst ys)->Pv acc n ys σ H->Q (.ref acc) H):zae5 J g tt te σ0 H1 Q:=by
 unfold zae5
 intro acc H2 hf hs ha
 refine⟨fun i m ys σ H=>m=n - i/\i<=n/\ys.length<=i/\Same H1 H/\H acc=some (.lst ys)/\Pv acc i ys σ H,⟨n,by simp,zcg0 _,zca7 _,hs,ha,h0 acc H2 hf hs ha⟩,?_⟩
 rintro i m ys σ H ⟨rfl,hi,hl,s,hy,P⟩
 refine⟨hy,by omega,?_⟩
 by_cases hlt:i<n
 ·refine .inr ⟨w.go i H s hlt,fun x H' y=>?_⟩
  obtain⟨s1,x1⟩:=w.yld i H x H' s hlt y
  refine turn acc i x ys σ H' (fun σ2 v H5=>cPut _ acc ys i (n - i) σ2 v H5) (fun σ2 H4=>zaq7 _ ys i (n - i) σ2 H4) hlt hf (s.trans s1) (s1 _ _ hy) x1 (hP _ _ _ _ _ _ s1 P) ?_ ?_
  ·intro σ2 v H5 s5 q
   have s15:=s1.trans s5
   unfold cPut
   refine⟨s15 _ _ hy,fun H6 c6 h6=>⟨n - (i+1),by omega,rfl,hlt,by rw[zbz2];simp;omega,(s.trans s15).chg hf c6,h6,q H6 c6⟩⟩
  ·intro σ2 H5 s5 q
   have s15:=s1.trans s5
   unfold zaq7
   exact⟨n - (i+1),by omega,rfl,hlt,by omega,s.trans s15,s15 _ _ hy,q⟩
 ·have e:i=n:=by omega
  subst e
  exact .inl ⟨w.stop H s,fin acc ys σ H hf s hy P⟩
end
end L2
set_option maxHeartbeats 2000000
namespace L2
open PySem PySem.Spec PyProof.Rows
section
variable {X:Cx}{K:zby6}
@[irreducible] def rTupA(K:zby6)(p:Addr)(H:Hp)(Q:VK):Prop:=∃ ys,SqL K H p ys/\∀ l H',H l=none->Same H H'->H' l=some (.tup ys)->Q (.ref l) H'
def rTupM(K:zby6):List V->Hp->VK->Prop:=fun xs H Q=>match xs with
 | [.ref p]=>rTupA K p H Q
 | _=>False
theorem cTupK(hK:X.K=K):zj2 X (.type "tuple") (rTupM K):=fun pins s σ H xs us Q I r h=>by
 subst hK
 unfold rTupM at h
 split at h
 ·unfold rTupA at h
  obtain⟨ys,h1,h2⟩:=h
  exact zaf0 pins s σ H _ us Q I r ⟨_,ys,rfl,.inl ⟨h1,fun l hl=>h2 l _ hl (Same.upd hl) zb8⟩⟩
 ·exact h.elim
theorem zbo4{p:Addr}{H:Hp}{Q:VK}{ys:List V}(h:SqL K H p ys)(q:∀ l H',H l=none->Same H H'->H' l=some (.tup ys)->Q (.ref l) H'):rTupA K p H Q:=by unfold rTupA;exact⟨ys,h,q⟩
end
variable {H:Hp}{E Q:Value->Shared->Prop}{cpos np pos:Pos}{C D aH e ea:Addr}{dx:Option Addr}{te:TE}{s:Shared}{ep j m:Nat}{o:Obj}{es:Array (Int×Value)}
theorem Same.seqT{K:zby6}{H':Hp}{a:Addr}{xs:List V}(e:Same H H')(h:H a=some (.tup xs)):SqT K H' a xs:=SqT.of (e _ _ h)
theorem Wk.tup{K:zby6}{a:Addr}{xs:List V}{H1:Hp}(h:H1 a=some (.tup xs)):Wk (Itt K a) xs.length H1 fun i x _=>xs[i]?=some x:=
 ⟨fun i H s hi=>⟨xs,xs[i],Same.seqT s h,by simp[hi]⟩,fun H s=>⟨xs,Same.seqT s h,zca7 _⟩,fun i H x H' s _ y=>by
  obtain⟨e,y⟩:=y
  subst e
  exact⟨Same.refl _,y xs (Same.seqT s h)⟩⟩
set_option maxHeartbeats 4000000
section
variable {prog:Program}{w:World}{A:Around}{E:Value->Shared->Prop}{h:Heap}{g:Array GenState}{d:Drawn}{t:Nat}{os:OsState}
variable {nm q:Str}{C N:Addr}{bs bm bmB:List Value}{hdct:Bool}{sn:List Str}{sub:List Value}{ab:Bool}{col:Option Bool}{dd:Option Addr}{k0 k1 k2 k3 k5:Option Value}{B newId initId:String}{K:zby6}
theorem zab7(F:ExcBaseFacts B newId initId bmB)(T:OwnTail h bmB bm)(X:K.In h){rest:List Value}{fI:Addr}{Q:Fin->Shared->Prop}(hC:h.get? C=some (excClassObj nm q C N bs bm hdct sn sub ab col dd k0 k1 k2 k3 k5 newId))(hi:zcb2 K (.ref C) "__init__"=some (some (.ref fI)))(hf:zcb9 K (.ref fI)=some (.type "function"))(hq:∀ h' e,Heap.MadeExcOf h h' e (.ref C) rest->h.objs.size<=e->wpAny (model prog w) A (call (.ref fI) (.ref e :: rest)) (fun r s'=>r=.none/\Q (.done (.ret (.ref e))) s') E ⟨h',g,d,t,os⟩)(hrest:rest.length<=sizeLine) :
  wpAny (model prog w) A (Builtin.«type.__call__» ⟨.ref C :: rest,[]⟩) Q E ⟨h,g,d,t,os⟩:=by
 repeat (first|with_reducible refine wpAny_loadPart_at hC ?_|with_reducible refine wpAny_madeBy_exc hC ?_|wp_step)
 refine codeAny_call_builtin_code (Code.quiet_builtin _ F.quiet) (wpAny_check_new_subT F T hC ?_)
 refine codeAny_exc_new_subT F T hC ?_ hrest
 show wpAny _ _ _ _ _ _
 have kp:∀ b o,h.get? b=some o->((h.push { cls:=.type "tuple",data:=.seq rest.toArray }).push { cls:=.ref C,data:=.fields #[.ref h.objs.size,.none,.none,.none,.bool false,.none] }).get? b=some o:=fun b o e=>zbz8 _ (zbz8 _ e)
 have hC₁:=kp _ _ hC
 have X₁:=X.keeps kp
 have hget:((h.push { cls:=.type "tuple",data:=.seq rest.toArray }).push
   { cls:=.ref C,data:=.fields #[.ref h.objs.size,.none,.none,.none,.bool false,.none] }).get? (h.objs.size+1)=some
   { cls:=.ref C,data:=.fields #[.ref h.objs.size,.none,.none,.none,.bool false,.none] }:=by heap_get
 have hcC:(Value.ref C :: bm).contains (.ref C)=true:=by simp
 unfold isInstance
 repeat (first|with_reducible refine wpAny_loadPart_at hget ?_|(with_reducible refine wpAny_isSubtype_exc hC₁ ?_;rw[hcC])|wp_step)
 show wpAny _ _ (typeLookup (.ref C) _) _ _ _
 refine (PySem.W.looks_findIn X₁ hi).at ?_
 refine zci3 (zch8 ((PySem.W.bind_fn X₁ _ hf).at ?_))
 refine zch8 (wpAny_mono (hq _ (h.objs.size+1) ⟨kp,Heap.get?_none_of_le (Nat.le_succ _),h.objs.size,hget,Heap.get?_none_of_le (zca7 _),?_⟩ (Nat.le_succ _)) (fun r s' hr=>?_) fun _ _ x=>x)
 ·exact zbz8 _ (Heap.get?_push_at rfl rfl)
 ·obtain⟨rfl,hQ⟩:=hr
  wp_walk
  exact hQ
theorem zak8(F:ExcBaseFacts B newId initId bmB)(T:OwnTail h bmB bm)(X:K.In h){rest:List Value}{fI:Addr}(hC:h.get? C=some (excClassObj nm q C N bs bm hdct sn sub ab col dd k0 k1 k2 k3 k5 newId))(hi:zcb2 K (.ref C) "__init__"=some (some (.ref fI)))(hf:zcb9 K (.ref fI)=some (.type "function"))(hq:∀ h' e,Heap.MadeExcOf h h' e (.ref C) rest->h.objs.size<=e ->
   wpAny (model prog w) (A.under (.builtin "type.__call__" ⟨.ref C :: rest,[]⟩)) (call (.ref fI) (.ref e :: rest)) (fun r s'=>r=.none/\Q (.ref e) s') E ⟨h',g,d,t,os⟩)(hrest:rest.length<=sizeLine) :
  wpAny (model prog w) A (call (.ref C) rest) Q E ⟨h,g,d,t,os⟩:=by
 have f1:=tc_lookup
 have f2:=tc_bind (.ref C)
 have hT:(⟨h,g,d,t,os⟩:Shared).TypeIs (.ref C) "type":=⟨_,hC,rfl⟩
 refine wpAny_call (codeAny_of_tree ?_)
 show wpAny _ _ (callAny (.ref C) _) _ _ _
 repeat (any_goals (first|assumption|with_reducible refine wpAny_loadPart_at hC ?_|wp_step))
 refine⟨rfl,?_⟩
 refine codeAny_call_builtin_at (Code.quiet_builtin _ (by decide +kernel)) entry_typeCall (wpAny_check_type_call_sub hC (zab7 (hrest:=hrest) F T X hC hi hf fun h' e hm hz=>?_))
 exact hq h' e hm hz
end
section
variable {prog:Program}{w:World}{A:Around}{E:Value->Shared->Prop}{s:Shared}{env:Env}
variable {nm q:Str}{C N:Addr}{bs bm bmB:List Value}{hdct:Bool}{sn:List Str}{sub:List Value}{ab:Bool}{col:Option Bool}{dd:Option Addr}{k0 k1 k2 k3 k5:Option Value}{B newId initId:String}{K:zby6}
theorem zo7{M:Model}{x:Sem Value}{Q:Flow->Shared->Prop}(hbase:bm.contains (.type "BaseException")=true)(hh:A.handled=none)(h:wpAny M A x (fun v s₁=>∃ (e t:Addr) (dx:Option Addr),v=.ref e/\s₁.heap.get? C=some (excClassObj nm q C N bs bm hdct sn sub ab col dd k0 k1 k2 k3 k5 newId)/\s₁.heap.get? e=some { cls:=.ref C,dict:=dx,data:=.fields #[.ref t,.none,.none,.none,.bool false,.none] }/\E (.ref e) s₁) E s) :
  wpAny M A (raiseStmt env (some x) none) Q E s:=by
 have hcB:(Value.ref C :: bm).contains (.type "BaseException")=true:=by rw[List.contains_cons,hbase,Bool.or_true]
 unfold raiseStmt
 refine zch8 (wpAny_mono h (fun v s₁ h₁=>?_) fun _ _ x=>x)
 obtain⟨e,t,dx,rfl,hC,he,hE⟩:=h₁
 obtain⟨hp,g,d,tk,os⟩:=s₁
 repeat (first|with_reducible refine wpAny_loadPart_at he ?_|with_reducible refine wpAny_loadPart_at hC ?_|(with_reducible refine wpAny_isSubtype_exc hC ?_;rw[hcB])|wp_step)
 exact wpAny_raiseNew_none hh hE
theorem zay1(F:ExcBaseFacts B newId initId bmB){x:Str}{args:List Expr}{fI:Addr}{Q:Flow->Shared->Prop}(hbase:bm.contains (.type "BaseException")=true)(hh:A.handled=none)(hplain:(backTo cpos (starEach args env)).any (·.1)=false)(hi:zcb2 K (.ref C) "__init__"=some (some (.ref fI)))(hf:zcb9 K (.ref fI)=some (.type "function"))(h:wpAny (model prog w) A (eval (.Name x np) env) (fun f s₁=>f=.ref C/\wpAny (model prog w) A (evalArgs (.ref C) true (backTo cpos (starEach args env)) [])
   (fun a s₂=>a.kw=[]/\a.pos.length<=sizeLine/\s₂.heap.get? C=some (excClassObj nm q C N bs bm hdct sn sub ab col dd k0 k1 k2 k3 k5 newId)/\K.In s₂.heap/\OwnTail s₂.heap bmB bm /\
    ∀ h' e,Heap.MadeExcOf s₂.heap h' e (.ref C) a.pos->s₂.heap.objs.size<=e->wpAny (model prog w) (A.under (.builtin "type.__call__" ⟨.ref C :: a.pos,[]⟩)) (call (.ref fI) (.ref e :: a.pos))
     (fun r s'=>r=.none/\(∃ (t:Addr) (dx:Option Addr),s'.heap.get? e=some { cls:=.ref C,dict:=dx,data:=.fields #[.ref t,.none,.none,.none,.bool false,.none] })/\s'.heap.get? C=some (excClassObj nm q C N bs bm hdct sn sub ab col dd k0 k1 k2 k3 k5 newId)/\E (.ref e) s') E { s₂ with heap:=h' }) E s₁) E s) :
  wpAny (model prog w) A (exec (.Raise (some (.Call (.Name x np) args [] cpos)) none pos) env) Q E s:=by
 rw[arm_exec_Raise]
 first
  | refine zch8 (wpAny_standAt (zo7 (C:=C) (nm:=nm) (q:=q) (N:=N) (bs:=bs) (bm:=bm) (hdct:=hdct) (sn:=sn) (sub:=sub) (ab:=ab) (col:=col) (dd:=dd) (k0:=k0) (k1:=k1) (k2:=k2) (k3:=k3) (k5:=k5) (newId:=newId) hbase hh (zch8 (wpAny_mono (wpAny_Call_ofName (wpAny_mono h (fun f s₁ h₁=>?_) fun _ _ x=>x)) (fun v s₃ h₃=>zch8 (wpAny_standAt (zch9 h₃))) fun _ _ x=>x))))
  | (simp only[evalOpt,Option.map];refine zch8 (wpAny_standAt (zo7 (C:=C) (nm:=nm) (q:=q) (N:=N) (bs:=bs) (bm:=bm) (hdct:=hdct) (sn:=sn) (sub:=sub) (ab:=ab) (col:=col) (dd:=dd) (k0:=k0) (k1:=k1) (k2:=k2) (k3:=k3) (k5:=k5) (newId:=newId) hbase hh (zch8 (wpAny_mono (wpAny_Call_ofName (wpAny_mono h (fun f s₁ h₁=>?_) fun _ _ x=>x)) (fun v s₃ h₃=>zch8 (wpAny_standAt (zch9 h₃))) fun _ _ x=>x)))))
 obtain⟨rfl,h₁⟩:=h₁
 unfold callWith
 refine zch8 (zci3 (wpAny_mono h₁ (fun a s₂ h₂=>zch8 (wpAny_standAt ?_)) fun _ _ x=>x))
 obtain⟨apos,akw⟩:=a
 obtain⟨hkw,hlen,hC,hX,T,h₂⟩:=h₂
 obtain rfl:akw=[]:=hkw
 obtain⟨hp,g,d,tk,os⟩:=s₂
 simp only[hplain]
 refine zch8 (wpAny_keeperOf_exc hC ?_)
 refine zch8 (zak8 (hrest:=hlen) F T hX hC hi hf fun h' e hm hz=>wpAny_mono (h₂ h' e hm hz) (fun r s' hr=>⟨hr.1,zch8 (zci3 (wpAny_point (zch9 ?_)))⟩) fun _ _ z=>z)
 obtain⟨_,⟨t,dx,ho⟩,hC',hE⟩:=hr
 exact⟨e,t,dx,rfl,hC',ho,hE⟩
end
section
open PySem.W
variable {prog:Program}{w:World}{A:Around}{E:Value->Shared->Prop}{s:Shared}{K:Frag}
theorem zbq2{x:Addr}{ox:Obj}{vs:Array Value}{name:Str}{v:Value}{cd:ClassData}{Q:Unit->Shared->Prop}(X:K.In s.heap)(hx:s.heap.get? x=some ox)(hc:ox.cls=.ref C)(hdx:ox.dict=none)(hd:ox.data=.fields vs)(hs:findIn K (.ref C) "__setattr__"=some (some (.builtin "object.__setattr__")))(hcd:clsIn K C=some cd)(hmro:cd.mro=.ref C :: .ref aH :: bmV)(hh:cd.hasDict=true)(hn:findIn K (.ref C) name=some none)(hq:∀ h' tk',h'.get? x=some { ox with dict:=some s.heap.objs.size }->h'.Ns1 s.heap.objs.size (fun y=>if y=name then some v else none)->(∀ b o,b≠x->s.heap.get? b=some o->h'.get? b=some o)->Q () { s with heap:=h',toks:=tk' }) :
  wpAny (model prog w) A (setAttr (.ref x) name v) Q E s:=by
 have I:InstAt s.heap x ox C none:=⟨hx,hc,by unfold notCls;rw[hd],by rw[hdx];trivial⟩
 refine set_plain X I hs ?_
 have SF:=PySem.F.store_object
 have hm:Looks (model prog w) s.heap (mroOf (.ref C)) cd.mro:=(looks_clsIn X hcd).andThen .now
 have ty:=I.type (M:=model prog w)
 have sub:Looks (model prog w) s.heap (isInstance (.ref x) (.type "object")) true:=ty.andThen (looks_mroIn X (by unfold mroIn;rw[hcd,Option.bind_some,hmro];rfl))
 refine codeAny_call_builtin SF.slot.plain SF.entry (@check_slot (model prog w) _ _ { s with toks:=s.toks+1 } "object.__setattr__" "object" "__setattr__" (.ref x) [.str name s.toks,v] [] _ SF.kind SF.split sub (SF.args (.ref x) (.str name s.toks) v) ?_)
 rw[osa_eq,refuse_eq]
 refine zch8 (zch8 (ty.here (s:={ s with toks:=s.toks+1 }) (zch8 (hm.here (s:={ s with toks:=s.toks+1 }) ?_))))
 rw[hmro,refuseLoop_ref,refuseLoop_ref,PySem.F.store_ValueError.passes]
 refine zch9 (zch8 (ty.here (s:={ s with toks:=s.toks+1 }) (zch8 ((looks_findIn X hn).here (s:={ s with toks:=s.toks+1 }) (zch8 (zch9 ?_))))))
 have hxs:x≠s.heap.objs.size:=zcc8 (zca3 hx)
 have hx₁:(s.heap.push { cls:=.type "dict",data:=.dict #[] }).get? x=some ox:=zbz8 _ hx
 show wpAny _ _ (Builtin.ObjectAttr.storeInOwnDict (.ref x) (.ref C) (.str name s.toks) name v false) _ _ _
 unfold Builtin.ObjectAttr.storeInOwnDict Builtin.ObjectAttr.ownDictForStores instanceDict
 refine zch8 (zch9 (zch8 (zch8 (wpAny_loadPart (s:={ s with toks:=s.toks+1 }) hx ?_))))
 rw[hc]
 refine zch8 ((looks_clsIn X hcd).here (s:={ s with toks:=s.toks+1 }) ?_)
 rw[hh]
 dsimp only
 rw[hdx,if_neg (by decide)]
 dsimp only
 rw[if_neg (by simp[typeHasDict]),hd]
 dsimp only
 refine zch8 (wpAny_alloc' ?_)
 refine zch8 (wpAny_update' hx₁ ?_)
 refine zch9 ?_
 have hgd:((s.heap.push { cls:=.type "dict",data:=.dict #[] }).update x fun o=>{ cls:=o.cls,dict:=some s.heap.objs.size,data:=o.data,slots:=o.slots }).get? s.heap.objs.size=some { cls:=.type "dict",data:=.dict #[] }:=
  (Heap.get?_update_ne _ _ _ _ hxs.symm).trans (Heap.get?_push_at rfl rfl)
 have hnd:((s.heap.push { cls:=.type "dict",data:=.dict #[] }).update x fun o=>{ cls:=o.cls,dict:=some s.heap.objs.size,data:=o.data,slots:=o.slots }).Ns s.heap.objs.size (fun _=>none):=
  ⟨_,#[],_,hgd,rfl,fun e he=>absurd he (by simp),fun _=>rfl⟩
 show wpAny _ _ (Builtin.ObjectAttr.storeInDict s.heap.objs.size (.str name s.toks) name v) _ _ _
 unfold Builtin.ObjectAttr.storeInDict Builtin.ObjectAttr.newKeyGuard
 refine zch8 (zch9 (zch8 (wpAny_nsSet1 (Heap.Ns1.of_empty hnd) fun h' hn' hs=>?_)))
 obtain⟨oD,esD,epD,hoD,hdD,hcD⟩:=hn'.count (Within.cons name v Within.nil)
 refine zch8 (wpAny_lookBehind hoD (by rw[hdD];exact pastItsLine_dict (zcc5 hcD (by rw[zca2,zcd1,zci0];omega))) ?_)
 refine zch9 (hq h' _ ?_ hn' (fun b ob hbx hb=>?_))
 ·refine (hs.2 x hxs).trans (zcc0 _ hx₁ ?_)
  have hfr:=(Heap.get?_some_iff.mp hx).2
  obtain⟨oc,od,odt,osl⟩:=ox
  cases odt<;>first|rfl|exact hfr
 ·exact (hs.2 b (zcc8 (zca3 hb))).trans ((Heap.get?_update_ne _ _ _ _ hbx).trans (zbz8 _ hb))
end
def ExNew(e:Addr)(cls:Value)(dx:Option Addr)(h:Heap):Prop:=∃ t:Addr,h.get? e=some { cls:=cls,dict:=dx,data:=.fields #[.ref t,.none,.none,.none,.bool false,.none] }
abbrev exN(e:Addr)(cls:Value)(dx:Option Addr):HO:=.ext (ExNew e cls dx)
theorem zbe9{P:Program}{w:World}{h:Heap}{cls:Value}(x:ExNew e cls dx h):zf7 P w H h e (exN e cls dx):=by
 obtain⟨t,ht⟩:=id x
 exact⟨x,⟨_,ht⟩,fun h1 h2 ⟨t',e1⟩ k=>⟨t',k _ e1⟩⟩
structure IniK(K:zby6)(C aH f:Addr)(fld:Str):Prop where
 ob:∃ (nm q:Str) (N:Addr) (bs:List Value) (sn:List Str) (sub:List Value) (ab:Bool) (col:Option Bool) (dd:Option Addr) (k0 k1 k2 k3 k5:Option Value),K.lookup C=some (excClassObj nm q C N bs (.ref aH :: bmV) true sn sub ab col dd k0 k1 k2 k3 k5 newV)
 tl:∀ h:Heap,K.In h->OwnTail h bmV (.ref aH :: bmV)
 init:zcb2 K (.ref C) "__init__"=some (some (.ref f))
 fn:zcb9 K (.ref f)=some (.type "function")
 sa:zcb2 K (.ref C) "__setattr__"=some (some (.builtin "object.__setattr__"))
 nf:zcb2 K (.ref C) fld=some none
section
variable {X:Cx}{K:zby6}
@[irreducible] def rSetX(C:Addr)(fld:Str)(e:Addr)(y:V)(H:Hp)(R:Hp->Prop):Prop:=H e=some (exN e (.ref C) none)/\∀ d H',H d=none->d≠e->Chg e H H'->H' e=some (exN e (.ref C) (some d))->H' d=some (.xd [(fld,y)])->R H'
def sFldX(C:Addr)(fld:Str)(ta tv:TE):TS:=fun D σ H=>tv σ H fun y H1=>ta σ H1 fun x H2=>match x with
 | .ref e=>rSetX C fld e y H2 (fun H'=>D.nx σ H')
 | _=>False
theorem zao7{fld:Str}{y:V}{R:Hp->Prop}(h:H e=some (exN e (.ref C) none))(q:∀ d H',H d=none->d≠e->Chg e H H'->H' e=some (exN e (.ref C) (some d))->H' d=some (.xd [(fld,y)])->R H'):rSetX C fld e y H R:=by unfold rSetX;exact⟨h,q⟩
theorem zbc3{f:Addr}{fld:Str}{o value:Expr}{ta tv:TE}{pos':Pos}(hK:X.K=K)(Z:IniK K C aH f fld)(ha:PE X o ta)(hv:PE X value tv)(hs:swapsWith value (some (.Attribute o fld pos')) pos.line X.env=pure false:=by rfl):PS X (.Assign [.Attribute o fld pos'] value pos) (sFldX C fld ta tv):=by
 subst hK
 intro pins s σ H D I h
 refine plainObj_wpAny_Assign_Attribute (thn (hv pins s σ H _ I h) fun u s1 ⟨y,H1,I1,ry,q⟩=>thn (ha pins s1 σ H1 _ I1 q) fun ov s2 ⟨x,H2,I2,rx,q2⟩=>?_) hs
 dsimp only at q2
 split at q2
 case h_2=>exact q2.elim
 rename_i e
 obtain rfl:ov=Value.ref e:=rx
 unfold rSetX at q2
 obtain⟨he,q2⟩:=q2
 obtain⟨⟨t,ht⟩,_,_⟩:=(show zf7 X.prog X.w H2 s2.heap e (exN e (.ref C) none) from I2.hok e _ he)
 obtain⟨nm,qn,N,bs,sn,sub,ab,col,dd,k0,k1,k2,k3,k5,lk⟩:=Z.ob
 have hcd:zcb5 X.K C=some { name:=nm,bases:=bs,mro:=Value.ref C :: .ref aH :: bmV,ns:=N,qualname:=qn,hasDict:=true,slotNames:=sn,subclasses:=sub,abstract:=ab,collection:=col }:=by
  unfold zcb5;rw[lk]
 refine zbq2 I2.kIn ht rfl rfl rfl Z.sa hcd rfl rfl Z.nf fun h' tk' hx' hn' hk=>?_
 have hf:H2 s2.heap.objs.size=none:=I2.hok.fresh (zca7 _)
 have hne:s2.heap.objs.size≠e:=zch7 (zca3 ht)
 have e1:(h'.update e fun _=>{ cls:=.ref C,data:=.fields #[.ref t,.none,.none,.none,.bool false,.none] }).get? e=some { cls:=.ref C,data:=.fields #[.ref t,.none,.none,.none,.bool false,.none] }:=zcc0 _ hx' rfl
 have k1:∀ b u,s2.heap.get? b=some u->(h'.update e fun _=>{ cls:=.ref C,data:=.fields #[.ref t,.none,.none,.none,.bool false,.none] }).get? b=some u:=fun b u hb=>by
  by_cases hbe:b=e
  ·subst hbe
   rw[e1];exact ht.symm.trans hb
  ·rw[zca1 _ _ (Ne.symm hbe)];exact hk b u hbe hb
 have I3:=I2.laid (a:=s2.heap.objs.size) (o:=.xd [(fld,y)]) (h':=h'.update e fun _=>{ cls:=.ref C,data:=.fields #[.ref t,.none,.none,.none,.bool false,.none] }) (t':=tk') k1 (zca7 _)
  ⟨_,hn'.at (fun o q=>by rw[zca1 _ _ (Ne.symm hne)];exact q),fun g=>by
   by_cases hg:g=fld
   ·subst hg
    have hb:(g==g)=true:=by simp
    show RelO (List.lookup g [(g,y)]) (if g=g then some u else none)
    rw[if_pos rfl,show List.lookup g [(g,y)]=some y by simp only[List.lookup,hb]];exact ry
   ·have hb:(g==fld)=false:=beq_eq_false_iff_ne.mpr hg
    show RelO (List.lookup g [(fld,y)]) (if g=fld then some u else none)
    rw[if_neg hg,show List.lookup g [(fld,y)]=none by simp only[List.lookup,hb]];exact True.intro⟩
 have heu:upd H2 s2.heap.objs.size (.xd [(fld,y)]) e=some (exN e (.ref C) none):=by rw[zb0 (Ne.symm hne)];exact he
 have I4:=I3.write (x:=e) (e:=e) (o:=exN e (.ref C) (some s2.heap.objs.size)) (h':=h') (t':=tk') (by rw[heu];exact True.intro) (.inl rfl) (fun b u hb z=>by
  have z:(h'.update e fun _=>{ cls:=.ref C,data:=.fields #[.ref t,.none,.none,.none,.bool false,.none] }).get? b=some u:=z
  rw[zca1 _ _ (Ne.symm hb)] at z;exact z) ⟨_,hx'⟩ (zbe9 ⟨t,hx'⟩)
 exact⟨σ,_,I4,q2 _ _ hf hne (fun b o hb z=>by rw[zb0 hb,zb0 (za4 z hf)];exact z) zb8 (by rw[zb0 hne,zb8])⟩
@[irreducible] def zi3(C:Addr)(fld:Str):Sp:=fun vs H Q _=>∃ (e:Addr) (v:V),vs=[.ref e,v]/\H e=some (exN e (.ref C) none)/\∀ d H',H d=none->d≠e->Chg e H H'->H' e=some (exN e (.ref C) (some d))->H' d=some (.xd [(fld,v)])->Q .non H'
def hid(e:Addr)(H:Hp):Hp:=fun b=>if b=e then none else H b
theorem zo5{b:Addr}(h:b≠e):hid e H b=H b:=by unfold hid;rw[if_neg h]
theorem zbb6:hid e H e=none:=by unfold hid;rw[if_pos rfl]
theorem hid_of{b:Addr}{o:HO}(h:hid e H b=some o):b≠e/\H b=some o:=by
 by_cases z:b=e
 ·subst z;rw[zbb6] at h;cases h
 ·rw[zo5 z] at h;exact⟨z,h⟩
theorem zw2{b:Addr}(h:H b=none):hid e H b=none:=by
 by_cases z:b=e
 ·subst z;exact zbb6
 ·rw[zo5 z];exact h
section
variable {pins:List (Addr×Obj)}{σ:St}{H:Hp}{s:Shared}{e:Addr}{φ:Heap->Prop}
theorem HOk.hid{P:Program}{w:World}{h h':Heap}(x:HOk P w H h)(he:H e=some (.ext φ))(k:∀ b u,b≠e->(∃ o,H b=some o)->h.get? b=some u->h'.get? b=some u):HOk P w (L2.hid e H) h':=fun a o ha=>by
 obtain⟨hne,ha⟩:=hid_of ha
 have n1:∀ b,H b=some (.own a)->b≠e:=fun b hb z=>by rw[z,he] at hb;cases hb
 refine (x a o ha).stay (fun b u hb hu=>?_) (fun b hb=>by rw[zo5 (n1 b hb)];exact hb) fun b xs hb=>by
  rw[zo5 fun z=>by rw[z,he] at hb;cases hb];exact hb
 rcases hb with rfl|hb
 ·exact k _ _ hne ⟨_,ha⟩ hu
 ·exact k _ _ (n1 b hb) ⟨_,hb⟩ hu
theorem Inv.hid(I:Inv X pins σ H s)(he:H e=some (.ext φ)):Inv X pins σ (L2.hid e H) s:=by
 refine⟨I.ok,I.os,I.bare,⟨I.base.keep,I.base.slot,fun b o h1 h2 h3=>zw2 (I.base.free b o h1 h2 h3),I.base.there,fun b xs q=>?_,fun b o u q=>?_,fun b ps q=>?_⟩,I.loc,I.cell,zw2 I.free,fun x c h=>zw2 (I.freeC x c h),fun p hp=>?_,I.hok.hid he fun _ _ _ _ h=>h,I.len⟩
 ·have z:=I.base.tups b xs q
  rw[zo5 fun y=>by rw[y,he] at z;cases z];exact z
 ·have z:=I.base.frzs b o u q
  rw[zo5 fun y=>by rw[y,he] at z;cases z];exact z
 ·obtain⟨more,z⟩:=I.base.tbls b ps q
  exact⟨more,by rw[zo5 fun y=>by rw[y,he] at z;cases z];exact z⟩
 ·obtain⟨a1,a2,a3,a4,a5⟩:=I.pin p hp
  exact⟨a1,zw2 a2,a3,a4,a5⟩
theorem zl6.of_init{cls:Value}(I:Inv X pins σ H s)(he:H e=some (exN e cls dx))(hen:∀ o,X.s₀.heap.get? e=some o->e∈X.ex):zl6 X pins σ (L2.hid e H) (PySem.W.hideAll s.heap (e :: frs X.stack)) e cls dx s:=by
 obtain⟨⟨t,ht⟩,_,_⟩:=(show zf7 X.prog X.w H s.heap e (exN e cls dx) from I.hok e _ he)
 refine⟨I.hid he,I.hok.hid he fun b u hb hh hu=>zch5 _ hu ?_,⟨fun b o hb=>PySem.W.of_hideAll _ hb,?_,?_,?_⟩,fun b o e0 n h1 h2=>?_,hen⟩
 ·intro hm
  obtain⟨o,hh⟩:=hh
  rcases zbz4.mp hm with z|hm
  ·exact hb z
  ·rw[I.stkFree b hm] at hh;cases hh
 ·exact PySem.W.hideAll_none _ zcb8
 ·refine PySem.W.funFrames_hide I.stack fun env hv a hf=>?_
  exact zcb6 _ (List.mem_filterMap.mpr ⟨env,hv,hf⟩)
 ·exact⟨_,_,ht,rfl,rfl,rfl,by simp,.inl rfl,.inl rfl⟩
 ·refine zch5 _ (I.base.keep b o e0 n h1 h2) fun hm=>?_
  rcases zbz4.mp hm with rfl|hm
  ·exact h2 (hen _ e0)
  ·exact zt1 I e0 h1 hm
end
@[irreducible] def zg8(C:Addr)(fld:Str)(E:XK)(v:V)(H:Hp):Prop:=∀ d H',H d=none->Same H H'->H' d=some (.xd [(fld,v)])->E (.ref C) (some d) H'
def zbc5(C:Addr)(fld:Str)(E:XK)(t:TE):TS:=fun _ σ H=>t σ H fun v H1=>zg8 C fld E v H1
theorem ze8{fld:Str}{E:XK}{v:V}(q:∀ d H',H d=none->Same H H'->H' d=some (.xd [(fld,v)])->E (.ref C) (some d) H'):zg8 C fld E v H:=by unfold zg8;exact q
theorem zbh6{f:Addr}{fld pn x:Str}{fd:FuncData}{k:Nat}{E:XK}{e₀:Expr}(Z:IniK X.K C aH f fld)(hm:X.mg x=some (.ref C))(Fi:FnOk X.prog X.w X.K X.mg X.base CX0 k f fd ["self",pn] (zi3 C fld))(hb:zaa2 X.K fd ["self",pn] [])(hr:Room (k+1) X.A)(hc:X.calm=true)(hout:XOut X E)(he0:PE X e₀ te)(hg:Gl X x:=by rfl)(hd:(x==("__debug__":Str))=false:=by decide)(he:starEach [e₀] X.env=(false,eval e₀ X.env) :: starEach [] X.env:=by rfl)(hpl:(backTo cpos (starEach [] X.env)).any (·.1)=false:=by rfl) :
  PS X (.Raise (some (.Call (.Name x np) [e₀] [] cpos)) none pos) (zbc5 C fld E te):=by
 intro pins s σ H D I h
 obtain⟨nm,qn,N,bs,sn,sub,ab,col,dd,k0,k1,k2,k3,k5,lk⟩:=Z.ob
 refine zay1 (K:=X.K) (C:=C) (nm:=nm) (q:=qn) (N:=N) (bs:=bs) (bm:=.ref aH :: bmV) (hdct:=true) (sn:=sn) (sub:=sub) (ab:=ab) (col:=col) (dd:=dd) (k0:=k0) (k1:=k1) (k2:=k2) (k3:=k3) (k5:=k5) PySem.F.excBase_ValueError
  (by rw[List.contains_cons,show List.contains bmV (Value.type "BaseException")=true by decide +kernel,Bool.or_true]) (I.ok.hd hc) (by rw[he];show (false || (backTo cpos (starEach [] X.env)).any (·.1))=false;rw[hpl];rfl) Z.init Z.fn (zl3 I hg hm ⟨rfl,?_⟩ hd)
 have hA:=za0 he0 (za1) he cpos pins s σ H (fun vs H1=>∃ v,vs=[v]/\zg8 C fld E v H1) I (by
  show te σ H fun v H1=>∃ v',[v]=[v']/\zg8 C fld E v' H1
  have e:(fun (v:V) (H1:Hp)=>∃ v',[v]=[v']/\zg8 C fld E v' H1)=fun v H1=>zg8 C fld E v H1:=by
   funext v H1
   apply propext
   exact⟨fun ⟨v',e1,e2⟩=>by cases e1;exact e2,fun e2=>⟨v,rfl,e2⟩⟩
  rw[e];exact h)
 rw[he] at hA ⊢
 refine Calls.evalArgs_plain (thn hA fun us s2 ⟨vs,H1,I1,r,v,ev,q⟩=>?_)
 subst ev
 obtain⟨u,rfl,ru⟩:=r.one
 refine⟨rfl,by show 1<=sizeLine;decide,I1.kIn _ _ lk,I1.kIn,Z.tl _ I1.kIn,fun h' e m hz=>?_⟩
 obtain⟨t,ht,_,_⟩:=m.there
 have hfe:H1 e=none:=I1.hok.fresh hz
 have I2:=I1.laid (a:=e) (o:=exN e (.ref C) none) (h':=h') (t':=s2.toks) m.keeps hz (zbe9 ⟨t,ht⟩)
 have hsp:zi3 C fld [.ref e,v] (upd H1 e (exN e (.ref C) none)) (fun w H'=>w=.non/\∃ d,H1 d=none/\d≠e/\Chg e (upd H1 e (exN e (.ref C) none)) H'/\H' e=some (exN e (.ref C) (some d))/\H' d=some (.xd [(fld,v)])) E:=by
  unfold zi3
  refine⟨e,v,rfl,zb8,fun d H' hd hne hch h1 h2=>⟨rfl,d,?_,hne,hch,h1,h2⟩⟩
  rw[zb0 hne] at hd;exact hd
 refine wpAny_call (codeAny_mono (Fi.run _ X.stack _ _ ⟨[.ref e,u],[]⟩ [.ref e,u] [.ref e,v] _ _ (hr.make C [u] []) (I2.env0.make C [u] []) (hb _ [.ref e,u] I2.kIn rfl) (.cons rfl (.cons ru .nil)) hsp) fun r s' hq'=>?_)
 cases r with
 | error e=>exact False.elim hq'
 | ok fl=>
  cases fl with
  | ret u'=>
   obtain⟨v',H3,I3,rv,rfl,d,hd1,hd2,hch,h3,h4⟩:=I2.after hq'
   cases (show u'=Value.none from rv)
   obtain⟨⟨t',ht'⟩,_,_⟩:=(show zf7 X.prog X.w H3 s'.heap e (exN e (.ref C) (some d)) from I3.hok e _ h3)
   refine⟨rfl,⟨t',some d,ht'⟩,I3.kIn _ _ lk,?_⟩
   have hen:∀ o,X.s₀.heap.get? e=some o->e∈X.ex:=fun o z=>by
    apply Classical.byContradiction
    intro hx
    obtain⟨o',k⟩:=I1.base.there e o z hx
    rw[m.new] at k
    cases k
   unfold zg8 at q
   refine hout _ _ _ _ _ _ _ _ (zl6.of_init I3 h3 hen) (q d _ hd1 (fun b o hb=>?_) (by rw[zo5 hd2];exact h4))
   have nb:=za4 hb hfe
   rw[zo5 nb]
   exact hch b o nb (by rw[zb0 nb];exact hb)
  | next=>exact False.elim hq'
  | brk=>exact False.elim hq'
  | cont=>exact False.elim hq'
end
def zbm4(e D d:Addr)(h:Heap):Prop:=ExcIs e (.ref D) (some d) h/\∃ od,h.get? d=some od
section
open PySem.W PySem.Calls
theorem zaw3{prog:Program}{w:World}{A:Around}{K:Frag}{dx:Addr}{h:Heap}{g d t os}{Q:Option Value->Shared->Prop}(X:K.In h)(x:zbm4 e D dx h)(k:ExcK K D)(hq:Q (some (.ref D)) ⟨h,g,d,t+1,os⟩):wpAny (model prog w) A (getAttr? (.ref e) "__class__") Q E ⟨h,g,d,t,os⟩:=by
 obtain⟨⟨oe,vs,he,hc,hdx,hd⟩,od,hod⟩:=x
 obtain⟨h1,h2,h3,h4,h5⟩:=k
 have L0:Looks (model prog w) h (typeOf (.ref e)) (.ref D):=hc▸(Looks.ld he).andThen .now
 have L1:=looks_findIn (M:=model prog w) X h1
 have L2:=looks_findIn (M:=model prog w) X h2
 have L3:=looks_findIn (M:=model prog w) X h3
 have hx:(onTheHeap (Value.ref D)&&Value.builtin "BaseException.__getattribute__"==Value.builtin "object.__getattribute__")=false:=by
  have z:(Value.builtin "BaseException.__getattribute__"==Value.builtin "object.__getattribute__")=false:=by decide +kernel
  rw[z];rfl
 have I:InstAt h e oe D (some od):=⟨he,hc,by unfold notCls;rw[hd],by rw[hdx];exact hod⟩
 have L4:Looks (model prog w) h (isInstance (.ref e) (.type "BaseException")) true:=L0.andThen (looks_subIn X h4)
 have FB:=PySem.F.attrBase_ValueError
 have f3:=FB.ga.bind (.ref e)
 have kd:builtinKind "BaseException.__getattribute__"=some .slot:=by decide +kernel
 have sid:splitId "BaseException.__getattribute__"=some ("BaseException","__getattribute__"):=by decide +kernel
 have aok:=PySem.F.args_bexc_ga (.ref e) (.str "__class__" t)
 have f5:=KF.type_class
 have f6:=PySem.F.slot_gs_get.lookup
 have f7:=PySem.F.slot_gs_set.lookup
 unfold getAttr? getAttrBy? getAttrBy
 refine zch8 (wpAny_mkText (zch8 (wpAny_attempt (zci3 (zch8 (L0.at (zch8 (L1.at ?_))))))))
 dsimp only
 rw[if_neg (by rw[hx];decide)]
 unfold getAttrByItsOwn hookBefore
 repeat (any_goals (first|assumption|with_reducible refine L0.at ?_|with_reducible refine L1.at ?_|with_reducible refine L2.at ?_|with_reducible refine L3.at ?_|wp_step))
 refine codeAny_call_builtin FB.ga.plain PySem.F.entry_bexc_ga ?_
 simp only[checkBuiltinCall,kd,sid]
 refine zch8 (L4.at ?_)
 repeat (any_goals (first|assumption|with_reducible refine L0.at ?_|with_reducible refine L1.at ?_|with_reducible refine L2.at ?_|with_reducible refine L3.at ?_|wp_step))
 refine class_get (ox:=oe) (od:=some od) X I h5 ?_
 repeat (any_goals (first|assumption|wp_step))
theorem zbf0{K:Frag}{dx:Addr}(k:ExcK K D)(hcl:(clsIn K D).isSome=true):KitX K (.ref e) (.ref D) (zbm4 e D dx) where
 ty:=fun M h _ p=>by
  obtain⟨⟨oe,vs,he,hc,_⟩,_⟩:=p
  exact hc▸(Looks.ld he).andThen .now
 it:=fun M h X p=>by
  obtain⟨cd,hcd⟩:=zcf0.mp hcl
  unfold clsIn at hcd
  split at hcd
  ·rename_i ho
   intro A' Q' E' s' kk q
   unfold isType loadHead
   exact zch8 (wpAny_loadPart (kk _ _ (X _ _ ho)) (zch9 q))
  ·cases hcd
 ne:=fun h tp dd its n sl X htp=>by
  refine Bool.eq_false_iff.mpr fun q=>?_
  have z:D=tp:=Value.ref.inj (beq_iff_eq.mp q)
  subst z
  obtain⟨cd,hcd⟩:=zcf0.mp hcl
  unfold clsIn at hcd
  split at hcd
  ·rename_i ho
   cases (X _ _ ho).symm.trans htp
  ·cases hcd
 ca:=fun {prog w A E Q s} X p q=>by
  obtain⟨hh,g,d,t,os⟩:=s
  exact zaw3 X p k q
theorem zbj9{prog:Program}{w:World}{A:Around}{K:Frag}{oe od:Obj}{vs:Array Value}{dx:Addr}{name:Str}{v:Value}{expr:Bool}(X:K.In s.heap)(he:s.heap.get? e=some oe)(hc:oe.cls=.ref D)(hdx:oe.dict=some dx)(hd:oe.data=.fields vs)(hod:s.heap.get? dx=some od)(k:ExcK K D)(hh:hasDictIn K D=true)(ha:findIn K (.ref D) name=some none)(hl:lookIn name od=some (some v))(hv:handedIn v=true)(hq:Q v { s with toks:=s.toks+1 }):wpAny (model prog w) A (getAttr (.ref e) name expr) Q E s:=by
 obtain⟨h,g,d,t,os⟩:=s
 obtain⟨h1,h2,h3,h4,h5⟩:=k
 have L0:Looks (model prog w) h (typeOf (.ref e)) (.ref D):=hc▸(Looks.ld he).andThen .now
 have L1:=looks_findIn (M:=model prog w) X h1
 have L2:=looks_findIn (M:=model prog w) X h2
 have hx:(onTheHeap (Value.ref D)&&Value.builtin "BaseException.__getattribute__"==Value.builtin "object.__getattribute__")=false:=by
  have z:(Value.builtin "BaseException.__getattribute__"==Value.builtin "object.__getattribute__")=false:=by decide +kernel
  rw[z];rfl
 have I:InstAt h e oe D (some od):=⟨he,hc,by unfold notCls;rw[hd],by rw[hdx];exact hod⟩
 have L5:=looks_find (M:=model prog w) X I (findObj_own hh ha rfl hl)
 have L4:Looks (model prog w) h (isInstance (.ref e) (.type "BaseException")) true:=L0.andThen (looks_subIn X h4)
 have FB:=PySem.F.attrBase_ValueError
 have f3:=FB.ga.bind (.ref e)
 have hx0:(expr&&onTheHeap (Value.builtin "BaseException.__getattribute__"))=false:=by cases expr<;>rfl
 have kd:builtinKind "BaseException.__getattribute__"=some .slot:=by decide +kernel
 have sid:splitId "BaseException.__getattribute__"=some ("BaseException","__getattribute__"):=by decide +kernel
 have aok:=PySem.F.args_bexc_ga (.ref e) (.str name t)
 unfold getAttr getAttrBy
 refine zch8 (wpAny_mkText (zci3 (zch8 (L0.at (zch8 (L1.at ?_))))))
 dsimp only
 rw[if_neg (by rw[hx];decide)]
 unfold getAttrByItsOwn hookBefore
 repeat (any_goals (first|assumption|with_reducible refine L0.at ?_|with_reducible refine L1.at ?_|with_reducible refine L2.at ?_|wp_step))
 refine codeAny_call_builtin FB.ga.plain PySem.F.entry_bexc_ga ?_
 simp only[checkBuiltinCall,kd,sid]
 refine zch8 (L4.at ?_)
 repeat (any_goals (first|assumption|with_reducible refine L0.at ?_|with_reducible refine L1.at ?_|with_reducible refine L2.at ?_|with_reducible refine L5.at ?_|wp_step))
 show wpAny _ _ (handedOut v) _ _ _
 rw[handedOut_of hv]
 exact zch9 hq
end
section
variable {X:Cx}{K:zby6}{H:Hp}{Q:VK}
@[irreducible] def zab4(K:zby6)(x c:V)(H:Hp)(Q:VK):Prop:=zaj2 K x c H Q∨∃ (ea D d:Addr) (fs:List (Str×V)) (b:Bool),x=.ref ea/\H ea=some (excO ea (.ref D) (some d))/\H d=some (.xd fs)/\ExcK K D/\(zcb5 K D).isSome=true/\(∀ cv,RelV c cv->zbz0 K (.ref D) cv=some b)/\Q (.bl b) H
def zbk4(K:zby6):List V->Hp->VK->Prop:=fun xs H Q=>match xs with
 | [x,c]=>zab4 K x c H Q
 | _=>False
theorem zr9(hK:X.K=K):zj2 X (.builtin "isinstance") (zbk4 K):=by
 subst hK
 intro pins s σ H xs us Q I r h
 unfold zbk4 at h
 split at h
 ·unfold zab4 at h
  rcases h with h|⟨ea,D,d,fs,b,rfl,h1,h0,h2,h3,h4,h5⟩
  ·exact cIsiX rfl pins s σ H _ us Q I r h
  ·obtain⟨u,w,rfl,r1,r2⟩:=vals2 r
   cases r1
   obtain⟨p,_⟩:=I.hok ea _ h1
   obtain⟨_,⟨od,_,_,e0,_⟩,_⟩:=(show zf7 X.prog X.w H s.heap d (.xd fs) from I.hok d _ h0)
   exact zcd7 (zbf0 h2 h3) I.kIn ⟨p,od,e0⟩ (h4 _ r2) (fun z=>nomatch z) fun tk=>⟨.bl b,H,I.tok _,rfl,h5⟩
 ·exact h.elim
theorem zba8{x c:V}(h:zaj2 K x c H Q):zab4 K x c H Q:=by unfold zab4;exact .inl h
theorem zbi7{d:Addr}{fs:List (Str×V)}{b:Bool}(h1:H ea=some (excO ea (.ref D) (some d)))(h0:H d=some (.xd fs))(h2:ExcK K D)(h3:(zcb5 K D).isSome=true)(e:zbz0 K (.ref D) (.ref C)=some b)(q:Q (.bl b) H):zab4 K (.ref ea) (.ref C) H Q:=by
 unfold zab4;exact .inr ⟨ea,D,d,fs,b,rfl,h1,h0,h2,h3,fun cv r=>by cases r;exact e,q⟩
theorem zbk0{d:Addr}{fs:List (Str×V)}{n:String}{b:Bool}(h1:H ea=some (excO ea (.ref D) (some d)))(h0:H d=some (.xd fs))(h2:ExcK K D)(h3:(zcb5 K D).isSome=true)(e:zbz0 K (.ref D) (.type n)=some b)(q:Q (.bl b) H):zab4 K (.ref ea) (.ty n) H Q:=by
 unfold zab4;exact .inr ⟨ea,D,d,fs,b,rfl,h1,h0,h2,h3,fun cv r=>by cases r;exact e,q⟩
@[irreducible] def rFldE(K:zby6)(ea:Addr)(f:Str)(H:Hp)(Q:VK):Prop:=∃ (D d:Addr) (fs:List (Str×V)) (v:V),H ea=some (excO ea (.ref D) (some d))/\H d=some (.xd fs)/\fs.lookup f=some v/\ExcK K D/\zcf2 K D=true/\zcb2 K (.ref D) f=some none/\Q v H
def qFldE(K:zby6)(te:TE)(f:Str):TE:=fun σ H Q=>te σ H fun x H1=>match x with
 | .ref ea=>rFldE K ea f H1 Q
 | _=>False
theorem peFldE{e:Expr}{f:Str}(hK:X.K=K)(he:PE X e te)(hb:attributeBase e f X.env (eval e X.env)=eval e X.env:=by rfl):PE X (.Attribute e f pos) (qFldE K te f):=by
 subst hK
 intro pins s σ H Q I h
 refine zbq1 hb (thn (he pins s σ H _ I h) fun u s1 ⟨x,H1,I1,rx,q⟩=>?_)
 dsimp only at q
 split at q
 case h_2=>exact q.elim
 rename_i ea
 obtain rfl:u=Value.ref ea:=rx
 unfold rFldE at q
 obtain⟨D,d,fs,v,h1,h2,h3,h4,h5,h6,q⟩:=q
 obtain⟨⟨oe,vs,he,hc,hdx,hd⟩,_⟩:=I1.hok ea _ h1
 obtain⟨mA,n,r⟩:=(show zf7 X.prog X.w H1 s1.heap d (.xd fs) from I1.hok d _ h2)
 obtain⟨od,hod,hl⟩:=zah5 n
 obtain⟨u,hu,ru⟩:=RelO.some_of (v:=v) (o:=mA f) (by rw[← h3];exact r f)
 exact zbj9 I1.kIn he hc hdx hd hod h4 h5 h6 (by rw[hl,hu]) (zba6 ru) ⟨v,H1,I1.tok _,ru,q⟩
theorem zbe8{d:Addr}{f:Str}{fs:List (Str×V)}{v:V}(h1:H ea=some (excO ea (.ref D) (some d)))(h2:H d=some (.xd fs))(h3:fs.lookup f=some v)(h4:ExcK K D)(h5:zcf2 K D=true)(h6:zcb2 K (.ref D) f=some none)(q:Q v H):rFldE K ea f H Q:=by
 unfold rFldE;exact⟨D,d,fs,v,h1,h2,h3,h4,h5,h6,q⟩
end
def IniF(K:zby6)(qual:Str)(st:Stmt)(f:Addr)(pn:Str):Prop:=∃ fd,Fun K "__init__" qual st f fd/\zaa2 K fd ["self",pn] []
def IniOk(P:Program)(w:World)(K:zby6)(mg:Str->Option Value)(base:Heap)(C f:Addr)(fld:Str):Prop:=∃ pn fd,FnOk P w K mg base CX0 1 f fd ["self",pn] (zi3 C fld)/\zaa2 K fd ["self",pn] []
theorem zal1{K:zby6}{h:Heap}(X:K.In h)(q:PySem.W.excIn K aH bmV newV=true):OwnTail h bmV (.ref aH :: bmV):=by
 refine PySem.W.tail_of_in X ?_
 unfold PySem.W.excIn at q
 split at q
 case h_2=>cases q
 rename_i dd cd sl ho
 split at q
 case h_2=>cases q
 simp only[zcb3,beq_iff_eq,Bool.not_eq_true'] at q
 obtain⟨⟨⟨⟨⟨q1,q2⟩,q3⟩,q4⟩,q5⟩,q6⟩:=q
 unfold PySem.W.tailIn
 dsimp only
 rw[ho]
 dsimp only
 rw[q5,q6]
 have e:PySem.W.tailIn K bmV bmV=true:=by unfold PySem.W.tailIn;rw[Bool.or_eq_true];exact .inl (by simp)
 rw[e]
 simp
theorem zl1{X:Cx}{f:Addr}{fld x:Str}{E:XK}{e₀:Expr}(Z:IniK X.K C aH f fld)(hm:X.mg x=some (.ref C))(O:IniOk X.prog X.w X.K X.mg X.base C f fld)(hr:Room 2 X.A)(hc:X.calm=true)(hout:XOut X E)(he0:PE X e₀ te)(hg:Gl X x:=by rfl)(hd:(x==("__debug__":Str))=false:=by decide)(he:starEach [e₀] X.env=(false,eval e₀ X.env) :: starEach [] X.env:=by rfl)(hpl:(backTo cpos (starEach [] X.env)).any (·.1)=false:=by rfl) :
  PS X (.Raise (some (.Call (.Name x np) [e₀] [] cpos)) none pos) (zbc5 C fld E te):=by
 obtain⟨pn,fd,Fi,hb⟩:=O
 exact zbh6 Z hm Fi hb hr hc hout he0 hg hd he hpl
set_option maxHeartbeats 2000000
def zbc1(x0:Str)(names:List (Str×NameKind)):Prop:=names.filter (fun y=>y.2==.cell)=[(x0,.cell)]/\names.lookup x0=some .cell
theorem zbc1.only{x0:Str}{names:List (Str×NameKind)}(h:zbc1 x0 names):∀ y∈names,y.2=.cell->y.1=x0:=fun y hy hc=>by
 have:y∈names.filter (fun y=>y.2==.cell):=List.mem_filter.mpr ⟨hy,by rw[hc];rfl⟩
 rw[h.1] at this
 rw[zcd5.mp this]
set_option maxHeartbeats 1000000
section
variable {κ:Type}[DecidableEq κ]
def valV(kvs:List (κ×V))(k:κ):Option V:=(kvs.find? fun kv=>decide (kv.1=k)).map (·.2)
def putK(kvs:List (κ×V))(k:κ)(v:V):List (κ×V):=
 if (kvs.any fun kv=>decide (kv.1=k))=true then kvs.map (fun kv=>if kv.1=k then (kv.1,v) else kv) else kvs++[(k,v)]
theorem zat4{p:κ×V}{r:List (κ×V)}{k:κ}(e:p.1=k):valV (p :: r) k=some p.2:=by simp[valV,zcg3,e]
theorem zau1{p:κ×V}{r:List (κ×V)}{k:κ}(e:¬ p.1=k):valV (p :: r) k=valV r k:=by simp[valV,zcg3,e]
theorem RelO.getD{o:Option V}{u:Option Value}{d:V}{d':Value}(r:RelO o u)(rd:RelV d d'):RelV (o.getD d) (u.getD d'):=by
 cases o with
 | none=>cases u with
  | none=>exact rd
  | some _=>exact (show False from r).elim
 | some _=>cases u with
  | none=>exact (show False from r).elim
  | some _=>exact r
theorem KV.val{kvs:List (κ×V)}{vs:List (κ×Value)}(r:KV kvs vs)(k:κ):RelO (valV kvs k) (valueAt vs k):=by
 unfold KV at r
 induction r with
 | nil=>exact True.intro
 | @cons p q ps qs h t ih=>
  obtain⟨h1,h2⟩:=h
  by_cases e:p.1=k
  ·have e':q.1=k:=h1.symm.trans e
   have b:valueAt (q :: qs) k=some q.2:=by simp[valueAt,zcg3,e']
   rw[zat4 e,b];exact h2
  ·have e':¬ q.1=k:=fun z=>e (h1.trans z)
   have b:valueAt (q :: qs) k=valueAt qs k:=by simp[valueAt,zcg3,e']
   rw[zau1 e,b];exact ih
theorem KV.any{kvs:List (κ×V)}{vs:List (κ×Value)}(r:KV kvs vs)(k:κ):(kvs.any fun kv=>decide (kv.1=k))=vs.any fun kv=>decide (kv.1=k):=by
 unfold KV at r
 induction r with
 | nil=>rfl
 | cons h t ih=>rw[List.any_cons,List.any_cons,ih,h.1]
theorem KV.keys{kvs:List (κ×V)}{vs:List (κ×Value)}(r:KV kvs vs):kvs.map (·.1)=vs.map (·.1):=by
 unfold KV at r
 induction r with
 | nil=>rfl
 | cons h t ih=>rw[zcf8,zcf8,ih,h.1]
theorem KV.length{kvs:List (κ×V)}{vs:List (κ×Value)}(r:KV kvs vs):kvs.length=vs.length:=Paired.length r
end
theorem kV_is{P:Program}{w:World}{k:Key}{u:Value}(r:RelV (kV k) u):(zk8 P w).is k u=true:=by
 cases k with
 | inl i=>obtain⟨t,e⟩:=(show ∃ t,u=Value.int i t from r);subst e;exact zap3 P w i t
 | inr x=>obtain⟨t,e⟩:=(show ∃ t,u=Value.str x t from r);subst e;exact zr0 P w x t
section
variable {P:Program}{w:World}{H:Hp}{h:Heap}{a:Addr}
theorem rd_of{u:HO}(ok:HOk P w H h)(e:Rd H a u):zf7 P w H h a u:=e.ok ok
theorem dk_rd{kvs:List (Key×V)}(ok:HOk P w H h)(e:Rd H a (.dK kvs)):kvs.length<=sizeLine/\(a==sysModules)=false/\∃ vs,KV kvs vs/\h.DictOf (zk8 P w) a vs:=
 show zf7 P w H h a (.dK kvs) from rd_of ok e
theorem dk_of{kvs:List (Key×V)}(ok:HOk P w H h)(e:H a=some (.dK kvs)):kvs.length<=sizeLine/\(a==sysModules)=false/\∃ vs,KV kvs vs/\h.DictOf (zk8 P w) a vs:=dk_rd ok (.inl e)
end
def DGet(H:Hp)(a:Addr)(y:V)(r:Option V):Prop:=
 (∃ kvs k,Rd H a (.dK kvs)/\y=kV k/\r=valV kvs k)∨∃ kvs k b,Rd H a (.dT kvs)/\y=.ref b/\H b=some (.tup (k.map kV))/\r=valV kvs k
def DPut(H:Hp)(a:Addr)(y v:V)(H':Hp):Prop:=
 (∃ kvs k,H a=some (.dK kvs)/\y=kV k/\kvs.length<sizeLine/\H'=upd H a (.dK (putK kvs k v))) ∨
 ∃ kvs k b,H a=some (.dT kvs)/\y=.ref b/\H b=some (.tup (k.map kV))/\kvs.length<sizeLine/\H'=upd H a (.dT (putK kvs k v))
theorem DGet.k{H:Hp}{a:Addr}{kvs:List (Key×V)}{k:Key}(e:H a=some (.dK kvs)):DGet H a (kV k) (valV kvs k):=.inl ⟨kvs,k,.inl e,rfl,rfl⟩
theorem DGet.t{a b:Addr}{kvs:List (List Key×V)}{k:List Key}(e:H a=some (.dT kvs))(eb:H b=some (.tup (k.map kV))):DGet H a (.ref b) (valV kvs k):=.inr ⟨kvs,k,b,.inl e,rfl,eb,rfl⟩
theorem DPut.k{H:Hp}{a:Addr}{kvs:List (Key×V)}{k:Key}{v:V}(e:H a=some (.dK kvs))(hl:kvs.length<sizeLine):DPut H a (kV k) v (upd H a (.dK (putK kvs k v))):=.inl ⟨kvs,k,e,rfl,hl,rfl⟩
theorem DPut.t{a b:Addr}{kvs:List (List Key×V)}{k:List Key}{v:V}(e:H a=some (.dT kvs))(eb:H b=some (.tup (k.map kV)))(hl:kvs.length<sizeLine) :
  DPut H a (.ref b) v (upd H a (.dT (putK kvs k v))):=.inr ⟨kvs,k,b,e,rfl,eb,hl,rfl⟩
section
variable {X:Cx}{pins:List (Addr×Obj)}{σ:St}{H:Hp}{s:Shared}{a:Addr}{y v:V}{u r:Value}{o:Option V}{A:Around}{E:Value->Shared->Prop}
end
set_option maxHeartbeats 2000000
def RawD(h:Heap)(d:Addr)(es:Array DictEntry)(ep:Nat):Prop:=∃ o,h.get? d=some o/\o.ExactDict/\o.data=.dict es ep
theorem RawD.lt{h:Heap}{d:Addr}{es:Array DictEntry}{ep:Nat}(x:RawD h d es ep):d<h.objs.size:=let ⟨_,a,_⟩:=x;zca3 a
open PySem.W
section
variable {lt:Nat->Nat->Bool}{n:Nat}
def KW{α:Type}(lt:Nat->Nat->Bool)(n:Nat)(Q:α->Prop):KasT α->Prop
 | .ret a=>Q a
 | .ask i j k=>i<n/\j<n/\KW lt n Q (k (lt i j))
theorem KW.mono{α:Type}{Q Q':α->Prop}(hq:∀ a,Q a->Q' a):∀ {t:KasT α},KW lt n Q t->KW lt n Q' t
 | .ret a,h=>hq a h
 | .ask _ _ k,⟨h1,h2,h3⟩=>⟨h1,h2,KW.mono hq (t:=k _) h3⟩
def Pm(n:Nat)(p:Array Nat):Prop:=p.toList.Perm (List.range n)
end
def ltP(x y:Int×Int):Bool:=if (x.1==y.1)=true then (if (x.2==y.2)=true then false else decide (x.2<y.2)) else decide (x.1<y.1)
section
variable {X:Cx}{K:zby6}
end
section
variable {lt:Nat->Nat->Bool}{n:Nat}
theorem Pm.size{p:Array Nat}(h:Pm n p):p.size=n:=by have:=h.length_eq;rw[zca0,zcg8] at this;exact this
end
set_option maxHeartbeats 4000000
mutual
inductive ShV(H:Hp):V->PyData->Prop
 | non:ShV H .non .none
 | bl (b:Bool):ShV H (.bl b) (.bool b)
 | int (i:Int):ShV H (.int i) (.int i)
 | str (x:Str):ShV H (.str x) (.str x)
 | lst {a:Addr}{xs:List V}{ds:List PyData}:H a=some (.lst xs)->ShL H xs ds->ShV H (.ref a) (.list ds)
 | tup {a:Addr}{xs:List V}{ds:List PyData}:H a=some (.tup xs)->ShL H xs ds->ShV H (.ref a) (.tuple ds)
inductive ShL(H:Hp):List V->List PyData->Prop
 | nil:ShL H [] []
 | cons {x:V}{d:PyData}{xs:List V}{ds:List PyData}:ShV H x d->ShL H xs ds->ShL H (x :: xs) (d :: ds)
end
section
variable {X:Cx}{pins:List (Addr×Obj)}{σ:St}{H H':Hp}{s:Shared}{Q:VK}
theorem ShL.len{xs:List V}{ds:List PyData}(h:ShL H xs ds):xs.length=ds.length:=match h with
 | .nil=>rfl
 | .cons _ b=>by rw[zca2,zca2,b.len]
mutual
theorem ShV.reads(I:Inv X pins σ H s){v:V}{d:PyData}{u:Value}(h:ShV H v d)(r:RelV v u):∃ as,Reads s.heap u d as:=match h with
 | .non=>by cases (show u=Value.none from r);exact⟨_,.none⟩
 | .bl b=>by cases (show u=Value.bool b from r);exact⟨_,.bool b⟩
 | .int i=>by obtain⟨t,q⟩:=(show ∃ t,u=Value.int i t from r);cases q;exact⟨_,.int i t⟩
 | .str x=>by obtain⟨t,q⟩:=(show ∃ t,u=Value.str x t from r);cases q;exact⟨_,.str x t⟩
 | .lst (a:=a) (xs:=xs) e l=>by
  cases (show u=Value.ref a from r)
  obtain⟨_,us,n,rv,h1⟩:=(show zf7 X.prog X.w H s.heap a (.lst xs) from I.hok a _ e)
  obtain⟨as,ra⟩:=l.reads I rv
  exact⟨_,.list h1 rfl rfl (by simpa using ra)⟩
 | .tup (a:=a) (xs:=xs) e l=>by
  cases (show u=Value.ref a from r)
  obtain⟨_,us,rv,o,h1,h2,n,h3⟩:=(show zf7 X.prog X.w H s.heap a (.tup xs) from I.hok a _ e)
  obtain⟨as,ra⟩:=l.reads I rv
  exact⟨_,.tuple h1 h2 h3 (by simpa using ra)⟩
theorem ShL.reads(I:Inv X pins σ H s){xs:List V}{ds:List PyData}{us:List Value}(h:ShL H xs ds)(r:Vals xs us):∃ as,ReadsAll s.heap us ds as:=match h,r with
 | .nil,.nil=>⟨_,.nil⟩
 | .cons a b,.cons r1 r2=>by
  obtain⟨as,ra⟩:=a.reads I r1
  obtain⟨bs,rb⟩:=b.reads I r2
  exact⟨_,.cons ra rb⟩
end
structure zj1(d:PyData)(k m:Nat):Prop where
 ok:d.showable=true
 nd:d.hasDict=false
 dp:d.depth<=k
 ln:d.shown.length<=m
theorem zj1.up{d:PyData}{k k' m':Nat}(h:zj1 d k m)(h1:k<=k')(h2:m<=m'):zj1 d k' m':=⟨h.ok,h.nd,zcc5 h.dp h1,zcc5 h.ln h2⟩
theorem zae7{k m:Nat}:∀ {ds:List PyData},(∀ d∈ds,zj1 d k m)->PyData.showableAll ds=true/\PyData.hasDictAll ds=false/\PyData.depthAll ds<=k/\piled (PyData.shownAll ds)<=ds.length*(m+2)
 | [],_=>⟨rfl,rfl,zcg0 _,by simp[PyData.shownAll,piled]⟩
 | d :: ds,h=>by
  have h0:=h d (.head _)
  obtain⟨a1,a2,a3,a4⟩:=zae7 (ds:=ds) fun x hx=>h x (.tail _ hx)
  refine⟨by simp[PyData.showableAll,h0.ok,a1],by simp[PyData.hasDictAll,h0.nd,a2],?_,?_⟩
  ·have:=h0.dp
   simp only[PyData.depthAll]
   omega
  ·have:=h0.ln
   simp only[PyData.shownAll,piled_cons,zca2,Nat.succ_mul]
   omega
theorem zy4:∀ (ts:List Str) (k:Nat) (acc:Str),(textFrom k acc ts).length<=acc.length+piled ts
 | [],_,acc=>by simp[textFrom,piled]
 | t :: ts,k,acc=>by
  have ih:=zy4 ts (k+1) (acc++(if k>0 then ", " else "":String)++t)
  have e:(acc++(if k>0 then ", " else "":String)++t).length=acc.length+(if k>0 then 2 else 0)+t.length:=by
   rw[strLen_append,strLen_append]
   congr 2
   split<;>rfl
  rw[piled_cons]
  show (textFrom (k+1) _ ts).length<=_
  rw[e] at ih
  have e2:(if k>0 then 2 else 0)<=2:=by split<;>omega
  omega
theorem zj1.list{ds:List PyData}{k m:Nat}(h:∀ d∈ds,zj1 d k m):zj1 (.list ds) (k+1) (ds.length*(m+2)+2):=by
 obtain⟨a1,a2,a3,a4⟩:=zae7 h
 refine⟨by simpa [PyData.showable] using a1,by simpa [PyData.hasDict] using a2,by simp only[PyData.depth];omega,?_⟩
 have:=zy4 (PyData.shownAll ds) 0 "["
 have e1:((("[":String):Str)).length=1:=rfl
 have e2:((("]":String):Str)).length=1:=rfl
 simp only[PyData.shown,listText,strLen_append]
 omega
theorem zj1.tuple{ds:List PyData}{k m:Nat}(h:∀ d∈ds,zj1 d k m):zj1 (.tuple ds) (k+1) (ds.length*(m+2)+4):=by
 obtain⟨a1,a2,a3,a4⟩:=zae7 h
 refine⟨by simpa [PyData.showable] using a1,by simpa [PyData.hasDict] using a2,by simp only[PyData.depth];omega,?_⟩
 have e1:((("(":String):Str)).length=1:=rfl
 have e3:((if (PyData.shownAll ds).length==1 then ",)" else ")":String):Str).length<=2:=by split<;>decide
 have e4:(Str.join ", " (PyData.shownAll ds)).length<=piled (PyData.shownAll ds):=by
  by_cases z:PyData.shownAll ds=[]
  ·rw[z];decide
  ·have:=join_length_add _ z;omega
 simp only[PyData.shown,tupleText,strLen_append]
 omega
theorem zj1.int{i:Int}(h:-(10 ^ 100)<=i)(h':i<=10 ^ 100):zj1 (.int i) 0 1921:=by
 have hl:i.natAbs.log2<1920:=by
  by_cases z:i.natAbs=0
  ·rw[z];decide
  ·rw[Nat.log2_lt z]
   have h1:i.natAbs<=10 ^ 100:=by omega
   exact Nat.lt_of_le_of_lt h1 (by decide +kernel)
 exact⟨by simpa [PyData.showable] using hl,rfl,by simp[PyData.depth],by simpa only [PyData.shown] using PyProof.Rows.int_text_len_1921 hl⟩
theorem zj1.non:zj1 .none 0 4:=⟨rfl,rfl,by simp[PyData.depth],by decide⟩
theorem zj1.bl{b:Bool}:zj1 (.bool b) 0 5:=by cases b<;>exact⟨rfl,rfl,by simp[PyData.depth],by decide⟩
theorem zj1.str{x:Str}{m:Nat}(h:(reprText x).length<=m):zj1 (.str x) 0 m:=⟨rfl,rfl,by simp[PyData.depth],h⟩
theorem ShL.of{xs:List V}(f:V->PyData)(h:∀ x∈xs,ShV H x (f x)):ShL H xs (xs.map f):=by
 induction xs with
 | nil=>exact .nil
 | cons x xs ih=>exact .cons (h x (.head _)) (ih fun y hy=>h y (.tail _ hy))
end
mutual
def sml:PyData->Bool
 | .none | .bool _ | .int _ | .str _=>true
 | .list xs | .tuple xs=>decide (xs.length<=1000)&&zat3 xs
 | .dict _=>false
def zat3:List PyData->Bool
 | []=>true
 | x :: xs=>sml x&&zat3 xs
end
theorem zy8:∀ {ds:List PyData},(∀ d∈ds,sml d=true)->zat3 ds=true
 | [],_=>rfl
 | d :: ds,h=>by simp[zat3,h d (.head _),zy8 fun x hx=>h x (.tail _ hx)]
section
variable {H H':Hp}{K:zby6}{Q:VK}
theorem ShL.ex{P:PyData->Prop}:∀ {xs:List V},(∀ x∈xs,∃ d,ShV H x d/\P d)->∃ ds,ShL H xs ds/\∀ d∈ds,P d
 | [],_=>⟨[],.nil,fun _ h=>by cases h⟩
 | x :: xs,h=>by
  obtain⟨d,h1,h2⟩:=h x (.head _)
  obtain⟨ds,h3,h4⟩:=ShL.ex (xs:=xs) fun y hy=>h y (.tail _ hy)
  refine⟨d :: ds,.cons h1 h3,fun e he=>?_⟩
  rcases zbz4.mp he with rfl|he
  ·exact h2
  ·exact h4 e he
def Rda(H:Hp)(v:V)(k m:Nat):Prop:=∃ d,ShV H v d/\sml d=true/\zj1 d k m
theorem Rda.up{v:V}{k m k' m':Nat}(h:Rda H v k m)(h1:k<=k':=by omega)(h2:m<=m':=by omega):Rda H v k' m':=by obtain⟨d,a,b,c⟩:=h;exact⟨d,a,b,c.up h1 h2⟩
theorem Rda.int{i:Int}(h:-(10 ^ 100)<=i)(h':i<=10 ^ 100):Rda H (.int i) 0 1921:=⟨_,.int i,rfl,zj1.int h h'⟩
theorem Rda.non:Rda H .non 0 1921:=⟨_,.non,rfl,zj1.non.up (by omega) (by omega)⟩
theorem Rda.bl{b:Bool}:Rda H (.bl b) 0 1921:=⟨_,.bl b,rfl,zj1.bl.up (by omega) (by omega)⟩
theorem Rda.str{x:Str}(h:(reprText x).length<=1921):Rda H (.str x) 0 1921:=⟨_,.str x,rfl,zj1.str h⟩
theorem Rda.lst{a:Addr}{xs:List V}{k m:Nat}(e:H a=some (.lst xs))(l:xs.length<=1000)(h:∀ x∈xs,Rda H x k m):Rda H (.ref a) (k+1) (xs.length*(m+2)+4):=by
 obtain⟨ds,h1,h2⟩:=ShL.ex (P:=fun d=>sml d=true/\zj1 d k m) h
 have hl:=h1.len
 refine⟨.list ds,.lst e h1,?_,?_⟩
 ·simp only[sml,zcb3,decide_eq_true_eq]
  exact⟨by omega,zy8 fun d hd=>(h2 d hd).1⟩
 ·have:=zj1.list (ds:=ds) (k:=k) (m:=m) fun d hd=>(h2 d hd).2
  rw[hl]
  exact this.up (zca7 _) (by omega)
theorem Rda.tup{a:Addr}{xs:List V}{k m:Nat}(e:H a=some (.tup xs))(l:xs.length<=1000)(h:∀ x∈xs,Rda H x k m):Rda H (.ref a) (k+1) (xs.length*(m+2)+4):=by
 obtain⟨ds,h1,h2⟩:=ShL.ex (P:=fun d=>sml d=true/\zj1 d k m) h
 have hl:=h1.len
 refine⟨.tuple ds,.tup e h1,?_,?_⟩
 ·simp only[sml,zcb3,decide_eq_true_eq]
  exact⟨by omega,zy8 fun d hd=>(h2 d hd).1⟩
 ·have:=zj1.tuple (ds:=ds) (k:=k) (m:=m) fun d hd=>(h2 d hd).2
  rw[hl]
  exact this
end
theorem zo0{X:Cx}{e:Expr}(h:PE X e te):PEI X e te:=by unfold PEI;exact h
section
variable {X:Cx}{K:zby6}{H:Hp}{Q:VK}
@[irreducible] def rInA(K:zby6)(neg:Bool)(x:V)(p:Addr)(H:Hp)(Q:VK):Prop:=∃ xs,(SqL K H p xs∨SqT K H p xs)/\zj5 x=true/\xs.all zj5=true/\Q (.bl (if neg then !inV x xs else inV x xs)) H
def rInM(K:zby6)(neg:Bool):R2:=fun x y H Q=>match y with
 | .ref p=>rInA K neg x p H Q
 | _=>False
theorem oInK(hK:X.K=K):OpR X (compareOp .In) (rInM K false):=by
 subst hK
 intro pins s σ H x y v u Q I rx ry h
 unfold rInM at h
 split at h
 ·unfold rInA at h
  obtain⟨xs,h1,h2,h3,h4⟩:=h
  exact zbf8 pins s σ H _ _ v u Q I rx ry ⟨_,xs,rfl,h1,h2,h3,h4⟩
 ·exact h.elim
theorem zbl7{x:V}{p:Addr}{xs:List V}(h:SqT K H p xs)(h1:zj5 x=true)(h2:xs.all zj5=true)(q:Q (.bl (inV x xs)) H):rInA K false x p H Q:=by unfold rInA;exact⟨xs,.inr h,h1,h2,q⟩
end
section
variable {X:Cx}{K:zby6}{H:Hp}{Q:VK}
def dI(kv:List (Int×Int)):List (Key×V):=kv.map fun z=>(.inl z.1,.int z.2)
def valI(kv:List (Int×Int))(i:Int):Option Int:=(kv.find? fun z=>decide (z.1=i)).map (·.2)
theorem zba5(i:Int):∀ kv:List (Int×Int),valV (dI kv) (.inl i)=(valI kv i).map V.int
 | []=>rfl
 | z :: kv=>by
  by_cases e:z.1=i
  ·show valV (((.inl z.1:Key),V.int z.2) :: dI kv) (.inl i)=_
   rw[zat4 (by exact congrArg Sum.inl e)]
   unfold valI
   rw[zcg3,decide_eq_true e];rfl
  ·show valV (((.inl z.1:Key),V.int z.2) :: dI kv) (.inl i)=_
   rw[zau1 (by exact fun q=>e (Sum.inl.inj q)),zba5 i kv]
   unfold valI
   rw[zcg3,decide_eq_false e]
def eqDI(ka kb:List (Int×Int)):Bool:=ka.length==kb.length&&ka.all fun z=>valI kb z.1==some z.2
theorem zao8{A:Around}{s:Shared}{kb:List (Int×Int)}{ws:List (Key×Value)}(rb:KV (dI kb) ws):∀ {ka:List (Int×Int)}{vs:List (Key×Value)},KV (dI ka) vs->KeqHits A s ws vs (ka.all fun z=>valI kb z.1==some z.2)
 | [],vs,r=>by
  unfold KV dI at r
  cases r
  exact .nil
 | z :: ka,vs,r=>by
  unfold KV dI at r
  rw[zcf8] at r
  cases r with
  | @cons p q ps qs h t=>
   obtain⟨h1,h2⟩:=h
   obtain⟨k,v⟩:=q
   cases (show (Sum.inl z.1:Key)=k from h1)
   have val:=rb.val (.inl z.1)
   rw[zba5] at val
   rw[List.all_cons]
   cases e:valI kb z.1 with
   | none=>
    rw[e] at val
    have:valueAt ws (.inl z.1)=none:=by
     cases w:valueAt ws (.inl z.1) with
     | none=>rfl
     | some y=>rw[w] at val;exact val.elim
    have f:((none:Option Int)==some z.2)=false:=rfl
    rw[f,zch6]
    exact .miss this
   | some n=>
    rw[e] at val
    obtain⟨y,ey,ry⟩:∃ y,valueAt ws (.inl z.1)=some y/\RelV (.int n) y:=by
     cases w:valueAt ws (.inl z.1) with
     | none=>rw[w] at val;exact val.elim
     | some y=>rw[w] at val;exact⟨y,rfl,val⟩
    have q:=zbe7 (A:=A) (s:=s) (show RelV (.int z.2) v from h2) ry rfl rfl
    have e2:eqV (.int z.2) (.int n)=(some n==some z.2):=by
     by_cases d:z.2=n
     ·subst d;simp[eqV]
     ·have d':¬ n=z.2:=fun x=>d x.symm
      show (z.2==n)=(some n==some z.2)
      rw[beq_eq_false_iff_ne.mpr d]
      exact (beq_eq_false_iff_ne.mpr fun x=>d' (Option.some.inj x)).symm
    rw[e2] at q
    exact .hit ey q (zao8 rb t)
@[irreducible] def rEqX(K:zby6)(x y:V)(H:Hp)(Q:VK):Prop:=
 (∃ a b n c,x=.ref a/\y=.ref b/\n<=40/\EqR K H n (.ref a) (.ref b) c/\Q (.bl c) H) ∨
 (∃ a b ka kb,x=.ref a/\y=.ref b/\H a=some (.dK (dI ka))/\H b=some (.dK (dI kb))/\Q (.bl (eqDI ka kb)) H) ∨
 ∃ d e,ShV H x d/\ShV H y e/\d.canLay0=true/\e.canLay0=true/\d.depth<=40/\Q (.bl (PyData.eqv d e)) H
def zap7(K:zby6):R2:=fun x y H Q=>match x,y with
 | .int i,.int j=>Q (.bl (decide (i=j))) H
 | .bl i,.bl j=>Q (.bl (decide (i=j))) H
 | .str i,.str j=>Q (.bl (decide (i=j))) H
 | x,y=>rEqX K x y H Q
def zaz8(K:zby6):R2:=fun x y H Q=>zap7 K x y H fun v H'=>match v with
 | .bl b=>Q (.bl (!b)) H'
 | _=>False
theorem oEqX(hu:X.A.units+40<cLine):OpR X (compareOp .Eq) (zap7 X.K):=by
 intro pins s σ H x y v u Q I rx ry h
 unfold zap7 at h
 split at h
 ·exact zao4 pins s σ H _ _ v u Q I rx ry ⟨rfl,by rw[zj7 (f:=V.int) fun a b e=>V.int.inj e];exact h⟩
 ·exact zao4 pins s σ H _ _ v u Q I rx ry ⟨rfl,by rw[zj7 (f:=V.bl) fun a b e=>V.bl.inj e];exact h⟩
 ·exact zao4 pins s σ H _ _ v u Q I rx ry ⟨rfl,by rw[zj7 (f:=V.str) fun a b e=>V.str.inj e];exact h⟩
 ·unfold rEqX at h
  rcases h with ⟨a,b,n,c,rfl,rfl,hn,h1,h2⟩|⟨a,b,ka,kb,rfl,rfl,ea,eb,h⟩|⟨d,e,hd,he,cd,ce,dd,h⟩
  ·cases rx
   cases ry
   exact EqR.rc I h1 (A:=X.A) (by omega) _ _ _ _ ⟨.bl c,H,I,rfl,h2⟩
  ·cases rx
   cases ry
   obtain⟨_,sa,vs,ra,da⟩:=dk_of I.hok ea
   obtain⟨_,sb,ws,rb,db⟩:=dk_of I.hok eb
   refine keq_eq sa sb da db (by omega) (fun _=>zao8 rb ra) ⟨.bl (eqDI ka kb),H,I,?_,h⟩
   have la:vs.length=ka.length:=by rw[← ra.length];unfold dI;rw[zby7]
   have lb:ws.length=kb.length:=by rw[← rb.length];unfold dI;rw[zby7]
   rw[la,lb]
   rfl
  ·obtain⟨as,r1⟩:=hd.reads I rx
   obtain⟨bs,r2⟩:=he.reads I ry
   exact SeqAt.compareEq_reads r1 r2 cd ce (by have:=Nat.min_le_left d.depth e.depth;omega) ⟨.bl (PyData.eqv d e),H,I,rfl,h⟩
theorem oNeX(hu:X.A.units+40<cLine):OpR X (compareOp .NotEq) (zaz8 X.K):=by
 intro pins s σ H x y v u Q I rx ry h
 unfold zaz8 zap7 at h
 split at h
 ·exact zar1 pins s σ H _ _ v u Q I rx ry ⟨rfl,by rw[zj7 (f:=V.int) fun a b e=>V.int.inj e];exact h⟩
 ·exact zar1 pins s σ H _ _ v u Q I rx ry ⟨rfl,by rw[zj7 (f:=V.bl) fun a b e=>V.bl.inj e];exact h⟩
 ·exact zar1 pins s σ H _ _ v u Q I rx ry ⟨rfl,by rw[zj7 (f:=V.str) fun a b e=>V.str.inj e];exact h⟩
 ·unfold rEqX at h
  rcases h with ⟨a,b,n,c,rfl,rfl,hn,h1,h2⟩|⟨a,b,ka,kb,rfl,rfl,ea,eb,h⟩|⟨d,e,hd,he,cd,ce,dd,h⟩
  ·cases rx
   cases ry
   exact EqR.rcNe I h1 (A:=X.A) (by omega) _ _ _ _ ⟨.bl (!c),H,I,rfl,h2⟩
  ·cases rx
   cases ry
   obtain⟨_,sa,vs,ra,da⟩:=dk_of I.hok ea
   obtain⟨_,sb,ws,rb,db⟩:=dk_of I.hok eb
   refine keq_ne sa sb da db (by omega) (fun _=>zao8 rb ra) ⟨.bl (!eqDI ka kb),H,I,?_,h⟩
   have la:vs.length=ka.length:=by rw[← ra.length];unfold dI;rw[zby7]
   have lb:ws.length=kb.length:=by rw[← rb.length];unfold dI;rw[zby7]
   rw[la,lb]
   rfl
  ·obtain⟨as,r1⟩:=hd.reads I rx
   obtain⟨bs,r2⟩:=he.reads I ry
   exact SeqAt.compareNe_reads r1 r2 cd ce (by have:=Nat.min_le_left d.depth e.depth;omega) ⟨.bl (!PyData.eqv d e),H,I,rfl,h⟩
theorem zbk8{a b:Addr}{n:Nat}{c:Bool}(h:EqR K H n (.ref a) (.ref b) c)(q:Q (.bl c) H)(hn:n<=40:=by decide):rEqX K (.ref a) (.ref b) H Q:=by unfold rEqX;exact .inl ⟨a,b,n,c,rfl,rfl,hn,h,q⟩
theorem eqS_rd{x y:V}{d e:PyData}(hd:ShV H x d)(he:ShV H y e)(cd:d.canLay0=true)(ce:e.canLay0=true)(dd:d.depth<=40)(q:Q (.bl (PyData.eqv d e)) H):rEqX K x y H Q:=by unfold rEqX;exact .inr (.inr ⟨d,e,hd,he,cd,ce,dd,q⟩)
end
section
variable {X:Cx}{K:zby6}{H:Hp}{Q:VK}
def pV(x:Int×Int):List V:=[.int x.1,.int x.2]
@[irreducible] def rLtA(a b:Addr)(H:Hp)(Q:VK):Prop:=∃ x y:Int×Int,H a=some (.tup (pV x))/\H b=some (.tup (pV y))/\Q (.bl (ltP x y)) H
def rLtXM:R2:=fun x y H Q=>match x,y with
 | .int i,.int j=>Q (.bl (decide (i<j))) H
 | .ref a,.ref b=>rLtA a b H Q
 | _,_=>False
@[irreducible] def rSlX(K:zby6)(a:Addr)(lo hi:Option Int)(H:Hp)(Q:VK):Prop:=(∃ xs,SqL K H a xs/\∀ p H',H p=none->Same H H'->H' p=some (.lst (cutV xs lo hi))->Q (.ref p) H') ∨
 ∃ xs,SqT K H a xs/\¬ (HT.sIx xs.length 0 lo=0/\HT.sIx xs.length xs.length hi=xs.length)/\∀ p H',H p=none->Same H H'->H' p=some (.tup (cutV xs lo hi))->Q (.ref p) H'
def rSlXM(K:zby6):V->Option Int->Option Int->Hp->VK->Prop:=fun x lo hi H Q=>match x with
 | .ref a=>rSlX K a lo hi H Q
 | _=>False
theorem slX:SlR X (rSlXM X.K):=by
 intro pins s σ H x v vl vu lo hi sl Q I rx hs pl pu h
 unfold rSlXM at h
 split at h
 ·unfold rSlX at h
  rcases h with ⟨xs,h1,q⟩|⟨xs,h1,h2,q⟩
  ·exact zbo2 pins s σ H _ v vl vu lo hi sl Q I rx hs pl pu ⟨_,xs,rfl,h1,fun p hp=>q p _ hp (Same.upd hp) zb8⟩
  ·exact sl_tup pins s σ H _ v vl vu lo hi sl Q I rx hs pl pu ⟨_,xs,rfl,h1,h2,fun p hp=>q p _ hp (Same.upd hp) zb8⟩
 ·exact h.elim
theorem zx6{a:Addr}{xs:List V}{lo hi:Option Int}(h:SqL K H a xs)(q:∀ p H',H p=none->Same H H'->H' p=some (.lst (cutV xs lo hi))->Q (.ref p) H'):rSlX K a lo hi H Q:=by unfold rSlX;exact .inl ⟨xs,h,q⟩
theorem zo1(hK:X.K=K)(hu:X.A.units+40<cLine):OpR X (compareOp .Eq) (zap7 K):=by subst hK;exact oEqX hu
theorem zaa9(hK:X.K=K)(hu:X.A.units+40<cLine):OpR X (compareOp .NotEq) (zaz8 K):=by subst hK;exact oNeX hu
def rIsXM:R2:=fun x y H Q=>match x,y with
 | .bl i,.bl j=>Q (.bl (decide (i=j))) H
 | x,.non=>Q (.bl (decide (x=.non))) H
 | _,_=>False
theorem zax2(i j:Bool):isSame (.bool i) (.bool j)=pure (decide (i=j)):=by cases i<;>cases j<;>rfl
theorem oIsX:OpR X (compareOp .Is) rIsXM:=by
 intro pins s σ H x y v u Q I rx ry h
 unfold rIsXM at h
 split at h
 ·rename_i i j
  cases (show v=Value.bool i from rx)
  cases (show u=Value.bool j from ry)
  show wpAny _ _ (isSame (.bool i) (.bool j) >>= fun b=>pure (Value.bool b)) _ _ s
  rw[zax2]
  exact zch8 (zch9 (zch9 ⟨.bl (decide (i=j)),H,I,rfl,h⟩))
 ·exact zbm5 pins s σ H _ _ v u Q I rx ry ⟨rfl,h⟩
 ·exact h.elim
end
set_option maxHeartbeats 2000000
set_option maxHeartbeats 4000000
set_option maxHeartbeats 2000000
section
variable {X:Cx}{K:zby6}
end
section
variable {X:Cx}{K:zby6}
end
set_option maxHeartbeats 4000000
section
variable {X:Cx}{K:zby6}{H:Hp}{Q:VK}
def eRef(c:Addr->Bool):Value->Bool
 | .ref a=>c a
 | _=>false
theorem zai8:∀ {rs:List Addr}{us:List Value},Vals (rs.map V.ref) us->us=rs.map Value.ref
 | [],us,h=>by cases h;rfl
 | r :: rs,us,h=>by
  cases h with
  | cons h1 h2=>
   have h1:_=Value.ref r:=h1
   rw[zcf8,← zai8 h2,h1]
end
abbrev Pb:=SetTable.Probe
def advM(mask:Nat)(p:Pb):Pb:=
 if p.more>0 then { j:=p.j+1,more:=p.more - 1,i:=p.i,perturb:=p.perturb,dummy:=p.dummy }
 else { j:=(SetTable.leap mask p.i p.perturb).1,more:=SetTable.runEnd mask (SetTable.leap mask p.i p.perturb).1 - (SetTable.leap mask p.i p.perturb).1,i:=(SetTable.leap mask p.i p.perturb).1,perturb:=(SetTable.leap mask p.i p.perturb).2,dummy:=p.dummy }
def runS(mask:Nat)(a:Nat×Nat):Pb:={ j:=a.1,more:=SetTable.runEnd mask a.1 - a.1,i:=a.1,perturb:=a.2,dummy:=none }
def stp(mask:Nat)(h:Int):Nat->Pb
 | 0=>runS mask (SetTable.bits h % (mask+1),SetTable.bits h)
 | k+1=>advM mask (stp mask h k)
def wk(mask:Nat)(h:Int)(k:Nat):Nat:=(stp mask h k).j
theorem zam3(mask:Nat)(h:Int):∀ k,(stp mask h k).dummy=none
 | 0=>rfl
 | k+1=>by
  show (advM mask (stp mask h k)).dummy=none
  unfold advM
  split<;>exact zam3 mask h k
abbrev Msk(mask:Nat):Prop:=mask=7∨mask=31
theorem least{P:Nat->Prop}[DecidablePred P]:∀ {N:Nat},(∃ k,k<N/\P k)->∃ k,k<N/\P k/\∀ k',k'<k->¬ P k'
 | 0,h=>by obtain⟨k,hk,_⟩:=h;omega
 | N+1,h=>by
  by_cases e:∃ k,k<N/\P k
  ·obtain⟨k,hk,p,q⟩:=least e
   exact⟨k,by omega,p,q⟩
  ·obtain⟨k,hk,p⟩:=h
   have:k=N:=by
    by_cases z:k<N
    ·exact absurd ⟨k,z,p⟩ e
    ·omega
   subst this
   exact⟨k,hk,p,fun k' hk' p'=>e ⟨k',hk',p'⟩⟩
theorem zah0{xs:Array Nat}{j:Nat}(srt:xs.toList.Pairwise (· < ·)):∀ (fuel lo hi:Nat),lo<=hi->hi<=xs.size->hi - lo<=fuel->(∀ (i:Nat) x,i<lo->xs[i]?=some x->x<j)->(∀ (i:Nat) x,hi<=i->xs[i]?=some x->j<=x) ->
  (SetTable.below.go xs j fuel lo hi<=xs.size/\(∀ (i:Nat) x,i<SetTable.below.go xs j fuel lo hi->xs[i]?=some x->x<j)/\∀ (i:Nat) x,SetTable.below.go xs j fuel lo hi<=i->xs[i]?=some x->j<=x)
 | 0,lo,hi,h1,h2,h3,a,b=>by
  rw[SetTable.below.go.eq_1]
  have:lo=hi:=by omega
  subst this
  exact⟨h2,a,b⟩
 | fuel+1,lo,hi,h1,h2,h3,a,b=>by
  have mono:∀ {i k:Nat}{x y:Nat},i<k->xs[i]?=some x->xs[k]?=some y->x<y:=fun {i k x y} hik e1 e2=>by
   rw[← zcb7] at e1 e2
   obtain⟨l1,g1⟩:=zby9.mp e1
   obtain⟨l2,g2⟩:=zby9.mp e2
   have:=List.pairwise_iff_getElem.mp srt i k l1 l2 hik
   rw[g1,g2] at this
   exact this
  rw[SetTable.below.go.eq_2]
  by_cases c:lo<hi
  ·rw[if_pos c]
   have hm:(lo+hi) / 2<xs.size:=by omega
   have em:xs[(lo+hi) / 2]?=some xs[(lo+hi) / 2]:=zcf6 hm
   have eg:xs.getD ((lo+hi) / 2) j=xs[(lo+hi) / 2]:=by rw[Array.getD_eq_getD_getElem?,em];rfl
   show _/\_
   by_cases d:xs.getD ((lo+hi) / 2) j<j
   ·rw[if_pos d]
    rw[eg] at d
    refine zah0 srt fuel _ hi (by omega) h2 (by omega) (fun i x hi' e=>?_) b
    by_cases z:i=(lo+hi) / 2
    ·subst z;rw[em] at e;cases e;exact d
    ·exact Nat.lt_trans (mono (by omega) e em) d
   ·rw[if_neg d]
    rw[eg] at d
    refine zah0 srt fuel lo _ (by omega) (by omega) (by omega) a (fun i x hi' e=>?_)
    by_cases z:i=(lo+hi) / 2
    ·subst z;rw[em] at e;cases e;omega
    ·have:=mono (show (lo+hi) / 2<i by omega) em e
     omega
  ·rw[if_neg c]
   have:lo=hi:=by omega
   subst this
   exact⟨h2,a,b⟩
theorem zbi8{xs:Array Nat}(srt:xs.toList.Pairwise (· < ·))(j:Nat):SetTable.below xs j<=xs.size/\(∀ (i:Nat) x,i<SetTable.below xs j->xs[i]?=some x->x<j)/\∀ (i:Nat) x,SetTable.below xs j<=i->xs[i]?=some x->j<=x:=
 zah0 srt _ 0 xs.size (zcg0 _) (zca7 _) (by omega) (fun i x h=>by omega) (fun i x h e=>by
  have:=(Array.getElem?_eq_some_iff.mp e).1
  omega)
theorem zs8{xs:Array Nat}(srt:xs.toList.Pairwise (· < ·)){i:Nat}(e:xs[i]?=some j):SetTable.below xs j=i:=by
 obtain⟨a,b,c⟩:=zbi8 srt j
 by_cases h1:i<SetTable.below xs j
 ·have:=b i j h1 e;omega
 ·by_cases h2:SetTable.below xs j<i
  ·have hs:SetTable.below xs j<xs.size:=by have:=(Array.getElem?_eq_some_iff.mp e).1;omega
   have er:xs[SetTable.below xs j]?=some xs[SetTable.below xs j]:=zcf6 hs
   have:=c _ _ (zca7 _) er
   rw[← zcb7] at e er
   obtain⟨l1,g1⟩:=zby9.mp e
   obtain⟨l2,g2⟩:=zby9.mp er
   have:=List.pairwise_iff_getElem.mp srt _ _ l2 l1 h2
   rw[g1,g2] at this
   omega
  ·omega
theorem zbp4(j:Nat):SetTable.has #[] j=false:=rfl
theorem zx5{t:SetTable}(srt:t.place.toList.Pairwise (· < ·)){i:Nat}(e:t.place[i]?=some j):t.slot j=.live i:=by
 unfold SetTable.slot
 show (if (t.place[SetTable.below t.place j]?==some j)=true then _ else _)=_
 rw[zs8 srt e,e,if_pos (beq_self_eq_true _)]
theorem zaw1{t:SetTable}(dum:t.dummies=#[])(e:j ∉ t.place.toList):t.slot j=.empty:=by
 unfold SetTable.slot
 show (if (t.place[SetTable.below t.place j]?==some j)=true then _ else if SetTable.has t.dummies j=true then _ else _)=_
 have:¬ (t.place[SetTable.below t.place j]?==some j)=true:=fun h=>by
  have h:=eq_of_beq h
  rw[← zcb7] at h
  exact e (zca5 h)
 rw[if_neg this,dum,zbp4,if_neg zbz3]
structure TOk(t:SetTable)(hs:List Int):Prop where
 msk:Msk t.mask
 dum:t.dummies=#[]
 len:t.place.toList.length=hs.length
 srt:t.place.toList.Pairwise (· < ·)
 bnd:∀ j∈t.place.toList,j<=t.mask
 rch:∀ (i:Nat) h,hs[i]?=some h->∃ k,t.place.toList[i]?=some (wk t.mask h k)/\∀ k',k'<k->wk t.mask h k'∈t.place.toList
theorem zas7{t:SetTable}{hs:List Int}(T:TOk t hs){hashAt:Nat->Int}{h:Int}{k0:Nat}(free:wk t.mask h k0 ∉ t.place.toList)(full:∀ k',k'<k0->wk t.mask h k'∈t.place.toList):∀ (fuel k:Nat),k<=k0->k0 - k<fuel ->
  (∃ k1 i,k<=k1/\k1<k0/\t.place.toList[i]?=some (wk t.mask h k1)/\hashAt i=h/\SetTable.probe.go t hashAt h fuel (stp t.mask h k)=some (.candidate (wk t.mask h k1) i (stp t.mask h (k1+1)))/\∀ k',k<=k'->k'<k1->∀ i',t.place.toList[i']?=some (wk t.mask h k')->hashAt i'≠h) ∨
  (SetTable.probe.go t hashAt h fuel (stp t.mask h k)=some (.empty (wk t.mask h k0) none)/\∀ k',k<=k'->k'<k0->∀ i',t.place.toList[i']?=some (wk t.mask h k')->hashAt i'≠h)
 | 0,k,h1,h2=>by omega
 | fuel+1,k,h1,h2=>by
  rw[SetTable.probe.go.eq_2]
  by_cases e:k=k0
  ·subst e
   right
   rw[show t.slot (stp t.mask h k).j=.empty from zaw1 T.dum free]
   refine⟨?_,fun k' a b=>by omega⟩
   show some (SetTable.Met.empty (wk t.mask h k) (stp t.mask h k).dummy)=_
   rw[zam3]
  ·obtain⟨i,ei⟩:=zce0 (full k (by omega))
   have ei':t.place[i]?=some (wk t.mask h k):=by rw[← zcb7];exact ei
   rw[show t.slot (stp t.mask h k).j=.live i from zx5 T.srt ei']
   show (∃ k1 i1,_/\_/\_/\_/\(if (hashAt i==h)=true then some (SetTable.Met.candidate (wk t.mask h k) i (stp t.mask h (k+1))) else SetTable.probe.go t hashAt h fuel (stp t.mask h (k+1)))=_/\_)∨((if (hashAt i==h)=true then some (SetTable.Met.candidate (wk t.mask h k) i (stp t.mask h (k+1))) else SetTable.probe.go t hashAt h fuel (stp t.mask h (k+1)))=_/\_)
   by_cases c:hashAt i=h
   ·left
    exact⟨k,i,zca7 _,by omega,ei,c,by rw[if_pos (by rw[c];exact beq_self_eq_true _)],fun k' a b=>by omega⟩
   ·have nc:¬ (hashAt i==h)=true:=fun z=>c (eq_of_beq z)
    rw[if_neg nc]
    have here:∀ i',t.place.toList[i']?=some (wk t.mask h k)->hashAt i'≠h:=fun i' e'=>by
     have:i'=i:=by
      have b1:=zs8 T.srt (i:=i') (j:=wk t.mask h k) (by rw[← zcb7];exact e')
      have b2:=zs8 T.srt ei'
      omega
     rw[this];exact c
    rcases zas7 T free full fuel (k+1) (by omega) (by omega) with ⟨k1,i1,a1,a2,a3,a4,a5,a6⟩|⟨a1,a2⟩
    ·left
     refine⟨k1,i1,by omega,a2,a3,a4,a5,fun k' b1 b2 i' e'=>?_⟩
     by_cases z:k'=k
     ·subst z;exact here i' e'
     ·exact a6 k' (by omega) b2 i' e'
    ·right
     refine⟨a1,fun k' b1 b2 i' e'=>?_⟩
     by_cases z:k'=k
     ·subst z;exact here i' e'
     ·exact a2 k' (by omega) b2 i' e'
theorem TOk.of{t t2:SetTable}{hs:List Int}(T:TOk t hs)(e1:t2.mask=t.mask)(e2:t2.place=t.place)(e3:t2.dummies=t.dummies):TOk t2 hs:=
 ⟨by rw[e1];exact T.msk,by rw[e3];exact T.dum,by rw[e2];exact T.len,by rw[e2];exact T.srt,by rw[e1,e2];exact T.bnd,by rw[e1,e2];exact T.rch⟩
section
variable {prog:Program}{w:World}{A:Around}{E:Value->Shared->Prop}{s:Shared}
theorem zs4{M:Model}{α β:Type}(f:α->β->Sem (ForInStep β))(I:List α->β->Shared->Prop)(Q:β->Shared->Prop)(hs:∀ (x:α) (rest:List α) (b:β) (s:Shared),I (x :: rest) b s->wpAny M A (f x b) (fun r s'=>match r with|ForInStep.yield b'=>I rest b' s' | ForInStep.done b'=>Q b' s') E s)(hd:∀ (b:β) (s:Shared),I [] b s->Q b s):∀ (xs:List α) (b:β) (s:Shared),I xs b s->wpAny M A (forIn xs b f) Q E s
 | [],b,s,h=>by rw[List.forIn_nil];exact zch9 (hd b s h)
 | x :: xs,b,s,h=>by
  rw[List.forIn_cons]
  refine zch8 ?_
  have:=hs x xs b s h
  revert this
  generalize f x b=m
  intro this
  refine wpAny_mono this (fun r s' hr=>?_) (fun _ _ h=>h)
  cases r with
  | done b'=>exact zch9 hr
  | yield b'=>exact zs4 f I Q hs hd xs b' s' hr
theorem zbf7{ks:List Int}{vs:List Value}(h:PySem.ItemsAre (intKind prog w) ks vs):∀ v∈vs,carriedByValue v=true:=by
 induction h with
 | nil=>intro v hv;cases hv
 | cons h1 h2 ih=>
  intro v hv
  rcases zbz4.mp hv with rfl|hv
  ·exact (intKind prog w).byValue _ _ h1
  ·exact ih v hv
theorem noref{v:Value}(h:carriedByValue v=true):∀ a,v=Value.ref a->False:=fun a e=>by subst e;cases h
theorem zbc2{k:List Int}{p:Addr}{Q:Bool->Shared->Prop}(h:IsTupleKey (intKind prog w) s.heap k p)(q:Q false s):wpAny (model prog w) A (ofAClassStatement 8 (.ref p)) Q E s:=by
 show wpAny (model prog w) A (ofAClassStatement (7+1) (.ref p)) Q E s
 rw[ofAClassStatement.eq_2]
 refine zch8 (wpAny_typeOf h.typeIs ?_)
 obtain⟨o,items,n,ho,hc,hd,hi⟩:=h
 show wpAny (model prog w) A (if ("tuple"=="tuple")=true then _ else _) Q E s
 refine wpAny_ite_true rfl ?_
 refine zch8 (zch9 ?_)
 refine zci1 rfl ?_
 refine zch8 (wpAny_seqItems ho hd ?_)
 refine zch8 ?_
 refine wpAny_forIn_array' _ (fun rest b s'=>s'=s/\b=(none,())/\∀ v∈rest,carriedByValue v=true) _ ?_ ?_ items _ ⟨rfl,rfl,zbf7 hi⟩
 ·rintro x rest b s' ⟨rfl,rfl,hv⟩
  rw[ofAClassStatement.eq_3 _ _ (noref (hv x (.head _)))]
  refine zch8 (zch9 ?_)
  refine zci1 rfl (zch9 ?_)
  exact⟨rfl,rfl,fun v h=>hv v (.tail _ h)⟩
 ·rintro b s' ⟨rfl,rfl,_⟩
  exact zch9 q
theorem zbn3{k:List Int}{q:Addr}{Q:Bool->Shared->Prop}(hk:IsTupleKey (intKind prog w) s.heap k q){vs:List Value}(hv:∀ v∈vs,∃ p k',v=.ref p/\IsTupleKey (intKind prog w) s.heap k' p)(hQ:Q false s):wpAny (model prog w) A (searchCouldBeSeen (.ref q) vs) Q E s:=by
 unfold searchCouldBeSeen
 refine zch8 ?_
 refine zs4 _ (fun rest b s'=>s'=s/\b=(none,())/\∀ v∈rest,∃ p k',v=.ref p/\IsTupleKey (intKind prog w) s.heap k' p) _ ?_ ?_ vs _ _ ⟨rfl,rfl,hv⟩
 ·rintro x rest b s' ⟨rfl,rfl,hv⟩
  obtain⟨p,k',rfl,hp⟩:=hv x (.head _)
  have hr:∀ v∈rest,∃ p k',v=.ref p/\IsTupleKey (intKind prog w) s'.heap k' p:=fun v h=>hv v (.tail _ h)
  show wpAny (model prog w) A (if ((q==p) || carriedByValue (Value.ref q)&&carriedByValue (Value.ref p))=true then _ else _) _ E s'
  by_cases c:((q==p) || carriedByValue (Value.ref q)&&carriedByValue (Value.ref p))=true
  ·rw[if_pos c]
   exact zch9 ⟨rfl,rfl,hr⟩
  ·rw[if_neg c]
   refine zch8 (wpAny_eqIsQuiet_tuple hk ?_)
   refine zci1 rfl ?_
   refine zch8 (wpAny_eqIsQuiet_tuple hp ?_)
   refine zci1 rfl ?_
   refine zch8 (zbc2 hk ?_)
   refine zci1 rfl ?_
   refine zch8 (zbc2 hp ?_)
   refine zci1 rfl ?_
   exact zch9 ⟨rfl,rfl,hr⟩
 ·rintro b s' ⟨rfl,rfl,_⟩
  exact zch9 hQ
structure SetE(prog:Program)(w:World)(h:Heap)(a:Addr)(o:Obj)(es:Array (Int×Value))(ep:Nat)(t:SetTable)(keys:List (List Int)):Prop where
 at_:h.get? a=some o
 ex:o.ExactSet
 dat:o.data=Data.set es ep t
 tab:TOk t (es.toList.map (·.1))
 few:es.size*5<t.mask*3
 sz:es.size=keys.length
 el:∀ e∈es.toList,∃ p k,k∈keys/\e=(zci2 (intKind prog w) k,.ref p)/\IsTupleKey (intKind prog w) h k p
 all:∀ k∈keys,∃ e∈es.toList,∃ p,e=(zci2 (intKind prog w) k,.ref p)/\IsTupleKey (intKind prog w) h k p
theorem SetE.mask{h:Heap}{a:Addr}{o:Obj}{es:Array (Int×Value)}{ep:Nat}{t:SetTable}{keys:List (List Int)}(S:SetE prog w h a o es ep t keys):Msk t.mask:=S.tab.msk
theorem TOk.fits{t:SetTable}{es:Array (Int×Value)}(T:TOk t (es.toList.map (·.1)))(few:es.size<=t.mask):t.fits es.size=true:=by
 have l:=T.len
 rw[zby7,zca0,zca0] at l
 unfold SetTable.fits SetTable.fill
 rw[T.dum,l]
 simp
 exact few
theorem SetE.fits{h:Heap}{a:Addr}{o:Obj}{es:Array (Int×Value)}{ep:Nat}{t:SetTable}{keys:List (List Int)}(S:SetE prog w h a o es ep t keys):t.fits es.size=true:=S.tab.fits (by have:=S.few;omega)
theorem SetE.gave{h:Heap}{a:Addr}{t:SetTable}{keys:List (List Int)}(S:SetE prog w h a o es ep t keys):t.gaveWay=false:=by
 unfold SetTable.gaveWay
 rcases S.mask with e|e<;>rw[e]<;>rfl
theorem zav8(p:Addr):isSame (.ref p) (.ref p)=pure true:=by
 show (if (p==p)=true then pure true else _)=_
 rw[if_pos (beq_self_eq_true p)]
theorem zav3(t:SetTable):t.sameMemory t.moves t.mask=some true:=by
 unfold SetTable.sameMemory
 rw[if_pos (beq_self_eq_true _)]
theorem zbl1{a:Addr}{o:Obj}{es:Array (Int×Value)}{ep:Nat}{t:SetTable}{keys:List (List Int)}(S:SetE prog w s.heap a o es ep t keys)(hA:A.units<cLine){k:List Int}{q:Addr}(hk:IsTupleKey (intKind prog w) s.heap k q){k0:Nat}(free:wk t.mask (zci2 (intKind prog w) k) k0 ∉ t.place.toList)(full:∀ k',k'<k0->wk t.mask (zci2 (intKind prog w) k) k'∈t.place.toList)(hk0:k0<10*(t.mask+14)){Q:SetFound->Shared->Prop}(q1:k∈keys->Q (.there none) s)(q2:k ∉ keys->Q (.free (wk t.mask (zci2 (intKind prog w) k) k0) false) s) :
  ∀ (fuel n:Nat) (stand:Option SetTable.Probe),n<=k0->k0 - n<fuel->stand.getD (t.probeStart (zci2 (intKind prog w) k))=stp t.mask (zci2 (intKind prog w) k) n->(∀ k',k'<n->∀ (i:Nat) p,t.place.toList[i]?=some (wk t.mask (zci2 (intKind prog w) k) k')->es.toList[i]?=some (zci2 (intKind prog w) k,.ref p)->¬ IsTupleKey (intKind prog w) s.heap k p)->wpAny (model prog w) A (setSearchFrom a (.ref q) (zci2 (intKind prog w) k) true fuel stand) Q E s
 | 0,n,stand,h1,h2,h3,h4=>by omega
 | fuel+1,n,stand,h1,h2,h3,h4=>by
  rw[setSearchFrom.eq_2]
  refine zch8 (wpAny_setState_of S.at_ S.dat S.fits ?_)
  show wpAny (model prog w) A (if t.gaveWay=true then _ else _) Q E s
  rw[S.gave]
  refine zci1 rfl ?_
  rw[h3]
  have hl:=S.tab.len
  rw[zby7] at hl
  rcases zas7 S.tab (hashAt:=fun i=>(Option.map (fun x=>x.fst) es[i]?).getD 0) free full (10*(t.mask+15)) n h1 (by omega) with ⟨k1,i,b1,b2,b3,b4,b5,b6⟩|⟨b1,b2⟩
  ·have b5:t.probe (fun i=>(Option.map (fun x=>x.fst) es[i]?).getD 0) (zci2 (intKind prog w) k) (stp t.mask (zci2 (intKind prog w) k) n)=_:=b5
   show wpAny (model prog w) A (match t.probe (fun i=>(Option.map (fun x=>x.fst) es[i]?).getD 0) (zci2 (intKind prog w) k) (stp t.mask (zci2 (intKind prog w) k) n) with|some met=>_|_=>_) Q E s
   rw[b5]
   have hi:i<es.size:=by
    have:=(zby9.mp b3).1
    rw[hl,zca0] at this
    exact this
   have ei:es[i]?=some es[i]:=zcf6 hi
   have em:es[i]∈es.toList:=by rw[zch1];exact Array.getElem_mem hi
   obtain⟨p,k',hk',eq,hp⟩:=S.el _ em
   rw[eq] at ei em
   have hh:zci2 (intKind prog w) k'=zci2 (intKind prog w) k:=by
    rw[ei] at b4
    exact b4
   have inv:¬ k'=k->∀ k'',k''<k1+1->∀ (i':Nat) p',t.place.toList[i']?=some (wk t.mask (zci2 (intKind prog w) k) k'')->es.toList[i']?=some (zci2 (intKind prog w) k,.ref p')->¬ IsTupleKey (intKind prog w) s.heap k p':=fun ne k'' hk'' i' p' e1 e2 hp'=>by
    by_cases c1:k''<n
    ·exact h4 k'' c1 i' p' e1 e2 hp'
    ·by_cases c2:k''<k1
     ·have:=b6 k'' (by omega) c2 i' e1
      rw[← zcb7,e2] at this
      exact this rfl
     ·have:k''=k1:=by omega
      subst this
      have x1:=zs8 S.tab.srt (i:=i') (by rw[← zcb7];exact e1)
      have x2:=zs8 S.tab.srt (i:=i) (by rw[← zcb7];exact b3)
      have:i'=i:=by omega
      subst this
      rw[zcb7,ei] at e2
      have:=(Prod.mk.inj (Option.some.inj e2)).2
      cases this
      exact ne (IsTupleKey.inj hp hp')
   refine wpAny_ite ?_
   split
   ·refine zch8 (zbn3 hk (fun v hv=>?_) ?_)
    ·obtain⟨z,hz,rfl⟩:=zcf4.mp hv
     obtain⟨hz,_⟩:=Array.mem_filter.mp (zch1.mp hz)
     obtain⟨p2,k2,_,e2,h2⟩:=S.el z (zch1.mpr hz)
     exact⟨p2,k2,by rw[e2],h2⟩
    refine zci1 rfl ?_
    rw[ei]
    refine zch8 (zci3 (wpAny_eqBool_tuple hA hp hk ?_))
    refine zch8 (wpAny_setState_of S.at_ S.dat S.fits ?_)
    by_cases e:k'=k
    ·rw[decide_eq_true e]
     exact wpAny_ite_true rfl (zch9 (q1 (e▸hk')))
    ·rw[decide_eq_false e]
     refine zci1 rfl ?_
     rw[zav3]
     show wpAny (model prog w) A (match t.slot (wk t.mask (zci2 (intKind prog w) k) k1) with|SetTable.Slot.live i'=>_|x=>_) Q E s
     rw[zx5 S.tab.srt (i:=i) (by rw[← zcb7];exact b3)]
     show wpAny (model prog w) A (match es[i]? with|some (fst,y')=>_|none=>_) Q E s
     rw[ei]
     refine zch8 (wpAny_of_eq (zav8 p) ?_)
     refine zch8 (zch9 ?_)
     refine zci1 rfl ?_
     exact zbl1 S hA hk free full hk0 q1 q2 fuel (k1+1) (some _) (by omega) (by omega) rfl (inv e)
   ·rw[ei]
    refine zch8 (zci3 (wpAny_eqBool_tuple hA hp hk ?_))
    refine zch8 (wpAny_setState_of S.at_ S.dat S.fits ?_)
    by_cases e:k'=k
    ·rw[decide_eq_true e]
     exact wpAny_ite_true rfl (zch9 (q1 (e▸hk')))
    ·rw[decide_eq_false e]
     refine zci1 rfl ?_
     rw[zav3]
     show wpAny (model prog w) A (match t.slot (wk t.mask (zci2 (intKind prog w) k) k1) with|SetTable.Slot.live i'=>_|x=>_) Q E s
     rw[zx5 S.tab.srt (i:=i) (by rw[← zcb7];exact b3)]
     show wpAny (model prog w) A (match es[i]? with|some (fst,y')=>_|none=>_) Q E s
     rw[ei]
     refine zch8 (wpAny_of_eq (zav8 p) ?_)
     refine zch8 (zch9 ?_)
     refine zci1 rfl ?_
     exact zbl1 S hA hk free full hk0 q1 q2 fuel (k1+1) (some _) (by omega) (by omega) rfl (inv e)
  ·have b1:t.probe (fun i=>(Option.map (fun x=>x.fst) es[i]?).getD 0) (zci2 (intKind prog w) k) (stp t.mask (zci2 (intKind prog w) k) n)=_:=b1
   show wpAny (model prog w) A (match t.probe (fun i=>(Option.map (fun x=>x.fst) es[i]?).getD 0) (zci2 (intKind prog w) k) (stp t.mask (zci2 (intKind prog w) k) n) with|some met=>_|_=>_) Q E s
   rw[b1]
   refine zch9 (q2 fun hin=>?_)
   obtain⟨e,he,p,rfl,hp⟩:=S.all k hin
   obtain⟨i,ei⟩:=zce0 he
   obtain⟨kx,r1,r2⟩:=S.tab.rch i (zci2 (intKind prog w) k) (by rw[zbz1,ei];rfl)
   have lt:kx<k0:=by
    by_cases z:kx<k0
    ·exact z
    ·exfalso
     by_cases z2:kx=k0
     ·subst z2
      exact free (zca5 r1)
     ·exact free (r2 k0 (by omega))
   by_cases c:kx<n
   ·exact h4 kx c i p r1 ei hp
   ·have:=b2 kx (by omega) lt i r1
    rw[← zcb7,ei] at this
    exact this rfl
end
section
variable {prog:Program}{w:World}{A:Around}{E:Value->Shared->Prop}{s:Shared}
theorem zbh3{h h':Heap}{k:List Int}{p:Addr}(hk:IsTupleKey (intKind prog w) h k p)(m:∀ o,h.get? p=some o->h'.get? p=some o):IsTupleKey (intKind prog w) h' k p:=by
 obtain⟨o,i,n,g,c,d,x⟩:=hk
 exact⟨o,i,n,m o g,c,d,x⟩
theorem SetE.mono{h h':Heap}{a:Addr}{t:SetTable}{keys:List (List Int)}(S:SetE prog w h a o es ep t keys)(m:∀ b o,h.get? b=some o->h'.get? b=some o):SetE prog w h' a o es ep t keys:=
 ⟨m _ _ S.at_,S.ex,S.dat,S.tab,S.few,S.sz,fun e he=>by obtain⟨p,k,h1,h2,h3⟩:=S.el e he;exact⟨p,k,h1,h2,zbh3 h3 fun o g=>m _ o g⟩,fun k hk=>by obtain⟨e,he,p,h2,h3⟩:=S.all k hk;exact⟨e,he,p,h2,zbh3 h3 fun o g=>m _ o g⟩⟩
end
set_option maxHeartbeats 2000000
section
variable {X:Cx}{K:zby6}
def qSM(r:Str->List V->Hp->VK->Prop)(to:TE)(t:TA):TE:=fun σ H Q=>to σ H fun x H1=>match x with
 | .str p=>t σ H1 fun xs H2=>r p xs H2 Q
 | _=>False
def MtS(X:Cx)(id:String)(r:Str->List V->Hp->VK->Prop):Prop:=
 ∀ (pins:List (Addr×Obj)) (s:Shared) (σ:St) (H:Hp) (p:Str) (tk:Tok) (xs:List V) (us:List Value) (Q:VK),Inv X pins σ H s->Vals xs us->r p xs H Q ->
  wpAny (model X.prog X.w) X.A (call (.builtin id) (.str p tk :: us)) (EP X pins σ Q) X.xe s
theorem peSM{o e:Expr}{es:List Expr}{to:TE}{t:TA}{name:Str}{apos:Pos}{id:String}{r:Str->List V->Hp->VK->Prop}(slot:Slot "str" name id)(hty:typeOf (.builtin id)=pure (.type "method_descriptor"))(hm:MtS X id r)(ho:PE X o to)(ha:PA X (e :: es) t)(hbase:attributeBase o name X.env (eval o X.env)=eval o X.env:=by rfl)(hfew:((backTo cpos (starEach (e :: es) X.env)).all (fun x=>!x.1)&&(backToKw cpos (keywordEach [] X.env)).all (fun x=>x.1.isSome)
   && decide ((e :: es).length+([]:List Keyword).length+(if ([]:List Keyword).isEmpty then 0 else 1)<30))=true:=by rfl)(hline:(apos.endLine==cpos.line)=true:=by rfl)(hs:starEach (e :: es) X.env=(false,eval e X.env) :: starEach es X.env:=by rfl)(hplain:(backTo cpos (starEach es X.env)).any (·.1)=false:=by rfl) :
  PE X (.Call (.Attribute o name apos) (e :: es) [] cpos) (qSM r to t):=by
 intro pins s σ H Q I h
 refine wpAny_Call_method_late hbase hfew hline rfl (thn (ho pins s σ H _ I h) fun v s1 ⟨x,H1,I1,r1,q1⟩=>?_)
 dsimp only at q1
 split at q1
 ·rename_i p
  obtain⟨h1,h2⟩:=zbk3 (T:="str") I1 r1 rfl
  refine⟨"str",id,PySem.F.plainAttrs_str,slot,hty,h1,h2,?_⟩
  have hA:=ha cpos pins s1 σ H1 _ I1 q1
  rw[hs] at hA ⊢
  refine Calls.callWith_builtin (by show (false || (backTo cpos (starEach es X.env)).any (·.1))=false;rw[hplain]<;>rfl) (Calls.evalArgs_plain ?_)
  obtain⟨tk,rfl⟩:=r1
  exact thn hA fun us s2 ⟨vs,H2,I2,r2,q2⟩=>hm pins s2 σ H2 p tk vs us Q I2 r2 q2
 ·exact q1.elim
@[irreducible] def rJoinA(K:zby6)(x:Str)(p:Addr)(H:Hp)(Q:VK):Prop:=∃ ys:List Str,SqL K H p (ys.map V.str)/\(ys.map (·.length)).sum+ys.length*x.length<=16777216/\Q (.str (Txt.join x ys)) H
def rJoinM(K:zby6):Str->List V->Hp->VK->Prop:=fun x vs H Q=>match vs with
 | [.ref p]=>rJoinA K x p H Q
 | _=>False
theorem zaj5:∀ (ys:List Str) (k:Nat),Vals (ys.map V.str) (strsFrom k ys)
 | [],_=>.nil
 | y :: ys,k=>.cons ⟨_,rfl⟩ (zaj5 ys (k+1))
@[irreducible] def zag0(x y:Str)(H:Hp)(Q:VK):Prop:=(y.length==0)=false/\x.length+2<=sizeLine/\∀ l H',H l=none->Same H H'->H' l=some (.lst ((Txt.split x y).map V.str))->Q (.ref l) H'
def zaq9:Str->List V->Hp->VK->Prop:=fun x vs H Q=>match vs with
 | [.str y]=>zag0 x y H Q
 | _=>False
theorem mSplit:MtS X "str.split" zaq9:=fun pins s σ H x tk xs us Q I r h=>by
 unfold zaq9 at h
 split at h
 ·rename_i y
  unfold zag0 at h
  obtain⟨h1,h2,q⟩:=h
  obtain⟨u,rfl,r1⟩:=zy3 r
  obtain⟨t,rfl⟩:=r1
  have sl:=split_le x y
  have one:Txt.split x y=[x]->EP X pins σ Q (.ref s.heap.objs.size) { s with heap:=s.heap.push { cls:=.type "list",data:=.seq #[.str x tk] },toks:=s.toks }:=fun e=>
   ⟨.ref _,_,I.lnew (t':=s.toks) (ys:=[.str x]) (its:=[.str x tk]) (.cons ⟨_,rfl⟩ .nil) (by rw[zcb1];omega),rfl,q _ _ I.fresh (Same.upd I.fresh) (by rw[zb8,e];rfl)⟩
  by_cases c1:(decide (x.length<y.length) || decide (Builtin.Str.strKind x<Builtin.Str.strKind y))=true
  ·exact call_meets F.slot_str_split (typeIs_str s x tk) F.entry_str_split (F.args_str_split_2 _ _) (meets_str_split_cannot_occur x y tk t c1) (one (by unfold Txt.split;rw[if_pos c1]))
  ·have c1':=Bool.eq_false_iff.mpr c1
   by_cases c2:(Builtin.Str.occurrences x y 0 x.length (x.length+1)).isEmpty=true
   ·exact call_meets F.slot_str_split (typeIs_str s x tk) F.entry_str_split (F.args_str_split_2 _ _) (meets_str_split_not_found x y tk t c1' h1 c2) (one (by unfold Txt.split;rw[if_neg c1,if_pos c2]))
   ·have c2':=Bool.eq_false_iff.mpr c2
    have e:Txt.split x y=Builtin.Str.partsBetween x (Builtin.Str.occurrences x y 0 x.length (x.length+1)) y.length:=by unfold Txt.split;rw[if_neg c1,if_neg c2]
    rw[e] at q sl
    refine call_meets F.slot_str_split (typeIs_str s x tk) F.entry_str_split (F.args_str_split_2 _ _) (meets_str_split_sep x y tk t c1' h1 c2' (by omega) (by omega)) ?_
    exact⟨.ref _,_,I.lnew (zaj5 _ s.toks) (by rw[zby7];omega),rfl,q _ _ I.fresh (Same.upd I.fresh) zb8⟩
 ·exact h.elim
theorem zaf3{x y:Str}{Q:VK}(h1:(y.length==0)=false)(h2:x.length+2<=sizeLine)(q:∀ l H',H l=none->Same H H'->H' l=some (.lst ((Txt.split x y).map V.str))->Q (.ref l) H'):zag0 x y H Q:=by unfold zag0;exact⟨h1,h2,q⟩
theorem zy5{o e:Expr}{to:TE}{t:TA}{apos:Pos}(hK:X.K=K)(ho:PE X o to)(ha:PA X [e] t)(hbase:attributeBase o "split" X.env (eval o X.env)=eval o X.env:=by rfl)(hfew:((backTo cpos (starEach [e] X.env)).all (fun x=>!x.1)&&(backToKw cpos (keywordEach [] X.env)).all (fun x=>x.1.isSome)
   && decide ([e].length+([]:List Keyword).length+(if ([]:List Keyword).isEmpty then 0 else 1)<30))=true:=by rfl)(hline:(apos.endLine==cpos.line)=true:=by rfl)(hs:starEach [e] X.env=(false,eval e X.env) :: starEach [] X.env:=by rfl)(hplain:(backTo cpos (starEach [] X.env)).any (·.1)=false:=by rfl):PE X (.Call (.Attribute o "split" apos) [e] [] cpos) (qSM zaq9 to t):=
 peSM PySem.F.slot_str_split PySem.F.type_str_split mSplit ho ha hbase hfew hline hs hplain
def zap4:Str->List V->Hp->VK->Prop:=fun x vs H Q=>match vs with
 | [.str y]=>Q (.bl (Txt.startswith x y)) H
 | _=>False
theorem mStart:MtS X "str.startswith" zap4:=fun pins s σ H x tk xs us Q I r h=>by
 unfold zap4 at h
 split at h
 ·rename_i y
  obtain⟨u,rfl,r1⟩:=zy3 r
  obtain⟨t,rfl⟩:=r1
  exact call_gives F.slot_str_startswith (typeIs_str s x tk) F.entry_str_startswith (F.args_str_startswith_2 _ _) (gives_str_startswith x y tk t) ⟨.bl _,H,I,rfl,h⟩
 ·exact h.elim
theorem zaa7{o e:Expr}{to:TE}{t:TA}{apos:Pos}(hK:X.K=K)(ho:PE X o to)(ha:PA X [e] t)(hbase:attributeBase o "startswith" X.env (eval o X.env)=eval o X.env:=by rfl)(hfew:((backTo cpos (starEach [e] X.env)).all (fun x=>!x.1)&&(backToKw cpos (keywordEach [] X.env)).all (fun x=>x.1.isSome)
   && decide ([e].length+([]:List Keyword).length+(if ([]:List Keyword).isEmpty then 0 else 1)<30))=true:=by rfl)(hline:(apos.endLine==cpos.line)=true:=by rfl)(hs:starEach [e] X.env=(false,eval e X.env) :: starEach [] X.env:=by rfl)(hplain:(backTo cpos (starEach [] X.env)).any (·.1)=false:=by rfl):PE X (.Call (.Attribute o "startswith" apos) [e] [] cpos) (qSM zap4 to t):=
 peSM PySem.F.slot_str_startswith PySem.F.type_str_startswith mStart ho ha hbase hfew hline hs hplain
end
section
variable {X:Cx}{K:zby6}
def Its(x:Str):It:=⟨fun i _=>i<x.cps.size,fun i H v H'=>H'=H/\∃ c,x.cps[i]?=some c/\v=.str ⟨#[c]⟩,fun i _=>x.cps.size<=i⟩
theorem go_str{M:Model}{A:Around}{tg:Expr}{it:Addr}{x:Str}{t:Tok}{Q:Unit->Shared->Prop}(hQ:Q () s):wpAny M A (letOwnedTupleGo tg (.ref it) (.str x t)) Q E s:=by
 unfold letOwnedTupleGo
 cases tg<;>exact zch9 hQ
theorem zbj8{P:Program}{w:World}{K:zby6}{tg:Expr}(x:Str)(tx:Tok)(it:Addr):Turn P w K tg (Its x) [it] it (fun i h=>h.IsStrIter it (strIterType x) x tx i) where
 mem:=by simp
 obj:=fun i h st b hb=>by
  have e:b=it:=by simpa using hb
  subst e
  obtain⟨o,e,c,d⟩:=st
  exact⟨o,e,fun v z=>by rw[d] at z;cases z⟩
 keep:=fun i h h' st k=>by
  obtain⟨o,e,c,d⟩:=st
  exact⟨o,k it (by simp) o e,c,d⟩
 item:=by
  intro X hP hw hK hc i pins s σ H E I hf st hg
  subst hP hw hK
  have hg:i<x.cps.size:=hg
  obtain⟨c,ec⟩:∃ c,x.cps[i]?=some c:=⟨_,zcf6 hg⟩
  obtain⟨f0,f1,f2,f3,f4,f5⟩:=hf it (by simp)
  have fin:∀ h',h'.IsStrIter it (strIterType x) x tx (i+1)->Heap.SameBut it s.heap h'->∃ u,some (Value.str ⟨#[c]⟩ s.toks)=some u/\wpAny (model X.prog X.w) X.A (letOwnedTupleGo tg (.ref it) u) (fun _ s2=>∃ v H',Inv X pins σ H' s2/\RelV v u/\(Its x).yld i H v H'/\s2.heap.IsStrIter it (strIterType x) x tx (i+1)/\∀ b∈[it],H' b=none) E { s with heap:=h',toks:=s.toks+1 }:=fun h' st' sb=>
   ⟨_,rfl,go_str ⟨.str ⟨#[c]⟩,H,I.turned (t':=s.toks+1) (fun b o hb e=>(sb.2 b hb).trans e) f0 f1 f3 f4 f5,⟨_,rfl⟩,⟨rfl,c,ec,rfl⟩,st',fun b hb=>(hf b hb).1⟩⟩
  by_cases ha:(x.cps.all fun x=>decide (x<128))=true
  ·have e:strIterType x="str_ascii_iterator":=by unfold strIterType;rw[if_pos ha]
   rw[e] at st
   exact wpAny_pyNext_ascii_item st ec fun h' st' sb=>fin h' (by rw[e];exact st') sb
  ·have e:strIterType x="str_iterator":=by unfold strIterType;rw[if_neg ha]
   rw[e] at st
   exact wpAny_pyNext_wide_item st ec fun h' st' sb=>fin h' (by rw[e];exact st') sb
 done:=by
  intro X hP hw hK hc i pins s σ H E I hf st hg
  subst hP hw hK
  have hg:x.cps.size<=i:=hg
  have ec:x.cps[i]?=none:=Array.getElem?_eq_none hg
  obtain⟨f0,f1,f2,f3,f4,f5⟩:=hf it (by simp)
  by_cases ha:(x.cps.all fun x=>decide (x<128))=true
  ·have e:strIterType x="str_ascii_iterator":=by unfold strIterType;rw[if_pos ha]
   rw[e] at st
   exact wpAny_pyNext_ascii_end (I.ok.hd hc) st ec fun h' eb=>⟨rfl,I.turned (t':=s.toks) (fun b o hb e=>eb b o hb e) f0 f1 f3 f4 f5⟩
  ·have e:strIterType x="str_iterator":=by unfold strIterType;rw[if_neg ha]
   rw[e] at st
   exact wpAny_pyNext_wide_end (I.ok.hd hc) st ec fun h' eb=>⟨rfl,I.turned (t':=s.toks) (fun b o hb e=>eb b o hb e) f0 f1 f3 f4 f5⟩
 self:=fun A i s Q E st h=>by
  by_cases ha:(x.cps.all fun x=>decide (x<128))=true
  ·have e:strIterType x="str_ascii_iterator":=by unfold strIterType;rw[if_pos ha]
   rw[e] at st
   exact wpAny_pyIter_striter_ascii st h
  ·have e:strIterType x="str_iterator":=by unfold strIterType;rw[if_neg ha]
   rw[e] at st
   exact wpAny_pyIter_striter_wide st h
@[irreducible] def zas1(x:Str)(H:Hp)(R:It->Hp->Prop):Prop:=R (Its x) H
def qiStr(tl:TE):TI:=fun σ H R=>tl σ H fun x H1=>match x with
 | .str z=>zas1 z H1 R
 | _=>False
theorem piStr{tg l:Expr}{tl:TE}(hl:PE X l tl):PI X tg l (qiStr tl):=by
 intro pins s σ H R I h
 refine thn (hl pins s σ H _ I h) fun v s1 ⟨x,H1,I1,r1,q1⟩=>?_
 dsimp only at q1
 split at q1
 ·rename_i z
  unfold zas1 at q1
  obtain⟨t,rfl⟩:=r1
  have fp:∀ b∈[s1.heap.objs.size],FpOk X pins H1 b:=fun b hb=>by
   have e:b=s1.heap.objs.size:=by simpa using hb
   subst e
   exact I1.fpOk (zca7 _) (I1.hok.fresh (zca7 _))
  refine wpAny_pyIter_strU ?_
  exact⟨s1.heap.objs.size,[s1.heap.objs.size],_,_,H1,rfl,I1.kept (t':=s1.toks) fun b o e=>zbz8 _ e,zbj8 z t _,⟨_,zcd0 _ rfl,rfl,rfl⟩,fp,q1⟩
 ·exact q1.elim
theorem zbi1{x:Str}{R:It->Hp->Prop}(q:R (Its x) H):zas1 x H R:=by unfold zas1;exact q
theorem Wk.str{x:Str}{H1:Hp}:Wk (Its x) x.cps.size H1 fun i v _=>∃ c,x.cps[i]?=some c/\v=.str ⟨#[c]⟩:=
 ⟨fun i H s hi=>hi,fun H s=>zca7 _,fun i H v H' s _ y=>by
  obtain⟨e,y⟩:=y
  subst e
  exact⟨Same.refl _,y⟩⟩
def rSlZM(K:zby6):V->Option Int->Option Int->Hp->VK->Prop:=fun x lo hi H Q=>match x with
 | .ref a=>rSlX K a lo hi H Q
 | .str z=>z.length<=sizeLine/\Q (.str (Txt.slice z lo hi)) H
 | _=>False
theorem zbh2{v:Value}{o:Option Int}(p:IsPart v o):∃ q:Option (Int×Tok),v=partValue q/\q.map (·.1)=o:=by
 cases p with
 | none=>exact⟨none,rfl,rfl⟩
 | int i t=>exact⟨some (i,t),rfl,rfl⟩
theorem slZK(hK:X.K=K):SlR X (rSlZM K):=by
 subst hK
 intro pins s σ H x v vl vu lo hi sl Q I rx hs pl pu h
 unfold rSlZM at h
 split at h
 ·exact slX pins s σ H _ v vl vu lo hi sl Q I rx hs pl pu h
 ·rename_i z
  obtain⟨hz,q⟩:=h
  obtain⟨t,rfl⟩:=rx
  obtain⟨ql,rfl,el⟩:=zbh2 pl
  obtain⟨qu,rfl,eu⟩:=zbh2 pu
  refine⟨"str",_,slot_str_getitem.lookup,typeIs_str s z t,wpAny_getItem_str_slice (st:=none) hs rfl ?_⟩
  unfold sliceMade slicePicked
  rw[el,eu]
  have le:=Txt.slice_le z lo hi
  unfold Txt.slice at q le
  show Made.post (if (1==1&&(Builtin.Str.strSliceIndices lo hi 1 z.length).length==z.length)=true then _ else _) _ s
  split
  ·rename_i c
   rw[if_pos c] at q
   exact⟨.str z,H,I,⟨_,rfl⟩,q⟩
  ·rename_i c
   rw[if_neg c] at q le
   exact⟨zcc5 le hz,.str _,H,I.tok _,⟨_,rfl⟩,q⟩
 ·exact h.elim
def hasS(x y:Str):Bool:=!(Builtin.Str.occurrences x y 0 x.length 1).isEmpty
def rInZM(K:zby6):R2:=fun x y H Q=>match x,y with
 | .str a,.str b=>Q (.bl (hasS b a)) H
 | x,y=>rInM K false x y H Q
theorem oInZK(hK:X.K=K):OpR X (compareOp .In) (rInZM K):=by
 intro pins s σ H x y v u Q I rx ry h
 unfold rInZM at h
 split at h
 ·obtain⟨t,rfl⟩:=rx
  obtain⟨t',rfl⟩:=ry
  exact P.in_str ⟨.bl _,H,I,rfl,h⟩
 ·exact oInK hK pins s σ H _ _ v u Q I rx ry h
end
section
variable {X:Cx}{K:zby6}
@[irreducible] def isFn(mg:Str->Option Value)(x:Str)(v:V):Prop:=∃ f,v=.ref f/\mg x=some (.ref f)
@[irreducible] def rFn(mg:Str->Option Value)(x:Str)(H:Hp)(Q:VK):Prop:=∀ v,isFn mg x v->Q v H
def qFn(mg:Str->Option Value)(x:Str):TE:=fun _ H Q=>rFn mg x H Q
theorem peFn{CX:CXT}{k:Nat}{x:Str}{ps:List Str}{sp:Sp}(F:Def X.prog X.w X.K X.mg X.base CX k x ps sp)(hg:Gl X x:=by rfl)(hdb:(x==("__debug__":Str))=false:=by decide):PE X (.Name x pos) (qFn X.mg x):=by
 obtain⟨f,fd,F1,F2,F3,F4⟩:=F.ex
 intro pins s σ H Q I h
 unfold qFn rFn at h
 exact zl3 I hg F2 ⟨.ref f,H,I,rfl,h _ (by unfold isFn;exact⟨f,rfl,F2⟩)⟩ hdb
theorem fn_rd{mg:Str->Option Value}{x:Str}{Q:VK}(q:∀ v,isFn mg x v->Q v H):rFn mg x H Q:=by unfold rFn;exact q
def zbl2(mg:Str->Option Value)(x:Str)(i:Nat)(sp:Sp)(E:XK)(t:TA):TE:=fun σ H Q=>match σ[i]? with
 | some (some v)=>isFn mg x v/\t σ H fun vs H1=>sp vs H1 Q E
 | _=>False
theorem pDL{CX:CXT}{k i:Nat}{x y:Str}{ps:List Str}{sp:Sp}{E:XK}{p:Pos}{e:Expr}{es:List Expr}{t:TA}(F:Def X.prog X.w X.K X.mg X.base CX k x ps sp)(hr:Room j X.A)(hx:zac3 CX X E)(ha:PA X (e :: es) t)(hk:k<=j:=by decide)(hN:X.N[i]?=some y:=by rfl)(hv:Vis X.env.scope y:=by first|exact Or.inl rfl|exact Or.inr (Or.inl rfl)|exact Or.inr (Or.inr rfl))(hd:(y==("__debug__":Str))=false:=by decide)(hcd:(y==("__classdict__":Str))=false:=by decide)(he:starEach (e :: es) X.env=(false,eval e X.env) :: starEach es X.env:=by rfl)(hpl:(backTo pos (starEach es X.env)).any (·.1)=false:=by rfl) :
  PE X (.Call (.Name y p) (e :: es) [] pos) (zbl2 X.mg x i sp E t):=by
 obtain⟨f,fd,F1,F2,F3,F4⟩:=F.ex
 intro pins s σ H Q I h
 unfold zbl2 at h
 split at h
 ·rename_i v ev
  obtain⟨hf,h⟩:=h
  unfold isFn at hf
  obtain⟨f',rfl,F2'⟩:=hf
  cases F2.symm.trans F2'
  obtain⟨m,hn,hl⟩:=I.loc
  obtain⟨u,r,l⟩:=hl i y _ hN ev hv
  obtain rfl:u=Value.ref f:=r
  have fin:wpAny (model X.prog X.w) X.A (callWith pos (.ref f) [] (backTo pos (starEach (e :: es) X.env)) (backToKw pos (keywordEach [] X.env))) (EP X pins σ Q) X.xe s:=by
   refine PySem.W.callWith_K (h₀:=X.base) I.ok.mod.kin F3 (thn (ha pos pins s σ H _ I h) fun us s1 ⟨vs,H1,I1,r,q⟩=>⟨I1.kIn,?_⟩) he hpl
   refine zbl8 F1 (hr.mono hk) F4 .nil hx I1 r ?_
   simp only[zcc3]
   exact q
  refine wpAny_Call_Name_kw ?_
  rcases l with ⟨hk,hm⟩|⟨hk,c,hc,hcell⟩
  ·exact wpAny_Name (wpAny_loadName_local I.ok.kind hk hn hm fin) hd
  ·rcases hk with hk|hk
   ·exact wpAny_Name (wpAny_loadName_cell I.ok.kind hk hc hcell fin) hd
   ·exact wpAny_Name (wpAny_loadName_free I.ok.kind hk hc hcell fin hcd) hd
 ·exact h.elim
@[irreducible] def rInTT(K:zby6)(a p:Addr)(H:Hp)(Q:VK):Prop:=∃ (rs:List Addr) (c:Addr->Bool) (n:Nat),SqT K H p (rs.map V.ref)/\n<=38/\(∀ r∈rs,EqR K H n (.ref r) (.ref a) (c r))/\Q (.bl (rs.any c)) H
def zbm3(K:zby6):R2:=fun x y H Q=>match x,y with
 | .ref a,.ref p=>rInTT K a p H Q
 | x,y=>rInZM K x y H Q
theorem zau3(hK:X.K=K)(hu:X.A.units+40<cLine):OpR X (compareOp .In) (zbm3 K):=by
 subst hK
 intro pins s σ H x y v u Q I rx ry h
 unfold zbm3 at h
 split at h
 ·unfold rInTT at h
  obtain⟨rs,c,n,h1,h2,h3,h4⟩:=h
  cases rx
  cases ry
  obtain⟨its,r,pl,hz⟩:=I.tuple h1
  have e:=zai8 r
  subst e
  refine SeqAt.in_tupleAt (eRef c) pl (fun w hw=>?_) ⟨.bl _,H,I,rfl,?_⟩
  ·obtain⟨q,hq,rfl⟩:=zcf4.mp (by simpa using hw)
   exact EqR.at I (h3 q hq) rfl rfl (by rw[zo8];omega)
  ·have e2:(rs.map Value.ref).toArray.any (eRef c)=rs.any c:=by
    rw[List.any_toArray,List.any_map];rfl
   rw[e2]
   exact h4
 ·exact oInZK rfl pins s σ H _ _ v u Q I rx ry h
theorem zbq7{a p:Addr}{Q:VK}{rs:List Addr}{c:Addr->Bool}(n:Nat)(h1:H p=some (.tup (rs.map V.ref)))(h2:n<=38)(h3:∀ r∈rs,EqR K H n (.ref r) (.ref a) (c r))(q:Q (.bl (rs.any c)) H):rInTT K a p H Q:=by unfold rInTT;exact⟨rs,c,n,SqT.of h1,h2,h3,q⟩
end
section
variable {X:Cx}{K:zby6}
def entS(w:World)(x:Str×Int×Tok×Tok):DictEntry:=⟨PyData.keyHash w.params x.1,.str x.1 x.2.2.1,.int x.2.1 x.2.2.2⟩
structure TabS(w:World)(K:zby6)(mg:Str->Option Value)(n:Str)(kvs:List (Str×Int)):Prop where
 ex:∃ (a:Addr) (es:List (Str×Int×Tok×Tok)) (ep:Nat),mg n=some (.ref a)/\(a==sysModules)=false/\K.lookup a=some { cls:=.type "dict",data:=.dict (es.map (entS w)).toArray ep }/\es.map (fun x=>(x.1,x.2.1))=kvs/\(es.map (·.1)).Nodup
def keyV(kvs:List (Str×Int)):List (Key×V):=kvs.map fun x=>(.inr x.1,.int x.2)
def zt0(kvs:List (Str×Int))(x:Str):V:=(valV (keyV kvs) (.inr x)).getD .non
def qGetC(kvs:List (Str×Int))(te:TE):TE:=fun σ H Q=>te σ H fun y H1=>match y with
 | .str x=>Q (zt0 kvs x) H1
 | _=>False
theorem zas9(P:Program)(w:World):∀ es:List (Str×Int×Tok×Tok),Pairs (zk8 P w) (es.map (entS w)) (es.map fun x=>((.inr x.1:Key),Value.int x.2.1 x.2.2.2))
 | []=>.nil
 | x :: es=>.cons (zr0 P w x.1 x.2.2.1) rfl (zas9 P w es)
theorem kv_of:∀ es:List (Str×Int×Tok×Tok),KV (keyV (es.map fun x=>(x.1,x.2.1))) (es.map fun x=>((.inr x.1:Key),Value.int x.2.1 x.2.2.2))
 | []=>.nil
 | x :: es=>.cons ⟨rfl,_,rfl⟩ (kv_of es)
theorem zai2:∀ {xs:List Str},xs.Nodup->(xs.map (Sum.inr:Str->Key)).Nodup
 | [],_=>List.nodup_nil
 | x :: xs,h=>by
  rw[zcf1] at h
  rw[zcf8,zcf1]
  refine⟨fun hx=>?_,zai2 h.2⟩
  obtain⟨y,hy,e⟩:=zcf4.mp hx
  cases e
  exact h.1 hy
theorem peGetC{n:Str}{kvs:List (Str×Int)}{e:Expr}{p apos:Pos}(T:TabS X.w X.K X.mg n kvs)(he:PE X e te)(hg:Gl X n:=by rfl)(hdb:(n==("__debug__":Str))=false:=by decide)(m1:attributeBase (.Name n p) "get" X.env (eval (.Name n p) X.env)=eval (.Name n p) X.env:=by rfl)(m2:((backTo cpos (starEach [e] X.env)).all (fun x=>!x.1)&&(backToKw cpos (keywordEach [] X.env)).all (fun x=>x.1.isSome)&&decide (([e]:List Expr).length+([]:List Keyword).length+(if ([]:List Keyword).isEmpty then 0 else 1)<30))=true:=by rfl)(m3:(apos.endLine==cpos.line)=true:=by rfl)(m4:backTo cpos (starEach [e] X.env)=[(false,eval e X.env)]:=by rfl):PE X (.Call (.Attribute (.Name n p) "get" apos) [e] [] cpos) (qGetC kvs te):=by
 obtain⟨a,es,ep,g1,g2,g3,rfl,g5⟩:=T.ex
 intro pins s σ H Q I h
 have dd:∀ {s':Shared}{H':Hp},Inv X pins σ H' s'->s'.heap.DictOf (zk8 X.prog X.w) a (es.map fun x=>((.inr x.1:Key),Value.int x.2.1 x.2.2.2)):=fun {s' H'} I'=>by
  refine⟨_,_,ep,I'.kIn a _ g3,⟨rfl,rfl,rfl⟩,rfl,fun e' he'=>?_,by simpa using zas9 X.prog X.w es,?_⟩
  ·rw[List.mem_toArray] at he'
   obtain⟨x,hx,rfl⟩:=zcf4.mp he'
   exact⟨.inr x.1,zr0 _ _ _ _,rfl⟩
  ·rw[List.map_map]
   have:=zai2 g5
   rw[List.map_map] at this
   exact this
 refine wpAny_Call_method m1 m2 m3 PySem.F.plainAttrs_dict PySem.F.slot_dict_get PySem.F.type_dict_get (zl3 I hg g1 ?_ hdb)
 refine⟨(dd I).typeIs,fun b q=>?_,?_⟩
 ·cases q
  exact⟨_,I.kIn a _ g3,rfl⟩
 rw[m4]
 refine Calls.callWith_builtin rfl (Calls.evalArgs_plain (Calls.spliced_cons (thn (he pins s σ H _ I h) fun iv s2 ⟨y,H2,I2,ry,q2⟩=>Calls.spliced_nil ?_)))
 dsimp only at q2
 split at q2
 ·rename_i x
  refine call_meetsIn PySem.F.slot_dict_get (dd I2).typeIs PySem.F.entry_dict_get (PySem.F.args_dict_get_2 _ _) (meets_dict_get (zk8 X.prog X.w) a (k:=.inr x) (kV_is ry) g2) ⟨_,(dd I2).mapOf,zt0 _ x,H2,I2.tok _,?_,q2⟩
  exact ((kv_of es).val (.inr x)).getD rfl
 ·exact q2.elim
theorem zbr0{w:World}{K:zby6}{h:Heap}{mg:Str->Option Value}{n:Str}{a:Addr}{es:List (Str×Int×Tok×Tok)}(X:K.In h)(G:h.Ns zci4 mg)(g1:zca9 K zci4 n=some (some (.ref a)))(g2:(a==sysModules)=false)(g3:K.lookup a=some { cls:=.type "dict",data:=.dict (es.map (entS w)).toArray ep })(g5:(es.map (·.1)).Nodup):TabS w K mg n (es.map fun x=>(x.1,x.2.1)):=
 ⟨a,es,ep,zcc2 X G g1,g2,g3,rfl,g5⟩
end
section
variable {X:Cx}{a b c:Expr}{ta tb tc:TE}{pos:Pos}
def zbn6(r r':R2)(ta tb tc:TE):TT:=fun σ H Q=>ta σ H fun x H1=>tb σ H1 fun y H2=>r x y H2 fun z H3=>match z with
 | .bl k=>br k (tc σ H3 fun w' H4=>r' y w' H4 fun z' H5=>match z' with
  | .bl k'=>Q k' H5
  | _=>False) (Q false H3)
 | _=>False
theorem zbo8{op op':CmpOp}{r r':R2}(ho:OpR X (compareOp op) r)(ho':OpR X (compareOp op') r')(ha:PE X a ta)(hb:PE X b tb)(hc:PE X c tc)(hm:lastMarks [op,op'] [b,c]=false:=by with_unfolding_all rfl):PT X (.Compare a [op,op'] [b,c] pos) (zbn6 r r' ta tb tc):=by
 intro pins s σ H Q I h
 refine isTrue_chain (thn (ha pins s σ H _ I h) fun v s1 ⟨x,H1,I1,r1,q1⟩=>test_link (thn (hb pins s1 σ H1 _ I1 q1) fun u s2 ⟨y,H2,I2,r2,q2⟩=>
  thn (ho pins s2 σ H2 x y v u _ I2 r1 r2 q2) fun d s3 ⟨z,H3,I3,r3,q3⟩=>?_)) hm
 dsimp only at q3
 split at q3
 ·rename_i k
  cases r3
  refine wpAny_truthy_bool ?_
  rw[zq7] at q3
  cases k with
  | false=>exact ite_ff ⟨H3,I3,by simpa using q3⟩
  | true=>
   have q3:tc σ H3 (fun w' H4=>r' y w' H4 fun z' H5=>match z' with
    | .bl k'=>Q k' H5
    | _=>False):=by simpa using q3
   refine ite_tt (test_last (thn (hc pins s3 σ H3 _ I3 q3) fun w' s4 ⟨z',H4,I4,r4,q4⟩=>thn (ho' pins s4 σ H4 y z' u w' _ I4 r2 r4 q4) fun d' s5 ⟨z5,H5,I5,r5,q5⟩=>?_))
   dsimp only at q5
   split at q5
   ·cases r5
    exact wpAny_truthy_bool ⟨H5,I5,q5⟩
   ·exact q5.elim
 ·exact q3.elim
end
theorem zat9{c:Nat}:∀ {a b A B:List Nat},c ∉ a->c ∉ b->a++c :: A=b++c :: B->a=b/\A=B
 | [],[],A,B,_,_,h=>by
  cases h
  exact⟨rfl,rfl⟩
 | [],y :: b,A,B,_,hb,h=>by
  have:c=y:=by injection h
  exact absurd (by rw[this];exact zcb8) hb
 | x :: a,[],A,B,ha,_,h=>by
  have:x=c:=by injection h
  exact absurd (by rw[← this];exact zcb8) ha
 | x :: a,y :: b,A,B,ha,hb,h=>by
  have h:x :: (a++c :: A)=y :: (b++c :: B):=h
  injection h with h1 h2
  obtain⟨e1,e2⟩:=zat9 (a:=a) (b:=b) (fun z=>ha (zcb6 _ z)) (fun z=>hb (zcb6 _ z)) h2
  exact⟨by rw[h1,e1],e2⟩
theorem zg6(c:Nat)(a b:Str)(r:List Str):((⟨#[c]⟩:Str).join (a :: b :: r)).cps.toList=a.cps.toList++c :: ((⟨#[c]⟩:Str).join (b :: r)).cps.toList:=by
 rw[Str.join.eq_3 _ _ _ (by simp),PySem.W.KT.app_list,PySem.W.KT.app_list]
 simp
theorem zav1{c:Nat}:∀ {as bs:List Str},as≠[]->bs≠[]->(∀ a∈as,c ∉ a.cps.toList)->(∀ b∈bs,c ∉ b.cps.toList)->(⟨#[c]⟩:Str).join as=(⟨#[c]⟩:Str).join bs->as=bs
 | [],_,h,_,_,_,_=>absurd rfl h
 | _,[],_,h,_,_,_=>absurd rfl h
 | [a],[b],_,_,_,_,h=>by
  rw[Str.join.eq_2,Str.join.eq_2] at h
  rw[h]
 | [a],b :: b2 :: bs,_,_,ha,_,h=>by
  have h:=congrArg (fun x:Str=>x.cps.toList) h
  rw[zg6,Str.join.eq_2] at h
  exact absurd (by rw[h];simp) (ha a zcb8)
 | a :: a2 :: as,[b],_,_,_,hb,h=>by
  have h:=congrArg (fun x:Str=>x.cps.toList) h
  rw[zg6,Str.join.eq_2] at h
  exact absurd (by rw[← h];simp) (hb b zcb8)
 | a :: a2 :: as,b :: b2 :: bs,_,_,ha,hb,h=>by
  have h:=congrArg (fun x:Str=>x.cps.toList) h
  rw[zg6,zg6] at h
  obtain⟨e1,e2⟩:=zat9 (ha a zcb8) (hb b zcb8) h
  have e3:=zav1 (as:=a2 :: as) (bs:=b2 :: bs) (by simp) (by simp) (fun x hx=>ha x (zcb6 _ hx)) (fun x hx=>hb x (zcb6 _ hx)) (ext_toList e2)
  rw[ext_toList e1,e3]
theorem zac6{c:Nat}{ws:List Str}(hn:ws≠[])(h:∀ w∈ws,c ∉ w.cps.toList):Txt.split (Txt.join ⟨#[c]⟩ ws) ⟨#[c]⟩=ws:=by
 have e:Txt.join ⟨#[c]⟩ ws=(⟨#[c]⟩:Str).join ws:=StrLaws.glued_eq_join _ _
 have l:=split_pos (Txt.join ⟨#[c]⟩ ws) ⟨#[c]⟩
 refine zav1 (fun z=>by rw[z] at l;exact absurd l (by decide)) hn (fun p hp=>StrLaws.split_free _ c p hp) h ?_
 rw[StrLaws.join_split,e]
section
variable {X:Cx}{K:zby6}
structure TupC(K:zby6)(mg:Str->Option Value)(n:Str)(xs:List V):Prop where
 ex:∃ a:Addr,mg n=some (.ref a)/\∀ H:Hp,SqT K H a xs
def qTupC(K:zby6)(xs:List V):TE:=fun _ H Q=>∀ a:Addr,(∀ H':Hp,SqT K H' a xs)->Q (.ref a) H
theorem peTupC{n:Str}{xs:List V}{p:Pos}(hK:X.K=K)(T:TupC K X.mg n xs)(hg:Gl X n:=by rfl)(hdb:(n==("__debug__":Str))=false:=by decide):PE X (.Name n p) (qTupC K xs):=by
 obtain⟨a,g1,g2⟩:=T.ex
 intro pins s σ H Q I h
 exact zl3 I hg g1 ⟨.ref a,H,I,rfl,h a g2⟩ hdb
theorem zbq6{h:Heap}{mg:Str->Option Value}{n:Str}{a:Addr}{es:List (Str×Tok)}(X:K.In h)(G:h.Ns zci4 mg)(g1:zca9 K zci4 n=some (some (.ref a)))(g3:K.lookup a=some { cls:=.type "tuple",data:=.seq (es.map fun x=>Value.str x.1 x.2).toArray ep })(hl:es.length<=100):TupC K mg n (es.map fun x=>V.str x.1):=by
 refine⟨a,zcc2 X G g1,fun H=>.inr ⟨_,_,ep,g3,rfl,rfl,?_,?_⟩⟩
 ·rw[zbz6,zby7,zci0];omega
 ·show Vals _ _
  clear g3 hl
  induction es with
  | nil=>exact .nil
  | cons x es ih=>exact .cons ⟨_,rfl⟩ ih
end
set_option maxHeartbeats 4000000
open PySem.Calls PySem.NumText
theorem zbj7{M:Model}{A:Around}{v:Value}{text:List Nat}{n:Int}{K:Frag}(X:K.In s.heap)(hD:nsIn K cStatics "sys.int_max_str_digits"=some none)(hs:¬ (text.takeWhile (· != 0)).length<=640)(hr:(int_private% "readNumeral") 4300 10 (text.takeWhile (· != 0))=(int_private% "Numeral.value") n)(ha:((text.takeWhile (· != 0)).length==text.length)=true)(h:Q (.int n s.toks) { s with toks:=s.toks+1 }) :
  wpAny M A ((int_private% "intFromText") v text 10) Q E s:=by
 have L:=looks_nsIn (M:=M) X hD
 obtain⟨hp,g,d,tk,os⟩:=s
 repeat (any_goals (first
  | assumption
  | (with_reducible refine zci1 (by simpa using hs) ?_)
  | (with_reducible refine wpAny_ite_true (decide_eq_true ha) ?_)
  | (with_reducible refine L.at ?_)
  | wp_step))
 all_goals (try rw[hr])
 all_goals (try dsimp only)
 repeat (any_goals (first
  | assumption
  | (with_reducible refine wpAny_ite_true (decide_eq_true ha) ?_)
  | wp_step))
structure HidL(p:Prop):Prop where
 out:p
theorem zar2{x:PySem.Str}{u:Tok}{n:Int}{K:Frag}(hx:x.length<=sizeLine)(hn:PySem.intText? x=some n)(hD:nsIn K cStatics "sys.int_max_str_digits"=some none):Meets (Builtin.«int.__new__» ⟨[.type "int",.str x u],[]⟩) (fun _ R s=>K.In s.heap/\R (.ok (.ret (.int n s.toks))) { s with toks:=s.toks+1 }):=by
 intro prog w A R s hS
 obtain⟨X,h⟩:=hS
 by_cases hl:(numSeenOf x).length<=640
 ·have hr:(int_private% "readNumeral") 0 10 (numSeenOf x)=(int_private% "Numeral.value") n/\((numSeenOf x).length==(numTextOf x).length)=true:=by
   rcases read0 x hl with ⟨m,h1,h2,h3⟩|⟨h1,_⟩
   ·rw[hn] at h1
    injection h1 with h1
    subst h1
    exact⟨h3,h2⟩
   ·rw[hn] at h1
    cases h1
  have hk:=HidL.mk (And.intro hl hr)
  clear hl hr hn X hD
  have f1:=F.conv_sub_int
  have f2:=F.madeHere_int
  have f3:=KIN.str_int
  have f4:=KIN.str_idx
  have f5:=KIN.str_trunc
  have f6:typeOf (.str x u)=pure (.type "str"):=rfl
  obtain⟨hp,g,d,tk,os⟩:=s
  repeat (any_goals (first
   | assumption
   | ((with_reducible show wpAny _ _ ((int_private% "intFromText") _ _ _) _ _ _);refine KIN.wp_text hk.out.1 hk.out.2.1 hk.out.2.2 ?_)
   | wp_step))
 ·have hr:(int_private% "readNumeral") 4300 10 (numSeenOf x)=(int_private% "Numeral.value") n/\((numSeenOf x).length==(numTextOf x).length)=true:=by
   rcases read4300 x hx with ⟨m,h1,h2,h3⟩|⟨h1,_⟩
   ·rw[hn] at h1
    injection h1 with h1
    subst h1
    exact⟨h3,h2⟩
   ·rw[hn] at h1
    cases h1
  have hk:=HidL.mk (And.intro hl hr)
  have hX:=HidL.mk (And.intro X hD)
  clear hl hr hn X hD
  have f1:=F.conv_sub_int
  have f2:=F.madeHere_int
  have f3:=KIN.str_int
  have f4:=KIN.str_idx
  have f5:=KIN.str_trunc
  have f6:typeOf (.str x u)=pure (.type "str"):=rfl
  obtain⟨hp,g,d,tk,os⟩:=s
  repeat (any_goals (first
   | assumption
   | ((with_reducible show wpAny _ _ ((int_private% "intFromText") _ _ _) _ _ _);refine zbj7 hX.out.1 hX.out.2 hk.out.1 hk.out.2.1 hk.out.2.2 ?_)
   | wp_step))
theorem zaz2{prog:Program}{w:World}{A:Around}{x:PySem.Str}{t:Tok}{n:Int}{K:Frag}(X:K.In s.heap)(hD:nsIn K cStatics "sys.int_max_str_digits"=some none)(hn:PySem.intText? x=some n)(hl:x.length<=sizeLine)(h:Q (.int n s.toks) { s with toks:=s.toks+1 }):wpAny (model prog w) A (call (.type "int") [.str x t]) Q E s:=
 call_int_1 (zar2 hl hn hD) ⟨X,⟨rfl,h⟩⟩
section
variable {X:Cx}{K:zby6}
@[irreducible] def rIntL(x:Str)(H:Hp)(Q:VK):Prop:=∃ n:Int,PySem.intText? x=some n/\x.length<=sizeLine/\Q (.int n) H
def zbl9:List V->Hp->VK->Prop:=fun xs H Q=>match xs with
 | [.str x]=>rIntL x H Q
 | _=>False
theorem cIntL(hK:X.K=K)(hD:nsIn K cStatics "sys.int_max_str_digits"=some none):zj2 X (.type "int") zbl9:=by
 subst hK
 intro pins s σ H xs us Q I r h
 unfold zbl9 at h
 split at h
 ·unfold rIntL at h
  obtain⟨n,h1,h2,q⟩:=h
  obtain⟨u,rfl,r1⟩:=zy3 r
  obtain⟨t,rfl⟩:=r1
  exact zaz2 I.kIn hD h1 h2 ⟨.int n,H,I.tok _,⟨_,rfl⟩,q⟩
 ·exact h.elim
theorem zbd0{x:Str}{Q:VK}{n:Int}(h1:PySem.intText? x=some n)(h2:x.length<=sizeLine)(q:Q (.int n) H):rIntL x H Q:=by unfold rIntL;exact⟨n,h1,h2,q⟩
end
set_option maxHeartbeats 2000000
set_option maxHeartbeats 4000000
section
variable {prog:Program}{w:World}{A:Around}{E:Value->Shared->Prop}{s:Shared}{env:Env}
variable {nm q:Str}{C N:Addr}{bs bm bmB:List Value}{hdct:Bool}{sn:List Str}{sub:List Value}{ab:Bool}{col:Option Bool}{dd:Option Addr}{k0 k1 k2 k3 k5:Option Value}{B newId initId:String}{K:zby6}
theorem zah2:entryFor table "proto.unchain"=some Builtin.«proto.unchain»:=entryFor_of_fast (by kernel_rfl)
theorem zag4:plainId "proto.unchain"=true:=by decide +kernel
theorem zai3{oa:Obj}{va:Array Value}(ha:s.heap.get? ea=some oa)(hda:oa.data=.fields va)(h2:va[2]?=some .none)(hq:Q .none s) :
  wpAny (model prog w) A (runValue (.builtin "proto.unchain" ⟨[.ref e,.ref ea,.ref ea,.bool false],[]⟩)) Q E s:=by
 refine wpAny_runValue (codeAny_builtin zah2 ?_)
 rw[Around.under_plainId zag4 _]
 show wpAny _ A.in1 (field (.ref ea) 2 >>= _) _ _ s
 refine zch8 (wpAny_field ha hda h2 ?_)
 rw[if_pos (by decide)]
 exact zch9 hq
theorem zak5{α:Type}{oe oa:Obj}{ve va:Array Value}{Q:α->Shared->Prop}(hh:A.handled=some (.ref ea))(ne:ea≠e)(he:s.heap.get? e=some oe)(hde:oe.data=.fields ve)(hz:2<ve.size)(ha:s.heap.get? ea=some oa)(hda:oa.data=.fields va)(h2:va[2]?=some .none)(h:E (.ref e) { s with heap:=s.heap.update e (Obj.mapFields (·.setIfInBounds 2 (.ref ea))) }):wpAny (model prog w) A (raiseNew (.ref e):Sem α) Q E s:=by
 unfold raiseNew
 refine zch8 (wpAny_handled ?_)
 rw[hh]
 dsimp only
 have hne:(Value.ref ea != Value.ref e)=true:=by simpa using ne
 rw[if_pos hne]
 refine zch8 (zci3 (zai3 ha hda h2 ?_))
 refine zch8 ?_
 show wpAny _ _ (setField (.ref e) 2 (.ref ea)) _ _ _
 exact wpAny_setField (a:=e) (i:=2) he hde hz (wpAny_throw h)
theorem zaa5{x c:Sem Value}{Q:Flow->Shared->Prop}(hbase:bm.contains (.type "BaseException")=true)(hh:A.handled=some (.ref ea))(hc:∀ (s:Shared) (R:Value->Shared->Prop),R .none s->wpAny (model prog w) A c R E s)(h:wpAny (model prog w) A x (fun v s₁=>∃ (e t:Addr) (dx:Option Addr) (oa:Obj) (va:Array Value),v=.ref e/\ea≠e/\s₁.heap.get? C=some (excClassObj nm q C N bs bm hdct sn sub ab col dd k0 k1 k2 k3 k5 newId)/\s₁.heap.get? e=some { cls:=.ref C,dict:=dx,data:=.fields #[.ref t,.none,.none,.none,.bool false,.none] } /\
   s₁.heap.get? ea=some oa/\oa.data=.fields va/\va[2]?=some .none/\E (.ref e) { s₁ with heap:=((s₁.heap.update e (Obj.mapFields (·.setIfInBounds 3 .none))).update e (Obj.mapFields (·.setIfInBounds 4 (.bool true)))).update e (Obj.mapFields (·.setIfInBounds 2 (.ref ea))) }) E s) :
  wpAny (model prog w) A (raiseStmt env (some x) (some c)) Q E s:=by
 have hcB:(Value.ref C :: bm).contains (.type "BaseException")=true:=by rw[List.contains_cons,hbase,Bool.or_true]
 unfold raiseStmt
 refine zch8 (wpAny_mono h (fun v s₁ h₁=>?_) fun _ _ x=>x)
 obtain⟨e,t,dx,oa,va,rfl,ne,hC,he,ha,hda,h2,hE⟩:=h₁
 obtain⟨hp,g,d,tk,os⟩:=s₁
 refine zch8 (zci3 (hc _ _ (zch8 (zch9 ?_))))
 dsimp only[Option.toList]
 have hCe:C≠e:=fun z=>by
  rw[z,he] at hC
  unfold excClassObj at hC
  cases hC
 have e3:(hp.update e (Obj.mapFields (·.setIfInBounds 3 .none))).get? e=some { cls:=.ref C,dict:=dx,data:=.fields #[.ref t,.none,.none,.none,.bool false,.none] }:=zcc0 (Obj.mapFields (·.setIfInBounds 3 .none)) he rfl
 have e4:((hp.update e (Obj.mapFields (·.setIfInBounds 3 .none))).update e (Obj.mapFields (·.setIfInBounds 4 (.bool true)))).get? e=some { cls:=.ref C,dict:=dx,data:=.fields #[.ref t,.none,.none,.none,.bool true,.none] }:=zcc0 (Obj.mapFields (·.setIfInBounds 4 (.bool true))) e3 rfl
 have C4:((hp.update e (Obj.mapFields (·.setIfInBounds 3 .none))).update e (Obj.mapFields (·.setIfInBounds 4 (.bool true)))).get? C=some (excClassObj nm q C N bs bm hdct sn sub ab col dd k0 k1 k2 k3 k5 newId):=by
  rw[zca1 _ _ (Ne.symm hCe),zca1 _ _ (Ne.symm hCe)];exact hC
 have a4:((hp.update e (Obj.mapFields (·.setIfInBounds 3 .none))).update e (Obj.mapFields (·.setIfInBounds 4 (.bool true)))).get? ea=some oa:=by
  rw[zca1 _ _ (Ne.symm ne),zca1 _ _ (Ne.symm ne)];exact ha
 repeat (first|with_reducible refine wpAny_loadPart_at he ?_|with_reducible refine wpAny_loadPart_at hC ?_|(with_reducible refine wpAny_isSubtype_exc hC ?_;rw[hcB])|wp_step)
 repeat (first|with_reducible refine wpAny_loadPart_at e4 ?_|with_reducible refine wpAny_loadPart_at C4 ?_|wp_step)
 exact zak5 hh ne e4 rfl (by simp) a4 hda h2 hE
end
section
variable {prog:Program}{w:World}{A:Around}{E:Value->Shared->Prop}{s:Shared}{env:Env}
variable {nm q:Str}{C N:Addr}{bs bm bmB:List Value}{hdct:Bool}{sn:List Str}{sub:List Value}{ab:Bool}{col:Option Bool}{dd:Option Addr}{k0 k1 k2 k3 k5:Option Value}{B newId initId:String}{K:zby6}
theorem zaw5(F:ExcBaseFacts B newId initId bmB){x:Str}{cj:Nat}{cp:Pos}{args:List Expr}{fI:Addr}{Q:Flow->Shared->Prop}(hbase:bm.contains (.type "BaseException")=true)(hh:A.handled=some (.ref ea))(hplain:(backTo cpos (starEach args env)).any (·.1)=false)(hi:zcb2 K (.ref C) "__init__"=some (some (.ref fI)))(hf:zcb9 K (.ref fI)=some (.type "function"))(h:wpAny (model prog w) A (eval (.Name x np) env) (fun f s₁=>f=.ref C/\wpAny (model prog w) A (evalArgs (.ref C) true (backTo cpos (starEach args env)) [])
   (fun a s₂=>a.kw=[]/\a.pos.length<=sizeLine/\s₂.heap.get? C=some (excClassObj nm q C N bs bm hdct sn sub ab col dd k0 k1 k2 k3 k5 newId)/\K.In s₂.heap/\OwnTail s₂.heap bmB bm /\
    ∀ h' e,Heap.MadeExcOf s₂.heap h' e (.ref C) a.pos->s₂.heap.objs.size<=e->wpAny (model prog w) (A.under (.builtin "type.__call__" ⟨.ref C :: a.pos,[]⟩)) (call (.ref fI) (.ref e :: a.pos))
     (fun r s'=>r=.none/\∃ (t:Addr) (dx:Option Addr) (oa:Obj) (va:Array Value),ea≠e/\s'.heap.get? e=some { cls:=.ref C,dict:=dx,data:=.fields #[.ref t,.none,.none,.none,.bool false,.none] }/\s'.heap.get? C=some (excClassObj nm q C N bs bm hdct sn sub ab col dd k0 k1 k2 k3 k5 newId) /\
      s'.heap.get? ea=some oa/\oa.data=.fields va/\va[2]?=some .none/\E (.ref e) { s' with heap:=((s'.heap.update e (Obj.mapFields (·.setIfInBounds 3 .none))).update e (Obj.mapFields (·.setIfInBounds 4 (.bool true)))).update e (Obj.mapFields (·.setIfInBounds 2 (.ref ea))) }) E { s₂ with heap:=h' }) E s₁) E s) :
  wpAny (model prog w) A (exec (.Raise (some (.Call (.Name x np) args [] cpos)) (some (.Constant .none cj cp)) pos) env) Q E s:=by
 rw[arm_exec_Raise]
 simp only[evalOpt,Option.map]
 refine zch8 (wpAny_standAt (zaa5 (C:=C) (nm:=nm) (q:=q) (N:=N) (bs:=bs) (bm:=bm) (hdct:=hdct) (sn:=sn) (sub:=sub) (ab:=ab) (col:=col) (dd:=dd) (k0:=k0) (k1:=k1) (k2:=k2) (k3:=k3) (k5:=k5) (newId:=newId) hbase hh (fun s R hR=>?_) (zch8 (wpAny_mono (wpAny_Call_ofName (wpAny_mono h (fun f s₁ h₁=>?_) fun _ _ x=>x)) (fun v s₃ h₃=>zch8 (wpAny_standAt (zch9 h₃))) fun _ _ x=>x))))
 ·exact zch8 (Constant_none (zch8 (wpAny_standAt (zch9 hR))))
 obtain⟨rfl,h₁⟩:=h₁
 unfold callWith
 refine zch8 (zci3 (wpAny_mono h₁ (fun a s₂ h₂=>zch8 (wpAny_standAt ?_)) fun _ _ x=>x))
 obtain⟨apos,akw⟩:=a
 obtain⟨hkw,hlen,hC,hX,T,h₂⟩:=h₂
 obtain rfl:akw=[]:=hkw
 obtain⟨hp,g,d,tk,os⟩:=s₂
 simp only[hplain]
 refine zch8 (wpAny_keeperOf_exc hC ?_)
 refine zch8 (zak8 (hrest:=hlen) F T hX hC hi hf fun h' e hm hz=>wpAny_mono (h₂ h' e hm hz) (fun r s' hr=>⟨hr.1,zch8 (zci3 (wpAny_point (zch9 ?_)))⟩) fun _ _ z=>z)
 obtain⟨_,t,dx,oa,va,ne,ho,hC',hoa,hda,h2,hE⟩:=hr
 exact⟨e,t,dx,oa,va,rfl,ne,hC',ho,hoa,hda,h2,hE⟩
end
def zbe4(P:Program)(w:World)(K:zby6)(mg:Str->Option Value)(base:Heap)(C f:Addr)(fld:Str):Prop:=∀ (A:Around) (outer:List Env) (s:Shared) (H:Hp) (e:Addr) (v:V) (u:Value) (Q:VK),
 A.depth<recursionLimit->Env0 P w K mg base A outer s H->RelV v u->zi3 C fld [.ref e,v] H Q E0->codeAny (model P w) A (.call (.ref f) ⟨[.ref e,u],[]⟩) (CR CX0 outer P w H s Q E0) s
theorem zbo9{P:Program}{w:World}{K:zby6}{mg:Str->Option Value}{base:Heap}{f:Addr}{fld pn qual:Str}{st:Stmt}{N:List Str}(F:IniF K qual st f pn)(S:zb2 N ["self",pn] (za5 st))(hbody:∀ (cdv:Value) (A:Around) (outer:List Env) (s:Shared) (H:Hp) (vs:List V) (Q:VK),zi3 C fld vs H Q E0 ->
   ∃ t,PSs { cxOf CX0 P w K mg base N qual (za5 st) f cdv A outer s H E0 with calm:=false } (zh7 st) t/\t { nx:=fun _ H'=>Q .non H',rt:=Q } (zv0 N vs) H):zbe4 P w K mg base C f fld:=by
 obtain⟨fd,F,hbb⟩:=F
 obtain⟨oc,od,kV,doc,pm,an,cdv,ct,osl,rfl,lk,hcd⟩:=F.ex
 intro A outer s H e v u Q hdp e0 ru hsp
 have r:Vals [.ref e,v] [Value.ref e,u]:=.cons rfl (.cons ru .nil)
 have KX:K.In s.heap:=e0.mod.kin.keeps fun b o e=>(e0.bs b o e).1
 have hb:=hbb s [.ref e,u] KX rfl
 have lim:s.heap.NoLimit:=e0.mod.nolimit.keeps fun b o e=>(e0.bs b o e).1
 have hkind:∀ y∈(["self",pn]:List Str).zip [Value.ref e,u],(za5 st).names.lookup y.1=some .local∨((za5 st).names.lookup y.1=some .cell/\((cellsFrom (s.heap.objs.size+1) (za5 st).names []).lookup y.1).isSome=true):=fun ⟨n,v⟩ hy=>by
  rcases S.par n (List.of_mem_zip hy).1 with q|q
  ·exact .inl q
  ·exact .inr ⟨q,PySem.W.cellsFrom_some _ _ _ (.inl q)⟩
 refine codeAny_call_function hdp (KX _ _ lk) rfl S.co S.gen rfl (PySem.W.codeRec_of KX hcd) (hb _ _ _ _ ?_)
 refine wpAny_newFunctionEnv_cells S.kind hkind fun env he s1 x=>?_
 subst he
 refine⟨lim.keeps x.toInCall.keep,codeAny_func ?_⟩
 obtain⟨t,ht,hq⟩:=hbody cdv A outer s H [.ref e,v] Q hsp
 have e0':Env0 P w K mg base { A with handled:=none } outer s H:=⟨e0.frames,e0.mod,e0.bs,e0.bsz,e0.funs,e0.frf,e0.hok,e0.bare⟩
 have I0:Inv (cxOf CX0 P w K mg base N qual (za5 st) f cdv { A with handled:=none } outer s H E0) [] (zv0 N [.ref e,v]) H s1:=zak0 S rfl e0' rfl r x
 have I:Inv { cxOf CX0 P w K mg base N qual (za5 st) f cdv A outer s H E0 with calm:=false } [] (zv0 N [.ref e,v]) H s1:=
  ⟨⟨I0.ok.mod,I0.ok.kind,I0.ok.glob,I0.ok.blt,I0.ok.above,I0.ok.inj,I0.ok.has,I0.ok.cab,(fun z=>absurd (show false=true from z) zbz3),I0.ok.frames,I0.ok.stk,I0.ok.exf,I0.ok.bs,I0.ok.bsz,I0.ok.noex,I0.ok.exfs,I0.ok.funs,I0.ok.frf⟩,I0.os,I0.bare,I0.base,I0.loc,I0.cell,I0.free,I0.freeC,I0.pin,I0.hok,I0.len⟩
 refine wpAny_mono (ht [] s1 (zv0 N [.ref e,v]) H _ I hq) (fun fl s' hs=>?_) fun e s' hs=>hs
 have fin:∀ {σ':St}{H':Hp}{v:V}{u:Value},Inv { cxOf CX0 P w K mg base N qual (za5 st) f cdv A outer s H E0 with calm:=false } [] σ' H' s'->RelV v u->Q v H'->CE outer P w H s Q u s':=
  fun {σ' H' v u} J rv q=>⟨v,H',J.os,J.bare,J.base,J.hok,rv,q⟩
 cases fl with
 | ret u=>
  obtain⟨v,σ',H',J,rv,q⟩:=hs
  exact fin J rv q
 | next=>
  obtain⟨σ',H',J,q⟩:=hs
  exact fin (v:=V.non) (u:=Value.none) J rfl q
 | brk=>
  obtain⟨_,_,_,q⟩:=hs
  exact False.elim q
 | cont=>
  obtain⟨_,_,_,q⟩:=hs
  exact False.elim q
section
variable {X:Cx}{pins:List (Addr×Obj)}{σ:St}{H:Hp}{s:Shared}{e:Addr}
theorem zl6.of_ctx{ea:Addr}{oC:Obj}(I:Inv X pins σ H s)(he:H e=some (exN e (.ref C) dx))(hen:∀ o,X.s₀.heap.get? e=some o->e∈X.ex)(fp:FpOk X pins (L2.hid e H) e)(hC:s.heap.get? C=some oC)(hCf:C ∉ frs X.stack)(hch:zag1 oC=true)(hCe:C≠e) :
  zl6 X pins σ (L2.hid e H) (PySem.W.hideAll s.heap (e :: frs X.stack)) e (.ref C) dx { s with heap:=((s.heap.update e (Obj.mapFields (·.setIfInBounds 3 .none))).update e (Obj.mapFields (·.setIfInBounds 4 (.bool true)))).update e (Obj.mapFields (·.setIfInBounds 2 (.ref ea))) }:=by
 obtain⟨⟨t,ht⟩,_,_⟩:=(show zf7 X.prog X.w H s.heap e (exN e (.ref C) dx) from I.hok e _ he)
 have e3:(s.heap.update e (Obj.mapFields (·.setIfInBounds 3 .none))).get? e=some { cls:=.ref C,dict:=dx,data:=.fields #[.ref t,.none,.none,.none,.bool false,.none] }:=zcc0 (Obj.mapFields (·.setIfInBounds 3 .none)) ht rfl
 have e4:((s.heap.update e (Obj.mapFields (·.setIfInBounds 3 .none))).update e (Obj.mapFields (·.setIfInBounds 4 (.bool true)))).get? e=some { cls:=.ref C,dict:=dx,data:=.fields #[.ref t,.none,.none,.none,.bool true,.none] }:=zcc0 (Obj.mapFields (·.setIfInBounds 4 (.bool true))) e3 rfl
 have e5:(((s.heap.update e (Obj.mapFields (·.setIfInBounds 3 .none))).update e (Obj.mapFields (·.setIfInBounds 4 (.bool true)))).update e (Obj.mapFields (·.setIfInBounds 2 (.ref ea)))).get? e=some { cls:=.ref C,dict:=dx,data:=.fields #[.ref t,.none,.ref ea,.none,.bool true,.none] }:=zcc0 (Obj.mapFields (·.setIfInBounds 2 (.ref ea))) e4 rfl
 have kp:∀ b o,b≠e->s.heap.get? b=some o->(((s.heap.update e (Obj.mapFields (·.setIfInBounds 3 .none))).update e (Obj.mapFields (·.setIfInBounds 4 (.bool true)))).update e (Obj.mapFields (·.setIfInBounds 2 (.ref ea)))).get? b=some o:=fun b o hb hz=>by
  rw[zca1 _ _ (Ne.symm hb),zca1 _ _ (Ne.symm hb),zca1 _ _ (Ne.symm hb)];exact hz
 generalize ((s.heap.update e (Obj.mapFields (·.setIfInBounds 3 .none))).update e (Obj.mapFields (·.setIfInBounds 4 (.bool true)))).update e (Obj.mapFields (·.setIfInBounds 2 (.ref ea)))=h5 at e5 kp
 have F0:=zl6.of_init I he hen
 have hne:∀ b o,(PySem.W.hideAll s.heap (e :: frs X.stack)).get? b=some o->b≠e:=fun b o hb z=>by rw[z,F0.fly.new] at hb;cases hb
 obtain⟨f0,f1,f2,f3,f4,f5⟩:=fp
 have frn:∀ b,b∈frs X.stack->b≠e:=fun b hb z=>by
  have h1:=I.stkSub b hb
  rcases zbz4.mp h1 with q|q
  ·exact f1 (z.symm.trans q)
  ·exact f2 (z▸q)
 refine⟨(I.hid he).turned (t':=s.toks) (fun b o hb q=>kp b o hb q) f0 f1 f3 f4 f5,F0.hok,⟨fun b o hb=>kp b o (hne b o hb) (F0.fly.stays b o hb),F0.fly.new,?_,?_⟩,F0.kb,F0.en⟩
 ·refine F0.fly.frames.of_keeps fun b o hb hnf=>⟨o,kp b o (fun z=>?_) hb,rfl⟩
  rw[z,ht] at hb
  cases hb
  exact hnf _ rfl
 ·refine⟨_,_,e5,rfl,rfl,rfl,by simp,.inl rfl,.inr ⟨C,oC,rfl,zch5 _ hC fun hm=>?_,hch⟩⟩
  rcases zbz4.mp hm with z|hm
  ·exact hCe z
  ·exact hCf hm
end
def ExcC(e:Addr)(cls:Value)(dx:Option Addr)(h:Heap):Prop:=∃ (oe:Obj) (vs:Array Value),h.get? e=some oe/\oe.cls=cls/\oe.dict=dx/\oe.data=.fields vs/\vs[2]?=some .none
abbrev exC(ea:Addr)(cls:Value)(dx:Option Addr):HO:=.ext (ExcC ea cls dx)
def chIn(K:zby6)(a:Addr):Option Bool:=(K.lookup a).map zag1
section
variable {X:Cx}{pins:List (Addr×Obj)}{σ:St}{H:Hp}{s:Shared}
theorem zl6.plain{B:Heap}(F:zl6 X pins σ H B ea (.ref D) dx s)(hc:chIn X.K D=some false):ExcC ea (.ref D) dx s.heap:=by
 obtain⟨oe,vs,he,hcl,hdx,hd,_,_,h2⟩:=F.fly.ex
 refine⟨oe,vs,he,hcl,hdx,hd,?_⟩
 rcases h2 with h2|⟨C,o,e,hB,ch⟩
 ·exact h2
 ·cases e
  unfold chIn at hc
  obtain⟨o',lk,e'⟩:=zbz5.mp hc
  have h1:=F.inv.kIn _ _ lk
  rw[F.fly.stays _ _ hB] at h1
  cases h1
  rw[ch] at e'
  cases e'
theorem zl6.trackC{B:Heap}{cls:Value}(F:zl6 X pins σ H B ea cls dx s)(hp:∀ p∈X.pn++pins,B.get? p.1=some p.2)(hex:X.ex=[])(hC:ExcC ea cls dx s.heap) :
  H ea=none/\Inv X pins σ (upd H ea (exC ea cls dx)) s:=by
 have I:=F.inv
 obtain⟨oe,vs,he,hc,hdx,hd,h2⟩:=hC
 have hn:H ea=none:=by
  cases q:H ea with
  | none=>rfl
  | some o=>
   obtain⟨u,z⟩:=zf7.ex (F.hok ea o q)
   rw[F.fly.new] at z
   cases z
 have nl:∀ {b:Addr}{o:Obj},s.heap.get? b=some o->(∀ vs,o.data≠.fields vs)->b≠ea:=fun hb hnf z=>by
  rw[z,he] at hb
  cases hb
  exact hnf vs hd
 have n0:∀ {b:Addr}{o:Obj},X.s₀.heap.get? b=some o->b≠ea:=fun hb z=>by
  have:=F.en _ (z▸hb)
  rw[hex] at this
  cases this
 refine⟨hn,I.ok,I.os,I.bare,⟨I.base.keep,I.base.slot,fun b o e n h1=>?_,I.base.there,fun b xs q=>?_,fun b o u q=>?_,fun b ps q=>?_⟩,I.loc,I.cell,?_,fun x c hcl=>?_,fun p hpp=>?_,fun b o q=>?_,I.len⟩
 ·rw[zb0 (n0 e)];exact I.base.free b o e n h1
 ·have z:=I.base.tups b xs q
  rw[zb0 (za4 z hn)];exact z
 ·have z:=I.base.frzs b o u q
  rw[zb0 (za4 z hn)];exact z
 ·obtain⟨more,z⟩:=I.base.tbls b ps q
  exact⟨more,by rw[zb0 (za4 z hn)];exact z⟩
 ·obtain⟨m,⟨o,es,ep,ho,hdd,_⟩,_⟩:=I.loc
  rw[zb0 (nl ho fun vs q=>by rw[hdd] at q;cases q)];exact I.free
 ·obtain⟨v,o,ho,hdd⟩:=I.cell x c hcl
  rw[zb0 (nl ho fun vs q=>by rw[hdd] at q;cases q)];exact I.freeC x c hcl
 ·obtain⟨q1,q2,q3,q4,q5⟩:=I.pin p hpp
  refine⟨q1,?_,q3,q4,q5⟩
  rw[zb0 fun z=>?_]
  ·exact q2
  ·have:=hp p hpp
   rw[z,F.fly.new] at this
   cases this
 ·by_cases hb:b=ea
  ·subst hb
   rw[zb8] at q
   cases q
   refine⟨⟨oe,vs,he,hc,hdx,hd,h2⟩,⟨oe,he⟩,fun h1 h2 x k=>?_⟩
   obtain⟨o1,v1,e1,r⟩:=x
   exact⟨o1,v1,k _ e1,r⟩
  ·rw[zb0 hb] at q
   refine (I.hok b o q).stay (fun _ _ _ z=>z) (fun c z=>?_) fun c xs z=>?_
   ·rw[zb0 (za4 z hn)];exact z
   ·rw[zb0 (za4 z hn)];exact z
@[irreducible] def zan0(K:zby6)(CH C:Addr)(fld:Str)(E:XK)(te:TE)(σ:St)(cls:Value)(dx:Option Addr)(H':Hp):Prop:=zcg6 K cls (.ref CH)=some true/\∃ D:Addr,cls=.ref D/\chIn K D=some false /\
 ∀ ea H'',H' ea=none->Same H' H''->H'' ea=some (exC ea (.ref D) dx)->te σ H'' fun v H1=>H1 ea=some (exC ea (.ref D) dx)/\zg8 C fld E v H1
def qTryR(K:zby6)(CH C:Addr)(fld:Str)(E:XK)(t:XK->TS)(te:TE):TS:=fun D σ H=>t (fun cls dx H'=>zan0 K CH C fld E te σ cls dx H') D σ H
theorem psTryR{K:zby6}{body:List Stmt}{t:XK->TS}{hx x fld:Str}{CH f:Addr}{E:XK}{e₀:Expr}{k cj:Nat}{np2 rp cp hpos:Pos}(hK:X.K=K)(hcl:X.mg hx=some (.ref CH))(hb:PSXs X body t)(Z:IniK X.K C aH f fld)(hm:X.mg x=some (.ref C))(O:zbe4 X.prog X.w X.K X.mg X.base C f fld)(hr:Room k X.A)(hout:XOut X E)(hpass:∀ ea:Addr,PassesOwnAt (model X.prog X.w) (X.A.mark (some (.ref ea))) X.A X.env X.xe)(he0:∀ ea:Value,PE (zq4 X ea) e₀ te)(hT:chIn X.K C=some true)(hgl:Gl X hx:=by rfl)(hdb:(hx==("__debug__":Str))=false:=by decide)(hg:Gl X x:=by rfl)(hd:(x==("__debug__":Str))=false:=by decide)(hstk:X.stack=X.env :: X.outer:=by rfl)(hfr:X.env.frame=some X.env.locals:=by rfl)(hex:X.ex=[]:=by rfl)(he:starEach [e₀] X.env=(false,eval e₀ X.env) :: starEach [] X.env:=by rfl)(hpl:(backTo cpos (starEach [] X.env)).any (·.1)=false:=by rfl) :
  PS X (.Try body [.ExceptHandler (some (.Name hx np)) none [.Raise (some (.Call (.Name x np2) [e₀] [] cpos)) (some (.Constant .none cj cp)) rp] hpos] [] [] pos) (qTryR K CH C fld E t te):=by
 subst hK
 intro pins s σ H D I h
 rw[arm_exec_Try]
 refine zch8 (wpAny_standAt (wpAny_tryStmt_except (wpAny_mono (hb pins s σ H D _ I h) (fun f s1 q=>?_) fun e s1 q=>?_)))
 ·cases f with
  | next=>exact wpAny_execs_nil q
  | brk=>exact q
  | cont=>exact q
  | ret u=>exact q
 ·obtain⟨H1,B,ea,cls,dx,rfl,F,hp,q⟩:=q
  unfold zan0 at q
  obtain⟨hmm,Dc,rfl,hch,q⟩:=q
  have I1:=F.inv
  refine zag2 (L:=X.env.locals) (outer:=X.outer) (by rw[← hstk];exact I1.ok.frames) hfr (by rw[← hstk];exact F.fly) fun h2 F2 U2 W2=>?_
  rw[← hstk] at F2
  have F2:=F.move hp F2 U2 W2
  have I2:=F2.inv
  refine wpAny_handleBy_cons (codeAny_handlers_test ?_) (by intro z;cases z)
  refine zl3 (X:=zq4 X (.ref ea)) (I2.mark _) hgl hcl ?_ hdb
  have LT:PySem.W.Looks (model X.prog X.w) h2 (typeOf (.ref ea)) (.ref Dc):=by
   obtain⟨oe,vs,he,hc,_⟩:=F2.fly.ex
   exact hc▸(PySem.W.Looks.ld he).andThen .now
  refine (PySem.W.exm_one I2.kIn LT hmm).here ?_
  refine codeAny_handlers_suite ?_
  refine zbd9 F2.fly fun h3 F3 U3 W3=>?_
  have F3:=F2.move hp F3 U3 W3
  obtain⟨hn,I3⟩:=F3.trackC hp hex (F3.plain hch)
  have q:=q ea _ hn (Same.upd hn) zb8
  obtain⟨nm,qn,N,bs,sn,sub,ab,col,dd,k0,k1,k2,k3,k5,lk⟩:=Z.ob
  refine wpAny_execs_cons (wpAny_mono (zaw5 (K:=X.K) (C:=C) (nm:=nm) (q:=qn) (N:=N) (bs:=bs) (bm:=.ref aH :: bmV) (hdct:=true) (sn:=sn) (sub:=sub) (ab:=ab) (col:=col) (dd:=dd) (k0:=k0) (k1:=k1) (k2:=k2) (k3:=k3) (k5:=k5) (ea:=ea) (Q:=fun _ _=>False) PySem.F.excBase_ValueError
   (by rw[List.contains_cons,show List.contains bmV (Value.type "BaseException")=true by decide +kernel,Bool.or_true]) rfl (by rw[he];show (false || (backTo cpos (starEach [] X.env)).any (·.1))=false;rw[hpl];rfl) Z.init Z.fn (zl3 (X:=zq4 X (.ref ea)) (I3.mark _) hg hm ⟨rfl,?_⟩ hd)) (fun f s1 q=>q.elim) fun _ _ z=>z)
  have hA:=za0 (he0 (.ref ea)) (za1) he cpos pins _ σ _ (fun vs H1=>∃ v,vs=[v]/\(H1 ea=some (exC ea (.ref Dc) dx)/\zg8 C fld E v H1)) (I3.mark (.ref ea)) (by
   show te σ _ fun v H1=>∃ v',[v]=[v']/\(H1 ea=some (exC ea (.ref Dc) dx)/\zg8 C fld E v' H1)
   have e:(fun (v:V) (H1:Hp)=>∃ v',[v]=[v']/\(H1 ea=some (exC ea (.ref Dc) dx)/\zg8 C fld E v' H1))=fun v H1=>(H1 ea=some (exC ea (.ref Dc) dx)/\zg8 C fld E v H1):=by
    funext v H1
    apply propext
    exact⟨fun ⟨v',e1,e2⟩=>by cases e1;exact e2,fun e2=>⟨v,rfl,e2⟩⟩
   rw[e];exact q)
  have he':starEach [e₀] (zq4 X (.ref ea)).env=(false,eval e₀ X.env) :: starEach [] X.env:=he
  rw[he'] at hA
  rw[he]
  refine Calls.evalArgs_plain (wpAny_mono hA (fun us s2 h2=>?_) fun _ _ z=>(show False from z).elim)
  obtain⟨vs,H4,I4,r,v,ev,hea,q⟩:=h2
  have I4:=Inv.unmark I3 I4
  subst ev
  obtain⟨u,rfl,ru⟩:=r.one
  refine⟨rfl,by show 1<=sizeLine;decide,I4.kIn _ _ lk,I4.kIn,Z.tl _ I4.kIn,fun h' e m hz=>?_⟩
  obtain⟨t,ht,_,_⟩:=m.there
  have hfe:H4 e=none:=I4.hok.fresh hz
  have nea:ea≠e:=za4 hea hfe
  have I5:=I4.laid (a:=e) (o:=exN e (.ref C) none) (h':=h') (t':=s2.toks) m.keeps hz (zbe9 ⟨t,ht⟩)
  have hsp:zi3 C fld [.ref e,v] (upd H4 e (exN e (.ref C) none)) (fun w H'=>w=.non/\∃ d,H4 d=none/\d≠e/\Chg e (upd H4 e (exN e (.ref C) none)) H'/\H' e=some (exN e (.ref C) (some d))/\H' d=some (.xd [(fld,v)])) E0:=by
   unfold zi3
   refine⟨e,v,rfl,zb8,fun d H' hd hne hch h1 h2=>⟨rfl,d,?_,hne,hch,h1,h2⟩⟩
   rw[zb0 hne] at hd;exact hd
  have e0:=I5.env0
  have e0m:Env0 X.prog X.w X.K X.mg X.base (X.A.mark (some (.ref ea))) X.stack _ _:=⟨e0.frames,e0.mod,e0.bs,e0.bsz,e0.funs,e0.frf,e0.hok,e0.bare⟩
  refine wpAny_call (codeAny_mono (O _ X.stack _ _ e v u _ (by rw[zac5];have:=hr.dp;show X.A.depth+1<_;omega) (e0m.make C [u] []) ru hsp) fun r s' hq'=>?_)
  cases r with
  | error e=>exact False.elim hq'
  | ok fl=>
   cases fl with
   | ret u'=>
    obtain⟨v',H6,I6,rv,rfl,d,hd1,hd2,hchg,h6,h7⟩:=I5.after hq'
    cases (show u'=Value.none from rv)
    obtain⟨⟨t',ht'⟩,_,_⟩:=(show zf7 X.prog X.w H6 s'.heap e (exN e (.ref C) (some d)) from I6.hok e _ h6)
    have hea6:H6 ea=some (exC ea (.ref Dc) dx):=hchg _ _ nea (by rw[zb0 nea];exact hea)
    obtain⟨⟨oa,va,ha,_,_,hda,h2a⟩,_,_⟩:=(show zf7 X.prog X.w H6 s'.heap ea (exC ea (.ref Dc) dx) from I6.hok ea _ hea6)
    refine⟨rfl,t',some d,oa,va,nea,ht',I6.kIn _ _ lk,ha,hda,h2a,?_⟩
    have hen:∀ o,X.s₀.heap.get? e=some o->e∈X.ex:=fun o z=>by
     apply Classical.byContradiction
     intro hx
     obtain⟨o',k⟩:=I4.base.there e o z hx
     rw[m.new] at k
     cases k
    unfold zg8 at q
    have cC:=I6.kIn _ _ lk
    have c0:X.base.get? C=some _:=I6.ok.mod.kin _ _ lk
    have nf:C ∉ X.fs:=fun hm=>by rw[(I6.ok.funs.mem hm).1] at c0;cases c0
    have hCf:C ∉ frs X.stack:=zt1 I6 (I6.ok.bs _ _ c0).1 nf
    have chT:zag1 (excClassObj nm qn C N bs (.ref aH :: bmV) true sn sub ab col dd k0 k1 k2 k3 k5 newV)=true:=by
     unfold chIn at hT
     rw[lk] at hT
     exact Option.some.inj hT
    have nCe:C≠e:=fun z=>by
     have:=I4.kIn _ _ lk
     rw[z,m.new] at this
     cases this
    refine hpass ea _ _ (hout _ _ _ _ _ _ _ _ (zl6.of_ctx (ea:=ea) I6 h6 hen (I4.fpOk hz zbb6) cC hCf chT nCe) (q d _ hd1 (fun b o hb=>?_) (by rw[zo5 hd2];exact h7)))
    have nb:=za4 hb hfe
    rw[zo5 nb]
    exact hchg b o nb (by rw[zb0 nb];exact hb)
   | next=>exact False.elim hq'
   | brk=>exact False.elim hq'
   | cont=>exact False.elim hq'
theorem zbi3{K:zby6}{CH:Addr}{fld:Str}{E:XK}{σ:St}{H':Hp}(h1:zcg6 K (.ref D) (.ref CH)=some true)(h2:chIn K D=some false)(q:∀ ea H'',H' ea=none->Same H' H''->H'' ea=some (exC ea (.ref D) dx)->te σ H'' fun v H1=>H1 ea=some (exC ea (.ref D) dx)/\zg8 C fld E v H1):zan0 K CH C fld E te σ (.ref D) dx H':=by
 unfold zan0;exact⟨h1,D,rfl,h2,q⟩
end
set_option maxHeartbeats 1000000
@[irreducible] def rMulS(x:Str)(n:Int)(H:Hp)(Q:VK):Prop:=MulOk x n/\Q (.str (Txt.mul x n)) H
def zbl0:R2:=fun x y H Q=>match x,y with
 | .str a,.int k=>rMulS a k H Q
 | x,y=>rMulM x y H Q
section
variable {X:Cx}
theorem oMulS:OpR X (binaryOp .Mult) zbl0:=by
 intro pins s σ H x y v u Q I rx ry h
 unfold zbl0 at h
 split at h
 ·unfold rMulS at h
  obtain⟨t,rfl⟩:=rx
  obtain⟨t',rfl⟩:=ry
  exact SB.mul h.1 fun t2 k=>⟨.str _,H,I.tok _,⟨_,rfl⟩,h.2⟩
 ·exact oMul pins s σ H _ _ v u Q I rx ry h
end
theorem mulOkS{x:Str}{n:Int}(h1:0<=n)(h2:n<=1000000)(h3:x.length=1):MulOk x n:=by
 refine⟨?_,fun a b=>?_,fun a b=>?_⟩
 ·rw[Bool.or_eq_false_iff,decide_eq_false_iff_not,decide_eq_false_iff_not];omega
 ·rw[h3]
  have:(1000000:Int)<=(2 ^ 63 - 1) / n:=(Int.le_ediv_iff_mul_le (by omega)).mpr (by have:=Int.mul_le_mul_of_nonneg_left h2 (show (0:Int)<=1000000 by decide);omega)
  omega
 ·rw[h3,Nat.one_mul]
  unfold Builtin.Str.tooLong
  have:n.toNat<=1000000:=by omega
  simp only[decide_eq_false_iff_not]
  rw[zci0]
  omega
theorem zbq3{x:Str}{n:Int}{Q:VK}(h1:0<=n)(h2:n<=1000000)(h3:x.length=1)(q:Q (.str (Txt.mul x n)) H):rMulS x n H Q:=by
 unfold rMulS;exact⟨mulOkS h1 h2 h3,q⟩
theorem zau7:∀ (k:Nat) (a acc:Array Nat),((List.replicate k a).foldl (·++·) acc).toList=acc.toList++(List.replicate k a.toList).flatten
 | 0,a,acc=>by simp
 | k+1,a,acc=>by
  rw[zcd9,List.foldl_cons,zau7 k a (acc++a),zcd9,zcf9,Array.toList_append,zcb4]
theorem mul_one{c:Nat}{n:Int}(h:1<n):(Txt.mul ⟨#[c]⟩ n).cps.toList=List.replicate n.toNat c:=by
 unfold Txt.mul
 rw[if_neg (by omega),if_neg (by simp;exact⟨by omega,by show ¬ (#[c].size=0);simp⟩)]
 show ((List.replicate n.toNat #[c]).foldl (·++·) #[]).toList=_
 rw[zau7]
 generalize n.toNat=k
 induction k with
 | zero=>rfl
 | succ k ih=>
  rw[zcd9,zcf9,zcd9]
  simp only[zce4,List.singleton_append] at ih ⊢
  exact congrArg _ ih
end L2
set_option maxHeartbeats 1000000
set_option maxHeartbeats 0
namespace G
local macro_rules | `(tactic| eq_refl)=>`(tactic| first|exact Or.inl rfl|exact Or.inr rfl)
local macro_rules | `(tactic| ac_rfl)=>`(tactic| exact⟨rfl,rfl,rfl,by decide +kernel,rfl,by decide +kernel,by decide +kernel⟩)
open PySem L2
variable {H H':Hp}{Q:VK}{E:XK}{fd:FuncData}{ps qs:List Addr}{i m:Nat}{zbr7:Addr}{acc:List (List V)}{ng:Bool}{dv:V}{X:Cx}{pos:Pos}
def top(i:Nat):Stmt:=PySem.Challenge.pw_hostfields_k81_numbers_of_two_thousand_f.main.body.getD i (.Pass ⟨0,0,0,0⟩)
abbrev zu9:Stmt:=top 16
theorem zan6:zb2 ["thing"] ["thing"] (za5 zu9):=by ac_rfl
abbrev zx8:Stmt:=top 17
theorem zba2:zb2 ["thing","least"] ["thing","least"] (za5 zx8):=by ac_rfl
abbrev zp3:Stmt:=top 18
theorem zaf7:zb2 ["thing","least","most"] ["thing","least","most"] (za5 zp3):=by ac_rfl
abbrev zm7:Stmt:=top 22
theorem zl8:zb2 ["battle","number","field"] ["battle"] (za5 zm7):=by ac_rfl
abbrev zu8:Stmt:=top 23
theorem zao5:zb2 ["battle"] ["battle"] (za5 zu8):=by ac_rfl
abbrev zs0:Stmt:=top 24
theorem zai0:zb2 ["first","second"] ["first","second"] (za5 zs0):=by ac_rfl
abbrev zu0:Stmt:=top 25
theorem zaq0:zb2 ["first","second","field"] ["first","second","field"] (za5 zu0):=by ac_rfl
abbrev zt9:Stmt:=top 26
theorem zan7:zb2 ["many_rows","many_numbers","rows"] ["many_rows","many_numbers","rows"] (za5 zt9):=by ac_rfl
abbrev zl7:Stmt:=top 27
theorem zy9:zb2 ["many_numbers","row"] ["many_numbers","row"] (za5 zl7):=by ac_rfl
abbrev zm9:Stmt:=top 33
theorem zl9:zb2 ["text","rows","battle"] ["text"] (za5 zm9):=by ac_rfl
abbrev zr7:Stmt:=top 34
theorem zo9:zb2 ["rows","first","second"] ["rows"] (za5 zr7):=by ac_rfl
abbrev zt6:Stmt:=top 35
theorem zao9:zb2 ["first","second","row"] ["first","second","row"] (za5 zt6):=by ac_rfl
abbrev zn2:Stmt:=top 36
theorem zaa3:zb2 ["many_rows","many_numbers","numbers"] ["many_rows","many_numbers","numbers"] (za5 zn2):=by ac_rfl
abbrev zp6:Stmt:=top 37
theorem zk1:zb2 ["text","rows","flows","numbers"] ["text"] (za5 zp6):=by ac_rfl
abbrev zr3:Stmt:=top 38
theorem zl0:zb2 ["pairs","lists","field","thing"] ["pairs"] (za5 zr3):=by ac_rfl
abbrev zr5:Stmt:=top 39
theorem zb5:zb2 ["text","stands","pieces","rows","ahead","number","piece","row"] ["text","stands"] (za5 zr5):=by ac_rfl
abbrev zu1:Stmt:=top 40
theorem zz8:zb2 ["piece","words"] ["piece"] (za5 zu1):=by ac_rfl
abbrev zo3:Stmt:=top 41
theorem zad8:zb2 ["word","many"] ["word","many"] (za5 zo3):=by ac_rfl
abbrev zr1:Stmt:=top 42
theorem zv4:zb2 ["word","figures"] ["word"] (za5 zr1):=by ac_rfl
abbrev zh9:Stmt:=top 43
theorem zr2:zb2 ["ahead","row"] ["ahead","row"] (za5 zh9):=by ac_rfl
abbrev zi9:Stmt:=top 44
theorem zs3:zb2 ["ahead","row"] ["ahead","row"] (za5 zi9):=by ac_rfl
abbrev zm8:Stmt:=top 45
theorem zab0:zb2 ["ahead","row"] ["ahead","row"] (za5 zm8):=by ac_rfl
abbrev zk4:Stmt:=top 46
theorem zn6:zb2 ["ahead","row","place"] ["ahead","row"] (za5 zk4):=by ac_rfl
abbrev zm0:Stmt:=top 48
theorem zp1:zb2 ["_law_number","_law_k","_law_mixed"] ["_law_number","_law_k"] (za5 zm0):=by ac_rfl
abbrev zn3:Stmt:=top 49
theorem zab8:zb2 ["_law_cell"] ["_law_cell"] (za5 zn3):=by ac_rfl
abbrev zr4:Stmt:=top 50
theorem zg9:zb2 ["_law_left","_law_base","_law_digit","_law_number","_law_turn","_law_mixed"] ["_law_left","_law_base"] (za5 zr4):=by ac_rfl
abbrev zm1:Stmt:=top 51
theorem zd4:zb2 ["_law_caught","_law_some","_law_names"] ["_law_caught"] (za5 zm1):=by ac_rfl
abbrev zi5:Stmt:=top 52
theorem zd9:zb2 ["_law_left","_law_many","_law_first","_law_figures"] ["_law_left"] (za5 zi5):=by ac_rfl
abbrev zl5:Stmt:=top 53
theorem ze3:zb2 ["_law_way","_law_text","_law_caught","_law_told","e"] ["_law_way","_law_text"] (za5 zl5):=by ac_rfl
abbrev zp7:Stmt:=top 54
theorem zc4:zb2 ["_law_word","_law_figures","_law_good","_law_number","_law_lead","_law_row","_law_due","_law_other"] ["_law_word"] (za5 zp7):=by ac_rfl
abbrev zap2:Stmt:=top 55
theorem zbm6:zb2 ["_law_script","_law_cell"] ["_law_script"] (za5 zap2):=by ac_rfl
abbrev zh4:Stmt:=zbb8 (top 2) 0
theorem zae0:zb2 ["self","field"] ["self","field"] (za5 zh4):=by ac_rfl
theorem zv3{P:Program}{w:World}{K:zby6}{mg:Str->Option Value}{base:Heap}{C aH f:Addr}(F:IniF K "NoBattle.__init__" zh4 f "field")(Z:IniK K C aH f "field"):IniOk P w K mg base C f "field":=by
 obtain⟨fd,F,hb⟩:=F
 refine⟨_,fd,F.ok zae0 (fun vs H Q E h=>by unfold zi3 at h;obtain⟨_,_,rfl,_⟩:=h;rfl) fun _ _ _ s H vs Q E hr h=>?_,hb⟩
 unfold zi3 at h
 obtain⟨e,v,rfl,he,q⟩:=h
 refine⟨_,(za7 (zbc3 (K:=K) rfl Z (pq 0) (pq 1))),?_⟩
 (conv=>whnf)
 exact zao7 he q
abbrev zk2:Stmt:=zbb8 (top 11) 0
theorem zy1:zb2 ["self","row"] ["self","row"] (za5 zk2):=by ac_rfl
theorem zk3{P:Program}{w:World}{K:zby6}{mg:Str->Option Value}{base:Heap}{C aH f:Addr}(F:IniF K "NoText.__init__" zk2 f "row")(Z:IniK K C aH f "row"):IniOk P w K mg base C f "row":=by
 obtain⟨fd,F,hb⟩:=F
 refine⟨_,fd,F.ok zy1 (fun vs H Q E h=>by unfold zi3 at h;obtain⟨_,_,rfl,_⟩:=h;rfl) fun _ _ _ s H vs Q E hr h=>?_,hb⟩
 unfold zi3 at h
 obtain⟨e,v,rfl,he,q⟩:=h
 refine⟨_,(za7 (zbc3 (K:=K) rfl Z (pq 0) (pq 1))),?_⟩
 (conv=>whnf)
 exact zao7 he q
theorem zaq2{P:Program}{w:World}{K:zby6}{mg:Str->Option Value}{base:Heap}{C aH f:Addr}(F:IniF K "NoText.__init__" zk2 f "row")(Z:IniK K C aH f "row"):zbe4 P w K mg base C f "row":=by
 refine zbo9 F zy1 (fun cdv A outer s H vs Q h=>?_)
 unfold zi3 at h
 obtain⟨e,v,rfl,he,q⟩:=h
 refine⟨_,(za7 (zbc3 (K:=K) rfl Z (pq 0) (pq 1))),?_⟩
 (conv=>whnf)
 exact zao7 he q
theorem nb_0:(["number"]:List Str).Nodup:=by decide +kernel
theorem nb_1:(["row","many_numbers"]:List Str).Nodup:=by decide +kernel
theorem nb_2:(["sign"]:List Str).Nodup:=by decide +kernel
theorem nb_3:(["word"]:List Str).Nodup:=by decide +kernel
theorem nb_4:(["row","numbers","many_numbers"]:List Str).Nodup:=by decide +kernel
theorem nb_5:(["row","first","second"]:List Str).Nodup:=by decide +kernel
theorem nb_6:(["row"]:List Str).Nodup:=by decide +kernel
structure Cz(K:zby6)(mg:Str->Option Value)(base:Heap)(zbr8 zbr6 zbs5 zbt2 zbr9 zbs6 zbs2 zbs0 zbs1 zbs7 zbr7 zbt3 zbs8 zbs3 zbs4 zbt4:Addr):Prop where
 g_HostError:mg "HostError"=some (.ref zbr8)
 g_NoBattle:mg "NoBattle"=some (.ref zbr6)
 g_NoPlan:mg "NoPlan"=some (.ref zbs5)
 g_NoMix:mg "NoMix"=some (.ref zbt2)
 g_NoStream:mg "NoStream"=some (.ref zbr9)
 g_NoSide:mg "NoSide"=some (.ref zbs6)
 g_NoAlike:mg "NoAlike"=some (.ref zbs2)
 g_NoNumber:mg "NoNumber"=some (.ref zbs0)
 g_TooGreat:mg "TooGreat"=some (.ref zbs1)
 g_NoEven:mg "NoEven"=some (.ref zbs7)
 g_NoText:mg "NoText"=some (.ref zbr7)
 g_NoRow:mg "NoRow"=some (.ref zbt3)
 g_NoName:mg "NoName"=some (.ref zbs8)
 g_NoPlace:mg "NoPlace"=some (.ref zbs3)
 z_NoBattle:IniK K zbr6 zbr8 zbs4 "field"
 fi_NoBattle:IniF K "NoBattle.__init__" zh4 zbs4 "field"
 hd_NoBattle:zcf2 K zbr6=true
 k_NoBattle:ExcK K zbr6
 c_NoBattle:(zcb5 K zbr6).isSome=true
 m_NoBattle:zcg6 K (.ref zbr6) (.ref zbr8)=some true
 v_NoBattle:zbz0 K (.ref zbr6) (.type "ValueError")=some true
 i_NoBattle_HostError:zbz0 K (.ref zbr6) (.ref zbr8)=some true
 i_NoBattle_NoBattle:zbz0 K (.ref zbr6) (.ref zbr6)=some true
 i_NoBattle_NoPlan:zbz0 K (.ref zbr6) (.ref zbs5)=some false
 i_NoBattle_NoMix:zbz0 K (.ref zbr6) (.ref zbt2)=some false
 i_NoBattle_NoStream:zbz0 K (.ref zbr6) (.ref zbr9)=some false
 i_NoBattle_NoSide:zbz0 K (.ref zbr6) (.ref zbs6)=some false
 i_NoBattle_NoAlike:zbz0 K (.ref zbr6) (.ref zbs2)=some false
 i_NoBattle_NoNumber:zbz0 K (.ref zbr6) (.ref zbs0)=some false
 i_NoBattle_TooGreat:zbz0 K (.ref zbr6) (.ref zbs1)=some false
 i_NoBattle_NoEven:zbz0 K (.ref zbr6) (.ref zbs7)=some false
 i_NoBattle_NoText:zbz0 K (.ref zbr6) (.ref zbr7)=some false
 i_NoBattle_NoRow:zbz0 K (.ref zbr6) (.ref zbt3)=some false
 i_NoBattle_NoName:zbz0 K (.ref zbr6) (.ref zbs8)=some false
 i_NoBattle_NoPlace:zbz0 K (.ref zbr6) (.ref zbs3)=some false
 z_NoText:IniK K zbr7 zbr8 zbt4 "row"
 fi_NoText:IniF K "NoText.__init__" zk2 zbt4 "row"
 hd_NoText:zcf2 K zbr7=true
 k_NoText:ExcK K zbr7
 c_NoText:(zcb5 K zbr7).isSome=true
 m_NoText:zcg6 K (.ref zbr7) (.ref zbr8)=some true
 v_NoText:zbz0 K (.ref zbr7) (.type "ValueError")=some true
 i_NoText_HostError:zbz0 K (.ref zbr7) (.ref zbr8)=some true
 i_NoText_NoBattle:zbz0 K (.ref zbr7) (.ref zbr6)=some false
 i_NoText_NoPlan:zbz0 K (.ref zbr7) (.ref zbs5)=some false
 i_NoText_NoMix:zbz0 K (.ref zbr7) (.ref zbt2)=some false
 i_NoText_NoStream:zbz0 K (.ref zbr7) (.ref zbr9)=some false
 i_NoText_NoSide:zbz0 K (.ref zbr7) (.ref zbs6)=some false
 i_NoText_NoAlike:zbz0 K (.ref zbr7) (.ref zbs2)=some false
 i_NoText_NoNumber:zbz0 K (.ref zbr7) (.ref zbs0)=some false
 i_NoText_TooGreat:zbz0 K (.ref zbr7) (.ref zbs1)=some false
 i_NoText_NoEven:zbz0 K (.ref zbr7) (.ref zbs7)=some false
 i_NoText_NoText:zbz0 K (.ref zbr7) (.ref zbr7)=some true
 i_NoText_NoRow:zbz0 K (.ref zbr7) (.ref zbt3)=some false
 i_NoText_NoName:zbz0 K (.ref zbr7) (.ref zbs8)=some false
 i_NoText_NoPlace:zbz0 K (.ref zbr7) (.ref zbs3)=some false
 n_HostError:zbz0 K (.type "NoneType") (.ref zbr8)=some false
 n_NoBattle:zbz0 K (.type "NoneType") (.ref zbr6)=some false
 n_NoPlan:zbz0 K (.type "NoneType") (.ref zbs5)=some false
 n_NoMix:zbz0 K (.type "NoneType") (.ref zbt2)=some false
 n_NoStream:zbz0 K (.type "NoneType") (.ref zbr9)=some false
 n_NoSide:zbz0 K (.type "NoneType") (.ref zbs6)=some false
 n_NoAlike:zbz0 K (.type "NoneType") (.ref zbs2)=some false
 n_NoNumber:zbz0 K (.type "NoneType") (.ref zbs0)=some false
 n_TooGreat:zbz0 K (.type "NoneType") (.ref zbs1)=some false
 n_NoEven:zbz0 K (.type "NoneType") (.ref zbs7)=some false
 n_NoText:zbz0 K (.type "NoneType") (.ref zbr7)=some false
 n_NoRow:zbz0 K (.type "NoneType") (.ref zbt3)=some false
 n_NoName:zbz0 K (.type "NoneType") (.ref zbs8)=some false
 n_NoPlace:zbz0 K (.type "NoneType") (.ref zbs3)=some false
structure Nm(mg:Str->Option Value):Prop where
 ValueError_:mg "ValueError"=none
 all_:mg "all"=none
 bool_:mg "bool"=none
 enumerate_:mg "enumerate"=none
 int_:mg "int"=none
 isinstance_:mg "isinstance"=none
 len_:mg "len"=none
 list_:mg "list"=none
 range_:mg "range"=none
 tuple_:mg "tuple"=none
local macro_rules | `(tactic| walk_at "hp")=>`(tactic| first|assumption|(refine Same.at (H:=?H) ?s ?e;(case s=>assumption);(case e=>walk_at "hp"))|(refine Chg.at (a:=?a) (H:=?H) ?c ?e ?n;(case c=>assumption);(case n=>walk_at "ne");(case e=>walk_at "hp"))|fail "hp")
local macro_rules | `(tactic| walk_at "ne")=>`(tactic| first|assumption|(apply Ne.symm;assumption)|fail "ne")
local macro_rules | `(tactic| ac_nf)=>`(tactic| (conv=>whnf))
local macro_rules | `(tactic| walk_at "st")=>`(tactic| (conv=>whnf);first
 | refine zbp9 (by omega) (by omega) ?_
 | refine zap6 (by omega) (by omega) ?_
 | refine zbp6 (by omega) (fun r h0 h1=>?_)
 | refine div_rd (by omega) (by omega) ?_
 | (refine pow_rd ⟨by decide,by decide,by decide⟩ ?_;simp only[Int.reduceToNat,Int.reducePow])
 | (refine zb3 (xs:=?xs) (v:=?v) ?hp ?ev ?_;(case hp=>walk_at "hp");(case ev=>rfl))
 | (refine zn5 (xs:=?xs) (v:=?v) ?hp ?ev ?_;(case hp=>walk_at "hp");(case ev=>rfl))
 | refine zd3 (fun p H' hf hs ha=>?_)
 | refine zb6 (fun p H' hf hs ha=>?_)
 | refine zbn1 ?_
 | (refine zag6 (xs:=?xs) ?hp ?_;(case hp=>walk_at "hp"))
 | (refine zao0 (xs:=?xs) ?hp ?_;(case hp=>walk_at "hp"))
 | (refine zj6 (xs:=?xs) ?hp ?_;(case hp=>walk_at "hp"))
 | (refine zg7 (xs:=?xs) ?hp ?_;(case hp=>walk_at "hp"))
 | refine zbp5 ?_
 | refine br_T ?_
 | refine br_F ?_
 | refine zk9 (by omega) ?_
 | refine zm3 (by omega) ?_
 | fail "st")
def stp(g:Nat->Nat->Int)(c:Nat):Nat->Nat->Int
 | 0,t=>g 0 t
 | f+1,t=>g (f+1) t+if c<=t then stp g c f (t - c) else 0
def g0(f t:Nat):Int:=if f=0/\t=0 then 1 else 0
def pl(ns:List Nat):List V:=ns.map fun (n:Nat)=>V.int (n:Int)
local macro_rules | `(tactic| rfl')=>`(tactic| first|decide|omega)
section
variable {P:Program}{w:World}{K:zby6}{mg:Str->Option Value}{base:Heap}{zbr8:Addr}{zbr6:Addr}{zbs5:Addr}{zbt2:Addr}{zbr9:Addr}{zbs6:Addr}{zbs2:Addr}{zbs0:Addr}{zbs1:Addr}{zbs7:Addr}{zbr7:Addr}{zbt3:Addr}{zbs8:Addr}{zbs3:Addr}{zbs4:Addr}{zbt4:Addr}
@[irreducible] def zg0:Sp:=fun vs H Q _=>∃ i:Int,vs=[.int i]/\Q (.bl true) H
theorem zbc7{i:Int}(q:Q (.bl true) H):zg0 [.int i] H Q E:=by unfold zg0;exact⟨i,rfl,q⟩
theorem zar0{f:Addr}(F:Fun K "is_whole" "is_whole" zu9 f fd)(N:Nm mg):FnOk P w K mg base CX0 1 f fd ["thing"] zg0:=by
 refine F.ok zan6 (fun vs H Q E h=>by unfold zg0 at h;obtain⟨n,rfl,_⟩:=h;rfl) fun _ _ _ s H vs Q E hr h=>?_
 unfold zg0 at h
 obtain⟨i,rfl,q⟩:=h
 refine⟨_,(za7 (zb1 (zw0 (pB (zba1 (K:=K) rfl) N.isinstance_ za8 (za0 (pq 0) (za0 (pTy N.int_ zq3) za1))) (zn7 (peNot (pB (zba1 (K:=K) rfl) N.isinstance_ za8 (za0 (pq 0) (za0 (pTy N.bool_ zbo3) za1)))))))),?_⟩
 repeat walk_at "st"
 ac_nf
 exact q
@[irreducible] def zi7:Sp:=fun vs H Q _=>∃ i l:Int,vs=[.int i,.int l]/\Q (.bl (decide (l<=i))) H
theorem zbd4{i l:Int}(q:Q (.bl (decide (l<=i))) H):zi7 [.int i,.int l] H Q E:=by unfold zi7;exact⟨i,l,rfl,q⟩
theorem zaz6{f:Addr}(F:Fun K "is_from" "is_from" zx8 f fd)(N:Nm mg)(zbt7:Def P w K mg base CX0 1 "is_whole" ["thing"] zg0):FnOk P w K mg base CX0 2 f fd ["thing","least"] zi7:=by
 refine F.ok zba2 (fun vs H Q E h=>by unfold zi7 at h;obtain⟨n,k,rfl,_⟩:=h;rfl) fun _ _ _ s H vs Q E hr h=>?_
 unfold zi7 at h
 obtain⟨i,l,rfl,q⟩:=h
 refine⟨_,(za7 (zb1 (zw0 (pD zbt7 hr zd6 (za0 (pq 0) za1)) (zn7 (peC oLe (pq 1) (pq 0)))))),?_⟩
 refine zbc7 ?_
 walk_at "st"
 ac_nf
 exact q
@[irreducible] def zf0:Sp:=fun vs H Q _=>∃ i l m:Int,vs=[.int i,.int l,.int m]/\Q (.bl (decide (l<=i/\i<=m))) H
theorem zbd8{i l m:Int}(q:Q (.bl (decide (l<=i/\i<=m))) H):zf0 [.int i,.int l,.int m] H Q E:=by unfold zf0;exact⟨i,l,m,rfl,q⟩
theorem zw7{p q:Prop}[Decidable p][Decidable q](h:p):decide (p/\q)=decide q:=by simp[h]
theorem zw4{p q:Prop}[Decidable p][Decidable q](h:¬ p):decide (p/\q)=false:=by simp[h]
theorem zad4{f:Addr}(F:Fun K "is_between" "is_between" zp3 f fd)(N:Nm mg)(zbu1:Def P w K mg base CX0 2 "is_from" ["thing","least"] zi7):FnOk P w K mg base CX0 3 f fd ["thing","least","most"] zf0:=by
 refine F.ok zaf7 (fun vs H Q E h=>by unfold zf0 at h;obtain⟨n,k,_,rfl,_⟩:=h;rfl) fun _ _ _ s H vs Q E hr h=>?_
 unfold zf0 at h
 obtain⟨i,l,m,rfl,q⟩:=h
 refine⟨_,(za7 (zb1 (zw0 (pD zbu1 hr zd6 (za0 (pq 0) (za0 (pq 1) za1))) (zn7 (peC oLe (pq 0) (pq 2)))))),?_⟩
 refine zbd4 ?_
 refine ze0 (fun h=>?_) (fun h=>?_)
 ·ac_nf
  rw[zw7 h] at q
  exact q
 ·ac_nf
  rw[zw4 h] at q
  exact q
theorem zbq8(n:Nat):((List.range n).map fun _=>V.bl true)=((List.range n).map fun _=>true).map V.bl:=by rw[List.map_map];rfl
theorem zbi5(n:Nat):((List.range n).map fun _=>true).all id=true:=by rw[List.all_map];exact zae9 n
inductive Fd where
 | more (w t:Int)
 | lead (w l:Int)
 | tab (g:Nat->Nat->Int)
def FdAt(H:Hp)(p:Addr)(a c:Nat):Fd->Prop
 | .more w t=>H p=some (.tup [.str "more",.int w,.int t])
 | .lead w l=>H p=some (.tup [.str "lead",.int w,.int l])
 | .tab g=>∃ q ps,H p=some (.tup [.str "table",.ref q])/\zbe2 H q ps (a+1) (c+1) g
theorem FdAt.some{H:Hp}{p:Addr}{a c:Nat}{f:Fd}(F:FdAt H p a c f):∃ xs,H p=some (.tup xs):=by
 cases f with
 | more w t=>exact⟨_,F⟩
 | lead w l=>exact⟨_,F⟩
 | tab g=>
  obtain⟨q,ps,h1,h2⟩:=F
  exact⟨_,h1⟩
@[irreducible] def zh5:Sp:=fun vs H Q _=>∃ x y:Int,vs=[.int x,.int y]/\Q (.bl (decide ((0<=x/\x<=10)/\0<=y/\y<=10))) H
theorem zah3{x y:Int}(q:Q (.bl (decide ((0<=x/\x<=10)/\0<=y/\y<=10))) H):zh5 [.int x,.int y] H Q E:=by unfold zh5;exact⟨x,y,rfl,q⟩
theorem zal4{f:Addr}(F:Fun K "are_hosts" "are_hosts" zs0 f fd)(N:Nm mg){zbu7:Tok}(c_MOST_HOSTS:mg "MOST_HOSTS"=some (.int 10 zbu7))(zbt5:Def P w K mg base CX0 3 "is_between" ["thing","least","most"] zf0):FnOk P w K mg base CX0 4 f fd ["first","second"] zh5:=by
 refine F.ok zai0 (fun vs H Q E h=>by unfold zh5 at h;obtain⟨_,_,rfl,_⟩:=h;rfl) fun _ _ _ s H vs Q E hr h=>?_
 unfold zh5 at h
 obtain⟨x,y,rfl,q⟩:=h
 refine⟨_,(za7 (zb1 (zw0 (pD zbt5 hr zd6 (za0 (pq 0) (za0 za2 (za0 (zf2 (v:=.int 10) rfl c_MOST_HOSTS ⟨_,rfl⟩) za1)))) (zn7 (pD zbt5 hr zd6 (za0 (pq 1) (za0 za2 (za0 (zf2 (v:=.int 10) rfl c_MOST_HOSTS ⟨_,rfl⟩) za1)))))))),?_⟩
 refine zbd8 ?_
 refine ze0 (fun h=>?_) (fun h=>?_)
 ·ac_nf
  refine zbd8 ?_
  ac_nf
  rw[zw7 h] at q
  exact q
 ·ac_nf
  rw[zw4 h] at q
  exact q
inductive Fx where
 | flat (w:Str) (zs:List Int)
 | tab (rows:List (List Int))
 | non
structure zv5(H:Hp)(q:Addr)(ps:List Addr)(rows:List (List Int)):Prop where
 out:H q=some (.lst (ps.map V.ref))
 len:ps.length=rows.length
 row:∀ (i:Nat) p r,ps[i]?=some p->rows[i]?=some r->H p=some (.lst (r.map V.int))
theorem zv5.same{q:Addr}{rows:List (List Int)}(R:zv5 H q ps rows)(s:Same H H'):zv5 H' q ps rows:=⟨s _ _ R.out,R.len,fun i p r h1 h2=>s _ _ (R.row i p r h1 h2)⟩
theorem zv5.elt{q:Addr}{rows:List (List Int)}(R:zv5 H q ps rows){v:V}(e:(ps.map V.ref)[i]?=some v):∃ p r,v=.ref p/\ps[i]?=some p/\rows[i]?=some r/\H p=some (.lst (r.map V.int)):=by
 rw[zbz1] at e
 obtain⟨p,ep,rfl⟩:=zbz5.mp e
 obtain⟨r,er⟩:∃ r,rows[i]?=some r:=⟨_,zby8 (by have:=(zby9.mp ep).1;have:=R.len;omega)⟩
 exact⟨p,r,rfl,ep,er,R.row i p r ep er⟩
def FxAt(H:Hp)(p:Addr):Fx->Prop
 | .flat w zs=>H p=some (.tup (.str w :: zs.map V.int))
 | .tab rows=>∃ q ps,H p=some (.tup [.str "table",.ref q])/\zv5 H q ps rows
 | .non=>H p=some (.tup [.str "table",.non])
def Fx.Gd:Fx->Prop
 | .flat w zs=>w≠"table"/\zs.length<=10
 | .tab rows=>rows.length<=100/\∀ r∈rows,r.length<=100
 | .non=>True
theorem FxAt.same{H H':Hp}{p:Addr}{f:Fx}(F:FxAt H p f)(s:Same H H'):FxAt H' p f:=by
 cases f with
 | flat w zs=>exact s _ _ F
 | tab rows=>
  obtain⟨q,ps,h1,h2⟩:=F
  exact⟨q,ps,s _ _ h1,h2.same s⟩
 | non=>exact s _ _ F
def isF(a c:Int):Fx->Bool
 | .flat w [x,y]=>if w="more" then decide (1<=x/\-x<=y/\y<=x) else if w="lead" then decide (1<=x) else false
 | .flat _ _=>false
 | .tab rows=>decide ((rows.length:Int)=a+1)&&rows.all fun r=>decide ((r.length:Int)=c+1)
 | .non=>false
structure BxAt(H:Hp)(b l:Addr)(ps:List Addr)(a c:Int)(fs:List Fx):Prop where
 out:H b=some (.tup [.int a,.int c,.ref l])
 lst:H l=some (.lst (ps.map V.ref))
 len:ps.length=fs.length
 fld:∀ (i:Nat) p f,ps[i]?=some p->fs[i]?=some f->FxAt H p f/\f.Gd
theorem BxAt.same{H H':Hp}{b l:Addr}{ps:List Addr}{a c:Int}{fs:List Fx}(B:BxAt H b l ps a c fs)(s:Same H H'):BxAt H' b l ps a c fs:=⟨s _ _ B.out,s _ _ B.lst,B.len,fun i p f h1 h2=>⟨(B.fld i p f h1 h2).1.same s,(B.fld i p f h1 h2).2⟩⟩
theorem BxAt.elt{b l:Addr}{a c:Int}{fs:List Fx}(B:BxAt H b l ps a c fs){v:V}(e:(ps.map V.ref)[i]?=some v):∃ p f,v=.ref p/\ps[i]?=some p/\fs[i]?=some f/\FxAt H p f/\f.Gd:=by
 rw[zbz1] at e
 obtain⟨p,ep,rfl⟩:=zbz5.mp e
 obtain⟨f,ef⟩:∃ f,fs[i]?=some f:=⟨_,zby8 (by have:=(zby9.mp ep).1;have:=B.len;omega)⟩
 exact⟨p,f,rfl,ep,ef,B.fld i p f ep ef⟩
abbrev Sz(a c:Int)(n:Nat):Prop:=((0<=a/\a<=10)/\0<=c/\c<=10)/\1<=n/\n<=5
def BadB(H:Hp)(b:Addr)(k:Int):Prop:=∃ l ps a c fs,BxAt H b l ps a c fs/\fs.length<=100 /\
 ((¬ Sz a c fs.length/\k=-1)∨(Sz a c fs.length/\∃ (j:Nat) (f:Fx),k=j/\fs[j]?=some f/\isF a c f=false/\∀ (i:Nat) g,i<j->fs[i]?=some g->isF a c g=true))
@[irreducible] def ze7:Sp:=fun vs H Q _=>∃ (r:Addr) (n:Int) (zs:List Int),vs=[.int n,.ref r]/\H r=some (.lst (zs.map V.int))/\zs.length<=1000/\∀ H',Same H H'->Q (.bl (decide ((zs.length:Int)=n))) H'
theorem zx2{r:Addr}{n:Int}{zs:List Int}(h:H r=some (.lst (zs.map V.int)))(hn:zs.length<=1000)(q:∀ H',Same H H'->Q (.bl (decide ((zs.length:Int)=n))) H'):ze7 [.int n,.ref r] H Q E:=by unfold ze7;exact⟨r,n,zs,rfl,h,hn,q⟩
theorem zz9{f:Addr}(F:Fun K "is_table_row" "is_table_row" zl7 f fd)(N:Nm mg)(zbt7:Def P w K mg base CX0 1 "is_whole" ["thing"] zg0):FnOk P w K mg base CX0 2 f fd ["many_numbers","row"] ze7:=by
 refine F.ok zy9 (fun vs H Q E h=>by unfold ze7 at h;obtain⟨_,_,_,rfl,_⟩:=h;rfl) fun _ _ _ s H vs Q E hr h=>?_
 unfold ze7 at h
 obtain⟨r,n,zs,rfl,h,hn,q⟩:=h
 have hu:=hu40 hr
 refine⟨_,(za7 (zb1 (zw0 (pB (zba1 (K:=K) rfl) N.isinstance_ za8 (za0 (pq 1) (za0 (pTy N.list_ zag5) za1))) (zw0 (peC (oEqK (K:=K) rfl (by exact hu)) (pB (zn1 (K:=K) rfl) N.len_ zi2 (za0 (pq 1) za1)) (pq 0)) (zn7 (pB (zba9 (K:=K) rfl rfl) N.all_ zam9 (za0 (zv6 (N:=["number"]) (ks:=[none]) (zq5 (K:=K) rfl (pq 1)) (fun _ _ _ _ _=>(ze2 (i:=0) nb_0 rfl (by eq_refl))) (fun _ _ _ _ _=>zo6) (fun _ _ _ _ _=>(pD zbt7 hr zd6 (za0 (pq 0) za1))) (.skip .nil)) za1))))))),?_⟩
 refine zao0 h ?_
 refine br_T ?_
 refine zg7 h ?_
 rw[zby7]
 refine ze0 (fun en=>?_) (fun en=>?_)
 ·rw[decide_eq_true en] at q
  refine zj9 h ?_
  refine zam4 (Wk.list (SqL.of h)) (by rw[zby7,zci0];omega) (fun i=>.bl true) (fun _=>true) (fun j σ=>∃ t:Option V,σ=[t]) ⟨none,rfl⟩ ?_ ?_
  ·rintro j v σ H1 R S hj s1 hx ⟨t,rfl⟩ k _
   rw[zbz1] at hx
   obtain⟨z,_,rfl⟩:=zbz5.mp hx
   refine br_T ?_
   refine zbc7 ?_
   ac_nf
   exact k rfl _ _ (Same.refl _) ⟨_,rfl⟩
  intro acc H1 f1 s1 h1
  rw[zs1,zby7,zbq8] at h1
  refine zas6 h1 ?_
  rw[zbi5]
  ac_nf
  exact q _ s1
 ·rw[decide_eq_false en] at q
  ac_nf
  exact q _ (Same.refl _)
theorem zbd7(l:List Bool):(l.map V.bl)=(List.range l.length).map fun i=>V.bl (l.getD i false):=by
 apply zcg9
 intro i
 rw[zbz1,zbz1]
 by_cases h:i<l.length
 ·rw[List.getElem?_range h,zby8 h]
  simp[h]
 ·rw[zcc7 (by rfl'),zcc7 (by simp;omega)]
  rfl
@[irreducible] def zg1:Sp:=fun vs H Q _=>(∃ (r:Addr) (ps:List Addr) (n m:Int) (rows:List (List Int)),vs=[.int n,.int m,.ref r]/\zv5 H r ps rows/\rows.length<=100/\(∀ r∈rows,r.length<=100)/\∀ H',Same H H'->Q (.bl (decide ((rows.length:Int)=n)&&rows.all fun r=>decide ((r.length:Int)=m))) H')∨∃ n m:Int,vs=[.int n,.int m,.non]/\Q (.bl false) H
theorem zan8{r:Addr}{n m:Int}{rows:List (List Int)}(h:zv5 H r ps rows)(hn:rows.length<=100)(hm:∀ r∈rows,r.length<=100)(q:∀ H',Same H H'->Q (.bl (decide ((rows.length:Int)=n)&&rows.all fun r=>decide ((r.length:Int)=m))) H'):zg1 [.int n,.int m,.ref r] H Q E:=by unfold zg1;exact .inl ⟨r,ps,n,m,rows,rfl,h,hn,hm,q⟩
theorem zz7{n m:Int}(q:Q (.bl false) H):zg1 [.int n,.int m,.non] H Q E:=by unfold zg1;exact .inr ⟨n,m,rfl,q⟩
theorem zap1{f:Addr}(F:Fun K "is_table" "is_table" zt9 f fd)(N:Nm mg)(zbu0:Def P w K mg base CX0 2 "is_table_row" ["many_numbers","row"] ze7):FnOk P w K mg base CX0 3 f fd ["many_rows","many_numbers","rows"] zg1:=by
 refine F.ok zan7 (fun vs H Q E h=>by unfold zg1 at h;rcases h with ⟨_,_,_,_,_,rfl,_⟩|⟨_,_,rfl,_⟩<;>rfl) fun _ _ _ s H vs Q E hr h=>?_
 unfold zg1 at h
 have hu:=hu40 hr
 rcases h with ⟨r,ps,n,m,rows,rfl,R,hn,hm,q⟩|⟨n,m,rfl,q⟩
 rotate_left
 ·refine⟨_,(za3 (psIf (ptW (pwOr (zl2 (ptV (pB (zba1 (K:=K) rfl) N.isinstance_ za8 (za0 (pq 2) (za0 (pTy N.list_ zag5) za1))))) (zq9 (ptC (oNeK (K:=K) rfl (by exact hu)) (pB (zn1 (K:=K) rfl) N.len_ zi2 (za0 (pq 2) za1)) (pq 0))))) (za7 (zb1 zaa1)) zc1)
   (za7 (zb1 (pB (zba9 (K:=K) rfl rfl) N.all_ zam9 (za0 (zv6 (N:=["row","many_numbers"]) (ks:=[none,some 1]) (zq5 (K:=K) rfl (pq 2)) (fun _ _ _ _ _=>(ze2 (i:=0) nb_1 rfl (by eq_refl))) (fun _ _ _ _ _=>zo6) (fun _ _ _ _ _=>(pD zbu0 hr zd6 (za0 (pq 1) (za0 (pq 0) za1)))) (.skip (.take rfl rfl (by eq_refl) .nil))) za1))))),?_⟩
  refine zbo5 ?_
  refine zc6 (br_F ?_)
  refine br_T ?_
  ac_nf
  exact q
 have gl:=R.len
 refine⟨_,(za3 (psIf (ptW (pwOr (zl2 (ptV (pB (zba1 (K:=K) rfl) N.isinstance_ za8 (za0 (pq 2) (za0 (pTy N.list_ zag5) za1))))) (zq9 (ptC (oNeK (K:=K) rfl (by exact hu)) (pB (zn1 (K:=K) rfl) N.len_ zi2 (za0 (pq 2) za1)) (pq 0))))) (za7 (zb1 zaa1)) zc1)
   (za7 (zb1 (pB (zba9 (K:=K) rfl rfl) N.all_ zam9 (za0 (zv6 (N:=["row","many_numbers"]) (ks:=[none,some 1]) (zq5 (K:=K) rfl (pq 2)) (fun _ _ _ _ _=>(ze2 (i:=0) nb_1 rfl (by eq_refl))) (fun _ _ _ _ _=>zo6) (fun _ _ _ _ _=>(pD zbu0 hr zd6 (za0 (pq 1) (za0 (pq 0) za1)))) (.skip (.take rfl rfl (by eq_refl) .nil))) za1))))),?_⟩
 refine zao0 R.out ?_
 refine zc6 (br_T ?_)
 refine zg7 R.out ?_
 rw[zby7,gl]
 refine zc6 (ze0 (fun en=>?_) (fun en=>?_))
 ·rw[decide_eq_true en,zcc4] at q
  refine zj9 R.out ?_
  refine zam4 (Wk.list (SqL.of R.out)) (by rw[zby7,zci0];omega) (fun i=>.bl ((rows.map fun r=>decide ((r.length:Int)=m)).getD i false)) (fun _=>true) (fun j σ=>∃ t:Option V,σ=[t,some (.int m)]) ⟨none,rfl⟩ ?_ ?_
  ·rintro j v σ H1 R' S hj s1 hx ⟨t,rfl⟩ k _
   obtain⟨p,r1,rfl,ep,er,hp⟩:=(R.same s1).elt hx
   have eb:(rows.map fun r=>decide ((r.length:Int)=m)).getD j false=decide ((r1.length:Int)=m):=by
    rw[zca6,zbz1,er];rfl
   rw[eb] at k
   refine br_T ?_
   refine zx2 hp (by have:=hm r1 (zca5 er);omega) (fun H2 s2=>?_)
   ac_nf
   exact k rfl _ _ s2 ⟨_,rfl⟩
  intro acc H1 f1 s1 h1
  have eb:=zbd7 (rows.map fun r=>decide ((r.length:Int)=m))
  rw[zby7] at eb
  rw[zs1,zby7,gl,← eb] at h1
  refine zas6 h1 ?_
  rw[List.all_map]
  ac_nf
  exact q _ s1
 ·rw[decide_eq_false en,zch6] at q
  ac_nf
  exact q _ (Same.refl _)
@[irreducible] def zi4:Sp:=fun vs H Q _=>∃ (p:Addr) (a c:Int) (f:Fx),vs=[.int a,.int c,.ref p]/\FxAt H p f/\f.Gd/\∀ H',Same H H'->Q (.bl (isF a c f)) H'
theorem zx9{p:Addr}{a c:Int}{f:Fx}(F:FxAt H p f)(O:f.Gd)(q:∀ H',Same H H'->Q (.bl (isF a c f)) H'):zi4 [.int a,.int c,.ref p] H Q E:=by unfold zi4;exact⟨p,a,c,f,rfl,F,O,q⟩
theorem zbp2{a c:Int}{w:Str}{zs:List Int}(h:zs.length≠2):isF a c (.flat w zs)=false:=by
 match zs,h with
 | [],_=>rfl
 | [_],_=>rfl
 | [_,_],h=>exact absurd rfl h
 | _ :: _ :: _ :: _,_=>rfl
theorem zan9{f:Addr}(F:Fun K "is_field" "is_field" zu0 f fd)(N:Nm mg)(zbt5:Def P w K mg base CX0 3 "is_between" ["thing","least","most"] zf0)(zbu1:Def P w K mg base CX0 2 "is_from" ["thing","least"] zi7)(zbw2:Def P w K mg base CX0 3 "is_table" ["many_rows","many_numbers","rows"] zg1)(zbt7:Def P w K mg base CX0 1 "is_whole" ["thing"] zg0):FnOk P w K mg base CX0 4 f fd ["first","second","field"] zi4:=by
 refine F.ok zaq0 (fun vs H Q E h=>by unfold zi4 at h;obtain⟨_,_,_,_,rfl,_⟩:=h;rfl) fun _ _ _ s H vs Q E hr h=>?_
 unfold zi4 at h
 obtain⟨p,a,c,f,rfl,F,O,q⟩:=h
 have hu:=hu40 hr
 refine⟨_,(za3 (psIf (zl2 (ptV (pB (zba1 (K:=K) rfl) N.isinstance_ za8 (za0 (pq 2) (za0 (pTy N.tuple_ zau5) za1))))) (za7 (zb1 zaa1)) zc1)
   (za3 (psIf (ptW (pwAnd (ptC (oEqK (K:=K) rfl (by exact hu)) (pB (zn1 (K:=K) rfl) N.len_ zi2 (za0 (pq 2) za1)) za2) (zaq8 (ptC (oEqK (K:=K) rfl (by exact hu)) (zb9 (K:=K) rfl (pq 2) za2) zc0)))) (za7 (zb1 (zw0 (pD zbu1 hr zd6 (za0 (zb9 (K:=K) rfl (pq 2) za2) (za0 za2 za1))) (zn7 (pD zbt5 hr zd6 (za0 (zb9 (K:=K) rfl (pq 2) za2) (za0 (zaw0 uNeg (zb9 (K:=K) rfl (pq 2) za2)) (za0 (zb9 (K:=K) rfl (pq 2) za2) za1)))))))) zc1)
   (za3 (psIf (ptW (pwAnd (ptC (oEqK (K:=K) rfl (by exact hu)) (pB (zn1 (K:=K) rfl) N.len_ zi2 (za0 (pq 2) za1)) za2) (zaq8 (ptC (oEqK (K:=K) rfl (by exact hu)) (zb9 (K:=K) rfl (pq 2) za2) zc0)))) (za7 (zb1 (zw0 (pD zbu1 hr zd6 (za0 (zb9 (K:=K) rfl (pq 2) za2) (za0 za2 za1))) (zn7 (pD zbt7 hr zd6 (za0 (zb9 (K:=K) rfl (pq 2) za2) za1)))))) zc1)
   (za3 (psIf (ptW (pwAnd (ptC (oEqK (K:=K) rfl (by exact hu)) (pB (zn1 (K:=K) rfl) N.len_ zi2 (za0 (pq 2) za1)) za2) (zaq8 (ptC (oEqK (K:=K) rfl (by exact hu)) (zb9 (K:=K) rfl (pq 2) za2) zc0)))) (za7 (zb1 (pD zbw2 hr zd6 (za0 (zc8 oAdd (pq 0) za2) (za0 (zc8 oAdd (pq 1) za2) (za0 (zb9 (K:=K) rfl (pq 2) za2) za1)))))) zc1)
   (za7 (zb1 zaa1)))))),?_⟩
 cases f with
 | flat w zs=>
  have F:H p=some (.tup (.str w :: zs.map V.int)):=F
  obtain⟨nt,zl⟩:w≠"table"/\zs.length<=10:=O
  have q:=q _ (Same.refl _)
  refine zag6 F ?_
  refine zc6 (br_T ?_)
  refine zj6 F ?_
  rw[zca2,zby7]
  ac_nf
  by_cases e2:zs.length=2
  ·obtain⟨x,y,rfl⟩:∃ x y,zs=[x,y]:=by
    match zs,e2 with
    | [x,y],_=>exact⟨x,y,rfl⟩
   refine zk9 rfl ?_
   refine zb3 (v:=.str w) F rfl ?_
   refine ze0 (fun em=>?_) (fun em=>?_)
   ·subst em
    have q:Q (.bl (decide (1<=x/\-x<=y/\y<=x))) H:=q
    refine zb3 (v:=.int x) F rfl ?_
    refine zbd4 ?_
    refine ze0 (fun e1=>?_) (fun e1=>?_)
    ·rw[zw7 e1] at q
     refine zb3 (v:=.int y) F rfl ?_
     refine zb3 (v:=.int x) F rfl ?_
     refine zb3 (v:=.int x) F rfl ?_
     refine zbd8 ?_
     ac_nf
     exact q
    ·rw[zw4 e1] at q
     ac_nf
     exact q
   ·have q:Q (.bl (if w="more" then decide (1<=x/\-x<=y/\y<=x) else if w="lead" then decide (1<=x) else false)) H:=q
    rw[if_neg em] at q
    refine zj6 F ?_
    refine zk9 rfl ?_
    refine zb3 (v:=.str w) F rfl ?_
    refine ze0 (fun el=>?_) (fun el=>?_)
    ·rw[if_pos el] at q
     refine zb3 (v:=.int x) F rfl ?_
     refine zbd4 ?_
     refine ze0 (fun e1=>?_) (fun e1=>?_)
     ·rw[decide_eq_true e1] at q
      refine zb3 (v:=.int y) F rfl ?_
      refine zbc7 ?_
      ac_nf
      exact q
     ·rw[decide_eq_false e1] at q
      ac_nf
      exact q
    ·rw[if_neg el] at q
     refine zj6 F ?_
     refine zm3 (by show ¬ ((3:Nat):Int)=2;decide) ?_
     refine br_F ?_
     ac_nf
     exact q
  ·rw[zbp2 e2] at q
   refine zm3 (by rfl') ?_
   refine br_F ?_
   refine zj6 F ?_
   rw[zca2,zby7]
   refine zm3 (by rfl') ?_
   refine br_F ?_
   refine zj6 F ?_
   rw[zca2,zby7]
   refine ze0 (fun e1=>?_) (fun e1=>?_)
   ·obtain⟨z,rfl⟩:∃ z,zs=[z]:=by
     match zs,(show zs.length=1 by rfl') with
     | [z],_=>exact⟨z,rfl⟩
    refine zb3 (v:=.str w) F rfl ?_
    refine zm3 nt ?_
    ac_nf
    exact q _ (Same.refl _)
   ·ac_nf
    refine br_F ?_
    ac_nf
    exact q
 | tab rows=>
  obtain⟨q',ps,F,R⟩:=F
  obtain⟨o1,o2⟩:rows.length<=100/\∀ r∈rows,r.length<=100:=O
  refine zag6 F ?_
  refine zc6 (br_T ?_)
  refine zj6 F ?_
  refine zm3 (by show ¬ ((2:Nat):Int)=3;decide) ?_
  refine br_F ?_
  refine zj6 F ?_
  refine zm3 (by show ¬ ((2:Nat):Int)=3;decide) ?_
  refine br_F ?_
  refine zj6 F ?_
  refine zk9 rfl ?_
  refine zb3 (v:=.str "table") F rfl ?_
  refine zk9 rfl ?_
  refine zb3 (v:=.ref q') F rfl ?_
  refine zan8 (n:=a+1) (m:=c+1) R o1 o2 (fun H1 s1=>?_)
  ac_nf
  exact q _ s1
 | non=>
  have F:H p=some (.tup [.str "table",.non]):=F
  refine zag6 F ?_
  refine zc6 (br_T ?_)
  refine zj6 F ?_
  refine zm3 (by show ¬ ((2:Nat):Int)=3;decide) ?_
  refine br_F ?_
  refine zj6 F ?_
  refine zm3 (by show ¬ ((2:Nat):Int)=3;decide) ?_
  refine br_F ?_
  refine zj6 F ?_
  refine zk9 rfl ?_
  refine zb3 (v:=.str "table") F rfl ?_
  refine zk9 rfl ?_
  refine zb3 (v:=.non) F rfl ?_
  refine zz7 ?_
  ac_nf
  exact q _ (Same.refl _)
@[irreducible] def zi8:Sp:=fun vs H Q _=>∃ (b l:Addr) (ys:List V) (a c:Int),vs=[.ref b]/\H b=some (.tup [.int a,.int c,.ref l])/\H l=some (.lst ys)/\Q (.bl (decide (Sz a c ys.length))) H
theorem zn0{b l:Addr}{ys:List V}{a c:Int}(h1:H b=some (.tup [.int a,.int c,.ref l]))(h2:H l=some (.lst ys))(q:Q (.bl (decide (Sz a c ys.length))) H):zi8 [.ref b] H Q E:=by unfold zi8;exact⟨b,l,ys,a,c,rfl,h1,h2,q⟩
theorem zao1{f:Addr}(F:Fun K "has_size" "has_size" zu8 f fd)(N:Nm mg){zbu4:Tok}(c_MOST_FIELDS:mg "MOST_FIELDS"=some (.int 5 zbu4))(zbv8:Def P w K mg base CX0 4 "are_hosts" ["first","second"] zh5):FnOk P w K mg base CX0 5 f fd ["battle"] zi8:=by
 refine F.ok zao5 (fun vs H Q E h=>by unfold zi8 at h;obtain⟨_,_,_,_,_,rfl,_⟩:=h;rfl) fun _ _ _ s H vs Q E hr h=>?_
 unfold zi8 at h
 obtain⟨b,l,ys,a,c,rfl,h1,h2,q⟩:=h
 refine⟨_,(za7 (zb1 (zw0 (pD zbv8 hr zd6 (za0 (zb9 (K:=K) rfl (pq 0) za2) (za0 (zb9 (K:=K) rfl (pq 0) za2) za1))) (zn7 (zbn9 oLe oLe za2 (pB (zn1 (K:=K) rfl) N.len_ zi2 (za0 (zb9 (K:=K) rfl (pq 0) za2) za1)) (zf2 (v:=.int 5) rfl c_MOST_FIELDS ⟨_,rfl⟩)))))),?_⟩
 refine zb3 (v:=.int a) h1 rfl ?_
 refine zb3 (v:=.int c) h1 rfl ?_
 refine zah3 ?_
 refine ze0 (fun e1=>?_) (fun e1=>?_)
 ·ac_nf
  refine zb3 (v:=.ref l) h1 rfl ?_
  refine zg7 h2 ?_
  ac_nf
  rw[zw7 e1] at q
  refine ze0 (fun e2=>?_) (fun e2=>?_)
  ·ac_nf
   rw[show decide (1<=ys.length/\ys.length<=5)=decide ((ys.length:Int)<=5) by rw[zcg1,decide_eq_true_iff,decide_eq_true_iff];omega] at q
   exact q
  ·ac_nf
   rw[decide_eq_false (by rfl')] at q
   exact q
 ·rw[zw4 e1] at q
  ac_nf
  exact q
@[irreducible] def zc3(zbr6:Addr):Sp:=fun vs H Q E=>∃ b:Addr,vs=[.ref b] /\
 ((∃ (l:Addr) (ps:List Addr) (a c:Int) (fs:List Fx),BxAt H b l ps a c fs/\Sz a c fs.length/\(∀ f∈fs,isF a c f=true)/\∀ H',Same H H'->Q .non H') ∨
  (∃ k:Int,BadB H b k/\∀ d H',H d=none->Same H H'->H' d=some (.xd [("field",.int k)])->E (.ref zbr6) (some d) H') ∨
  ∃ (l:Addr) (ys:List V) (a c:Int),H b=some (.tup [.int a,.int c,.ref l])/\H l=some (.lst ys)/\¬ Sz a c ys.length/\∀ d H',H d=none->Same H H'->H' d=some (.xd [("field",.int (-1))])->E (.ref zbr6) (some d) H')
theorem zal3{zbr6:Addr}{b l:Addr}{a c:Int}{fs:List Fx}(B:BxAt H b l ps a c fs)(S:Sz a c fs.length)(O:∀ f∈fs,isF a c f=true)(q:∀ H',Same H H'->Q .non H'):zc3 zbr6 [.ref b] H Q E:=by unfold zc3;exact⟨b,rfl,.inl ⟨l,ps,a,c,fs,B,S,O,q⟩⟩
theorem zaq5{zbr6:Addr}{b:Addr}{k:Int}(B:BadB H b k)(q:∀ d H',H d=none->Same H H'->H' d=some (.xd [("field",.int k)])->E (.ref zbr6) (some d) H'):zc3 zbr6 [.ref b] H Q E:=by unfold zc3;exact⟨b,rfl,.inr (.inl ⟨k,B,q⟩)⟩
theorem zai4{zbr6:Addr}{b l:Addr}{ys:List V}{a c:Int}(h1:H b=some (.tup [.int a,.int c,.ref l]))(h2:H l=some (.lst ys))(nz:¬ Sz a c ys.length)(q:∀ d H',H d=none->Same H H'->H' d=some (.xd [("field",.int (-1))])->E (.ref zbr6) (some d) H'):zc3 zbr6 [.ref b] H Q E:=by unfold zc3;exact⟨b,rfl,.inr (.inr ⟨l,ys,a,c,h1,h2,nz,q⟩)⟩
theorem zaa6{f:Addr}(F:Fun K "look_battle" "look_battle" zm7 f fd)(N:Nm mg)(zbw3:Def P w K mg base CX0 5 "has_size" ["battle"] zi8)(zbw4:Def P w K mg base CX0 4 "is_field" ["first","second","field"] zi4)(Z:Cz K mg base zbr8 zbr6 zbs5 zbt2 zbr9 zbs6 zbs2 zbs0 zbs1 zbs7 zbr7 zbt3 zbs8 zbs3 zbs4 zbt4):FnOk P w K mg base (CXR P w) 6 f fd ["battle"] (zc3 zbr6):=by
 refine F.okR zl8 (fun vs H Q E h=>by unfold zc3 at h;obtain⟨_,rfl,_⟩:=h;rfl) (fun cdv A outer s H vs Q E hr hX h=>?_)
 unfold zc3 at h
 obtain⟨b,rfl,h⟩:=h
 refine⟨_,(za3 (psIf (zl2 (ptV (pD zbw3 hr zd6 (za0 (pq 0) za1)))) (za7 (zl1 Z.z_NoBattle Z.g_NoBattle (zv3 Z.fi_NoBattle Z.z_NoBattle) (hr.mono (by decide)) rfl hX (zaw0 uNeg za2))) zc1)
   (za7 (zax8 PassesOwn.leaving rfl (zap9 (K:=K) rfl N.enumerate_ (za0 (zb9 (K:=K) rfl (pq 0) za2) za1)) (zar4 (K:=K) (n:=2) rfl rfl (zo4 (ze2 (i:=1) zl8.nd rfl (by eq_refl)) (zo4 (ze2 (i:=2) zl8.nd rfl (by eq_refl)) zav6))) (za7 (psIf (zl2 (ptV (pD zbw4 hr zd6 (za0 (zb9 (K:=K) rfl (pq 0) za2) (za0 (zb9 (K:=K) rfl (pq 0) za2) (za0 (pq 2) za1)))))) (za7 (zl1 Z.z_NoBattle Z.g_NoBattle (zv3 Z.fi_NoBattle Z.z_NoBattle) (hr.mono (by decide)) rfl hX (pq 1))) zc1))))),?_⟩
 rcases h with ⟨l,ps,a,c,fs,B,S,O,q⟩|⟨k,⟨l,ps,a,c,fs,B,hl,hk⟩,q⟩|⟨l,ys,a,c,h1,h2,nz,q⟩
 ·have X:=B
  have bl:=B.len
  refine zn0 B.out B.lst ?_
  rw[decide_eq_true (by rw[zby7,bl];exact S)]
  refine zc6 (br_T ?_)
  refine zb3 (v:=.ref l) B.out rfl ?_
  refine zah1 B.lst ?_
  refine zs9 (xs:=ps.map V.ref) (fun i σ H1=>∃ x y:Option V,σ=[some (.ref b),x,y]/\Same H H1) ?_ ?_ ?_ ?_
  ·exact⟨_,_,rfl,Same.refl _⟩
  ·rintro i σ H1 _ ⟨_,_,_,s1⟩
   exact SqL.of (s1 _ _ B.lst)
  ·rintro i v σ H1 p H2 hi ⟨x,y,rfl,s1⟩ f2 s2 h2
   have s12:=s1.trans s2
   obtain⟨p',f,rfl,e1,e2,hf,ok⟩:=(X.same s12).elt hi
   refine zx0 h2 ?_
   refine zb3 (v:=.int a) (s12 _ _ B.out) rfl ?_
   refine zb3 (v:=.int c) (s12 _ _ B.out) rfl ?_
   refine zx9 hf ok (fun H3 s3=>?_)
   rw[O f (zca5 e2)]
   refine zc6 (br_T ?_)
   ac_nf
   exact⟨_,_,rfl,s12.trans s3⟩
  ·rintro σ H1 ⟨x,y,rfl,s1⟩
   ac_nf
   exact q _ s1
 ·have bl:=B.len
  rcases hk with ⟨nz,rfl⟩|⟨sz,j,f,rfl,ej,bad,good⟩
  ·ac_nf
   refine zn0 B.out B.lst ?_
   rw[decide_eq_false (by rw[zby7,bl];exact nz)]
   refine zc6 (br_F ?_)
   ac_nf
   exact ze8 q
  ·have hj:j<ps.length:=by have:=(zby9.mp ej).1;omega
   refine zn0 B.out B.lst ?_
   rw[decide_eq_true (by rw[zby7,bl];exact sz)]
   refine zc6 (br_T ?_)
   refine zb3 (v:=.ref l) B.out rfl ?_
   refine zah1 B.lst ?_
   refine zs9 (xs:=ps.map V.ref) (fun i σ H1=>∃ x y:Option V,σ=[some (.ref b),x,y]/\Same H H1/\i<=j) ?_ ?_ ?_ ?_
   ·exact⟨_,_,rfl,Same.refl _,zcg0 _⟩
   ·rintro i σ H1 _ ⟨_,_,_,s1,_⟩
    exact SqL.of (s1 _ _ B.lst)
   ·rintro i v σ H1 p H2 hi ⟨x,y,rfl,s1,ij⟩ f2 s2 h2
    have s12:=s1.trans s2
    obtain⟨p',f',rfl,e1,e2,hf,ok⟩:=(B.same s12).elt hi
    refine zx0 h2 ?_
    refine zb3 (v:=.int a) (s12 _ _ B.out) rfl ?_
    refine zb3 (v:=.int c) (s12 _ _ B.out) rfl ?_
    refine zx9 hf ok (fun H3 s3=>?_)
    by_cases e:i=j
    ·subst e
     have:f'=f:=Option.some.inj (e2.symm.trans ej)
     subst this
     rw[bad]
     refine zc6 (br_F ?_)
     ac_nf
     exact ze8 (fun d H4 f4 s4 h4=>q d H4 ((s12.trans s3).free f4) ((s12.trans s3).trans s4) h4)
    ·rw[good i f' (by rfl') e2]
     refine zc6 (br_T ?_)
     ac_nf
     exact⟨_,_,rfl,s12.trans s3,by rfl'⟩
   ·rintro σ H1 ⟨x,y,rfl,s1,ij⟩
    rw[zby7] at ij
    omega
 ·ac_nf
  refine zn0 h1 h2 ?_
  rw[decide_eq_false nz]
  refine zc6 (br_F ?_)
  ac_nf
  exact ze8 q
def rm(p:Addr)(H:Hp):Hp:=fun b=>if b=p then none else H b
theorem zak3{p b:Addr}{o:HO}(n:b≠p)(h:H b=some o):rm p H b=some o:=by unfold rm;rw[if_neg n];exact h
theorem zad9{p b:Addr}{o:HO}(h:rm p H b=some o):b≠p/\H b=some o:=by
 unfold rm at h
 by_cases e:b=p
 ·rw[if_pos e] at h;cases h
 ·rw[if_neg e] at h;exact⟨e,h⟩
theorem zbq9(p:Addr)(H:Hp):Same (rm p H) H:=fun b o h=>(zad9 h).2
theorem Same.rm{p:Addr}{H H':Hp}(s:Same H H'):Same (rm p H) (G.rm p H'):=fun b o h=>zak3 (zad9 h).1 (s _ _ (zad9 h).2)
theorem Chg.rm{p:Addr}{H H':Hp}(s:Chg p H H'):Same (rm p H) (G.rm p H'):=fun b o h=>zak3 (zad9 h).1 (s _ _ (zad9 h).1 (zad9 h).2)
abbrev Rw:=Str×List Int
def RwT(H:Hp)(p:Addr)(r:Rw):Prop:=H p=some (.tup (.str r.1 :: r.2.map V.int))
structure zq2(H:Hp)(l:Addr)(ps:List Addr)(rs:List Rw):Prop where
 out:H l=some (.lst (ps.map V.ref))
 len:ps.length=rs.length
 row:∀ (i:Nat) p r,ps[i]?=some p->rs[i]?=some r->RwT H p r
theorem zq2.same{l:Addr}{rs:List Rw}(R:zq2 H l ps rs)(s:Same H H'):zq2 H' l ps rs:=⟨s _ _ R.out,R.len,fun i p r e1 e2=>s _ _ (R.row i p r e1 e2)⟩
abbrev F3:=Int×Int×Int
structure RwX(H:Hp)(p:Addr)(bs:List Addr)(xs:List F3):Prop where
 out:H p=some (.lst (bs.map V.ref))
 len:bs.length=xs.length
 row:∀ (i:Nat) b x,bs[i]?=some b->xs[i]?=some x->H b=some (.tup [.int x.1,.int x.2.1,.int x.2.2])
structure StX(H:Hp)(p:Addr)(rs:List (Addr×List Addr))(xss:List (List F3)):Prop where
 out:H p=some (.lst (rs.map fun r=>V.ref r.1))
 len:rs.length=xss.length
 row:∀ (i:Nat) r xs,rs[i]?=some r->xss[i]?=some xs->RwX H r.1 r.2 xs
structure TbX(H:Hp)(p:Addr)(qs:List Addr)(nss:List (List Int)):Prop where
 out:H p=some (.lst (qs.map V.ref))
 len:qs.length=nss.length
 row:∀ (i:Nat) q ns,qs[i]?=some q->nss[i]?=some ns->H q=some (.lst (ns.map V.int))
structure PpX(H:Hp)(p st tb:Addr)(rs:List (Addr×List Addr))(xss:List (List F3))(qs:List Addr)(nss:List (List Int)):Prop where
 out:H p=some (.tup [.ref st,.ref tb])
 stm:StX H st rs xss
 tab:TbX H tb qs nss
theorem RwX.same{p:Addr}{bs:List Addr}{xs:List F3}(R:RwX H p bs xs)(s:Same H H'):RwX H' p bs xs:=⟨s _ _ R.out,R.len,fun i b x e1 e2=>s _ _ (R.row i b x e1 e2)⟩
theorem StX.same{H H':Hp}{p:Addr}{rs:List (Addr×List Addr)}{xss:List (List F3)}(R:StX H p rs xss)(s:Same H H'):StX H' p rs xss:=⟨s _ _ R.out,R.len,fun i r xs e1 e2=>(R.row i r xs e1 e2).same s⟩
theorem TbX.same{p:Addr}{nss:List (List Int)}(R:TbX H p qs nss)(s:Same H H'):TbX H' p qs nss:=⟨s _ _ R.out,R.len,fun i r xs e1 e2=>s _ _ (R.row i r xs e1 e2)⟩
theorem PpX.same{H H':Hp}{p st tb:Addr}{rs:List (Addr×List Addr)}{xss:List (List F3)}{qs:List Addr}{nss:List (List Int)}(R:PpX H p st tb rs xss qs nss)(s:Same H H'):PpX H' p st tb rs xss qs nss:=⟨s _ _ R.out,R.stm.same s,R.tab.same s⟩
def flR(k:Nat)(z:F3):Rw:=("flow",[(k:Int),z.1,z.2.1,z.2.2])
def nuR(k c:Nat)(n:Int):Rw:=("number",[(k:Int),(c:Int),n])
def zc9:Nat->List (List F3)->List Rw
 | _,[]=>[]
 | k,xs :: r=>xs.map (flR k)++zc9 (k+1) r
def numR(k:Nat):Nat->List Int->List Rw
 | _,[]=>[]
 | c,n :: r=>nuR k c n :: numR k (c+1) r
def zj3:Nat->List (List Int)->List Rw
 | _,[]=>[]
 | k,ns :: r=>numR k 0 ns++zj3 (k+1) r
theorem zk5(xs:List F3):∀ (k:Nat) (ys:List (List F3)),zc9 k (ys++[xs])=zc9 k ys++xs.map (flR (k+ys.length))
 | k,[]=>by simp[zc9]
 | k,y :: ys=>by
  show y.map (flR k)++zc9 (k+1) (ys++[xs])=y.map (flR k)++zc9 (k+1) ys++_
  rw[zk5 xs (k+1) ys,zcb4,zca2,show k+1+ys.length=k+(ys.length+1) by rfl']
theorem zm2(xs:List Int):∀ (k:Nat) (ys:List (List Int)),zj3 k (ys++[xs])=zj3 k ys++numR (k+ys.length) 0 xs
 | k,[]=>by simp[zj3]
 | k,y :: ys=>by
  show numR k 0 y++zj3 (k+1) (ys++[xs])=numR k 0 y++zj3 (k+1) ys++_
  rw[zm2 xs (k+1) ys,zcb4,zca2,show k+1+ys.length=k+(ys.length+1) by rfl']
theorem zav9(k:Nat):∀ (c:Nat) (ns:List Int),(numR k c ns).length=ns.length
 | _,[]=>rfl
 | c,n :: r=>by
  show (numR k (c+1) r).length+1=_
  rw[zav9 k (c+1) r];rfl
theorem zm5{P:Rw->Prop}{m:Nat}:∀ {xss:List (List F3)}{k:Nat},k+xss.length<=m->(∀ xs∈xss,∀ z∈xs,∀ j,j<=m->P (flR j z))->∀ r∈zc9 k xss,P r
 | [],k,_,_,r,hr=>by cases hr
 | xs :: xss,k,hk,h,r,hr=>by
  rw[zca2] at hk
  rcases zcc1.mp (show r∈xs.map (flR k)++zc9 (k+1) xss from hr) with hr|hr
  ·obtain⟨z,hz,rfl⟩:=zcf4.mp hr
   exact h xs (.head _) z hz k (by rfl')
  ·exact zm5 (by rfl') (fun ys hy=>h ys (.tail _ hy)) r hr
theorem zau8{P:Rw->Prop}{k m:Nat}:∀ {ns:List Int}{c:Nat},c+ns.length<=m->(∀ n∈ns,∀ j,j<=m->P (nuR k j n))->∀ r∈numR k c ns,P r
 | [],c,_,_,r,hr=>by cases hr
 | n :: ns,c,hc,h,r,hr=>by
  rw[zca2] at hc
  rcases zbz4.mp (show r∈nuR k c n :: numR k (c+1) ns from hr) with rfl|hr
  ·exact h n (.head _) c (by rfl')
  ·exact zau8 (by rfl') (fun x hx=>h x (.tail _ hx)) r hr
theorem zp4{P:Rw->Prop}{m l:Nat}:∀ {nss:List (List Int)}{k:Nat},k+nss.length<=m->(∀ ns∈nss,ns.length<=l)->(∀ ns∈nss,∀ n∈ns,∀ j,j<=m->∀ c,c<=l->P (nuR j c n))->∀ r∈zj3 k nss,P r
 | [],k,_,_,_,r,hr=>by cases hr
 | ns :: nss,k,hk,hl,h,r,hr=>by
  rw[zca2] at hk
  rcases zcc1.mp (show r∈numR k 0 ns++zj3 (k+1) nss from hr) with hr|hr
  ·exact zau8 (m:=l) (by have:=hl ns (.head _);omega) (fun n hn j hj=>h ns (.head _) n hn k (by rfl') j hj) r hr
  ·exact zp4 (by rfl') (fun ys hy=>hl ys (.tail _ hy)) (fun ys hy=>h ys (.tail _ hy)) r hr
theorem zq2.ext{l:Addr}{rs us:List Rw}(h:H l=some (.lst (ps.map V.ref++qs.map V.ref)))(l1:ps.length=rs.length)(l2:qs.length=us.length)(r1:∀ (i:Nat) p r,ps[i]?=some p->rs[i]?=some r->RwT H p r)(r2:∀ (i:Nat) p r,qs[i]?=some p->us[i]?=some r->RwT H p r):zq2 H l (ps++qs) (rs++us):=by
 refine⟨by rw[h,zcd2],by rw[zbz2,zbz2,l1,l2],fun i p r e1 e2=>?_⟩
 by_cases hi:i<ps.length
 ·rw[zcb0 hi] at e1
  rw[zcb0 (by rfl')] at e2
  exact r1 i p r e1 e2
 ·rw[zca4 (by rfl')] at e1
  rw[zca4 (by rfl'),← l1] at e2
  exact r2 _ p r e1 e2
def WT:List (Str×Int):=[("hosts",2),("more",2),("lead",2),("flow",4),("number",3)]
def hasW(w:Str)(m:Int):Bool:=if w="table" then decide (1<=m) else decide (zt0 WT w=.int m)
theorem zas4:∀ (kvs:List (Str×Int)) (x:Str),(∃ n,zt0 kvs x=.int n)∨zt0 kvs x=.non
 | [],_=>.inr rfl
 | (k,n) :: kvs,x=>by
  have e:zt0 ((k,n) :: kvs) x=if k=x then .int n else zt0 kvs x:=by
   unfold zt0 valV keyV
   rw[zcf8,zcg3]
   by_cases h:k=x
   ·rw[if_pos h,h];simp
   ·rw[if_neg h]
    simp[h]
  rw[e]
  split
  ·exact .inl ⟨n,rfl⟩
  ·exact zas4 kvs x
@[irreducible] def zg2:Sp:=fun vs H Q _=>∃ (w:Str) (m:Int),vs=[.str w,.int m]/\Q (.bl (hasW w m)) H
theorem zag9{w:Str}{m:Int}(q:Q (.bl (hasW w m)) H):zg2 [.str w,.int m] H Q E:=by unfold zg2;exact⟨w,m,rfl,q⟩
theorem zag8{f:Addr}(F:Fun K "has_wanted" "has_wanted" zo3 f fd)(N:Nm mg)(T_WANTED:TabS w K mg "WANTED" [("hosts",2),("more",2),("lead",2),("flow",4),("number",3)]):FnOk P w K mg base CX0 1 f fd ["word","many"] zg2:=by
 refine F.ok zad8 (fun vs H Q E h=>by unfold zg2 at h;obtain⟨_,_,rfl,_⟩:=h;rfl) fun _ _ _ s H vs Q E hr h=>?_
 unfold zg2 at h
 obtain⟨w,m,rfl,q⟩:=h
 have hu:=hu40 hr
 refine⟨_,(za7 (zb1 (peIf (ptC (zo1 (K:=K) rfl (by exact hu)) (pq 0) zc0) (peC oGe (pq 1) za2) (peC (zo1 (K:=K) rfl (by exact hu)) (peGetC T_WANTED (pq 0)) (pq 1))))),?_⟩
 refine ze0 (fun h1=>?_) (fun h1=>?_)
 ·unfold hasW at q
  rw[if_pos h1] at q
  ac_nf
  exact q
 ·unfold hasW at q
  rw[if_neg h1] at q
  show zap7 K (zt0 WT w) (.int m) H Q
  rcases zas4 WT w with ⟨n,e⟩|e
  ·rw[e] at q ⊢
   show Q (.bl (decide (n=m))) H
   rw[show decide (n=m)=decide (V.int n=V.int m) by rw[decide_eq_decide];exact⟨fun h=>by rw[h],fun h=>by cases h;rfl⟩]
   exact q
  ·rw[e] at q ⊢
   exact eqS_rd (d:=.none) (e:=.int m) .non (.int m) rfl rfl (by decide) q
def figL:List Nat->List Nat
 | 45 :: r=>r
 | cs=>cs
def numB(cs:List Nat):Bool:=(decide (1<=(figL cs).length)&&decide ((figL cs).length<=2000))&&(figL cs).all (fun c=>decide (48<=c/\c<=57))&&(decide ((figL cs).head?≠some 48) || decide (cs=[48]))
theorem zao3(x:Str):Txt.startswith x "-"=decide (x.cps.toList.head?=some 45):=by
 have h:=StrLaws.subAt_one x 45 0
 rw[zcg1,decide_eq_true_eq,List.head?_eq_getElem?,← h]
 unfold Txt.startswith
 rw[zcb3,decide_eq_true_eq]
 exact Iff.rfl
theorem zu5{cs:List Nat}(h:cs.head?=some 45):figL cs=cs.drop 1:=by
 cases cs with
 | nil=>cases h
 | cons c r=>cases h;rfl
theorem zp8{cs:List Nat}(h:¬ cs.head?=some 45):figL cs=cs:=by
 cases cs with
 | nil=>rfl
 | cons c r=>
  unfold figL
  split
  ·rename_i z;cases z;exact absurd rfl h
  ·rfl
theorem zbm0{x:Str}(h:x.cps.toList.head?=some 45):(Txt.slice x (some 1) none).cps.toList=x.cps.toList.drop 1:=by
 have l:1<=x.length:=by
  show 1<=x.cps.size
  rw[← zca0]
  cases e:x.cps.toList with
  | nil=>rw[e] at h;cases h
  | cons c r=>rw[zca2];omega
 rw[PyProof.Rows.slice_from_eq (b:=x.length) (by decide) (by rfl') rfl]
 show List.take ((x.length:Int) - 1).toNat (List.drop (1:Int).toNat x.cps.toList)=_
 rw[zcd3]
 ·rfl
 ·rw[zcf5,zca0]
  show x.length - 1<=((x.length:Int) - 1).toNat
  omega
theorem zbr4(c:Nat):hasS "0123456789" ⟨#[c]⟩=decide (48<=c/\c<=57):=by
 unfold hasS
 rw[StrLaws.found_one,decide_eq_decide,show ("0123456789":Str).cps.toList=[48,49,50,51,52,53,54,55,56,57] by decide +kernel]
 simp only[zbz4,zbz7,or_false]
 omega
@[irreducible] def zh3:Sp:=fun vs H Q _=>∃ (x:Str),vs=[.str x]/\x.length<=1000000/\∀ H',Same H H'->Q (.bl (numB x.cps.toList)) H'
theorem zal8{x:Str}(h:x.length<=1000000)(q:∀ H',Same H H'->Q (.bl (numB x.cps.toList)) H'):zh3 [.str x] H Q E:=by unfold zh3;exact⟨x,rfl,h,q⟩
theorem zam7{f:Addr}(F:Fun K "is_number" "is_number" zr1 f fd)(N:Nm mg){zbw5:Tok}(c_FIGURES:mg "FIGURES"=some (.str "0123456789" zbw5)){zbu2:Tok}(c_MOST_FIGURES:mg "MOST_FIGURES"=some (.int 2000 zbu2)):FnOk P w K mg base CX0 1 f fd ["word"] zh3:=by
 refine F.ok zv4 (fun vs H Q E h=>by unfold zh3 at h;obtain⟨_,rfl,_⟩:=h;rfl) fun _ _ _ s H vs Q E hr h=>?_
 unfold zh3 at h
 obtain⟨x,rfl,hx,q⟩:=h
 have hu:=hu40 hr
 refine⟨_,(za3 (zbd6 (psS (i:=1) zv4.nd (peIf (ptV (zaa7 (K:=K) rfl (pq 0) (za0 zc0 za1))) (zh6 (slZK (K:=K) rfl) (pq 0) (zn8 za2) zl4) (pq 0))))
   (za3 (zbd6 (psIf (ptW (pwOr (zl2 (zbo8 oLe oLe za2 (pB (zn1 (K:=K) rfl) N.len_ zi2 (za0 (pq 1) za1)) (zf2 (v:=.int 2000) rfl c_MOST_FIGURES ⟨_,rfl⟩))) (zq9 (zl2 (ptV (pB (zba9 (K:=K) rfl rfl) N.all_ zam9 (za0 (zv6 (N:=["sign"]) (ks:=[none]) (piStr (pq 1)) (fun _ _ _ _ _=>(ze2 (i:=0) nb_2 rfl (by eq_refl))) (fun _ _ _ _ _=>zo6) (fun _ _ _ _ _=>(peC (zau3 (K:=K) rfl (by exact hu)) (pq 0) (zf2 (v:=.str "0123456789") rfl c_FIGURES ⟨_,rfl⟩))) (.skip .nil)) za1))))))) (za7 (zb1 zaa1)) zc1))
   (za7 (zb1 (peOr (peC (zaa9 (K:=K) rfl (by exact hu)) (zb9 (K:=K) rfl (pq 1) za2) zc0) (zn7 (peC (zo1 (K:=K) rfl (by exact hu)) (pq 0) zc0))))))),?_⟩
 refine zas0 (fun σ J=>∃ y:Str,σ=[some (.str x),some (.str y)]/\J=H/\y.cps.toList=figL x.cps.toList/\y.length<=1000000) ?_ ?_
 ·ac_nf
  rw[zao3]
  refine ze0 (fun h=>?_) (fun h=>?_)
  ·ac_nf
   refine⟨by rw[zci0];omega,?_⟩
   ac_nf
   exact⟨_,rfl,rfl,by rw[zbm0 h,zu5 h],zcc5 (Txt.slice_le _ _ _) hx⟩
  ·ac_nf
   exact⟨x,rfl,rfl,(zp8 h).symm,hx⟩
 rintro σ J ⟨y,rfl,rfl,ey,ly⟩
 have yl:y.length=(figL x.cps.toList).length:=by rw[← ey];exact zca0.symm
 have fin:∀ b,numB x.cps.toList=b->∀ J',Same J J'->Q (.bl b) J':=fun b e J' sJ=>by rw[← e];exact q J' sJ
 ac_nf
 refine cut_id ?_
 ac_nf
 refine⟨by rw[zci0];omega,?_⟩
 have bools:∀ n,n=y.cps.size->((List.range n).map fun j=>V.bl (decide (48<=y.cps.toList.getD j 0/\y.cps.toList.getD j 0<=57)))=(y.cps.toList.map fun c=>decide (48<=c/\c<=57)).map V.bl:=fun n hn=>by
  subst hn
  apply zcg9
  intro i
  rw[zbz1,zbz1,zbz1]
  by_cases hi:i<y.cps.toList.length
  ·rw[List.getElem?_range (by rwa [zca0] at hi),zby8 hi]
   show some (V.bl (decide (48<=y.cps.toList.getD i 0/\y.cps.toList.getD i 0<=57)))=_
   rw[zca6,zby8 hi]
   rfl
  ·rw[zcc7 (by rw[zcg8];rw[zca0] at hi;omega),zcc7 (by rfl')]
   rfl
 refine ze0 (fun h1=>?_) (fun h1=>?_)
 rotate_left
 ·ac_nf
  refine br_T ?_
  refine br_T ?_
  ac_nf
  refine fin false ?_ J (Same.refl _)
  unfold numB
  rw[decide_eq_false (by rfl')]
  rfl
 refine zc6 (ze0 (fun h2=>?_) (fun h2=>?_))
 rotate_left
 ·ac_nf
  refine br_T ?_
  ac_nf
  refine fin false ?_ J (Same.refl _)
  unfold numB
  rw[decide_eq_false (show ¬ (figL x.cps.toList).length<=2000 by rfl'),Bool.and_false]
  rfl
 refine zbi1 ?_
 refine zam4 Wk.str (by rw[zci0];show y.length<_;omega) (fun j=>.bl (decide (48<=y.cps.toList.getD j 0/\y.cps.toList.getD j 0<=57))) (fun _=>true) (fun j σ=>∃ t:Option V,σ=[t]) ⟨none,rfl⟩ ?_ ?_
 ·rintro j v σ J' R' S' hj sJ ⟨c,ec,rfl⟩ ⟨_,rfl⟩ kk _
  rw[show y.cps.toList.getD j 0=c by rw[zca6,zcb7,ec];rfl,← zbr4] at kk
  refine br_T ?_
  ac_nf
  exact kk rfl _ _ (Same.refl _) ⟨_,rfl⟩
 intro acc J1 g1 s1 k1
 rw[zs1,bools _ rfl,ey] at k1
 refine zas6 k1 ?_
 rw[List.all_map]
 have ea:(figL x.cps.toList).all (id∘fun c=>decide (48<=c/\c<=57))=(figL x.cps.toList).all (fun c=>decide (48<=c/\c<=57)):=rfl
 rw[ea]
 have n1:decide (1<=(figL x.cps.toList).length)=true:=decide_eq_true (by rfl')
 have n2:decide ((figL x.cps.toList).length<=2000)=true:=decide_eq_true (by rfl')
 cases al:(figL x.cps.toList).all (fun c=>decide (48<=c/\c<=57))
 ·ac_nf
  first|refine zc6 (br_F ?_)|refine br_T ?_
  ac_nf
  refine fin false ?_ J1 s1
  unfold numB
  rw[al,Bool.and_false]
  rfl
 ac_nf
 first|refine zc6 (br_T ?_)|refine br_F ?_
 obtain⟨c,r,ec⟩:∃ c r,figL x.cps.toList=c :: r:=by
  cases e:figL x.cps.toList with
  | nil=>rw[e] at yl;exact absurd yl (by show ¬ y.length=0;omega)
  | cons c r=>exact⟨c,r,rfl⟩
 ac_nf
 refine⟨c,by rw[zci0];omega,by rw[ey,ec];exact zd0 (j:=0) rfl,?_⟩
 have c0:decide ((⟨#[c]⟩:Str)="0")=decide (c=48):=by
  rw[decide_eq_decide]
  exact⟨fun h=>by have:=congrArg (fun s:Str=>s.cps.toList) h;rw[show ("0":Str).cps.toList=[48] by decide +kernel] at this;simpa using this,fun h=>by rw[h];rfl⟩
 have x0:decide (x="0")=decide (x.cps.toList=[48]):=by
  rw[decide_eq_decide]
  exact⟨fun h=>by rw[h];decide +kernel,fun h=>PyProof.Rows.ext_toList (h.trans (by decide +kernel))⟩
 have fb:numB x.cps.toList=(!decide (c=48) || decide (x.cps.toList=[48])):=by
  unfold numB
  rw[n1,n2,al,ec]
  show (true&&true&&true&&(decide ((some c:Option Nat)≠some 48) || _))=_
  rw[Bool.and_self,Bool.and_self,zcc4]
  congr 1
  by_cases hc:c=48
  ·simp[hc]
  ·simp[hc]
 ac_nf
 rw[c0]
 by_cases hc:c=48
 ·rw[decide_eq_true hc]
  refine zc6 (br_T ?_)
  ac_nf
  rw[x0]
  exact fin _ (by rw[fb,decide_eq_true hc];rfl) J1 s1
 ·rw[decide_eq_false hc]
  refine zc6 (br_F ?_)
  ac_nf
  exact fin true (by rw[fb,decide_eq_false hc];rfl) J1 s1
def valS(x:Str):Int:=(PySem.intText? x).getD 0
theorem zw5{x:Str}(h:numB x.cps.toList=true):PySem.intText? x=some (valS x):=by
 unfold numB at h
 rw[zcb3,zcb3,zcb3,decide_eq_true_eq,decide_eq_true_eq] at h
 obtain⟨⟨⟨l1,l2⟩,al⟩,_⟩:=h
 have dg:∀ c∈figL x.cps.toList,48<=c/\c<=57:=fun c hc=>of_decide_eq_true (zcc9.mp al c hc)
 have xl:x.length=x.cps.toList.length:=zca0.symm
 have ne:figL x.cps.toList≠[]:=fun z=>by rw[z] at l1;exact absurd l1 (by decide)
 have ex:∃ n,PySem.intText? x=some n:=by
  by_cases hm:x.cps.toList.head?=some 45
  ·rw[zu5 hm] at dg l2 ne
   obtain⟨cs,ec⟩:∃ cs,x.cps.toList=45 :: cs:=by
    cases e:x.cps.toList with
    | nil=>rw[e] at hm;cases hm
    | cons c r=>rw[e] at hm;cases hm;exact⟨r,rfl⟩
   rw[ec] at dg l2 ne
   exact⟨_,intText_neg ec dg ne (by rw[xl,ec,zca2];have:cs.length<=2000:=l2;omega)⟩
  ·rw[zp8 hm] at dg l2 ne
   exact⟨_,intText_digits dg ne (by rw[xl];omega)⟩
 obtain⟨n,e⟩:=ex
 unfold valS
 rw[e]
 rfl
def zn9(x:Str):List Str:=Txt.split x " "
def rowP(x:Str):Option Rw:=if (hasW ((zn9 x).headD ⟨#[]⟩) ((zn9 x).tail.length:Int)&&(zn9 x).tail.all (fun w=>numB w.cps.toList))=true then some ((zn9 x).headD ⟨#[]⟩,(zn9 x).tail.map valS) else none
theorem zaw8(x:Str):∃ w ws,zn9 x=w :: ws:=by
 have:=PyProof.Rows.split_pos x " "
 cases e:zn9 x with
 | nil=>unfold zn9 at e;rw[e] at this;exact absurd this (by decide)
 | cons w ws=>exact⟨w,ws,rfl⟩
theorem zaw7{x w:Str}(h:w∈zn9 x):w.length<=x.length:=PyProof.Rows.part_short h
theorem zau2(x:Str):(zn9 x).length<=x.length+2:=PyProof.Rows.split_le x " "
theorem zat2{x:Str}{r:Rw}(h:rowP x=some r):hasW r.1 (r.2.length:Int)=true:=by
 unfold rowP at h
 split at h
 ·rename_i hh
  cases h
  rw[zcb3] at hh
  rw[zby7]
  exact hh.1
 ·cases h
@[irreducible] def zj0:Sp:=fun vs H Q _=>∃ (x:Str),vs=[.str x]/\x.length<=1000000/\(rowP x=none->∀ H',Same H H'->Q .non H')/\∀ r,rowP x=some r->∀ p H',H p=none->Same H H'->RwT H' p r->Q (.ref p) H'
theorem zz4{x:Str}(h:x.length<=1000000)(q1:rowP x=none->∀ H',Same H H'->Q .non H')(q2:∀ r,rowP x=some r->∀ p H',H p=none->Same H H'->RwT H' p r->Q (.ref p) H'):zj0 [.str x] H Q E:=by unfold zj0;exact⟨x,rfl,h,q1,q2⟩
theorem zac0{α:Type}{f:α->V}{xs:List α}{d:α}{n:Nat}(hn:n=xs.length):((List.range n).map fun j=>f (xs.getD j d))=xs.map f:=by
 subst hn
 apply zcg9
 intro i
 rw[zbz1,zbz1]
 by_cases hi:i<xs.length
 ·rw[List.getElem?_range hi,zby8 hi]
  show some (f (xs.getD i d))=_
  rw[zca6,zby8 hi]
  rfl
 ·rw[zcc7 (by simpa using hi),zcc7 (by rfl')]
  rfl
theorem zao2{f:Addr}(F:Fun K "read_row" "read_row" zu1 f fd)(N:Nm mg)(hD:zca9 K cStatics "sys.int_max_str_digits"=some none)(zbv4:Def P w K mg base CX0 1 "has_wanted" ["word","many"] zg2)(zbv9:Def P w K mg base CX0 1 "is_number" ["word"] zh3):FnOk P w K mg base CX0 2 f fd ["piece"] zj0:=by
 refine F.ok zz8 (fun vs H Q E h=>by unfold zj0 at h;obtain⟨_,rfl,_⟩:=h;rfl) fun _ _ _ s H vs Q E hr h=>?_
 unfold zj0 at h
 obtain⟨x,rfl,hx,q1,q2⟩:=h
 have hu:=hu40 hr
 obtain⟨w0,ws,ew⟩:=zaw8 x
 have wl:=zau2 x
 have sh:∀ w∈w0 :: ws,w.length<=1000000:=fun w hw=>zcc5 (zaw7 (by rw[ew];exact hw)) hx
 rw[ew,zca2] at wl
 have rp:rowP x=if (hasW w0 (ws.length:Int)&&ws.all (fun w=>numB w.cps.toList))=true then some (w0,ws.map valS) else none:=by
  unfold rowP
  rw[ew]
  rfl
 rw[rp] at q1 q2
 refine⟨_,(za3 (psS (i:=1) zz8.nd (zy5 (K:=K) rfl (pq 0) (za0 zc0 za1)))
   (za3 (psIf (ptW (pwOr (zl2 (ptV (pD zbv4 hr zd6 (za0 (zb9 (K:=K) rfl (pq 1) za2) (za0 (zc8 oSub (pB (zn1 (K:=K) rfl) N.len_ zi2 (za0 (pq 1) za1)) za2) za1))))) (zq9 (zl2 (ptV (pB (zba9 (K:=K) rfl rfl) N.all_ zam9 (za0 (zv6 (N:=["word"]) (ks:=[none]) (zq5 (K:=K) rfl (zh6 (slZK (K:=K) rfl) (pq 1) (zn8 za2) zl4)) (fun _ _ _ _ _=>(ze2 (i:=0) nb_3 rfl (by eq_refl))) (fun _ _ _ _ _=>zo6) (fun _ _ _ _ _=>(pD zbv9 hr zd6 (za0 (pq 0) za1))) (.skip .nil)) za1))))))) (za7 (zb1 zk6)) zc1)
   (za7 (zb1 (pT (cTupK (K:=K) rfl) N.tuple_ zau5 (za0 (zc8 oAdd (zn4 (za0 (zb9 (K:=K) rfl (pq 1) za2) za1)) (zv6 (N:=["word"]) (ks:=[none]) (zq5 (K:=K) rfl (zh6 (slZK (K:=K) rfl) (pq 1) (zn8 za2) zl4)) (fun _ _ _ _ _=>(ze2 (i:=0) nb_3 rfl (by eq_refl))) (fun _ _ _ _ _=>zo6) (fun _ _ _ _ _=>(pT (cIntL (K:=K) rfl hD) N.int_ zq3 (za0 (pq 0) za1))) (.skip .nil))) za1)))))),?_⟩
 refine zaf3 (by decide +kernel) (by rw[zci0];omega) (fun l H1 g1 s1 k1=>?_)
 rw[show Txt.split x (Str.ofString " ")=w0 :: ws from ew] at k1
 refine zn5 (v:=.str w0) k1 (zd0 (j:=0) rfl) ?_
 refine zg7 k1 ?_
 rw[zby7,zca2]
 refine zag9 ?_
 rw[show ((ws.length+1:Nat):Int) - 1=(ws.length:Int) by rfl']
 cases hw:hasW w0 (ws.length:Int)
 ·rw[hw,zch6,if_neg zbz3] at q1
  refine zc6 (br_F ?_)
  refine br_T ?_
  ac_nf
  exact q1 rfl H1 s1
 rw[hw,zcc4] at q1 q2
 refine zc6 (br_T ?_)
 refine zx6 (SqL.of k1) (fun l2 H2 g2 s2 k2=>?_)
 rw[zw8 (by decide)] at k2
 have k2:H2 l2=some (.lst (ws.map V.str)):=k2
 refine zj9 k2 ?_
 refine zam4 (n:=(ws.map V.str).length) (Wk.list (SqL.of k2)) (by rw[zby7,zci0];omega) (fun j=>.bl ((ws.map fun w=>numB w.cps.toList).getD j false)) (fun _=>true) (fun j σ=>∃ t:Option V,σ=[t]) ⟨none,rfl⟩ ?_ ?_
 ·rintro j v σ J' R' S' hj sJ hx ⟨_,rfl⟩ kk _
  rw[zbz1] at hx
  obtain⟨w,en,rfl⟩:=zbz5.mp hx
  rw[show (ws.map fun w=>numB w.cps.toList).getD j false=numB w.cps.toList by rw[zca6,zbz1,en];rfl] at kk
  refine br_T ?_
  refine zal8 (sh w (zcb6 _ (zca5 en))) (fun J1 t1=>?_)
  ac_nf
  exact kk rfl _ _ t1 ⟨_,rfl⟩
 intro acc H3 g3 s3 k3
 rw[zs1,zac0 (f:=V.bl) (xs:=ws.map fun w=>numB w.cps.toList) (d:=false) (by rw[zby7,zby7])] at k3
 refine zas6 k3 ?_
 rw[List.all_map,show ws.all (id∘fun w=>numB w.cps.toList)=ws.all (fun w=>numB w.cps.toList) from rfl]
 have s13:=s2.trans s3
 cases ha:ws.all (fun w=>numB w.cps.toList)
 ·rw[ha,if_neg zbz3] at q1
  ac_nf
  first|refine zc6 (br_F ?_)|refine br_T ?_
  ac_nf
  exact q1 rfl H3 (s1.trans s13)
 rw[ha,if_pos rfl] at q2
 ac_nf
 first|refine zc6 (br_T ?_)|refine br_F ?_
 refine zn5 (v:=.str w0) (s13 _ _ k1) (zd0 (j:=0) rfl) ?_
 refine zb6 (fun l4 H4 g4 s4 k4=>?_)
 refine zx6 (SqL.of ((s13.trans s4) _ _ k1)) (fun l5 H5 g5 s5 k5=>?_)
 rw[zw8 (by decide)] at k5
 have k5:H5 l5=some (.lst (ws.map V.str)):=k5
 refine zj9 k5 ?_
 refine zam4 (n:=(ws.map V.str).length) (Wk.list (SqL.of k5)) (by rw[zby7,zci0];omega) (fun j=>.int ((ws.map valS).getD j 0)) (fun _=>true) (fun j σ=>∃ t:Option V,σ=[t]) ⟨none,rfl⟩ ?_ ?_
 ·rintro j v σ J' R' S' hj sJ hx ⟨_,rfl⟩ kk _
  rw[zbz1] at hx
  obtain⟨w,en,rfl⟩:=zbz5.mp hx
  have hm:=zca5 en
  rw[show (ws.map valS).getD j 0=valS w by rw[zca6,zbz1,en];rfl] at kk
  refine br_T ?_
  refine zbd0 (zw5 (zcc9.mp ha w hm)) (by have:=sh w (zcb6 _ hm);rw[zci0];omega) ?_
  ac_nf
  exact kk rfl _ _ (Same.refl _) ⟨_,rfl⟩
 intro acc2 H6 g6 s6 k6
 rw[zs1,zac0 (f:=V.int) (xs:=ws.map valS) (d:=0) (by rw[zby7,zby7])] at k6
 refine zy6 ((s5.trans s6) _ _ k4) k6 (by rw[zby7,zby7,zci0,zcb1];omega) (fun l7 H7 g7 s7 k7=>?_)
 refine zbo4 (SqL.of k7) (fun p H8 g8 s8 k8=>?_)
 ac_nf
 have s07:=((((s1.trans s13).trans s4).trans s5).trans s6).trans s7
 exact q2 _ rfl p H8 (s07.free g8) (s07.trans s8) k8
def RgR(r:Rw):Prop:=(r.1="flow"/\r.2.length=4)∨(r.1="number"/\r.2.length=3)
theorem RgR.free{r:Rw}(h:RgR r){c:Nat}(hc:c=32∨c=10):c ∉ r.1.cps.toList:=by
 rcases h with ⟨h1,_⟩|⟨h1,_⟩<;>rw[h1]
 ·rw[show ("flow":Str).cps.toList=[102,108,111,119] by decide +kernel]
  simp only[zbz4,zbz7,or_false]
  omega
 ·rw[show ("number":Str).cps.toList=[110,117,109,98,101,114] by decide +kernel]
  simp only[zbz4,zbz7,or_false]
  omega
def fsB:Option Rw->Rw->Bool
 | none,r=>decide (r.2.getD 0 0=0)
 | some a,r=>decide (a.1="flow")&&(decide (r.2.getD 0 0 - a.2.getD 0 0=0) || decide (r.2.getD 0 0 - a.2.getD 0 0=1))
def nsB:Option Rw->Rw->Bool
 | none,r=>decide (r.2.getD 0 0=0/\r.2.getD 1 0=0)
 | some a,r=>if a.1="flow" then decide (r.2.getD 0 0=0/\r.2.getD 1 0=0) else decide (r.2.getD 0 0=a.2.getD 0 0/\r.2.getD 1 0=a.2.getD 1 0+1) || decide (r.2.getD 0 0=a.2.getD 0 0+1/\r.2.getD 1 0=0)
def spB(a:Option Rw)(r:Rw):Bool:=if r.1="flow" then fsB a r else decide (r.1="number")&&nsB a r
def AhV(H:Hp)(v:V):Option Rw->Prop
 | none=>v=.non
 | some r=>∃ p,v=.ref p/\RwT H p r/\RgR r
theorem AhV.same{v:V}{a:Option Rw}(h:AhV H v a)(s:Same H H'):AhV H' v a:=by
 cases a with
 | none=>exact h
 | some r=>obtain⟨p,e,h1,h2⟩:=h;exact⟨p,e,s _ _ h1,h2⟩
theorem RgR.get{r:Rw}(h:RgR r)(hi:i<3):(V.str r.1 :: r.2.map V.int)[i+1]?=some (.int (r.2.getD i 0)):=by
 have l:i<r.2.length:=by rcases h with ⟨_,h⟩|⟨_,h⟩<;>omega
 rw[zce5,zbz1,zca6,zby8 l]
 rfl
theorem inV_01(d:Int):inV (.int d) [.int 0,.int 1]=(decide (d=0) || decide (d=1)):=by
 show (eqV (.int 0) (.int d) || (eqV (.int 1) (.int d) || false))=_
 rw[Bool.or_false]
 show (decide ((0:Int)=d) || decide ((1:Int)=d))=_
 rw[show decide ((0:Int)=d)=decide (d=0) by rw[decide_eq_decide];exact eq_comm,show decide ((1:Int)=d)=decide (d=1) by rw[decide_eq_decide];exact eq_comm]
@[irreducible] def zf6:Sp:=fun vs H Q _=>∃ (v:V) (p:Addr) (a:Option Rw) (r:Rw),vs=[v,.ref p]/\AhV H v a/\RwT H p r/\RgR r/\∀ H',Same H H'->Q (.bl (fsB a r)) H'
theorem zab2{v:V}{p:Addr}{a:Option Rw}{r:Rw}(h1:AhV H v a)(h2:RwT H p r)(h3:RgR r)(q:∀ H',Same H H'->Q (.bl (fsB a r)) H'):zf6 [v,.ref p] H Q E:=by unfold zf6;exact⟨v,p,a,r,rfl,h1,h2,h3,q⟩
theorem zab3{f:Addr}(F:Fun K "flow_stands" "flow_stands" zm8 f fd)(N:Nm mg):FnOk P w K mg base CX0 1 f fd ["ahead","row"] zf6:=by
 refine F.ok zab0 (fun vs H Q E h=>by unfold zf6 at h;obtain⟨_,_,_,_,rfl,_⟩:=h;rfl) fun _ _ _ s H vs Q E hr h=>?_
 unfold zf6 at h
 obtain⟨v,p,a,r,rfl,h1,h2,h3,q⟩:=h
 have hu:=hu40 hr
 have r0:=zd0 (h3.get (i:=0) (by decide))
 refine⟨_,(za3 (psIf (ptC oIsX (pq 0) zk6) (za7 (zb1 (peC (zo1 (K:=K) rfl (by exact hu)) (zb9 (K:=K) rfl (pq 1) za2) za2))) zc1)
   (za7 (zb1 (zw0 (peC (zo1 (K:=K) rfl (by exact hu)) (zb9 (K:=K) rfl (pq 0) za2) zc0) (zn7 (peC (zau3 (K:=K) rfl (by exact hu)) (zc8 oSub (zb9 (K:=K) rfl (pq 1) za2) (zb9 (K:=K) rfl (pq 0) za2)) (zu2 (za0 za2 (za0 za2 za1))))))))),?_⟩
 cases a with
 | none=>
  cases (show v=.non from h1)
  ac_nf
  first|refine br_T ?_|refine zk9 rfl ?_
  refine zb3 (v:=.int (r.2.getD 0 0)) h2 r0 ?_
  ac_nf
  exact q H (Same.refl _)
 | some b=>
  obtain⟨pa,rfl,g1,g2⟩:=h1
  have a0:=zd0 (g2.get (i:=0) (by decide))
  have q:∀ H',Same H H'->Q (.bl (decide (b.1="flow")&&(decide (r.2.getD 0 0 - b.2.getD 0 0=0) || decide (r.2.getD 0 0 - b.2.getD 0 0=1)))) H':=q
  ac_nf
  first|refine br_F ?_|refine zm3 (fun z=>by cases z) ?_
  refine zb3 (v:=.str b.1) g1 (zd0 (j:=0) rfl) ?_
  ac_nf
  by_cases hb:b.1="flow"
  ·rw[decide_eq_true hb] at q ⊢
   refine br_T ?_
   refine zb3 (v:=.int (r.2.getD 0 0)) h2 r0 ?_
   refine zb3 (v:=.int (b.2.getD 0 0)) g1 a0 ?_
   refine zd3 (fun t H1 f1 s1 k1=>?_)
   refine zbl7 (SqT.of k1) rfl rfl ?_
   rw[inV_01]
   exact q H1 s1
  ·rw[decide_eq_false hb] at q ⊢
   refine br_F ?_
   ac_nf
   exact q H (Same.refl _)
@[irreducible] def zd7:Sp:=fun vs H Q _=>∃ (v:V) (p:Addr) (a:Option Rw) (r:Rw),vs=[v,.ref p]/\AhV H v a/\RwT H p r/\RgR r/\∀ H',Same H H'->Q (.bl (nsB a r)) H'
theorem zv8{v:V}{p:Addr}{a:Option Rw}{r:Rw}(h1:AhV H v a)(h2:RwT H p r)(h3:RgR r)(q:∀ H',Same H H'->Q (.bl (nsB a r)) H'):zd7 [v,.ref p] H Q E:=by unfold zd7;exact⟨v,p,a,r,rfl,h1,h2,h3,q⟩
theorem zv9{f:Addr}(F:Fun K "number_stands" "number_stands" zk4 f fd)(N:Nm mg):FnOk P w K mg base CX0 1 f fd ["ahead","row"] zd7:=by
 refine F.ok zn6 (fun vs H Q E h=>by unfold zd7 at h;obtain⟨_,_,_,_,rfl,_⟩:=h;rfl) fun _ _ _ s H vs Q E hr h=>?_
 unfold zd7 at h
 obtain⟨v,p,a,r,rfl,h1,h2,h3,q⟩:=h
 have hu:=hu40 hr
 have r0:=zd0 (h3.get (i:=0) (by decide))
 have r1:=zd0 (h3.get (i:=1) (by decide))
 refine⟨_,(za3 (psS (i:=2) zn6.nd (zu2 (za0 (zb9 (K:=K) rfl (pq 1) za2) (za0 (zb9 (K:=K) rfl (pq 1) za2) za1))))
   (za3 (psIf (ptW (pwOr (ptC oIsX (pq 0) zk6) (zq9 (ptC (zo1 (K:=K) rfl (by exact hu)) (zb9 (K:=K) rfl (pq 0) za2) zc0)))) (za7 (zb1 (peC (zo1 (K:=K) rfl (by exact hu)) (pq 2) (zu2 (za0 za2 (za0 za2 za1)))))) zc1)
   (za7 (zb1 (peC (zau3 (K:=K) rfl (by exact hu)) (pq 2) (zu2 (za0 (zu2 (za0 (zb9 (K:=K) rfl (pq 0) za2) (za0 (zc8 oAdd (zb9 (K:=K) rfl (pq 0) za2) za2) za1))) (za0 (zu2 (za0 (zc8 oAdd (zb9 (K:=K) rfl (pq 0) za2) za2) (za0 za2 za1))) za1)))))))),?_⟩
 refine zb3 (v:=.int (r.2.getD 0 0)) h2 r0 ?_
 refine zb3 (v:=.int (r.2.getD 1 0)) h2 r1 ?_
 refine zd3 (fun t H1 f1 s1 k1=>?_)
 have z:∀ b,(nsB a r=b)->b=decide (r.2.getD 0 0=0/\r.2.getD 1 0=0)->∀ u H2,Same H1 H2->H2 u=some (.tup [.int 0,.int 0])->zap7 K (.ref t) (.ref u) H2 Q:=fun b e1 e2 u H2 s2 k2=>by
  have:=q H2 (s1.trans s2)
  rw[e1,e2] at this
  exact zbk8 (EqR.ints2 (s2 _ _ k1) k2) this
 cases a with
 | none=>
  cases (show v=.non from h1)
  ac_nf
  first|refine br_T ?_|refine zk9 rfl ?_
  ac_nf
  first|refine br_T ?_|skip
  refine zd3 (fun u H2 f2 s2 k2=>?_)
  ac_nf
  exact z _ rfl rfl u H2 s2 k2
 | some b=>
  obtain⟨pa,rfl,g1,g2⟩:=h1
  have a0:=zd0 (g2.get (i:=0) (by decide))
  have a1:=zd0 (g2.get (i:=1) (by decide))
  have g1':=s1 _ _ g1
  ac_nf
  first|refine br_F ?_|refine zm3 (fun z=>by cases z) ?_
  refine zb3 (v:=.str b.1) g1' (zd0 (j:=0) rfl) ?_
  refine ze0 (fun hb=>?_) (fun hb=>?_)
  ·ac_nf
   refine zd3 (fun u H2 f2 s2 k2=>?_)
   ac_nf
   exact z _ rfl (by show (if b.1="flow" then _ else _)=_;rw[if_pos hb]) u H2 s2 k2
  ·have q:∀ H',Same H H'->Q (.bl (decide (r.2.getD 0 0=b.2.getD 0 0/\r.2.getD 1 0=b.2.getD 1 0+1) || decide (r.2.getD 0 0=b.2.getD 0 0+1/\r.2.getD 1 0=0))) H':=by
    have q:∀ H',Same H H'->Q (.bl (if b.1="flow" then decide (r.2.getD 0 0=0/\r.2.getD 1 0=0) else decide (r.2.getD 0 0=b.2.getD 0 0/\r.2.getD 1 0=b.2.getD 1 0+1) || decide (r.2.getD 0 0=b.2.getD 0 0+1/\r.2.getD 1 0=0))) H':=q
    simp only[if_neg hb] at q
    exact q
   refine zb3 (v:=.int (b.2.getD 0 0)) g1' a0 ?_
   refine zb3 (v:=.int (b.2.getD 1 0)) g1' a1 ?_
   refine zd3 (fun u H2 f2 s2 k2=>?_)
   refine zb3 (v:=.int (b.2.getD 0 0)) (s2 _ _ g1') a0 ?_
   refine zd3 (fun u2 H3 f3 s3 k3=>?_)
   refine zd3 (fun u3 H4 f4 s4 k4=>?_)
   have s24:=s3.trans s4
   ac_nf
   have nuu:u≠u2:=za4 k2 f3
   refine zbq7 (rs:=[u,u2]) (c:=fun x=>if x=u then decide (b.2.getD 0 0=r.2.getD 0 0/\b.2.getD 1 0+1=r.2.getD 1 0) else decide (b.2.getD 0 0+1=r.2.getD 0 0/\0=r.2.getD 1 0)) 1 k4 (by decide) (fun x hx=>?_) ?_
   ·simp only[zbz4,zbz7,or_false] at hx
    rcases hx with rfl|rfl
    ·rw[if_pos rfl]
     exact EqR.ints2 (s24 _ _ k2) ((s2.trans s24) _ _ k1)
    ·rw[if_neg (Ne.symm nuu)]
     exact EqR.ints2 (s4 _ _ k3) ((s2.trans s24) _ _ k1)
   ·have:=q H4 ((s1.trans s2).trans s24)
    show Q (.bl ([u,u2].any fun x=>if x=u then decide (b.2.getD 0 0=r.2.getD 0 0/\b.2.getD 1 0+1=r.2.getD 1 0) else decide (b.2.getD 0 0+1=r.2.getD 0 0/\0=r.2.getD 1 0))) H4
    rw[List.any_cons,List.any_cons,List.any_nil,Bool.or_false,if_pos rfl,if_neg (Ne.symm nuu)]
    rw[show decide (b.2.getD 0 0=r.2.getD 0 0/\b.2.getD 1 0+1=r.2.getD 1 0)=decide (r.2.getD 0 0=b.2.getD 0 0/\r.2.getD 1 0=b.2.getD 1 0+1) by rw[decide_eq_decide];exact⟨fun h=>⟨h.1.symm,h.2.symm⟩,fun h=>⟨h.1.symm,h.2.symm⟩⟩,show decide (b.2.getD 0 0+1=r.2.getD 0 0/\0=r.2.getD 1 0)=decide (r.2.getD 0 0=b.2.getD 0 0+1/\r.2.getD 1 0=0) by rw[decide_eq_decide];exact⟨fun h=>⟨h.1.symm,h.2.symm⟩,fun h=>⟨h.1.symm,h.2.symm⟩⟩]
    exact this
def RgW(r:Rw):Prop:=hasW r.1 (r.2.length:Int)=true
theorem RgW.rg{r:Rw}(h:RgW r)(e:r.1="flow"∨r.1="number"):RgR r:=by
 unfold RgW hasW at h
 rcases e with e|e
 ·rw[e,if_neg (by decide +kernel),decide_eq_true_eq] at h
  have h:(.int 4:V)=.int (r.2.length:Int):=(show zt0 WT "flow"=.int 4 by decide +kernel)▸h
  exact .inl ⟨e,by have:=V.int.inj h;omega⟩
 ·rw[e,if_neg (by decide +kernel),decide_eq_true_eq] at h
  have h:(.int 3:V)=.int (r.2.length:Int):=(show zt0 WT "number"=.int 3 by decide +kernel)▸h
  exact .inr ⟨e,by have:=V.int.inj h;omega⟩
@[irreducible] def zc5:Sp:=fun vs H Q _=>∃ (v:V) (p:Addr) (a:Option Rw) (r:Rw),vs=[v,.ref p]/\AhV H v a/\RwT H p r/\RgW r/\∀ H',Same H H'->Q (.bl (spB a r)) H'
theorem zbb3{v:V}{p:Addr}{a:Option Rw}{r:Rw}(h1:AhV H v a)(h2:RwT H p r)(h3:RgW r)(q:∀ H',Same H H'->Q (.bl (spB a r)) H'):zc5 [v,.ref p] H Q E:=by unfold zc5;exact⟨v,p,a,r,rfl,h1,h2,h3,q⟩
theorem zt2{f:Addr}(F:Fun K "stands_in_paper" "stands_in_paper" zi9 f fd)(N:Nm mg)(zbu8:Def P w K mg base CX0 1 "flow_stands" ["ahead","row"] zf6)(zbu3:Def P w K mg base CX0 1 "number_stands" ["ahead","row"] zd7):FnOk P w K mg base CX0 2 f fd ["ahead","row"] zc5:=by
 refine F.ok zs3 (fun vs H Q E h=>by unfold zc5 at h;obtain⟨_,_,_,_,rfl,_⟩:=h;rfl) fun _ _ _ s H vs Q E hr h=>?_
 unfold zc5 at h
 obtain⟨v,p,a,r,rfl,h1,h2,h3,q⟩:=h
 have hu:=hu40 hr
 refine⟨_,(za3 (psIf (ptC (zo1 (K:=K) rfl (by exact hu)) (zb9 (K:=K) rfl (pq 1) za2) zc0) (za7 (zb1 (pD zbu8 hr zd6 (za0 (pq 0) (za0 (pq 1) za1))))) zc1)
   (za7 (zb1 (zw0 (peC (zo1 (K:=K) rfl (by exact hu)) (zb9 (K:=K) rfl (pq 1) za2) zc0) (zn7 (pD zbu3 hr zd6 (za0 (pq 0) (za0 (pq 1) za1)))))))),?_⟩
 refine zb3 (v:=.str r.1) h2 (zd0 (j:=0) rfl) ?_
 refine ze0 (fun hb=>?_) (fun hb=>?_)
 ·unfold spB at q
  simp only[if_pos hb] at q
  refine zab2 h1 h2 (h3.rg (.inl hb)) (fun H1 s1=>?_)
  ac_nf
  exact q H1 s1
 ·unfold spB at q
  simp only[if_neg hb] at q
  refine zb3 (v:=.str r.1) h2 (zd0 (j:=0) rfl) ?_
  ac_nf
  by_cases hn:r.1="number"
  ·rw[decide_eq_true hn] at q ⊢
   refine br_T ?_
   refine zv8 h1 h2 (h3.rg (.inr hn)) (fun H1 s1=>?_)
   ac_nf
   exact q H1 s1
  ·rw[decide_eq_false hn] at q ⊢
   refine br_F ?_
   ac_nf
   exact q H (Same.refl _)
def goP(st:Option Rw->Rw->Bool):List Str->List Rw->Nat ⊕ List Rw
 | [],acc=>.inr acc
 | x :: xs,acc=>match rowP x with
  | some r=>if st acc.getLast? r=true then goP st xs (acc++[r]) else .inl acc.length
  | none=>.inl acc.length
theorem ze1(st:Option Rw->Rw->Bool)(x:Str)(xs:List Str)(acc:List Rw):goP st (x :: xs) acc=match rowP x with
  | some r=>if st acc.getLast? r=true then goP st xs (acc++[r]) else .inl acc.length
  | none=>.inl acc.length:=rfl
def zp0(x:Str):List Str:=Txt.split x "\n"
def zo2(st:Option Rw->Rw->Bool)(x:Str):Nat ⊕ List Rw:=match goP st (zp0 x).dropLast [] with
 | .inl k=>.inl k
 | .inr rs=>if (zp0 x).getLastD ⟨#[]⟩=⟨#[]⟩ then .inr rs else .inl rs.length
theorem zp9(x:Str):∃ ys y,zp0 x=ys++[y]:=by
 have:=PyProof.Rows.split_pos x "\n"
 have hn:zp0 x≠[]:=fun e=>by unfold zp0 at e;rw[e] at this;exact absurd this (by decide)
 exact⟨(zp0 x).dropLast,(zp0 x).getLast hn,(List.dropLast_concat_getLast hn).symm⟩
theorem zt4{x w:Str}(h:w∈zp0 x):w.length<=x.length:=PyProof.Rows.part_short h
theorem zw3(x:Str):(zp0 x).length<=x.length+2:=PyProof.Rows.split_le x "\n"
theorem zq2.snoc{l p:Addr}{rs:List Rw}{r:Rw}(R:zq2 H l ps rs)(c:Chg l H H')(h:H' l=some (.lst (ps.map V.ref++[.ref p])))(hp:RwT H' p r):zq2 H' l (ps++[p]) (rs++[r]):=by
 refine zq2.ext (qs:=[p]) (us:=[r]) (by rw[h];rfl) R.len rfl (fun i p' r' e1 e2=>?_) (fun i p' r' e1 e2=>?_)
 ·have:=R.row i p' r' e1 e2
  refine c _ _ (fun z=>?_) this
  unfold RwT at this
  rw[z,R.out] at this
  cases this
 ·cases i with
  | zero=>cases e1;cases e2;exact hp
  | succ i=>simp at e1
theorem zae3{st:Option Rw->Rw->Bool}:∀ {xs:List Str}{acc:List Rw}{i:Nat}{x:Str},xs[i]?=some x->∀ {rs:List Rw},goP st (xs.take i) acc=.inr rs->goP st xs acc=goP st (xs.drop i) rs
 | xs,acc,0,x,_,rs,h=>by
  rw[List.take_zero] at h
  cases h
  rfl
 | [],acc,i+1,x,e,rs,h=>by simp at e
 | y :: xs,acc,i+1,x,e,rs,h=>by
  rw[zce5] at e
  rw[List.take_succ_cons] at h
  rw[List.drop_succ_cons]
  rw[ze1] at h
  rw[ze1 st y]
  cases hr:rowP y with
  | none=>rw[hr] at h;cases h
  | some r=>
   rw[hr] at h
   dsimp only at h ⊢
   by_cases hs:st acc.getLast? r=true
   ·rw[if_pos hs] at h ⊢
    exact zae3 e h
   ·rw[if_neg hs] at h
    cases h
theorem zz6{st:Option Rw->Rw->Bool}:∀ {xs:List Str}{acc rs:List Rw},goP st xs acc=.inr rs->rs.length=acc.length+xs.length
 | [],acc,rs,h=>by cases h;rfl
 | y :: xs,acc,rs,h=>by
  rw[ze1] at h
  cases hr:rowP y with
  | none=>rw[hr] at h;cases h
  | some r=>
   rw[hr] at h
   dsimp only at h
   by_cases hs:st acc.getLast? r=true
   ·rw[if_pos hs] at h
    have:=zz6 h
    rw[zbz2,zcb1] at this
    rw[zca2]
    omega
   ·rw[if_neg hs] at h
    cases h
theorem zaf4{st:Option Rw->Rw->Bool}:∀ {xs:List Str}{acc rs:List Rw}{x:Str}{r:Rw},goP st xs acc=.inr rs->rowP x=some r->st rs.getLast? r=true->goP st (xs++[x]) acc=.inr (rs++[r])
 | [],acc,rs,x,r,h,hx,hs=>by
  cases h
  show goP st [x] acc=_
  rw[ze1,hx]
  dsimp only
  rw[if_pos hs]
  rfl
 | y :: xs,acc,rs,x,r,h,hx,hs=>by
  rw[zcf7]
  rw[ze1] at h
  rw[ze1 st y]
  cases hr:rowP y with
  | none=>rw[hr] at h;cases h
  | some r'=>
   rw[hr] at h
   dsimp only at h ⊢
   by_cases hs':st acc.getLast? r'=true
   ·rw[if_pos hs'] at h ⊢
    exact zaf4 h hx hs
   ·rw[if_neg hs'] at h
    cases h
def AhB(H:Hp)(v:V):Option Rw->Prop
 | none=>v=.non
 | some _=>∃ p,v=.ref p
theorem AhB.same{v:V}{a:Option Rw}(h:AhB H v a)(s:Same H H'):AhB H' v a:=by
 cases a with
 | none=>exact h
 | some r=>exact h
def sbB:Option Rw->Rw->Bool
 | none,r=>decide (r.1="hosts")
 | some _,r=>inV (.str r.1) [.str "more",.str "lead",.str "table"]
@[irreducible] def zc2:Sp:=fun vs H Q _=>∃ (v:V) (p:Addr) (a:Option Rw) (r:Rw),vs=[v,.ref p]/\AhB H v a/\RwT H p r/\∀ H',Same H H'->Q (.bl (sbB a r)) H'
theorem zaz0{v:V}{p:Addr}{a:Option Rw}{r:Rw}(h1:AhB H v a)(h2:RwT H p r)(q:∀ H',Same H H'->Q (.bl (sbB a r)) H'):zc2 [v,.ref p] H Q E:=by unfold zc2;exact⟨v,p,a,r,rfl,h1,h2,q⟩
theorem zr6{f:Addr}(F:Fun K "stands_in_battle" "stands_in_battle" zh9 f fd)(N:Nm mg)(T_FIELD_WORDS:TupC K mg "FIELD_WORDS" [.str "more",.str "lead",.str "table"]):FnOk P w K mg base CX0 1 f fd ["ahead","row"] zc2:=by
 refine F.ok zr2 (fun vs H Q E h=>by unfold zc2 at h;obtain⟨_,_,_,_,rfl,_⟩:=h;rfl) fun _ _ _ s H vs Q E hr h=>?_
 unfold zc2 at h
 obtain⟨v,p,a,r,rfl,h1,h2,q⟩:=h
 have hu:=hu40 hr
 refine⟨_,(za7 (zb1 (peIf (ptC oIsX (pq 0) zk6) (peC (zo1 (K:=K) rfl (by exact hu)) (zb9 (K:=K) rfl (pq 1) za2) zc0) (peC (zau3 (K:=K) rfl (by exact hu)) (zb9 (K:=K) rfl (pq 1) za2) (peTupC (K:=K) rfl T_FIELD_WORDS))))),?_⟩
 cases a with
 | none=>
  cases (show v=.non from h1)
  ac_nf
  first|refine br_T ?_|refine zk9 rfl ?_
  refine zb3 (v:=.str r.1) h2 (zd0 (j:=0) rfl) ?_
  ac_nf
  exact q H (Same.refl _)
 | some b=>
  obtain⟨pa,rfl⟩:=h1
  ac_nf
  first|refine br_F ?_|refine zm3 (fun z=>by cases z) ?_
  refine zb3 (v:=.str r.1) h2 (zd0 (j:=0) rfl) ?_
  ac_nf
  intro ta hta
  refine zbl7 (hta _) rfl rfl ?_
  exact q H (Same.refl _)
@[irreducible] def zd8(mg:Str->Option Value)(zbr7:Addr):Sp:=fun vs H Q E=>∃ (v:V) (x:Str) (st:Option Rw->Rw->Bool),vs=[.str x,v]/\((isFn mg "stands_in_battle" v/\st=sbB)∨(isFn mg "stands_in_paper" v/\st=spB))/\x.length<=100000 /\
 (∀ rs,zo2 st x=.inr rs->∀ l ps H',H l=none->Same H H'->zq2 H' l ps rs->Q (.ref l) H') /\
 (∀ k,zo2 st x=.inl k->∀ d H',H d=none->Same H H'->H' d=some (.xd [("row",.int k)])->E (.ref zbr7) (some d) H')
theorem zai9{mg:Str->Option Value}{v:V}{x:Str}(h:isFn mg "stands_in_battle" v)(hx:x.length<=100000)(q1:∀ rs,zo2 sbB x=.inr rs->∀ l ps H',H l=none->Same H H'->zq2 H' l ps rs->Q (.ref l) H')(q2:∀ k,zo2 sbB x=.inl k->∀ d H',H d=none->Same H H'->H' d=some (.xd [("row",.int k)])->E (.ref zbr7) (some d) H'):zd8 mg zbr7 [.str x,v] H Q E:=by unfold zd8;exact⟨v,x,sbB,rfl,.inl ⟨h,rfl⟩,hx,q1,q2⟩
theorem zae8{mg:Str->Option Value}{v:V}{x:Str}(h:isFn mg "stands_in_paper" v)(hx:x.length<=100000)(q1:∀ rs,zo2 spB x=.inr rs->∀ l ps H',H l=none->Same H H'->zq2 H' l ps rs->Q (.ref l) H')(q2:∀ k,zo2 spB x=.inl k->∀ d H',H d=none->Same H H'->H' d=some (.xd [("row",.int k)])->E (.ref zbr7) (some d) H'):zd8 mg zbr7 [.str x,v] H Q E:=by unfold zd8;exact⟨v,x,spB,rfl,.inr ⟨h,rfl⟩,hx,q1,q2⟩
theorem AhB.last{rs:List Rw}{p:Addr}{r:Rw}:AhB H (.ref p) ((rs++[r]).getLast?):=by
 rw[zch3]
 exact⟨p,rfl⟩
theorem zbl3{a:Option Rw}{r:Rw}(h:RgW r)(e:spB a r=true):RgR r:=by
 unfold spB at e
 by_cases h1:r.1="flow"
 ·exact h.rg (.inl h1)
 ·rw[if_neg h1,zcb3,decide_eq_true_eq] at e
  exact h.rg (.inr e.1)
theorem AhV.last{rs:List Rw}{p:Addr}{r:Rw}(h:RwT H p r)(g:RgR r):AhV H (.ref p) ((rs++[r]).getLast?):=by
 rw[zch3]
 exact⟨p,rfl,h,g⟩
theorem zaj4{f:Addr}(F:Fun K "read_rows" "read_rows" zr5 f fd)(N:Nm mg)(zbv7:Def P w K mg base CX0 2 "read_row" ["piece"] zj0)(zbs9:Def P w K mg base CX0 1 "stands_in_battle" ["ahead","row"] zc2)(zbt1:Def P w K mg base CX0 2 "stands_in_paper" ["ahead","row"] zc5)(Z:Cz K mg base zbr8 zbr6 zbs5 zbt2 zbr9 zbs6 zbs2 zbs0 zbs1 zbs7 zbr7 zbt3 zbs8 zbs3 zbs4 zbt4):FnOk P w K mg base (CXR P w) 4 f fd ["text","stands"] (zd8 mg zbr7):=by
 refine F.okR zb5 (fun vs H Q E h=>by unfold zd8 at h;obtain⟨_,_,_,rfl,_⟩:=h;rfl) (fun cdv A outer s H vs Q E hr hX h=>?_)
 unfold zd8 at h
 obtain⟨v,x,st,rfl,hf,hx,q1,q2⟩:=h
 have hu:=hu40 hr
 rcases hf with ⟨hf,rfl⟩|⟨hf,rfl⟩
 next=>
  obtain⟨xs,y,el⟩:=zp9 x
  have ll:=zw3 x
  rw[el,zbz2,zcb1] at ll
  have sh:∀ w∈xs++[y],w.length<=1000000:=fun w hw=>zcc5 (zt4 (by rw[el];exact hw)) (by rfl')
  have rp:zo2 sbB x=match goP sbB xs [] with
   | .inl k=>.inl k
   | .inr rs=>if y=⟨#[]⟩ then .inr rs else .inl rs.length:=by
   unfold zo2
   rw[el,zce7,zce1]
  rw[rp] at q1 q2
  refine⟨_,(za3 (psS (i:=2) zb5.nd (zy5 (K:=K) rfl (pq 0) (za0 zc0 za1)))
   (za3 (psS (i:=3) zb5.nd (zn4 za1))
   (za3 (psS (i:=4) zb5.nd zk6)
   (za3 (zax8 PassesOwn.leaving rfl (zap9 (K:=K) rfl N.enumerate_ (za0 (zh6 (slZK (K:=K) rfl) (pq 2) zl4 (zn8 (zaw0 uNeg za2))) za1)) (zar4 (K:=K) (n:=2) rfl rfl (zo4 (ze2 (i:=5) zb5.nd rfl (by eq_refl)) (zo4 (ze2 (i:=6) zb5.nd rfl (by eq_refl)) zav6))) (za3 (psS (i:=7) zb5.nd (pD zbv7 hr zd6 (za0 (pq 6) za1)))
   (za3 (psIf (ptW (pwOr (ptC oIsX (pq 7) zk6) (zq9 (zl2 (ptV (pDL (i:=1) zbs9 hr zd6 (za0 (pq 4) (za0 (pq 7) za1)))))))) (za7 (zl1 Z.z_NoText Z.g_NoText (zk3 Z.fi_NoText Z.z_NoText) (hr.mono (by decide)) rfl hX (pq 5))) zc1)
   (za3 (zag7 (zq0 (pq 3) (za0 (pq 7) za1)))
   (za7 (psS (i:=4) zb5.nd (pq 7)))))))
   (za3 (psIf (ptC (zaa9 (K:=K) rfl (by exact hu)) (zb9 (K:=K) rfl (pq 2) (zaw0 uNeg za2)) zc0) (za7 (zl1 Z.z_NoText Z.g_NoText (zk3 Z.fi_NoText Z.z_NoText) (hr.mono (by decide)) rfl hX (pB (zn1 (K:=K) rfl) N.len_ zi2 (za0 (pq 3) za1)))) zc1)
   (za7 (zb1 (pq 3)))))))),?_⟩
  refine zaf3 (by decide +kernel) (by rw[zci0];omega) (fun pc H1 g1 s1 k1=>?_)
  rw[show Txt.split x (Str.ofString "\n")=xs++[y] from el] at k1
  have k1:H1 pc=some (.lst (xs.map V.str++[.str y])):=by rw[k1,zcd2];rfl
  refine zb6 (fun l H2 g2 s2 k2=>?_)
  have s02:=s1.trans s2
  have fl:H l=none:=s1.free g2
  refine zx6 (SqL.of (s2 _ _ k1)) (fun pi H3 g3 s3 k3=>?_)
  rw[zat5,zbz2,zby7,zcb1,Nat.add_sub_cancel,List.take_left' (by rw[zby7])] at k3
  have npl:pi≠l:=Ne.symm (za4 k2 g3)
  have ncl:pc≠l:=za4 k1 g2
  refine zah1 k3 ?_
  refine zs9 (xs:=xs.map V.str) (fun i σ I=>∃ (va:V) (y5 y6 y7:Option V) (ps:List Addr) (rs:List Rw),σ=[some (.str x),some v,some (.ref pc),some (.ref l),some va,y5,y6,y7]/\Same H I/\I pc=some (.lst (xs.map V.str++[.str y]))/\I pi=some (.lst (xs.map V.str))/\goP sbB (xs.take i) []=.inr rs/\zq2 I l ps rs/\AhB I va rs.getLast?) ?_ ?_ ?_ ?_
  ·exact⟨_,_,_,_,[],[],rfl,s02.trans s3,(s2.trans s3) _ _ k1,k3,rfl,⟨s3 _ _ k2,rfl,fun i p r e=>by simp at e⟩,rfl⟩
  ·rintro i σ I _ ⟨_,_,_,_,_,_,_,_,_,h,_⟩
   exact SqL.of h
  ·rintro i yy σ I e I' hy ⟨va,y5,y6,y7,ps,rs,rfl,sI,hpc,hpi,go,R,Ah⟩ fe sE he
   rw[zbz1] at hy
   obtain⟨z,ez,rfl⟩:=zbz5.mp hy
   have hz:=sh z (zce6 _ (zca5 ez))
   have hi:=(zby9.mp ez).1
   have pl:=R.len
   have rl:=zz6 go
   rw[zcd6,zcd1] at rl
   have gd:goP sbB xs []=match rowP z with
    | some r=>if sbB rs.getLast? r=true then goP sbB (xs.drop (i+1)) (rs++[r]) else .inl i
    | none=>.inl i:=by
    rw[zae3 ez go,List.drop_eq_getElem_cons hi,(zby9.mp ez).2]
    rw[ze1,show rs.length=i by rfl']
   have bad:goP sbB xs []=.inl i->∀ J d J',Same H J->J d=none->Same J J'->J' d=some (.xd [("row",.int i)])->E (.ref zbr7) (some d) J':=fun eb J d J' sJ fd sJ' hd=>by
    rw[eb] at q2
    exact q2 i rfl d J' (sJ.free fd) (sJ.trans sJ') hd
   refine zx0 he ?_
   refine zz4 hz (fun hn J1 t1=>?_) (fun r hr' p J1 f1 t1 h1=>?_)
   ·rw[hn] at gd
    ac_nf
    first|refine br_T ?_|refine zk9 rfl ?_
    ac_nf
    first|refine br_T ?_|skip
    ac_nf
    exact ze8 (fun d J' fd sJ' hd=>bad gd J1 d J' ((sI.trans sE).trans t1) fd sJ' hd)
   have rw':RgW r:=zat2 hr'
   rw[hr'] at gd
   dsimp only at gd
   have sJ:=sE.trans t1
   ac_nf
   first|refine br_F ?_|refine zm3 (fun z=>by cases z) ?_
   ac_nf
   refine⟨hf,?_⟩
   refine zaz0 (Ah.same sJ) h1 (fun J2 t2=>?_)
   have sJ2:=sJ.trans t2
   cases hs:sbB rs.getLast? r
   ·rw[hs,if_neg zbz3] at gd
    ac_nf
    first|refine zc6 (br_F ?_)|refine br_T ?_
    ac_nf
    exact ze8 (fun d J' fd sJ' hd=>bad gd J2 d J' (sI.trans sJ2) fd sJ' hd)
   have nlp:p≠l:=Ne.symm (za4 (sE _ _ R.out) f1)
   ac_nf
   first|refine zc6 (br_T ?_)|refine br_F ?_
   refine zac4 (sJ2 _ _ R.out) ?_
   refine zau9 (sJ2 _ _ R.out) (by rw[zby7,zci0];omega) (fun J3 c3 k4=>?_)
   have hp3:RwT J3 p r:=c3 _ _ nlp (t2 _ _ h1)
   ac_nf
   refine⟨.ref p,_,_,_,ps++[p],rs++[r],rfl,fun b o z=>c3 _ _ (za4 z fl) ((sI.trans sJ2) _ _ z),c3 _ _ ncl (sJ2 _ _ hpc),c3 _ _ npl (sJ2 _ _ hpi),?_,(R.same sJ2).snoc c3 k4 hp3,AhB.last⟩
   rw[List.take_succ,ez]
   exact zaf4 go hr' hs
  ·rintro σ I ⟨va,y5,y6,y7,ps,rs,rfl,sI,hpc,hpi,go,R,Ah⟩
   rw[zby7,List.take_length] at go
   rw[go] at q1 q2
   have rl:=R.len
   refine zn5 (v:=.str y) hpc (zbe5 (n:=xs.length) (by rw[zbz2,zby7];rfl) (by rw[zca4 (by rw[zby7];omega),zby7,Nat.sub_self];rfl)) ?_
   ac_nf
   by_cases hy:y=⟨#[]⟩
   ·have q1:=q1 rs (by show (if y=⟨#[]⟩ then _ else _)=_;rw[if_pos hy])
    rw[show decide (y=Str.ofString "")=true from decide_eq_true (hy.trans (by decide +kernel))]
    first|refine zc6 (br_T ?_)|refine br_F ?_
    ac_nf
    exact q1 l ps I fl sI R
   ·have q2:=q2 rs.length (by show (if y=⟨#[]⟩ then _ else _)=_;rw[if_neg hy])
    rw[show decide (y=Str.ofString "")=false from decide_eq_false (fun z=>hy (z.trans (by decide +kernel)))]
    first|refine zc6 (br_F ?_)|refine br_T ?_
    refine zg7 R.out ?_
    rw[zby7,rl]
    ac_nf
    exact ze8 (fun d J' fd sJ' hd=>q2 d J' (sI.free fd) (sI.trans sJ') hd)
 next=>
  obtain⟨xs,y,el⟩:=zp9 x
  have ll:=zw3 x
  rw[el,zbz2,zcb1] at ll
  have sh:∀ w∈xs++[y],w.length<=1000000:=fun w hw=>zcc5 (zt4 (by rw[el];exact hw)) (by rfl')
  have rp:zo2 spB x=match goP spB xs [] with
   | .inl k=>.inl k
   | .inr rs=>if y=⟨#[]⟩ then .inr rs else .inl rs.length:=by
   unfold zo2
   rw[el,zce7,zce1]
  rw[rp] at q1 q2
  refine⟨_,(za3 (psS (i:=2) zb5.nd (zy5 (K:=K) rfl (pq 0) (za0 zc0 za1)))
   (za3 (psS (i:=3) zb5.nd (zn4 za1))
   (za3 (psS (i:=4) zb5.nd zk6)
   (za3 (zax8 PassesOwn.leaving rfl (zap9 (K:=K) rfl N.enumerate_ (za0 (zh6 (slZK (K:=K) rfl) (pq 2) zl4 (zn8 (zaw0 uNeg za2))) za1)) (zar4 (K:=K) (n:=2) rfl rfl (zo4 (ze2 (i:=5) zb5.nd rfl (by eq_refl)) (zo4 (ze2 (i:=6) zb5.nd rfl (by eq_refl)) zav6))) (za3 (psS (i:=7) zb5.nd (pD zbv7 hr zd6 (za0 (pq 6) za1)))
   (za3 (psIf (ptW (pwOr (ptC oIsX (pq 7) zk6) (zq9 (zl2 (ptV (pDL (i:=1) zbt1 hr zd6 (za0 (pq 4) (za0 (pq 7) za1)))))))) (za7 (zl1 Z.z_NoText Z.g_NoText (zk3 Z.fi_NoText Z.z_NoText) (hr.mono (by decide)) rfl hX (pq 5))) zc1)
   (za3 (zag7 (zq0 (pq 3) (za0 (pq 7) za1)))
   (za7 (psS (i:=4) zb5.nd (pq 7)))))))
   (za3 (psIf (ptC (zaa9 (K:=K) rfl (by exact hu)) (zb9 (K:=K) rfl (pq 2) (zaw0 uNeg za2)) zc0) (za7 (zl1 Z.z_NoText Z.g_NoText (zk3 Z.fi_NoText Z.z_NoText) (hr.mono (by decide)) rfl hX (pB (zn1 (K:=K) rfl) N.len_ zi2 (za0 (pq 3) za1)))) zc1)
   (za7 (zb1 (pq 3)))))))),?_⟩
  refine zaf3 (by decide +kernel) (by rw[zci0];omega) (fun pc H1 g1 s1 k1=>?_)
  rw[show Txt.split x (Str.ofString "\n")=xs++[y] from el] at k1
  have k1:H1 pc=some (.lst (xs.map V.str++[.str y])):=by rw[k1,zcd2];rfl
  refine zb6 (fun l H2 g2 s2 k2=>?_)
  have s02:=s1.trans s2
  have fl:H l=none:=s1.free g2
  refine zx6 (SqL.of (s2 _ _ k1)) (fun pi H3 g3 s3 k3=>?_)
  rw[zat5,zbz2,zby7,zcb1,Nat.add_sub_cancel,List.take_left' (by rw[zby7])] at k3
  have npl:pi≠l:=Ne.symm (za4 k2 g3)
  have ncl:pc≠l:=za4 k1 g2
  refine zah1 k3 ?_
  refine zs9 (xs:=xs.map V.str) (fun i σ I=>∃ (va:V) (y5 y6 y7:Option V) (ps:List Addr) (rs:List Rw),σ=[some (.str x),some v,some (.ref pc),some (.ref l),some va,y5,y6,y7]/\Same H I/\I pc=some (.lst (xs.map V.str++[.str y]))/\I pi=some (.lst (xs.map V.str))/\goP spB (xs.take i) []=.inr rs/\zq2 I l ps rs/\AhV I va rs.getLast?) ?_ ?_ ?_ ?_
  ·exact⟨_,_,_,_,[],[],rfl,s02.trans s3,(s2.trans s3) _ _ k1,k3,rfl,⟨s3 _ _ k2,rfl,fun i p r e=>by simp at e⟩,rfl⟩
  ·rintro i σ I _ ⟨_,_,_,_,_,_,_,_,_,h,_⟩
   exact SqL.of h
  ·rintro i yy σ I e I' hy ⟨va,y5,y6,y7,ps,rs,rfl,sI,hpc,hpi,go,R,Ah⟩ fe sE he
   rw[zbz1] at hy
   obtain⟨z,ez,rfl⟩:=zbz5.mp hy
   have hz:=sh z (zce6 _ (zca5 ez))
   have hi:=(zby9.mp ez).1
   have pl:=R.len
   have rl:=zz6 go
   rw[zcd6,zcd1] at rl
   have gd:goP spB xs []=match rowP z with
    | some r=>if spB rs.getLast? r=true then goP spB (xs.drop (i+1)) (rs++[r]) else .inl i
    | none=>.inl i:=by
    rw[zae3 ez go,List.drop_eq_getElem_cons hi,(zby9.mp ez).2]
    rw[ze1,show rs.length=i by rfl']
   have bad:goP spB xs []=.inl i->∀ J d J',Same H J->J d=none->Same J J'->J' d=some (.xd [("row",.int i)])->E (.ref zbr7) (some d) J':=fun eb J d J' sJ fd sJ' hd=>by
    rw[eb] at q2
    exact q2 i rfl d J' (sJ.free fd) (sJ.trans sJ') hd
   refine zx0 he ?_
   refine zz4 hz (fun hn J1 t1=>?_) (fun r hr' p J1 f1 t1 h1=>?_)
   ·rw[hn] at gd
    ac_nf
    first|refine br_T ?_|refine zk9 rfl ?_
    ac_nf
    first|refine br_T ?_|skip
    ac_nf
    exact ze8 (fun d J' fd sJ' hd=>bad gd J1 d J' ((sI.trans sE).trans t1) fd sJ' hd)
   have rw':RgW r:=zat2 hr'
   rw[hr'] at gd
   dsimp only at gd
   have sJ:=sE.trans t1
   ac_nf
   first|refine br_F ?_|refine zm3 (fun z=>by cases z) ?_
   ac_nf
   refine⟨hf,?_⟩
   refine zbb3 (Ah.same sJ) h1 rw' (fun J2 t2=>?_)
   have sJ2:=sJ.trans t2
   cases hs:spB rs.getLast? r
   ·rw[hs,if_neg zbz3] at gd
    ac_nf
    first|refine zc6 (br_F ?_)|refine br_T ?_
    ac_nf
    exact ze8 (fun d J' fd sJ' hd=>bad gd J2 d J' (sI.trans sJ2) fd sJ' hd)
   have nlp:p≠l:=Ne.symm (za4 (sE _ _ R.out) f1)
   ac_nf
   first|refine zc6 (br_T ?_)|refine br_F ?_
   refine zac4 (sJ2 _ _ R.out) ?_
   refine zau9 (sJ2 _ _ R.out) (by rw[zby7,zci0];omega) (fun J3 c3 k4=>?_)
   have hp3:RwT J3 p r:=c3 _ _ nlp (t2 _ _ h1)
   ac_nf
   refine⟨.ref p,_,_,_,ps++[p],rs++[r],rfl,fun b o z=>c3 _ _ (za4 z fl) ((sI.trans sJ2) _ _ z),c3 _ _ ncl (sJ2 _ _ hpc),c3 _ _ npl (sJ2 _ _ hpi),?_,(R.same sJ2).snoc c3 k4 hp3,AhV.last hp3 (zbl3 rw' hs)⟩
   rw[List.take_succ,ez]
   exact zaf4 go hr' hs
  ·rintro σ I ⟨va,y5,y6,y7,ps,rs,rfl,sI,hpc,hpi,go,R,Ah⟩
   rw[zby7,List.take_length] at go
   rw[go] at q1 q2
   have rl:=R.len
   refine zn5 (v:=.str y) hpc (zbe5 (n:=xs.length) (by rw[zbz2,zby7];rfl) (by rw[zca4 (by rw[zby7];omega),zby7,Nat.sub_self];rfl)) ?_
   ac_nf
   by_cases hy:y=⟨#[]⟩
   ·have q1:=q1 rs (by show (if y=⟨#[]⟩ then _ else _)=_;rw[if_pos hy])
    rw[show decide (y=Str.ofString "")=true from decide_eq_true (hy.trans (by decide +kernel))]
    first|refine zc6 (br_T ?_)|refine br_F ?_
    ac_nf
    exact q1 l ps I fl sI R
   ·have q2:=q2 rs.length (by show (if y=⟨#[]⟩ then _ else _)=_;rw[if_neg hy])
    rw[show decide (y=Str.ofString "")=false from decide_eq_false (fun z=>hy (z.trans (by decide +kernel)))]
    first|refine zc6 (br_F ?_)|refine br_T ?_
    refine zg7 R.out ?_
    rw[zby7,rl]
    ac_nf
    exact ze8 (fun d J' fd sJ' hd=>q2 d J' (sI.free fd) (sI.trans sJ') hd)
def BgI(n:Int):Prop:=n.natAbs<10 ^ 2002
def BgA(n:Int):Prop:=n.natAbs<10 ^ 2001
theorem ten_le:10 ^ 2002<=2 ^ 9000:=by decide +kernel
theorem ten_up:10 ^ 2001+1<=10 ^ 2002:=by decide +kernel
theorem BgA.up{n:Int}(h:BgA n):BgI (n+1):=by
 unfold BgA at h
 unfold BgI
 have h2:=ten_up
 generalize 10 ^ 2001=a at h h2
 generalize 10 ^ 2002=b at h2 ⊢
 omega
theorem BgI.bits{i:Int}(h:BgI i):Builtin.Int.intBits i<=2 ^ 20:=by
 unfold BgI at h
 have h2:=zca8 h ten_le
 unfold Builtin.Int.intBits
 by_cases z:i.natAbs=0
 ·simp[z]
  split<;>omega
 ·have:=(Nat.log2_lt z).mpr h2
  split<;>omega
theorem BgI.mul{i j:Int}(h:BgI i)(k:BgI j):IntMulOk i j:=.of_bits h.bits k.bits
def zu7(n m:Int)(zs:List Int):List (List Int):=(List.range n.toNat).map fun i=>(zs.drop (i*m.toNat)).take m.toNat
@[irreducible] def zf4:Sp:=fun vs H Q _=>∃ (l:Addr) (n m:Int) (zs:List Int),vs=[.int n,.int m,.ref l]/\H l=some (.lst (zs.map V.int))/\BgI n/\BgI m/\1<=zs.length/\zs.length<=1000000/\(¬ (zs.length:Int)=n*m->∀ H',Same H H'->Q .non H')/\((zs.length:Int)=n*m->∀ (t:Addr) (ts:List Addr) (H':Hp),(Same H H'/\H t=none/\H' t=some (.lst (ts.map V.ref))/\ts.length=(zu7 n m zs).length/\∀ (i:Nat) p r,ts[i]?=some p->(zu7 n m zs)[i]?=some r->H p=none/\H' p=some (.lst (r.map V.int)))->Q (.ref t) H')
theorem zab1{l:Addr}{n m:Int}{zs:List Int}(h:H l=some (.lst (zs.map V.int)))(hn:BgI n)(hm:BgI m)(h1:1<=zs.length)(h2:zs.length<=1000000)(q1:¬ (zs.length:Int)=n*m->∀ H',Same H H'->Q .non H')(q2:(zs.length:Int)=n*m->∀ (t:Addr) (ts:List Addr) (H':Hp),(Same H H'/\H t=none/\H' t=some (.lst (ts.map V.ref))/\ts.length=(zu7 n m zs).length/\∀ (i:Nat) p r,ts[i]?=some p->(zu7 n m zs)[i]?=some r->H p=none/\H' p=some (.lst (r.map V.int)))->Q (.ref t) H'):zf4 [.int n,.int m,.ref l] H Q E:=by
 unfold zf4;exact⟨l,n,m,zs,rfl,h,hn,hm,h1,h2,q1,q2⟩
theorem zbj1{zs:List Int}(h:(i+1)*m<=zs.length):cutV (zs.map V.int) (some ((i*m:Nat):Int)) (some (((i+1)*m:Nat):Int))=((zs.drop (i*m)).take m).map V.int:=by
 have l2:(i+1)*m=i*m+m:=Nat.succ_mul i m
 unfold cutV
 rw[HT.sIx_nat,HT.sIx_nat,zby7,Nat.min_eq_left (by rfl'),Nat.min_eq_left (by rfl'),show (i+1)*m - i*m=m by rfl',← List.map_drop,← List.map_take]
theorem zaa4{f:Addr}(F:Fun K "rows_parted" "rows_parted" zn2 f fd)(N:Nm mg):FnOk P w K mg base CX0 1 f fd ["many_rows","many_numbers","numbers"] zf4:=by
 refine F.ok zaa3 (fun vs H Q E h=>by unfold zf4 at h;obtain⟨_,_,_,_,rfl,_⟩:=h;rfl) fun _ _ _ s H vs Q E hr h=>?_
 unfold zf4 at h
 obtain⟨l,n,m,zs,rfl,h,hn,hm,h1,h2,q1,q2⟩:=h
 have hu:=hu40 hr
 refine⟨_,(za3 (psIf (ptC (oNeK (K:=K) rfl (by exact hu)) (pB (zn1 (K:=K) rfl) N.len_ zi2 (za0 (pq 2) za1)) (zc8 oMul (pq 0) (pq 1))) (za7 (zb1 zk6)) zc1)
   (za7 (zb1 (zv6 (N:=["row","numbers","many_numbers"]) (ks:=[none,some 2,some 1]) (zbk6 N.range_ (za0 (pq 0) za1)) (fun _ _ _ _ _=>(ze2 (i:=0) nb_4 rfl (by eq_refl))) (fun _ _ _ _ _=>zo6) (fun _ _ _ _ _=>(zh6 (slZK (K:=K) rfl) (pq 1) (zn8 (zc8 oMul (pq 0) (pq 2))) (zn8 (zc8 oMul (zc8 oAdd (pq 0) za2) (pq 2))))) (.skip (.take rfl rfl (by eq_refl) (.take rfl rfl (by eq_refl) .nil))))))),?_⟩
 refine zg7 h ?_
 refine zbg1 (hn.mul hm) ?_
 ac_nf
 rw[zby7]
 refine zc6 (ze0 (fun e=>?_) (fun e=>?_))
 rotate_left
 ·ac_nf
  exact q1 e H (Same.refl _)
 have q2:=q2 e
 have nb:-(1000000:Int)<=n/\n<=1000000:=by
  have h3:n.natAbs*m.natAbs=zs.length:=by rw[← Int.natAbs_mul,← e];rfl
  have h4:1<=m.natAbs:=by
   rcases Nat.eq_zero_or_pos m.natAbs with z|z
   ·rw[z,Nat.mul_zero] at h3;omega
   ·exact z
  have h5:=Nat.mul_le_mul_left n.natAbs h4
  omega
 have mp:0<n->0<m:=fun h0=>by
  rcases Int.lt_or_le 0 m with z|z
  ·exact z
  ·have:=Int.mul_le_mul_of_nonneg_left z (Int.le_of_lt h0)
   rw[Int.mul_zero] at this
   omega
 refine zat1 (by decide) (by decide) (by rfl') (by rfl') ?_
 rw[show (n - 0).toNat=n.toNat by rw[Int.sub_zero]]
 refine comp_F (n:=n.toNat) Wk.range (by rw[zci0];omega) (fun j=>.lst (((zu7 n m zs).getD j []).map V.int)) (fun j σ=>∃ t:Option V,σ=[t,some (.ref l),some (.int m)]) ⟨none,rfl⟩ ?_ ?_
 ·rintro i x σ J R' S' hi sJ rfl ⟨_,rfl⟩ kk
  have m0:=mp (by rfl')
  obtain⟨mn,rfl⟩:=Int.eq_ofNat_of_zero_le (Int.le_of_lt m0)
  obtain⟨nn,rfl⟩:=Int.eq_ofNat_of_zero_le (show 0<=n by rfl')
  have hi:i<nn:=by simpa using hi
  have hl:(i+1)*mn<=zs.length:=by
   have e':zs.length=nn*mn:=by exact_mod_cast e
   rw[e']
   exact Nat.mul_le_mul_right mn hi
  rw[show (zu7 (nn:Int) (mn:Int) zs).getD i []=(zs.drop (i*mn)).take mn by unfold zu7;rw[zca6,zbz1,List.getElem?_range (by simpa using hi)];rfl] at kk
  refine br_T ?_
  refine zap6 (by rfl') (by rfl') ?_
  refine zap6 (by rfl') (by rfl') ?_
  refine zx6 (SqL.of (sJ _ _ h)) (fun p I f1 s1 k1=>?_)
  rw[show (0+(i:Int))*(mn:Int)=((i*mn:Nat):Int) by rw[Int.natCast_mul,Int.zero_add],show (0+(i:Int)+1)*(mn:Int)=(((i+1)*mn:Nat):Int) by rw[Int.natCast_mul,Int.natCast_add,Int.zero_add];rfl,zbj1 hl] at k1
  ac_nf
  exact kk _ p I f1 s1 k1 ⟨_,rfl⟩
 intro t ts J FL
 ac_nf
 have pl:(zu7 n m zs).length=n.toNat:=by unfold zu7;rw[zby7,zcg8]
 refine q2 t ts J ⟨FL.same,FL.facc,FL.out,by rw[FL.len,pl],fun i p r e1 e2=>⟨(FL.row i p e1).1,?_⟩⟩
 have:=(FL.row i p e1).2
 rw[show (zu7 n m zs).getD i []=r by rw[zca6,e2];rfl] at this
 exact this
theorem zaj3:∀ (cs:List Nat) (acc:Nat),(∀ c∈cs,48<=c/\c<=57)->cs.foldl (fun acc c=>acc*10+(c - 48)) acc<(acc+1)*10 ^ cs.length
 | [],acc,_=>by simp
 | c :: cs,acc,h=>by
  have hc:=h c (.head _)
  have ih:=zaj3 cs (acc*10+(c - 48)) fun d hd=>h d (.tail _ hd)
  rw[List.foldl_cons,zca2,Nat.pow_succ]
  refine zca8 ih ?_
  have h1:acc*10+(c - 48)+1<=(acc+1)*10:=by rfl'
  have h2:=Nat.mul_le_mul_right (10 ^ cs.length) h1
  rw[Nat.mul_assoc,Nat.mul_comm 10] at h2
  exact h2
theorem zbj0{x:Str}(h:numB x.cps.toList=true):BgA (valS x):=by
 have hi:=zw5 h
 unfold numB at h
 rw[zcb3,zcb3,zcb3,decide_eq_true_eq,decide_eq_true_eq] at h
 obtain⟨⟨⟨l1,l2⟩,al⟩,_⟩:=h
 have dg:∀ c∈figL x.cps.toList,48<=c/\c<=57:=fun c hc=>of_decide_eq_true (zcc9.mp al c hc)
 have xl:x.length=x.cps.toList.length:=zca0.symm
 have ne:figL x.cps.toList≠[]:=fun z=>by rw[z] at l1;exact absurd l1 (by decide)
 have le:∀ cs:List Nat,cs.length<=2000->(∀ c∈cs,48<=c/\c<=57)->PySem.NumText.digitsVal cs<10 ^ 2001:=fun cs hl hd=>by
  have:=zaj3 cs 0 hd
  rw[zch2,Nat.one_mul] at this
  exact zca8 this (Nat.pow_le_pow_right (n:=10) (Nat.succ_pos 9) (Nat.le_succ_of_le hl))
 unfold BgA
 by_cases hm:x.cps.toList.head?=some 45
 ·rw[zu5 hm] at dg l2 ne
  obtain⟨cs,ec⟩:∃ cs,x.cps.toList=45 :: cs:=by
   cases e:x.cps.toList with
   | nil=>rw[e] at hm;cases hm
   | cons c r=>rw[e] at hm;cases hm;exact⟨r,rfl⟩
  rw[ec] at dg l2 ne
  have l2:cs.length<=2000:=l2
  have e2:=intText_neg ec dg ne (by rw[xl,ec,zca2];omega)
  rw[hi] at e2
  rw[Option.some.inj e2,Int.natAbs_neg]
  exact le cs l2 dg
 ·rw[zp8 hm] at dg l2 ne
  have e2:=intText_digits dg ne (by rw[xl];omega)
  rw[hi] at e2
  rw[Option.some.inj e2]
  exact le _ l2 dg
structure GdW(r:Rw):Prop where
 w:RgW r
 b:∀ n∈r.2,BgA n
theorem zbp8{x:Str}{r:Rw}(h:rowP x=some r):GdW r/\r.2.length<=x.length+2:=by
 refine⟨⟨zat2 h,fun n hn=>?_⟩,?_⟩
 ·unfold rowP at h
  split at h
  ·rename_i hh
   cases h
   rw[zcb3] at hh
   obtain⟨w,hw,rfl⟩:=zcf4.mp hn
   exact zbj0 (zcc9.mp hh.2 w hw)
  ·cases h
 ·unfold rowP at h
  split at h
  ·cases h
   have:=zau2 x
   rw[zby7,List.length_tail]
   omega
  ·cases h
theorem zbc6{st:Option Rw->Rw->Bool}{m:Nat}:∀ {xs:List Str}{acc rs:List Rw},(∀ x∈xs,x.length+2<=m)->(∀ (i:Nat) r,acc[i]?=some r->(GdW r/\r.2.length<=m)/\st (if i=0 then none else acc[i - 1]?) r=true)->goP st xs acc=.inr rs->∀ (i:Nat) r,rs[i]?=some r->(GdW r/\r.2.length<=m)/\st (if i=0 then none else rs[i - 1]?) r=true
 | [],acc,rs,_,h,e=>by cases e;exact h
 | x :: xs,acc,rs,hx,h,e=>by
  rw[ze1] at e
  cases hr:rowP x with
  | none=>rw[hr] at e;cases e
  | some r=>
   rw[hr] at e
   dsimp only at e
   by_cases hs:st acc.getLast? r=true
   ·rw[if_pos hs] at e
    refine zbc6 (fun y hy=>hx y (.tail _ hy)) (fun i r' ei=>?_) e
    by_cases hi:i<acc.length
    ·rw[zcb0 hi] at ei
     have:=h i r' ei
     refine⟨this.1,?_⟩
     by_cases i0:i=0
     ·rw[if_pos i0] at this ⊢;exact this.2
     ·rw[if_neg i0,zcb0 (by rfl')]
      rw[if_neg i0] at this
      exact this.2
    ·rw[zca4 (by rfl')] at ei
     have i1:i - acc.length=0:=by have:=(zby9.mp ei).1;simp at this;omega
     rw[i1] at ei
     cases ei
     obtain⟨g1,g2⟩:=zbp8 hr
     refine⟨⟨g1,zcc5 g2 (hx x (.head _))⟩,?_⟩
     have ia:i=acc.length:=by rfl'
     subst ia
     by_cases i0:acc.length=0
     ·rw[if_pos i0]
      rw[List.length_eq_zero_iff.mp i0] at hs
      exact hs
     ·rw[if_neg i0,zcb0 (by rfl'),← List.getLast?_eq_getElem?]
      exact hs
   ·rw[if_neg hs] at e;cases e
theorem zae1{w:Str}{m:Int}(h:w="hosts"∨w="more"∨w="lead"):hasW w m=decide (m=2):=by
 unfold hasW
 rcases h with rfl|rfl|rfl
 ·rw[if_neg (by decide +kernel),show zt0 WT "hosts"=.int 2 by decide +kernel,decide_eq_decide]
  exact⟨fun h=>(V.int.inj h).symm,fun h=>by rw[h]⟩
 ·rw[if_neg (by decide +kernel),show zt0 WT "more"=.int 2 by decide +kernel,decide_eq_decide]
  exact⟨fun h=>(V.int.inj h).symm,fun h=>by rw[h]⟩
 ·rw[if_neg (by decide +kernel),show zt0 WT "lead"=.int 2 by decide +kernel,decide_eq_decide]
  exact⟨fun h=>(V.int.inj h).symm,fun h=>by rw[h]⟩
theorem zay8{m:Int}:hasW "table" m=decide (1<=m):=by unfold hasW;rw[if_pos rfl]
theorem zbb5(w:Str):inV (.str w) [.str "more",.str "lead",.str "table"]=(decide (w="more") || (decide (w="lead") || decide (w="table"))):=by
 show (eqV (.str "more") (.str w) || (eqV (.str "lead") (.str w) || (eqV (.str "table") (.str w) || false)))=_
 rw[Bool.or_false]
 show (decide (("more":Str)=w) || (decide (("lead":Str)=w) || decide (("table":Str)=w)))=_
 rw[show decide (("more":Str)=w)=decide (w="more") by rw[decide_eq_decide];exact eq_comm,show decide (("lead":Str)=w)=decide (w="lead") by rw[decide_eq_decide];exact eq_comm,show decide (("table":Str)=w)=decide (w="table") by rw[decide_eq_decide];exact eq_comm]
structure RwsB(m:Nat)(r0:Rw)(rs:List Rw):Prop where
 h:r0.1="hosts"/\r0.2.length=2/\∀ n∈r0.2,BgA n
 f:∀ r∈rs,(∀ n∈r.2,BgA n)/\r.2.length<=m/\(((r.1="more"∨r.1="lead")/\r.2.length=2)∨(r.1="table"/\1<=r.2.length))
theorem zbo7{xs:List Str}{r0:Rw}{rs:List Rw}(hx:∀ x∈xs,x.length+2<=m)(h:goP sbB xs []=.inr (r0 :: rs)):RwsB m r0 rs:=by
 have inv:=zbc6 hx (fun i r e=>by simp at e) h
 refine⟨?_,fun r hr=>?_⟩
 ·obtain⟨⟨g,_⟩,s⟩:=inv 0 r0 rfl
  rw[if_pos rfl] at s
  have s:r0.1="hosts":=of_decide_eq_true s
  have w:hasW r0.1 (r0.2.length:Int)=true:=g.w
  rw[zae1 (.inl s),decide_eq_true_eq] at w
  exact⟨s,by rfl',g.b⟩
 ·obtain⟨i,ei⟩:=zce0 hr
  obtain⟨⟨g,l⟩,s⟩:=inv (i+1) r (by rw[zce5];exact ei)
  rw[if_neg (by rfl'),Nat.add_sub_cancel] at s
  obtain⟨a,ea⟩:∃ a,(r0 :: rs)[i]?=some a:=⟨_,zby8 (by have:=(zby9.mp ei).1;rw[zca2];omega)⟩
  rw[ea] at s
  have s:inV (.str r.1) [.str "more",.str "lead",.str "table"]=true:=s
  rw[zbb5,Bool.or_eq_true,Bool.or_eq_true,decide_eq_true_eq,decide_eq_true_eq,decide_eq_true_eq] at s
  have w:hasW r.1 (r.2.length:Int)=true:=g.w
  refine⟨g.b,l,?_⟩
  rcases s with s|s|s
  ·rw[zae1 (.inr (.inl s)),decide_eq_true_eq] at w
   exact .inl ⟨.inl s,by rfl'⟩
  ·rw[zae1 (.inr (.inr s)),decide_eq_true_eq] at w
   exact .inl ⟨.inr s,by rfl'⟩
  ·rw[s,zay8,decide_eq_true_eq] at w
   exact .inr ⟨s,by rfl'⟩
theorem zbn8{K:zby6}{a:Addr}{xs:List V}(h:H a=some (.tup xs))(h2:2<=xs.length)(q:∀ p H',H p=none->Same H H'->H' p=some (.tup (xs.drop 1))->Q (.ref p) H'):rSlX K a (some 1) none H Q:=by
 unfold rSlX
 refine .inr ⟨xs,SqT.of h,fun z=>?_,?_⟩
 ·have e:HT.sIx xs.length 0 (some ((1:Nat):Int))=min 1 xs.length:=HT.sIx_nat _ _ _
  have z1:HT.sIx xs.length 0 (some ((1:Nat):Int))=0:=z.1
  rw[e] at z1
  omega
 ·rw[zw8 (by decide)];exact q
theorem zbk1{K:zby6}{p:Addr}{ys:List V}(h:H p=some (.tup ys))(q:∀ l H',H l=none->Same H H'->H' l=some (.lst ys)->Q (.ref l) H'):zas2 K p H Q:=by unfold zas2;exact⟨ys,.inr (SqT.of h),q⟩
def fyOf(a c:Int)(r:Rw):Fx:=if r.1="table" then (if (r.2.length:Int)=(a+1)*(c+1) then .tab (zu7 (a+1) (c+1) r.2) else .non) else .flat r.1 r.2
@[irreducible] def zi6:Sp:=fun vs H Q _=>∃ (p:Addr) (a c:Int) (r:Rw),vs=[.int a,.int c,.ref p]/\RwT H p r/\BgA a/\BgA c/\1<=r.2.length/\r.2.length<=1000000/\∀ p' H',Same H H'->(∀ z ys,H z=some (.lst ys)->FxAt (rm z H') p' (fyOf a c r))->Q (.ref p') H'
theorem zap8{p:Addr}{a c:Int}{r:Rw}(h:RwT H p r)(ha:BgA a)(hc:BgA c)(h1:1<=r.2.length)(h2:r.2.length<=1000000)(k:∀ p' H',Same H H'->(∀ z ys,H z=some (.lst ys)->FxAt (rm z H') p' (fyOf a c r))->Q (.ref p') H'):zi6 [.int a,.int c,.ref p] H Q E:=by
 unfold zi6;exact⟨p,a,c,r,rfl,h,ha,hc,h1,h2,k⟩
theorem zaq4{f:Addr}(F:Fun K "field_of" "field_of" zt6 f fd)(N:Nm mg)(zbu9:Def P w K mg base CX0 1 "rows_parted" ["many_rows","many_numbers","numbers"] zf4):FnOk P w K mg base CX0 2 f fd ["first","second","row"] zi6:=by
 refine F.ok zao9 (fun vs H Q E h=>by unfold zi6 at h;obtain⟨_,_,_,_,rfl,_⟩:=h;rfl) fun _ _ _ s H vs Q E hr h=>?_
 unfold zi6 at h
 obtain⟨p,a,c,r,rfl,h,ha,hc,h1,h2,k⟩:=h
 have hu:=hu40 hr
 have h:H p=some (.tup (.str r.1 :: r.2.map V.int)):=h
 unfold fyOf at k
 refine⟨_,(za3 (psIf (ptC (oNeK (K:=K) rfl (by exact hu)) (zb9 (K:=K) rfl (pq 2) za2) zc0) (za7 (zb1 (pq 2))) zc1)
   (za7 (zb1 (zu2 (za0 zc0 (za0 (pD zbu9 hr zd6 (za0 (zc8 oAdd (pq 0) za2) (za0 (zc8 oAdd (pq 1) za2) (za0 (pT (cListK (K:=K) rfl) N.list_ zag5 (za0 (zh6 (slZK (K:=K) rfl) (pq 2) (zn8 za2) zl4) za1)) za1)))) za1)))))),?_⟩
 refine zb3 (v:=.str r.1) h (zd0 (j:=0) rfl) ?_
 refine zc6 (ze0 (fun ht=>?_) (fun ht=>?_))
 rotate_left
 ·rw[if_neg ht] at k
  ac_nf
  exact k p H (Same.refl _) (fun z ys hz=>zak3 (fun e=>by rw[e,hz] at h;cases h) h)
 rw[if_pos ht] at k
 refine zbn8 h (by rw[zca2,zby7];omega) (fun p1 H1 g1 s1 k1=>?_)
 have k1:H1 p1=some (.tup (r.2.map V.int)):=k1
 refine zbk1 k1 (fun l2 H2 g2 s2 k2=>?_)
 refine zab1 k2 ha.up hc.up h1 h2 (fun e H3 s3=>?_) (fun e t ts H3 R3=>?_)
 ·rw[if_neg e] at k
  refine zd3 (fun p4 H4 g4 s4 k4=>?_)
  ac_nf
  have s03:=(s1.trans s2).trans s3
  exact k p4 H4 (s03.trans s4) (fun z ys hz=>zak3 (fun e=>by rw[e,s03 _ _ hz] at g4;cases g4) k4)
 ·rw[if_pos e] at k
  refine zd3 (fun p4 H4 g4 s4 k4=>?_)
  ac_nf
  have s03:=(s1.trans s2).trans R3.1
  refine k p4 H4 (s03.trans s4) (fun z ys hz=>?_)
  have hz2:=(s1.trans s2) _ _ hz
  have ne:∀ {y:Addr},H2 y=none->y≠z:=fun {y} hy e=>by rw[e,hz2] at hy;cases hy
  exact⟨t,ts,zak3 (fun e=>by rw[e,s03 _ _ hz] at g4;cases g4) k4,zak3 (ne R3.2.1) (s4 _ _ R3.2.2.1),R3.2.2.2.1,fun i q r' e1 e2=>zak3 (ne (R3.2.2.2.2 i q r' e1 e2).1) (s4 _ _ (R3.2.2.2.2 i q r' e1 e2).2)⟩
structure BzAt(H:Hp)(b l:Addr)(ps:List Addr)(a c:Int)(fs:List Fx):Prop where
 out:H b=some (.tup [.int a,.int c,.ref l])
 lst:H l=some (.lst (ps.map V.ref))
 len:ps.length=fs.length
 fld:∀ (i:Nat) p f,ps[i]?=some p->fs[i]?=some f->FxAt H p f
@[irreducible] def zh1:Sp:=fun vs H Q _=>∃ (l:Addr) (ps:List Addr) (r0:Rw) (rs:List Rw),vs=[.ref l]/\zq2 H l ps (r0 :: rs)/\RwsB 1000000 r0 rs/\rs.length<=1000000/\∀ b l' ps' H',Same H H'->BzAt H' b l' ps' (r0.2.getD 0 0) (r0.2.getD 1 0) (rs.map (fyOf (r0.2.getD 0 0) (r0.2.getD 1 0)))->Q (.ref b) H'
theorem zam8{l:Addr}{r0:Rw}{rs:List Rw}(R:zq2 H l ps (r0 :: rs))(B:RwsB 1000000 r0 rs)(hl:rs.length<=1000000)(k:∀ b l' ps' H',Same H H'->BzAt H' b l' ps' (r0.2.getD 0 0) (r0.2.getD 1 0) (rs.map (fyOf (r0.2.getD 0 0) (r0.2.getD 1 0)))->Q (.ref b) H'):zh1 [.ref l] H Q E:=by
 unfold zh1;exact⟨l,ps,r0,rs,rfl,R,B,hl,k⟩
theorem zaf5{α:Type}{l:List α}{x y:α}{j:Nat}(h:(l++[x])[j]?=some y):(j<l.length/\l[j]?=some y)∨(j=l.length/\y=x):=by
 by_cases hj:j<l.length
 ·rw[zcb0 hj] at h
  exact .inl ⟨hj,h⟩
 ·rw[zca4 (by rfl')] at h
  have h0:j - l.length=0:=by
   have:=(zby9.mp h).1
   simp at this;omega
  rw[h0] at h
  exact .inr ⟨by rfl',(Option.some.inj h).symm⟩
theorem zam0{f:Addr}(F:Fun K "battle_of" "battle_of" zr7 f fd)(N:Nm mg)(zbw6:Def P w K mg base CX0 2 "field_of" ["first","second","row"] zi6):FnOk P w K mg base CX0 3 f fd ["rows"] zh1:=by
 refine F.ok zo9 (fun vs H Q E h=>by unfold zh1 at h;obtain⟨_,_,_,_,rfl,_⟩:=h;rfl) fun _ _ _ s H vs Q E hr h=>?_
 unfold zh1 at h
 obtain⟨l,ps,r0,rs,rfl,R,B,hl,k⟩:=h
 have hu:=hu40 hr
 have rl:=R.len
 rw[zca2] at rl
 obtain⟨p0,ps',rfl⟩:∃ p0 ps',ps=p0 :: ps':=by
  cases ps with
  | nil=>simp at rl
  | cons x y=>exact⟨x,y,rfl⟩
 rw[zca2] at rl
 obtain⟨w0,z0⟩:=r0
 obtain⟨hw,hl2,hb0⟩:=B.h
 obtain⟨a,c,rfl⟩:∃ a c,z0=[a,c]:=by
  match z0,hl2 with
  | [a,c],_=>exact⟨a,c,rfl⟩
 have ba:BgA a:=hb0 a (by simp)
 have bc:BgA c:=hb0 c (by simp)
 have k:∀ b l' ps' H',Same H H'->BzAt H' b l' ps' a c (rs.map (fyOf a c))->Q (.ref b) H':=k
 have h0:H p0=some (.tup [.str w0,.int a,.int c]):=R.row 0 p0 (w0,[a,c]) rfl rfl
 have hrow:∀ (i:Nat) p r,ps'[i]?=some p->rs[i]?=some r->RwT H p r:=fun i p r e1 e2=>R.row (i+1) p r (by rw[zce5];exact e1) (by rw[zce5];exact e2)
 refine⟨_,(za3 (psS (i:=1) zo9.nd (zb9 (K:=K) rfl (zb9 (K:=K) rfl (pq 0) za2) za2))
   (za3 (psS (i:=2) zo9.nd (zb9 (K:=K) rfl (zb9 (K:=K) rfl (pq 0) za2) za2))
   (za7 (zb1 (zu2 (za0 (pq 1) (za0 (pq 2) (za0 (zv6 (N:=["row","first","second"]) (ks:=[none,some 1,some 2]) (zq5 (K:=K) rfl (zh6 (slZK (K:=K) rfl) (pq 0) (zn8 za2) zl4)) (fun _ _ _ _ _=>(ze2 (i:=0) nb_5 rfl (by eq_refl))) (fun _ _ _ _ _=>zo6) (fun _ _ _ _ _=>(pD zbw6 hr zd6 (za0 (pq 1) (za0 (pq 2) (za0 (pq 0) za1))))) (.skip (.take rfl rfl (by eq_refl) (.take rfl rfl (by eq_refl) .nil)))) za1)))))))),?_⟩
 refine zn5 (v:=.ref p0) R.out (zd0 (j:=0) rfl) ?_
 refine zb3 (v:=.int a) h0 rfl ?_
 refine zn5 (v:=.ref p0) R.out (zd0 (j:=0) rfl) ?_
 refine zb3 (v:=.int c) h0 rfl ?_
 refine zx6 (SqL.of R.out) (fun l1 H1 f1 s1 k1=>?_)
 rw[zw8 (by decide)] at k1
 have k1:H1 l1=some (.lst (ps'.map V.ref)):=k1
 refine zj9 k1 ?_
 refine zbb1 (Wk.list (SqL.of k1)) (by rw[zby7,zci0];omega) (fun acc i ys σ I=>∃ (t:Option V) (qs:List Addr),σ=[t,some (.int a),some (.int c)]/\ys=qs.map V.ref/\qs.length=i/\(∀ (j:Nat) p r,qs[j]?=some p->rs[j]?=some r->FxAt (rm acc I) p (fyOf a c r))) ?_ ?_ ?_ ?_
 ·intro acc I f3 s3 h3
  exact⟨none,[],rfl,rfl,rfl,fun j p f e=>by simp at e⟩
 ·rintro acc i ys σ I J sJ ⟨t,qs,rfl,rfl,ql,pf⟩
  exact⟨t,qs,rfl,rfl,ql,fun j p f e1 e2=>(pf j p f e1 e2).same (Same.rm sJ)⟩
 ·rintro acc i x ys σ I R' S' hi facc sI hacc hx ⟨t,qs,rfl,rfl,ql,pf⟩ kR _
  rw[zbz1] at hx
  obtain⟨p,ep,rfl⟩:=zbz5.mp hx
  obtain⟨r,er⟩:∃ r,rs[i]?=some r:=⟨_,zby8 (by have:=(zby9.mp ep).1;omega)⟩
  obtain⟨_,r2,r3⟩:=B.f r (zca5 er)
  refine br_T ?_
  refine zap8 (r:=r) ((s1.trans sI) _ _ (hrow i p r ep er)) ba bc (by rcases r3 with ⟨_,h⟩|⟨_,h⟩<;>omega) r2 (fun p' J sJ hf=>?_)
  ac_nf
  have hf:=hf acc _ hacc
  refine kR _ _ _ sJ (fun J2 c2=>⟨_,qs++[p'],rfl,by rw[zcd2];rfl,by rw[zbz2,ql];rfl,fun j p2 r4 e1 e2=>?_⟩)
  rcases zaf5 e1 with ⟨hj,e1⟩|⟨hj,rfl⟩
  ·exact (pf j p2 r4 e1 e2).same (fun b o e=>zak3 (zad9 e).1 (c2 _ _ (zad9 e).1 (sJ _ _ (zad9 e).2)))
  ·have:r=r4:=Option.some.inj (er.symm.trans (by rw[show i=j by rfl'];exact e2))
   subst this
   exact hf.same (Chg.rm c2)
 ·rintro acc ys σ I facc sI hacc ⟨t,qs,rfl,rfl,ql,pf⟩
  rw[zby7] at ql
  refine zd3 (fun b H3 f3 s3 h3=>?_)
  ac_nf
  refine k b acc qs H3 ((s1.trans sI).trans s3) ⟨h3,s3 _ _ hacc,by rw[zby7];omega,fun i p f e1 e2=>?_⟩
  rw[zbz1] at e2
  obtain⟨r,er,rfl⟩:=zbz5.mp e2
  exact (pf i p r e1 er).same ((zbq9 _ _).trans s3)
def resB(x:Str):Nat ⊕ (Int×Int×List Fx):=match zo2 sbB x with
 | .inl k=>.inl k
 | .inr []=>.inl 0
 | .inr (r0 :: rs)=>if (decide (Sz (r0.2.getD 0 0) (r0.2.getD 1 0) rs.length)&&(rs.map (fyOf (r0.2.getD 0 0) (r0.2.getD 1 0))).all (isF (r0.2.getD 0 0) (r0.2.getD 1 0)))=true then .inr (r0.2.getD 0 0,r0.2.getD 1 0,rs.map (fyOf (r0.2.getD 0 0) (r0.2.getD 1 0))) else .inl (rs.length+1)
theorem zbj2{x:Str}{rs:List Rw}(h:zo2 sbB x=.inr rs):(∃ xs,goP sbB xs []=.inr rs/\∀ y∈xs,y.length<=x.length)/\rs.length<=x.length+1:=by
 obtain⟨xs,y,el⟩:=zp9 x
 have ll:=zw3 x
 rw[el,zbz2,zcb1] at ll
 have sh:∀ z∈xs,z.length<=x.length:=fun z hz=>zt4 (by rw[el];exact zce6 _ hz)
 unfold zo2 at h
 rw[el,zce7] at h
 cases hg:goP sbB xs [] with
 | inl k=>rw[hg] at h;cases h
 | inr us=>
  rw[hg] at h
  dsimp only at h
  split at h
  ·cases h
   have:=zz6 hg
   rw[zcd1] at this
   exact⟨⟨xs,hg,sh⟩,by rfl'⟩
  ·cases h
theorem fy_gd{a c:Int}{r0:Rw}{rs:List Rw}(B:RwsB m r0 rs)(h:(0<=a/\a<=10)/\0<=c/\c<=10):∀ r∈rs,(fyOf a c r).Gd:=fun r hr=>by
 obtain⟨_,_,k⟩:=B.f r hr
 unfold fyOf
 split
 ·split
  ·refine⟨?_,fun x hx=>?_⟩
   ·unfold zu7
    rw[zby7,zcg8];omega
   ·unfold zu7 at hx
    obtain⟨i,_,rfl⟩:=zcf4.mp hx
    rw[zcd6];omega
  ·exact trivial
 ·rename_i ht
  refine⟨ht,?_⟩
  rcases k with ⟨_,k⟩|⟨k,_⟩
  ·omega
  ·exact absurd k ht
@[irreducible] def zf3(zbr7:Addr):Sp:=fun vs H Q E=>∃ (x:Str),vs=[.str x]/\x.length<=100000 /\
 (∀ a c fs,resB x=.inr (a,c,fs)->∀ b l ps H',Same H H'->BxAt H' b l ps a c fs->Q (.ref b) H') /\
 (∀ k:Nat,resB x=.inl k->∀ d H',H d=none->Same H H'->H' d=some (.xd [("row",.int k)])->E (.ref zbr7) (some d) H')
theorem zab5{x:Str}(hx:x.length<=100000)(q1:∀ a c fs,resB x=.inr (a,c,fs)->∀ b l ps H',Same H H'->BxAt H' b l ps a c fs->Q (.ref b) H')(q2:∀ k:Nat,resB x=.inl k->∀ d H',H d=none->Same H H'->H' d=some (.xd [("row",.int k)])->E (.ref zbr7) (some d) H'):zf3 zbr7 [.str x] H Q E:=by unfold zf3;exact⟨x,rfl,hx,q1,q2⟩
theorem zbb0{a c:Int}:∀ {fs:List Fx},fs.all (isF a c)=false->∃ (j:Nat) (f:Fx),fs[j]?=some f/\isF a c f=false/\∀ (i:Nat) g,i<j->fs[i]?=some g->isF a c g=true
 | [],h=>by cases h
 | f :: fs,h=>by
  rw[List.all_cons] at h
  cases hf:isF a c f
  ·exact⟨0,f,rfl,hf,fun i g hi=>absurd hi (Nat.not_lt_zero _)⟩
  ·rw[hf,zcc4] at h
   obtain⟨j,g,e1,e2,e3⟩:=zbb0 h
   refine⟨j+1,g,e1,e2,fun i g' hi e=>?_⟩
   cases i with
   | zero=>cases e;exact hf
   | succ i=>exact e3 i g' (by rfl') e
theorem zaa8{f:Addr}(F:Fun K "read_battle" "read_battle" zm9 f fd)(N:Nm mg)(hTR:chIn K zbr7=some true)(hTB:chIn K zbr6=some false)(hTM:zcg6 K (.ref zbr6) (.ref zbr6)=some true)(zbw0:Def P w K mg base CX0 3 "battle_of" ["rows"] zh1)(zbv0:Def P w K mg base (CXR P w) 6 "look_battle" ["battle"] (zc3 zbr6))(zbt8:Def P w K mg base (CXR P w) 4 "read_rows" ["text","stands"] (zd8 mg zbr7))(zbs9:Def P w K mg base CX0 1 "stands_in_battle" ["ahead","row"] zc2)(Z:Cz K mg base zbr8 zbr6 zbs5 zbt2 zbr9 zbs6 zbs2 zbs0 zbs1 zbs7 zbr7 zbt3 zbs8 zbs3 zbs4 zbt4):FnOk P w K mg base (CXR P w) 7 f fd ["text"] (zf3 zbr7):=by
 refine F.okR zl9 (fun vs H Q E h=>by unfold zf3 at h;obtain⟨_,rfl,_⟩:=h;rfl) (fun cdv A outer s H vs Q E hr hX h=>?_)
 unfold zf3 at h
 obtain⟨x,rfl,hx,q1,q2⟩:=h
 have hu:=hu40 hr
 refine⟨_,(za3 (psS (i:=1) zl9.nd (pD zbt8 hr (passR hX) (za0 (pq 0) (za0 (peFn zbs9) za1))))
   (za3 (psIf (ptC (oEqK (K:=K) rfl (by exact hu)) (pB (zn1 (K:=K) rfl) N.len_ zi2 (za0 (pq 1) za1)) za2) (za7 (zl1 Z.z_NoText Z.g_NoText (zk3 Z.fi_NoText Z.z_NoText) (hr.mono (by decide)) rfl hX za2)) zc1)
   (za3 (psS (i:=2) zl9.nd (pD zbw0 hr zd6 (za0 (pq 1) za1)))
   (za3 (psTryR (K:=K) rfl Z.g_NoBattle (zat8 (zbm8 zbv0 hr (za0 (pq 2) za1))) Z.z_NoText Z.g_NoText (zaq2 Z.fi_NoText Z.z_NoText) hr hX (fun _=>PassesOwnAt.leaving) (fun ea=>(pB (zn1 (K:=K) rfl) N.len_ zi2 (za0 (pq 1) za1))) hTR)
   (za7 (zb1 (pq 2))))))),?_⟩
 refine fn_rd (fun v hv=>?_)
 refine zai9 hv hx (fun rs hrs l ps H1 g1 s1 R1=>?_) (fun k hk d H1 fd sd hd=>q2 k (by unfold resB;rw[hk]) d H1 fd sd hd)
 obtain⟨⟨xs,go,sh⟩,rl⟩:=zbj2 hrs
 have pl:=R1.len
 refine zg7 R1.out ?_
 rw[zby7,pl]
 ac_nf
 cases rs with
 | nil=>
  refine zk9 rfl ?_
  ac_nf
  exact ze8 (fun d J' fd sJ' hd=>q2 0 (by unfold resB;rw[hrs]) d J' (s1.free fd) (s1.trans sJ') hd)
 | cons r0 rs=>
  have B:RwsB 1000000 r0 rs:=zbo7 (fun y hy=>by have:=sh y hy;omega) go
  rw[zca2] at rl
  have re:resB x=if (decide (Sz (r0.2.getD 0 0) (r0.2.getD 1 0) rs.length)&&(rs.map (fyOf (r0.2.getD 0 0) (r0.2.getD 1 0))).all (isF (r0.2.getD 0 0) (r0.2.getD 1 0)))=true then .inr (r0.2.getD 0 0,r0.2.getD 1 0,rs.map (fyOf (r0.2.getD 0 0) (r0.2.getD 1 0))) else .inl (rs.length+1):=by unfold resB;rw[hrs]
  rw[re] at q1 q2
  refine zm3 (by rw[zca2];omega) ?_
  refine zam8 R1 B (by rfl') (fun b l' ps' H2 s2 Z=>?_)
  generalize r0.2.getD 0 0=a at q1 q2 Z
  generalize r0.2.getD 1 0=c at q1 q2 Z
  have zl:=Z.len
  rw[zby7] at zl
  have tr:(decide (Sz a c rs.length)&&(rs.map (fyOf a c)).all (isF a c))=false->∀ (d:Addr) (H3:Hp),Same H2 H3->zan0 K zbr6 zbr7 "row" E (tCB (rLenM K) (tCons (qV 1) tNil)) [some (.str x),some (.ref l),some (.ref b)] (.ref zbr6) (some d) H3:=fun hb d H3 s3=>by
   refine zbi3 hTM hTB (fun ea H4 g4 s4 h4=>?_)
   have s14:=(s2.trans s3).trans s4
   refine zg7 (s14 _ _ R1.out) ?_
   rw[zby7,pl,zca2]
   refine⟨h4,ze8 (fun d J' fd sJ' hd=>q2 (rs.length+1) (by rw[hb];rfl) d J' ((s1.trans s14).free fd) ((s1.trans s14).trans sJ') hd)⟩
  ac_nf
  by_cases hz:Sz a c rs.length
  rotate_left
  ·refine zai4 Z.out Z.lst (by rw[zby7,zl];exact hz) (fun d H3 f3 s3 h3=>?_)
   exact tr (by rw[decide_eq_false hz];rfl) d H3 s3
  have gd:=fy_gd B hz.1
  have X:BxAt H2 b l' ps' a c (rs.map (fyOf a c)):=⟨Z.out,Z.lst,Z.len,fun i p f e1 e2=>⟨Z.fld i p f e1 e2,by
   rw[zbz1] at e2
   obtain⟨r,er,rfl⟩:=zbz5.mp e2
   exact gd r (zca5 er)⟩⟩
  cases ha:(rs.map (fyOf a c)).all (isF a c)
  ·obtain⟨j,f,e1,e2,e3⟩:=zbb0 ha
   refine zaq5 (k:=(j:Int)) ⟨l',ps',a,c,_,X,by rw[zby7];have:=hz.2.2;omega,.inr ⟨by rw[zby7];exact hz,j,f,rfl,e1,e2,e3⟩⟩ (fun d H3 f3 s3 h3=>?_)
   exact tr (by rw[ha,Bool.and_false]) d H3 s3
  ·refine zal3 X (by rw[zby7];exact hz) (fun f hf=>zcc9.mp ha f hf) (fun H3 s3=>?_)
   ac_nf
   exact q1 a c _ (by rw[decide_eq_true hz,ha];rfl) b l' ps' H3 ((s1.trans s2).trans s3) (X.same s3)
abbrev St2:Type:=List (List F3)×List (List Int)
def zr8(s:St2):List Rw:=zc9 0 s.1++zj3 0 s.2
def GdS(s:St2):Prop:=(∀ xs∈s.1,xs≠[])/\∀ ns∈s.2,ns≠[]
def zm4{α:Type}(xss:List (List α))(k:Int)(z:α):List (List α):=if k=xss.length then xss++[[z]] else xss.dropLast++[xss.getLastD []++[z]]
def zaj0(s:St2)(r:Rw):St2:=if r.1="flow" then (zm4 s.1 (r.2.getD 0 0) (r.2.getD 1 0,r.2.getD 2 0,r.2.getD 3 0),s.2) else (s.1,zm4 s.2 (r.2.getD 0 0) (r.2.getD 2 0))
def zax6(s:St2):Nat:=(s.2.getLastD []).length
def okS(s:St2)(r:Rw):Bool:=if r.1="flow" then decide (s.2=[]/\0<=r.2.getD 0 0/\(r.2.getD 0 0=(s.1.length:Int) - 1∨r.2.getD 0 0=s.1.length))
 else decide (r.1="number"/\0<=r.2.getD 0 0/\((r.2.getD 0 0=s.2.length/\r.2.getD 1 0=0)∨(r.2.getD 0 0=(s.2.length:Int) - 1/\r.2.getD 1 0=zax6 s)))
theorem zx3(k:Nat)(n:Int):∀ (c:Nat) (ns:List Int),numR k c (ns++[n])=numR k c ns++[nuR k (c+ns.length) n]
 | c,[]=>rfl
 | c,m :: r=>by
  show nuR k c m :: numR k (c+1) (r++[n])=nuR k c m :: (numR k (c+1) r++[_])
  rw[zx3 k n (c+1) r,zca2,show c+1+r.length=c+(r.length+1) by rfl']
theorem zt7{α:Type}{xs:List α}(h:xs≠[]):∃ ys y,xs=ys++[y]:=⟨xs.dropLast,xs.getLast h,(List.dropLast_concat_getLast h).symm⟩
theorem zav0{s:St2}(G:GdS s)(h:s.2≠[]):∃ n,(zr8 s).getLast?=some (nuR (s.2.length - 1) (zax6 s - 1) n)/\1<=zax6 s:=by
 obtain⟨as,ns,e⟩:=zt7 h
 obtain⟨ms,n,e2⟩:=zt7 (G.2 ns (by rw[e];simp))
 refine⟨n,?_,?_⟩
 ·unfold zr8 zax6
  rw[e,e2,zm2,zx3,zce1,zbz2,zbz2,← zcb4,← zcb4,zch3]
  simp
 ·unfold zax6
  rw[e,e2,zce1,zbz2]
  simp
theorem zaj1{s:St2}(G:GdS s)(h2:s.2=[])(h:s.1≠[]):∃ z,(zr8 s).getLast?=some (flR (s.1.length - 1) z):=by
 obtain⟨as,xs,e⟩:=zt7 h
 obtain⟨ms,z,e2⟩:=zt7 (G.1 xs (by rw[e];simp))
 refine⟨z,?_⟩
 unfold zr8
 rw[h2,e,e2,zk5,zcd2]
 show (zc9 0 as++(_++[flR (0+as.length) z])++[]).getLast?=_
 rw[zcc3,← zcb4,zch3]
 simp
theorem zam6{s:St2}(h1:s.1=[])(h2:s.2=[]):(zr8 s).getLast?=none:=by
 unfold zr8
 rw[h1,h2]
 rfl
theorem ne_fn:¬ ("number":Str)="flow":=by decide +kernel
theorem spB_ok{s:St2}(G:GdS s)(r:Rw):spB (zr8 s).getLast? r=okS s r:=by
 unfold spB okS
 by_cases hf:r.1="flow"
 ·rw[if_pos hf,if_pos hf]
  by_cases h2:s.2=[]
  ·by_cases h1:s.1=[]
   ·rw[zam6 h1 h2]
    show decide (r.2.getD 0 0=0)=_
    rw[decide_eq_decide,h1]
    simp only[h2,zcd1,true_and]
    omega
   ·obtain⟨z,e⟩:=zaj1 G h2 h1
    have l1:1<=s.1.length:=List.length_pos_iff.mpr h1
    rw[e]
    show (decide (("flow":Str)="flow")&&(decide (r.2.getD 0 0 - ((s.1.length - 1:Nat):Int)=0) || decide (r.2.getD 0 0 - ((s.1.length - 1:Nat):Int)=1)))=_
    rw[decide_eq_true rfl,zcc4,← Bool.decide_or,decide_eq_decide]
    simp only[h2,true_and]
    omega
  ·obtain⟨n,e,_⟩:=zav0 G h2
   rw[e]
   rw[decide_eq_false (fun z=>h2 z.1)]
   show (decide (("number":Str)="flow")&&(decide (r.2.getD 0 0 - ((s.2.length - 1:Nat):Int)=0) || decide (r.2.getD 0 0 - ((s.2.length - 1:Nat):Int)=1)))=false
   rw[decide_eq_false ne_fn]
   rfl
 ·rw[if_neg hf,if_neg hf]
  by_cases hn:r.1="number"
  ·rw[decide_eq_true hn,zcc4]
   by_cases h2:s.2=[]
   ·have e:nsB (zr8 s).getLast? r=decide (r.2.getD 0 0=0/\r.2.getD 1 0=0):=by
     by_cases h1:s.1=[]
     ·rw[zam6 h1 h2];rfl
     ·obtain⟨z,e⟩:=zaj1 G h2 h1
      rw[e]
      show (if ("flow":Str)="flow" then decide (r.2.getD 0 0=0/\r.2.getD 1 0=0) else (decide (r.2.getD 0 0=((s.1.length - 1:Nat):Int)/\r.2.getD 1 0=z.1+1) || decide (r.2.getD 0 0=((s.1.length - 1:Nat):Int)+1/\r.2.getD 1 0=0)))=_
      rw[if_pos rfl]
    rw[e,decide_eq_decide]
    simp only[h2,hn,zcd1,true_and]
    omega
   ·obtain⟨n,e,ln⟩:=zav0 G h2
    have l2:1<=s.2.length:=List.length_pos_iff.mpr h2
    rw[e]
    show (if ("number":Str)="flow" then decide (r.2.getD 0 0=0/\r.2.getD 1 0=0) else (decide (r.2.getD 0 0=((s.2.length - 1:Nat):Int)/\r.2.getD 1 0=((zax6 s - 1:Nat):Int)+1) || decide (r.2.getD 0 0=((s.2.length - 1:Nat):Int)+1/\r.2.getD 1 0=0)))=_
    rw[if_neg ne_fn,← Bool.decide_or,decide_eq_decide]
    simp only[hn,true_and]
    omega
  ·rw[decide_eq_false hn,zch6,decide_eq_false (fun z=>hn z.1)]
theorem zbo1{r:Rw}(h:RgR r)(e:r.1="flow"):r=(("flow":Str),[r.2.getD 0 0,r.2.getD 1 0,r.2.getD 2 0,r.2.getD 3 0]):=by
 rcases h with ⟨_,h⟩|⟨h,_⟩
 ·obtain⟨w,zs⟩:=r
  match zs,h with
  | [a,b,c,d],_=>rw[show w="flow" from e];rfl
 ·rw[e] at h;exact absurd h.symm ne_fn
theorem rg_num{r:Rw}(h:RgR r)(e:¬ r.1="flow"):r=(("number":Str),[r.2.getD 0 0,r.2.getD 1 0,r.2.getD 2 0]):=by
 rcases h with ⟨h,_⟩|⟨h1,h⟩
 ·exact absurd h e
 ·obtain⟨w,zs⟩:=r
  match zs,h with
  | [a,b,c],_=>rw[show w="number" from h1];rfl
theorem zbb7{s:St2}{r:Rw}(G:GdS s)(h:RgR r)(ok:spB (zr8 s).getLast? r=true):zr8 (zaj0 s r)=zr8 s++[r]/\GdS (zaj0 s r):=by
 rw[spB_ok G] at ok
 unfold okS at ok
 by_cases hf:r.1="flow"
 ·rw[if_pos hf,decide_eq_true_eq] at ok
  obtain⟨h2,k0,hk⟩:=ok
  have er:=zbo1 h hf
  generalize ek:r.2.getD 0 0=k at er k0 hk
  have ps:zaj0 s r=(zm4 s.1 k (r.2.getD 1 0,r.2.getD 2 0,r.2.getD 3 0),s.2):=by unfold zaj0;rw[if_pos hf,ek]
  rw[ps]
  generalize r.2.getD 1 0=a at er ⊢
  generalize r.2.getD 2 0=b at er ⊢
  generalize r.2.getD 3 0=c at er ⊢
  obtain⟨xss,nss⟩:=s
  have h2:nss=[]:=h2
  subst h2
  have hk:k=(xss.length:Int) - 1∨k=xss.length:=hk
  by_cases e:k=xss.length
  ·have es:zm4 xss k (a,b,c)=xss++[[(a,b,c)]]:=by unfold zm4;rw[if_pos e]
   refine⟨?_,?_,G.2⟩
   ·show zc9 0 (zm4 xss k (a,b,c))++[]=zc9 0 xss++[]++[r]
    rw[es,zk5,er,zcc3,zcc3,e,zch2]
    rfl
   ·show ∀ xs∈zm4 xss k (a,b,c),xs≠[]
    rw[es]
    intro xs hx
    rcases zcc1.mp hx with hx|hx
    ·exact G.1 xs hx
    ·rw[zcd5.mp hx];simp
  ·have e1:k=(xss.length:Int) - 1:=by rfl'
   have hx:xss≠[]:=fun z=>by rw[z,zcd1] at e1;omega
   obtain⟨as,ys,rfl⟩:=zt7 hx
   have es:zm4 (as++[ys]) k (a,b,c)=as++[ys++[(a,b,c)]]:=by
    unfold zm4
    rw[if_neg e,zce7,zce1]
   rw[zbz2,zcb1] at e1
   refine⟨?_,?_,G.2⟩
   ·show zc9 0 (zm4 (as++[ys]) k (a,b,c))++[]=zc9 0 (as++[ys])++[]++[r]
    rw[es,zk5,zk5,er,zcc3,zcc3,zcd2,zcb4,show k=(as.length:Int) by rfl',zch2]
    rfl
   ·show ∀ xs∈zm4 (as++[ys]) k (a,b,c),xs≠[]
    rw[es]
    intro xs hx
    rcases zcc1.mp hx with hx|hx
    ·exact G.1 xs (zce6 _ hx)
    ·rw[zcd5.mp hx];simp
 ·rw[if_neg hf,decide_eq_true_eq] at ok
  obtain⟨hn,k0,hk⟩:=ok
  have er:=rg_num h hf
  generalize ek:r.2.getD 0 0=k at er k0 hk
  have ps:zaj0 s r=(s.1,zm4 s.2 k (r.2.getD 2 0)):=by unfold zaj0;rw[if_neg hf,ek]
  rw[ps]
  generalize ed:r.2.getD 1 0=d at er hk
  generalize r.2.getD 2 0=n at er ⊢
  obtain⟨xss,nss⟩:=s
  have hk:(k=nss.length/\d=0)∨(k=(nss.length:Int) - 1/\d=((nss.getLastD []).length:Nat)):=hk
  by_cases e:k=nss.length
  ·have d0:d=0:=by rfl'
   have es:zm4 nss k n=nss++[[n]]:=by unfold zm4;rw[if_pos e]
   refine⟨?_,G.1,?_⟩
   ·show zc9 0 xss++zj3 0 (zm4 nss k n)=zc9 0 xss++zj3 0 nss++[r]
    rw[es,zm2,er,← zcb4,e,d0,zch2]
    rfl
   ·show ∀ xs∈zm4 nss k n,xs≠[]
    rw[es]
    intro xs hx
    rcases zcc1.mp hx with hx|hx
    ·exact G.2 xs hx
    ·rw[zcd5.mp hx];simp
  ·have e1:k=(nss.length:Int) - 1/\d=((nss.getLastD []).length:Nat):=by rcases hk with z|z;exact absurd z.1 e;exact z
   have hx:nss≠[]:=fun z=>by rw[z,zcd1] at e1;omega
   obtain⟨as,ys,rfl⟩:=zt7 hx
   rw[zce1,zbz2,zcb1] at e1
   have es:zm4 (as++[ys]) k n=as++[ys++[n]]:=by
    unfold zm4
    rw[if_neg e,zce7,zce1]
   refine⟨?_,G.1,?_⟩
   ·show zc9 0 xss++zj3 0 (zm4 (as++[ys]) k n)=zc9 0 xss++zj3 0 (as++[ys])++[r]
    rw[es,zm2,zm2,zx3,er,zcb4,zcb4,show k=(as.length:Int) by rfl',e1.2]
    rw[zch2,zch2]
    rfl
   ·show ∀ xs∈zm4 (as++[ys]) k n,xs≠[]
    rw[es]
    intro xs hx
    rcases zcc1.mp hx with hx|hx
    ·exact G.2 xs (zce6 _ hx)
    ·rw[zcd5.mp hx];simp
def stOf(rs:List Rw):St2:=rs.foldl zaj0 ([],[])
theorem zbk5:∀ {xs:List Str}{acc rs:List Rw},GdS (stOf acc)->zr8 (stOf acc)=acc->goP spB xs acc=.inr rs->GdS (stOf rs)/\zr8 (stOf rs)=rs
 | [],acc,rs,h1,h2,h=>by cases h;exact⟨h1,h2⟩
 | x :: xs,acc,rs,h1,h2,h=>by
  rw[ze1] at h
  cases hr:rowP x with
  | none=>rw[hr] at h;cases h
  | some r=>
   rw[hr] at h
   dsimp only at h
   by_cases hs:spB acc.getLast? r=true
   ·rw[if_pos hs] at h
    have rw':RgW r:=zat2 hr
    have hs2:spB (zr8 (stOf acc)).getLast? r=true:=by rw[h2];exact hs
    obtain⟨p1,p2⟩:=zbb7 h1 (zbl3 rw' hs) hs2
    have e:stOf (acc++[r])=zaj0 (stOf acc) r:=by unfold stOf;rw[List.foldl_append];rfl
    exact zbk5 (by rw[e];exact p2) (by rw[e,p1,h2]) h
   ·rw[if_neg hs] at h
    cases h
theorem zbn5{xs:List Str}{rs:List Rw}(h:goP spB xs []=.inr rs):GdS (stOf rs)/\zr8 (stOf rs)=rs:=zbk5 (acc:=[]) ⟨(fun _ h=>absurd h zbz7),(fun _ h=>absurd h zbz7)⟩ rfl h
def resP(x:Str):Nat ⊕ St2:=match zo2 spB x with
 | .inl k=>.inl k
 | .inr rs=>if (stOf rs).1.isEmpty || (stOf rs).2.isEmpty then .inl rs.length else .inr (stOf rs)
def zg5(acc:List (List V))(x:Nat×V):List (List V):=(if x.1=acc.length then acc++[[]] else acc).set x.1 ((if x.1=acc.length then acc++[[]] else acc).getD x.1 []++[x.2])
structure LsN(H0 H:Hp)(L:Addr)(qs:List Addr)(acc:List (List V)):Prop where
 fr:H0 L=none
 out:H L=some (.lst (qs.map V.ref))
 len:qs.length=acc.length
 nd:(L :: qs).Nodup
 row:∀ (i:Nat) q xs,qs[i]?=some q->acc[i]?=some xs->H0 q=none/\H q=some (.lst xs)
theorem LsN.same{H0:Hp}{L:Addr}(R:LsN H0 H L qs acc)(s:Same H H'):LsN H0 H' L qs acc:=⟨R.fr,s _ _ R.out,R.len,R.nd,fun i q xs e1 e2=>⟨(R.row i q xs e1 e2).1,s _ _ (R.row i q xs e1 e2).2⟩⟩
theorem zak4(acc:List (List V))(x:Nat×V):(zg5 acc x).length=if x.1=acc.length then acc.length+1 else acc.length:=by
 unfold zg5
 rw[zcg2]
 split
 ·rw[zbz2];rfl
 ·rfl
theorem zar5{k:Nat}(h:∀ ys∈acc,ys.length<=m):∀ ys∈(if k=acc.length then acc++[[]] else acc),ys.length<=m:=fun ys hy=>by
 split at hy
 ·rcases zcc1.mp hy with hy|hy
  ·exact h ys hy
  ·rw[zcd5.mp hy];exact zcg0 _
 ·exact h ys hy
theorem zbg5{x:Nat×V}(h:∀ ys∈acc,ys.length<=m):∀ ys∈zg5 acc x,ys.length<=m+1:=fun ys hy=>by
 unfold zg5 at hy
 have hm:=zar5 (k:=x.1) h
 rcases List.mem_or_eq_of_mem_set hy with hy|rfl
 ·have:=hm ys hy;omega
 ·rw[zbz2,zcb1,zca6]
  cases e:(if x.1=acc.length then acc++[[]] else acc)[x.1]? with
  | none=>show 0+1<=m+1;omega
  | some z=>have:=hm z (zca5 e);show z.length+1<=m+1;omega
@[irreducible] def zh2:Sp:=fun vs H Q _=>∃ (l:Addr) (ts:List Addr) (sq:List (Nat×V)),vs=[.ref l]/\H l=some (.lst (ts.map V.ref))/\ts.length=sq.length/\(∀ (i:Nat) t x,ts[i]?=some t->sq[i]?=some x->H t=some (.tup [.int x.1,x.2]))/\sq.length<=200000/\(∀ (i:Nat) x,sq[i]?=some x->x.1<=((sq.take i).foldl zg5 []).length)/\∀ L qs H',Same H H'->LsN H H' L qs (sq.foldl zg5 [])->Q (.ref L) H'
theorem zv2{l:Addr}{ts:List Addr}{sq:List (Nat×V)}(h:H l=some (.lst (ts.map V.ref)))(hl:ts.length=sq.length)(ht:∀ (i:Nat) t x,ts[i]?=some t->sq[i]?=some x->H t=some (.tup [.int x.1,x.2]))(h1:sq.length<=200000)(h2:∀ (i:Nat) x,sq[i]?=some x->x.1<=((sq.take i).foldl zg5 []).length)(q:∀ L qs H',Same H H'->LsN H H' L qs (sq.foldl zg5 [])->Q (.ref L) H'):zh2 [.ref l] H Q E:=by unfold zh2;exact⟨l,ts,sq,rfl,h,hl,ht,h1,h2,q⟩
theorem LsN.put{H0:Hp}{L q:Addr}{k:Nat}{ys:List V}(R:LsN H0 H L qs acc)(e:qs[k]?=some q)(c:Chg q H H')(h:H' q=some (.lst ys)):LsN H0 H' L qs (acc.set k ys):=by
 have hk:=(zby9.mp e).1
 have nd:=R.nd
 rw[zcf1] at nd
 refine⟨R.fr,c _ _ (fun z=>nd.1 (by rw[z];exact zca5 e)) R.out,by rw[zcg2];exact R.len,R.nd,fun i q' xs e1 e2=>?_⟩
 by_cases hi:i=k
 ·subst hi
  rw[e] at e1
  cases e1
  rw[zce2 (by have:=R.len;omega)] at e2
  cases e2
  obtain⟨z,ez⟩:∃ z,acc[i]?=some z:=⟨_,zby8 (by have:=R.len;omega)⟩
  exact⟨(R.row i q z e ez).1,h⟩
 ·rw[zch0 (fun z=>hi z.symm)] at e2
  obtain⟨r1,r2⟩:=R.row i q' xs e1 e2
  refine⟨r1,c _ _ (fun z=>hi ?_) r2⟩
  subst z
  exact (List.getElem?_inj (zby9.mp e1).1 nd.2).mp (e1.trans e.symm)
theorem LsN.snoc{H0 H1:Hp}{L q:Addr}(R:LsN H0 H1 L qs acc)(s0:Same H0 H1)(g:H1 q=none)(s:Same H1 H)(hq:H q=some (.lst []))(c:Chg L H H')(h:H' L=some (.lst (qs.map V.ref++[.ref q]))):LsN H0 H' L (qs++[q]) (acc++[[]]):=by
 have nd:=R.nd
 rw[zcf1] at nd
 have nql:q≠L:=Ne.symm (za4 R.out g)
 have old:∀ x∈qs,x≠q:=fun x hx z=>by
  obtain⟨i,ei⟩:=zce0 hx
  obtain⟨ys,ey⟩:∃ z,acc[i]?=some z:=⟨_,zby8 (by have:=R.len;have:=(zby9.mp ei).1;omega)⟩
  have:=(R.row i x ys ei ey).2
  rw[z,g] at this
  cases this
 refine⟨R.fr,by rw[h,zcd2];rfl,by rw[zbz2,zbz2,R.len];rfl,?_,fun i q' xs e1 e2=>?_⟩
 ·rw[zcf1,zcc1,List.nodup_append]
  refine⟨fun z=>?_,nd.2,by simp,fun a ha b hb=>?_⟩
  ·rcases z with z|z
   ·exact nd.1 z
   ·exact nql (zcd5.mp z).symm
  ·rw[zcd5.mp hb];exact old a ha
 ·by_cases hi:i<qs.length
  ·rw[zcb0 hi] at e1
   rw[zcb0 (by have:=R.len;omega)] at e2
   obtain⟨r1,r2⟩:=R.row i q' xs e1 e2
   exact⟨r1,c _ _ (fun z=>nd.1 (by rw[← z];exact zca5 e1)) (s _ _ r2)⟩
  ·rw[zca4 (by rfl')] at e1
   rw[zca4 (by have:=R.len;omega),← R.len] at e2
   have i0:i - qs.length=0:=by have:=(zby9.mp e1).1;simp at this;omega
   rw[i0] at e1 e2
   cases e1
   cases e2
   exact⟨s0.free g,c _ _ nql hq⟩
theorem zah9{f:Addr}(F:Fun K "by_fields" "by_fields" zr3 f fd)(N:Nm mg):FnOk P w K mg base CX0 1 f fd ["pairs"] zh2:=by
 refine F.ok zl0 (fun vs H Q E h=>by unfold zh2 at h;obtain⟨_,_,_,rfl,_⟩:=h;rfl) fun _ _ _ s H vs Q E hr h=>?_
 unfold zh2 at h
 obtain⟨l,ts,sq,rfl,hl0,tl,ht,sl,hk,q⟩:=h
 have hu:=hu40 hr
 refine⟨_,(za3 (psS (i:=1) zl0.nd (zn4 za1))
   (za3 (zax8 PassesOwn.never rfl (zq5 (K:=K) rfl (pq 0)) (zar4 (K:=K) (n:=2) rfl rfl (zo4 (ze2 (i:=2) zl0.nd rfl (by eq_refl)) (zo4 (ze2 (i:=3) zl0.nd rfl (by eq_refl)) zav6))) (za3 (zbd6 (psIf (ptC (zo1 (K:=K) rfl (by exact hu)) (pq 2) (pB (zn1 (K:=K) rfl) N.len_ zi2 (za0 (pq 1) za1))) (za7 (zag7 (zq0 (pq 1) (za0 (zn4 za1) za1)))) zc1))
   (za7 (zag7 (zq0 (zb9 (K:=K) rfl (pq 1) (pq 2)) (za0 (pq 3) za1))))))
   (za7 (zb1 (pq 1))))),?_⟩
 refine zb6 (fun L H1 g1 s1 k1=>?_)
 have nlL:l≠L:=za4 hl0 g1
 refine zj9 (s1 _ _ hl0) ?_
 refine zah7 (xs:=ts.map V.ref) (fun i σ I=>∃ (y2 y3:Option V) (qs:List Addr),σ=[some (.ref l),some (.ref L),y2,y3]/\Same H I/\LsN H I L qs ((sq.take i).foldl zg5 [])/\((sq.take i).foldl zg5 []).length<=i/\∀ ys∈(sq.take i).foldl zg5 [],ys.length<=i) ?_ ?_ ?_ ?_
 ·exact⟨_,_,[],rfl,s1,⟨g1,k1,rfl,by simp,fun i q xs e=>by simp at e⟩,zca7 _,fun ys hy=>by cases hy⟩
 ·rintro i σ I _ ⟨_,_,_,_,sI,_⟩
  exact SqL.of (sI _ _ hl0)
 ·rintro i y σ I hy ⟨y2,y3,qs,rfl,sI,R,al,am⟩
  rw[zbz1] at hy
  obtain⟨t,et,rfl⟩:=zbz5.mp hy
  have hi:=(zby9.mp et).1
  obtain⟨x,ex⟩:∃ x,sq[i]?=some x:=⟨_,zby8 (by rfl')⟩
  have kx:=hk i x ex
  have ql:=R.len
  have sl2:=zak4 ((sq.take i).foldl zg5 []) x
  have fo:((sq.take (i+1)).foldl zg5 [])=zg5 ((sq.take i).foldl zg5 []) x:=by rw[List.take_succ,ex,List.foldl_append];rfl
  rw[fo]
  generalize (sq.take i).foldl zg5 []=acc at R al am kx ql sl2 ⊢
  refine zx0 (sI _ _ (ht i t x et ex)) ?_
  refine zas0 (fun σ J=>∃ qs',σ=[some (.ref l),some (.ref L),some (.int x.1),some x.2]/\Same H J/\LsN H J L qs' (if x.1=acc.length then acc++[[]] else acc)) ?_ ?_
  ·ac_nf
   refine zg7 R.out ?_
   rw[zby7,ql]
   refine ze0 (fun hx=>?_) (fun hx=>?_)
   ·ac_nf
    refine zac4 R.out ?_
    refine zb6 (fun q0 J1 f1 t1 h1=>?_)
    refine zau9 (t1 _ _ R.out) (by rw[zby7,zci0];omega) (fun J2 c2 h2=>?_)
    ac_nf
    refine⟨qs++[q0],rfl,fun b o z=>c2 _ _ (za4 z R.fr) ((sI.trans t1) _ _ z),?_⟩
    rw[if_pos (by rfl')]
    exact R.snoc sI f1 t1 h1 c2 h2
   ·ac_nf
    refine⟨qs,rfl,sI,?_⟩
    rw[if_neg (by rfl')]
    exact R
  rintro σ J ⟨qs',rfl,sJ,R'⟩
  have ql':=R'.len
  have kl:x.1<(if x.1=acc.length then acc++[[]] else acc).length:=by
   split
   ·rw[zbz2,zcb1];omega
   ·omega
  obtain⟨q0,eq0⟩:∃ q0,qs'[x.1]?=some q0:=⟨_,zby8 (by rfl')⟩
  obtain⟨xs,exs⟩:∃ z,(if x.1=acc.length then acc++[[]] else acc)[x.1]?=some z:=⟨_,zby8 kl⟩
  obtain⟨fq,hq0⟩:=R'.row x.1 q0 xs eq0 exs
  have gd:(if x.1=acc.length then acc++[[]] else acc).getD x.1 []=xs:=by rw[zca6,exs];rfl
  refine zn5 (v:=.ref q0) R'.out (zd0 (by rw[zbz1,eq0];rfl)) ?_
  refine zac4 hq0 ?_
  ac_nf
  have xl:xs.length<=i:=zar5 am xs (zca5 exs)
  refine zau9 hq0 (by rw[zci0];omega) (fun J3 c3 h3=>?_)
  ac_nf
  refine⟨_,_,qs',rfl,fun b o z=>c3 _ _ (za4 z fq) (sJ _ _ z),?_,?_,zbg5 am⟩
  ·unfold zg5
   rw[gd]
   exact R'.put eq0 c3 h3
  ·rw[sl2];split<;>omega
 ·rintro σ I ⟨y2,y3,qs,rfl,sI,R,al,_⟩
  rw[zby7,tl,List.take_length] at R
  ac_nf
  exact q L qs I sI R
def grp:Nat->List (List V)->List (Nat×V)
 | _,[]=>[]
 | k,g :: r=>g.map (fun v=>(k,v))++grp (k+1) r
theorem zat0:∀ (g:List V) (acc:List (List V)) (k:Nat),k+1=acc.length->(g.map fun v=>(k,v)).foldl zg5 acc=acc.set k (acc.getD k []++g)
 | [],acc,k,h=>by
  show acc=_
  rw[zcc3,zca6,zby8 (by rfl')]
  show acc=acc.set k acc[k]
  rw[List.set_getElem_self]
 | v :: g,acc,k,h=>by
  show (g.map fun v=>(k,v)).foldl zg5 (zg5 acc (k,v))=_
  have e:zg5 acc (k,v)=acc.set k (acc.getD k []++[v]):=by
   unfold zg5
   rw[if_neg (by rfl')]
  rw[e,zat0 g _ k (by rw[zcg2];exact h)]
  rw[List.set_set,zca6,zce2 (by rfl')]
  show acc.set k (acc.getD k []++[v]++g)=_
  rw[zcb4]
  rfl
theorem zav5{g:List V}(hg:g≠[])(acc:List (List V)):(g.map fun v=>(acc.length,v)).foldl zg5 acc=acc++[g]:=by
 cases g with
 | nil=>exact absurd rfl hg
 | cons v g=>
  show (g.map fun v=>(acc.length,v)).foldl zg5 (zg5 acc (acc.length,v))=_
  have e:zg5 acc (acc.length,v)=acc++[[v]]:=by
   unfold zg5
   rw[if_pos rfl,zca6,zca4 (zca7 _),Nat.sub_self,List.set_append_right _ _ (zca7 _),Nat.sub_self]
   rfl
  rw[e,zat0 g (acc++[[v]]) acc.length (by rw[zbz2];rfl),List.set_append_right _ _ (zca7 _),Nat.sub_self,zca6,zca4 (zca7 _),Nat.sub_self]
  rfl
theorem zad6:∀ (gs acc:List (List V)),(∀ g∈gs,g≠[])->(grp acc.length gs).foldl zg5 acc=acc++gs
 | [],acc,_=>by show acc=_;rw[zcc3]
 | g :: gs,acc,h=>by
  show (g.map (fun v=>(acc.length,v))++grp (acc.length+1) gs).foldl zg5 acc=_
  rw[List.foldl_append,zav5 (h g (.head _)) acc,show acc.length+1=(acc++[g]).length by rw[zbz2];rfl,zad6 gs (acc++[g]) fun x hx=>h x (.tail _ hx),zcb4]
  rfl
theorem zbb2:∀ (gs acc:List (List V)),(∀ g∈gs,g≠[])->∀ (i:Nat) x,(grp acc.length gs)[i]?=some x->x.1<=(((grp acc.length gs).take i).foldl zg5 acc).length
 | [],acc,_,i,x,e=>by simp[grp] at e
 | g :: gs,acc,h,i,x,e=>by
  have grow:∀ (ys:List (Nat×V)) (a:List (List V)),a.length<=(ys.foldl zg5 a).length:=fun ys=>by
   induction ys with
   | nil=>exact fun a=>zca7 _
   | cons y ys ih=>
    intro a
    refine zcc5 ?_ (ih (zg5 a y))
    rw[zak4];split<;>omega
  have e:(g.map (fun v=>(acc.length,v))++grp (acc.length+1) gs)[i]?=some x:=e
  show x.1<=(((g.map (fun v=>(acc.length,v))++grp (acc.length+1) gs).take i).foldl zg5 acc).length
  by_cases hi:i<g.length
  ·rw[zcb0 (by rw[zby7];exact hi),zbz1] at e
   obtain⟨v,_,rfl⟩:=zbz5.mp e
   exact grow _ _
  ·rw[zca4 (by rw[zby7];omega),zby7] at e
   rw[List.take_append,zby7,zcd3 (by rw[zby7];omega),List.foldl_append,zav5 (h g (.head _)) acc]
   rw[show acc.length+1=(acc++[g]).length by rw[zbz2];rfl] at e ⊢
   exact zbb2 gs (acc++[g]) (fun x hx=>h x (.tail _ hx)) (i - g.length) x e
def isFl(r:Rw):Bool:=decide (r.1="flow")
def isN(r:Rw):Bool:=decide (r.1="number")
theorem zau4{p:Rw->Bool}{rs:List Rw}(h:∀ r∈rs,p r=true):rs.filter p=rs:=List.filter_eq_self.mpr h
theorem zal6{p:Rw->Bool}{rs:List Rw}(h:∀ r∈rs,p r=false):rs.filter p=[]:=List.filter_eq_nil_iff.mpr fun r hr=>by rw[h r hr];exact zbz3
theorem zz5:∀ {nss:List (List Int)}{ns:List Int},ns∈nss->ns.length<=(nss.map zce8).sum
 | [],_,h=>by cases h
 | x :: xs,ns,h=>by
  rw[zcf8,List.sum_cons]
  rcases zbz4.mp h with rfl|h
  ·omega
  ·have:=zz5 h;omega
theorem flowsF(xss:List (List F3))(nss:List (List Int)):(zc9 0 xss++zj3 0 nss).filter isFl=zc9 0 xss:=by
 rw[zcg5,zau4 (zm5 (P:=fun r=>isFl r=true) (m:=xss.length) (by rfl') fun xs _ z _ j _=>rfl),zal6 (zp4 (P:=fun r=>isFl r=false) (m:=nss.length) (l:=(nss.map zce8).sum) (by rfl') (fun ns hn=>zz5 hn) fun ns _ n _ j _ c _=>by show decide (("number":Str)="flow")=false;decide +kernel),zcc3]
theorem numsF(xss:List (List F3))(nss:List (List Int)):(zc9 0 xss++zj3 0 nss).filter isN=zj3 0 nss:=by
 rw[zcg5,zal6 (zm5 (P:=fun r=>isN r=false) (m:=xss.length) (by rfl') fun xs _ z _ j _=>by show decide (("flow":Str)="number")=false;decide +kernel),zau4 (zp4 (P:=fun r=>isN r=true) (m:=nss.length) (l:=(nss.map zce8).sum) (by rfl') (fun ns hn=>zz5 hn) fun ns _ n _ j _ c _=>rfl),zce4]
theorem rowsRg(xss:List (List F3))(nss:List (List Int)):∀ r∈zc9 0 xss++zj3 0 nss,RgR r:=fun r hr=>by
 rcases zcc1.mp hr with hr|hr
 ·exact zm5 (P:=RgR) (m:=xss.length) (by rfl') (fun xs _ z _ j _=>.inl ⟨rfl,rfl⟩) r hr
 ·exact zp4 (P:=RgR) (m:=nss.length) (l:=(nss.map zce8).sum) (by rfl') (fun ns hn=>zz5 hn) (fun ns _ n _ j _ c _=>.inr ⟨rfl,rfl⟩) r hr
def cutA:List (List F3)->List Addr->List (List Addr)
 | [],_=>[]
 | xs :: r,as=>as.take xs.length :: cutA r (as.drop xs.length)
theorem zae2:∀ (xss:List (List F3)) (as:List Addr),(cutA xss as).length=xss.length
 | [],_=>rfl
 | xs :: r,as=>by show (cutA r (as.drop xs.length)).length+1=_;rw[zae2 r];rfl
theorem zas5:∀ (xss:List (List F3)) (k:Nat) (as:List Addr),as.length=(zc9 k xss).length->((zc9 k xss).zip as).map (fun x=>((x.1.2.getD 0 0).toNat,V.ref x.2))=grp k ((cutA xss as).map fun bs=>bs.map V.ref)
 | [],k,as,h=>by
  show (([]:List Rw).zip as).map _=[]
  rfl
 | xs :: xss,k,as,h=>by
  show ((xs.map (flR k)++zc9 (k+1) xss).zip as).map _=((as.take xs.length).map V.ref).map (fun v=>(k,v))++grp (k+1) ((cutA xss (as.drop xs.length)).map fun bs=>bs.map V.ref)
  have h:as.length=(xs.map (flR k)++zc9 (k+1) xss).length:=h
  rw[zbz2,zby7] at h
  have ih:=zas5 xss (k+1) (as.drop xs.length) (by rw[zcf5];omega)
  rw[← ih]
  conv=>lhs;rw[show as=as.take xs.length++as.drop xs.length from (List.take_append_drop _ _).symm]
  rw[List.zip_append (by rw[zby7,zcd6];omega),zcd2]
  congr 1
  apply zcg9
  intro i
  rw[zbz1,zbz1,zbz1]
  by_cases hi:i<xs.length
  ·have e1:(xs.map (flR k))[i]?=some (flR k xs[i]):=by rw[zbz1,zby8 hi];rfl
   obtain⟨a,ea⟩:∃ a,(as.take xs.length)[i]?=some a:=⟨_,zby8 (by rw[zcd6];omega)⟩
   have ez:((xs.map (flR k)).zip (as.take xs.length))[i]?=some (flR k xs[i],a):=List.getElem?_zip_eq_some.mpr ⟨e1,ea⟩
   rw[ez,ea]
   show some (((k:Int)).toNat,V.ref a)=some (k,V.ref a)
   rw[zcg7]
  ·rw[zcc7 (by rw[List.length_zip,zby7,zcd6];omega),zcc7 (by rw[zcd6];omega)]
   rfl
theorem zaq3{H:Hp}:∀ (xss:List (List F3)) (k:Nat) (as:List Addr),as.length=(zc9 k xss).length->(∀ (i:Nat) a r,as[i]?=some a->(zc9 k xss)[i]?=some r->H a=some (.tup [.int (r.2.getD 1 0),.int (r.2.getD 2 0),.int (r.2.getD 3 0)]))->∀ (j:Nat) bs xs,(cutA xss as)[j]?=some bs->xss[j]?=some xs->bs.length=xs.length/\∀ (i:Nat) b z,bs[i]?=some b->xs[i]?=some z->H b=some (.tup [.int z.1,.int z.2.1,.int z.2.2])
 | [],_,_,_,_,j,bs,xs,e,_=>by simp[cutA] at e
 | ys :: xss,k,as,h,ht,j,bs,xs,e1,e2=>by
  have h:as.length=(ys.map (flR k)++zc9 (k+1) xss).length:=h
  have ht:∀ (i:Nat) a r,as[i]?=some a->(ys.map (flR k)++zc9 (k+1) xss)[i]?=some r->H a=some (.tup [.int (r.2.getD 1 0),.int (r.2.getD 2 0),.int (r.2.getD 3 0)]):=ht
  rw[zbz2,zby7] at h
  cases j with
  | zero=>
   cases e1
   cases e2
   refine⟨by rw[zcd6];omega,fun i b z eb ez=>?_⟩
   have hi:=(zby9.mp ez).1
   rw[List.getElem?_take_of_lt hi] at eb
   have:=ht i b (flR k z) eb (by rw[zcb0 (by rw[zby7];exact hi),zbz1,ez];rfl)
   exact this
  | succ j=>
   refine zaq3 xss (k+1) (as.drop ys.length) (by rw[zcf5];omega) (fun i a r ea er=>?_) j bs xs e1 e2
   rw[List.getElem?_drop] at ea
   exact ht (ys.length+i) a r ea (by rw[zca4 (by rw[zby7];omega),zby7,Nat.add_sub_cancel_left];exact er)
theorem zau6:∀ (nss:List (List Int)) (k:Nat),(zj3 k nss).map (fun r=>((r.2.getD 0 0).toNat,V.int (r.2.getD 2 0)))=grp k (nss.map fun ns=>ns.map V.int)
 | [],_=>rfl
 | ns :: nss,k=>by
  show (numR k 0 ns++zj3 (k+1) nss).map _=(ns.map V.int).map (fun v=>(k,v))++grp (k+1) (nss.map fun ns=>ns.map V.int)
  rw[zcd2,zau6 nss (k+1)]
  congr 1
  have go:∀ (c:Nat) (ns:List Int),(numR k c ns).map (fun r=>((r.2.getD 0 0).toNat,V.int (r.2.getD 2 0)))=(ns.map V.int).map (fun v=>(k,v)):=fun c ns=>by
   induction ns generalizing c with
   | nil=>rfl
   | cons n ns ih=>
    show (((k:Int)).toNat,V.int n) :: (numR k (c+1) ns).map _=(k,V.int n) :: _
    rw[ih,zcg7]
  exact go 0 ns
structure PpN(H H':Hp)(p st tb:Addr)(rs:List (Addr×List Addr))(xss:List (List F3))(qs:List Addr)(nss:List (List Int)):Prop where
 pap:PpX H' p st tb rs xss qs nss
 nd:((st :: rs.map (·.1))++(tb :: qs)).Nodup
 fr:∀ a∈(st :: rs.map (·.1))++(tb :: qs),H a=none
theorem zbi2{x:Str}{rs:List Rw}(h:zo2 spB x=.inr rs):(∃ xs,goP spB xs []=.inr rs)/\rs.length<=x.length+1:=by
 obtain⟨xs,y,el⟩:=zp9 x
 have ll:=zw3 x
 rw[el,zbz2,zcb1] at ll
 unfold zo2 at h
 rw[el,zce7] at h
 cases hg:goP spB xs [] with
 | inl k=>rw[hg] at h;cases h
 | inr us=>
  rw[hg] at h
  dsimp only at h
  split at h
  ·cases h
   have:=zz6 hg
   rw[zcd1] at this
   exact⟨⟨xs,hg⟩,by rfl'⟩
  ·cases h
@[irreducible] def zg3(zbr7:Addr):Sp:=fun vs H Q E=>∃ (x:Str),vs=[.str x]/\x.length<=100000 /\
 (∀ s,resP x=.inr s->∀ p st tb rs qs H',Same H H'->PpN H H' p st tb rs s.1 qs s.2->Q (.ref p) H') /\
 (∀ k,resP x=.inl k->∀ d H',H d=none->Same H H'->H' d=some (.xd [("row",.int k)])->E (.ref zbr7) (some d) H')
theorem zad3{x:Str}(hx:x.length<=100000)(q1:∀ s,resP x=.inr s->∀ p st tb rs qs H',Same H H'->PpN H H' p st tb rs s.1 qs s.2->Q (.ref p) H')(q2:∀ k,resP x=.inl k->∀ d H',H d=none->Same H H'->H' d=some (.xd [("row",.int k)])->E (.ref zbr7) (some d) H'):zg3 zbr7 [.str x] H Q E:=by unfold zg3;exact⟨x,rfl,hx,q1,q2⟩
theorem zak9{p:Rw->Bool}{rs:List Rw}{j:Nat}{r:Rw}(e:rs[j]?=some r):(rs.take (j+1)).filter p=(rs.take j).filter p++if p r=true then [r] else []:=by
 rw[List.take_succ,e,zcg5]
 congr 1
 show [r].filter p=_
 rw[List.filter_cons]
 split<;>rfl
theorem zbe0{α β:Type}{R:α->β->Prop}{xs:List α}{ys:List β}{x:α}{y:β}(l:xs.length=ys.length)(h:∀ (i:Nat) a b,xs[i]?=some a->ys[i]?=some b->R a b)(hn:R x y):∀ (i:Nat) a b,(xs++[x])[i]?=some a->(ys++[y])[i]?=some b->R a b:=fun i a b e1 e2=>by
 by_cases hi:i<xs.length
 ·rw[zcb0 hi] at e1
  rw[zcb0 (by rfl')] at e2
  exact h i a b e1 e2
 ·rw[zca4 (by rfl')] at e1
  rw[zca4 (by rfl'),← l] at e2
  have i0:i - xs.length=0:=by have:=(zby9.mp e1).1;simp at this;omega
  rw[i0] at e1 e2
  cases e1
  cases e2
  exact hn
theorem getD3{r:Rw}(h:r.2.length=4)(hi:i<4):(V.str r.1 :: r.2.map V.int)[i+1]?=some (.int (r.2.getD i 0)):=by
 rw[zce5,zbz1,zca6,zby8 (by rfl')]
 rfl
theorem zbf3{xss:List (List F3)}{nss:List (List Int)}:(∀ r∈zc9 0 xss,∃ k:Nat,r.2.getD 0 0=(k:Int))/\∀ r∈zj3 0 nss,∃ k:Nat,r.2.getD 0 0=(k:Int):=
 ⟨zm5 (m:=xss.length) (by rfl') fun _ _ _ _ j _=>⟨j,rfl⟩,zp4 (m:=nss.length) (l:=(nss.map zce8).sum) (by rfl') (fun ns hn=>zz5 hn) fun _ _ _ _ j _ _ _=>⟨j,rfl⟩⟩
theorem zad2{f:Addr}(F:Fun K "read_paper" "read_paper" zp6 f fd)(N:Nm mg)(zbv1:Def P w K mg base CX0 1 "by_fields" ["pairs"] zh2)(zbt8:Def P w K mg base (CXR P w) 4 "read_rows" ["text","stands"] (zd8 mg zbr7))(zbt1:Def P w K mg base CX0 2 "stands_in_paper" ["ahead","row"] zc5)(Z:Cz K mg base zbr8 zbr6 zbs5 zbt2 zbr9 zbs6 zbs2 zbs0 zbs1 zbs7 zbr7 zbt3 zbs8 zbs3 zbs4 zbt4):FnOk P w K mg base (CXR P w) 5 f fd ["text"] (zg3 zbr7):=by
 refine F.okR zk1 (fun vs H Q E h=>by unfold zg3 at h;obtain⟨_,rfl,_⟩:=h;rfl) (fun cdv A outer s H vs Q E hr hX h=>?_)
 unfold zg3 at h
 obtain⟨x,rfl,hx,q1,q2⟩:=h
 have hu:=hu40 hr
 refine⟨_,(za3 (psS (i:=1) zk1.nd (pD zbt8 hr (passR hX) (za0 (pq 0) (za0 (peFn zbt1) za1))))
   (za3 (psC (i:=2) (N:=["row"]) (ks:=[none]) zk1.nd (zq5 (K:=K) rfl (pq 1)) (fun _ _ _ _ _=>(ze2 (i:=0) nb_6 rfl (by eq_refl))) (fun _ _ _ _ _=>(zbc8 (ptC (zo1 (K:=K) rfl (by exact hu)) (zb9 (K:=K) rfl (pq 0) za2) zc0))) (fun _ _ _ _ _=>(zu2 (za0 (zb9 (K:=K) rfl (pq 0) za2) (za0 (zu2 (za0 (zb9 (K:=K) rfl (pq 0) za2) (za0 (zb9 (K:=K) rfl (pq 0) za2) (za0 (zb9 (K:=K) rfl (pq 0) za2) za1)))) za1)))) (.skip .nil))
   (za3 (psC (i:=3) (N:=["row"]) (ks:=[none]) zk1.nd (zq5 (K:=K) rfl (pq 1)) (fun _ _ _ _ _=>(ze2 (i:=0) nb_6 rfl (by eq_refl))) (fun _ _ _ _ _=>(zbc8 (ptC (zo1 (K:=K) rfl (by exact hu)) (zb9 (K:=K) rfl (pq 0) za2) zc0))) (fun _ _ _ _ _=>(zu2 (za0 (zb9 (K:=K) rfl (pq 0) za2) (za0 (zb9 (K:=K) rfl (pq 0) za2) za1)))) (.skip .nil))
   (za3 (psIf (ptW (pwOr (ptC (zo1 (K:=K) rfl (by exact hu)) (pB (zn1 (K:=K) rfl) N.len_ zi2 (za0 (pq 2) za1)) za2) (zq9 (ptC (zo1 (K:=K) rfl (by exact hu)) (pB (zn1 (K:=K) rfl) N.len_ zi2 (za0 (pq 3) za1)) za2)))) (za7 (zl1 Z.z_NoText Z.g_NoText (zk3 Z.fi_NoText Z.z_NoText) (hr.mono (by decide)) rfl hX (pB (zn1 (K:=K) rfl) N.len_ zi2 (za0 (pq 1) za1)))) zc1)
   (za7 (zb1 (zu2 (za0 (pD zbv1 hr zd6 (za0 (pq 2) za1)) (za0 (pD zbv1 hr zd6 (za0 (pq 3) za1)) za1))))))))),?_⟩
 refine fn_rd (fun v hv=>?_)
 refine zae8 hv hx (fun rs hrs l ps H1 g1 s1 R=>?_) (fun k hk d H1 fd sd hd=>q2 k (by unfold resP;rw[hk]) d H1 fd sd hd)
 obtain⟨⟨_,hgo⟩,okl⟩:=zbi2 hrs
 obtain⟨gs,ers⟩:=zbn5 hgo
 have hres:resP x=if (stOf rs).1.isEmpty || (stOf rs).2.isEmpty then .inl rs.length else .inr (stOf rs):=by unfold resP;rw[hrs]
 rw[hres] at q1 q2
 generalize stOf rs=sq at q1 q2 gs ers
 obtain⟨xss,nss⟩:=sq
 have ers:zc9 0 xss++zj3 0 nss=rs:=ers
 have eF:rs.filter isFl=zc9 0 xss:=by rw[← ers];exact flowsF xss nss
 have eN:rs.filter isN=zj3 0 nss:=by rw[← ers];exact numsF xss nss
 have okg:∀ r∈rs,RgR r:=by rw[← ers];exact rowsRg xss nss
 obtain⟨natF,natN⟩:=zbf3 (xss:=xss) (nss:=nss)
 clear hres hrs hgo
 have pl:=R.len
 refine zj9 R.out ?_
 refine zbb1 (n:=(ps.map V.ref).length) (Wk.list (SqL.of R.out)) (by rw[zby7,zci0];omega) (fun acc j ys σ I=>∃ (t:Option V) (ts:List (Addr×Addr)),σ=[t]/\ys=ts.map (fun t=>V.ref t.1)/\ts.length=((rs.take j).filter isFl).length/\∀ (i:Nat) (t:Addr×Addr) (r:Rw),ts[i]?=some t->((rs.take j).filter isFl)[i]?=some r->(t.1≠acc/\t.2≠acc)/\I t.1=some (.tup [.int (r.2.getD 0 0),.ref t.2])/\I t.2=some (.tup [.int (r.2.getD 1 0),.int (r.2.getD 2 0),.int (r.2.getD 3 0)])) ?_ ?_ ?_ ?_
 ·intro acc I f1 s2 h1
  exact⟨none,[],rfl,rfl,rfl,fun i t r e=>by simp at e⟩
 ·rintro acc j ys σ I I' s' ⟨t,ts,r1,r2,r3,r4⟩
  exact⟨t,ts,r1,r2,r3,fun i t r e1 e2=>⟨(r4 i t r e1 e2).1,s' _ _ (r4 i t r e1 e2).2.1,s' _ _ (r4 i t r e1 e2).2.2⟩⟩
 ·rintro acc j x ys σ I R1 S1 hj facc s2 hacc hx ⟨t,ts,rfl,rfl,tl,tr⟩ kR kS
  rw[zbz1] at hx
  obtain⟨p,ep,rfl⟩:=zbz5.mp hx
  obtain⟨r,er⟩:∃ r,rs[j]?=some r:=⟨_,zby8 (by have:=(zby9.mp ep).1;omega)⟩
  have hp:I p=some (.tup (.str r.1 :: r.2.map V.int)):=s2 _ _ (R.row j p r ep er)
  have fs:=zak9 (p:=isFl) er
  refine zb3 (v:=.str r.1) hp (zd0 (j:=0) rfl) ?_
  refine ze0 (fun hf=>?_) (fun hf=>?_)
  ·have l4:r.2.length=4:=by
    rcases okg r (zca5 er) with ⟨_,h⟩|⟨h,_⟩
    ·exact h
    ·rw[hf] at h;exact absurd h (by decide +kernel)
   have at1:∀ (J:Hp) (i:Nat),i<4->atI (V.str r.1 :: r.2.map V.int) ((i+1:Nat):Int)=some (.int (r.2.getD i 0)):=fun _ i hi=>zd0 (getD3 l4 hi)
   refine zb3 (v:=.int (r.2.getD 0 0)) hp (at1 I 0 (by decide)) ?_
   refine zb3 (v:=.int (r.2.getD 1 0)) hp (at1 I 1 (by decide)) ?_
   refine zb3 (v:=.int (r.2.getD 2 0)) hp (at1 I 2 (by decide)) ?_
   refine zb3 (v:=.int (r.2.getD 3 0)) hp (at1 I 3 (by decide)) ?_
   refine zd3 (fun p2 I2 g2 t2 h2=>?_)
   refine zd3 (fun p3 I3 g3 t3 h3=>?_)
   have n2:p2≠acc:=Ne.symm (za4 hacc g2)
   have n3:p3≠acc:=Ne.symm (za4 (t2 _ _ hacc) g3)
   ac_nf
   refine kR _ _ _ (t2.trans t3) (fun I4 c4=>⟨_,ts++[(p3,p2)],rfl,by rw[zcd2];rfl,?_,?_⟩)
   ·rw[fs,show isFl r=true from decide_eq_true hf,if_pos rfl,zbz2,zbz2,tl];rfl
   ·rw[fs,show isFl r=true from decide_eq_true hf,if_pos rfl]
    refine zbe0 (R:=fun (t:Addr×Addr) (r:Rw)=>(t.1≠acc/\t.2≠acc)/\I4 t.1=some (.tup [.int (r.2.getD 0 0),.ref t.2])/\I4 t.2=some (.tup [.int (r.2.getD 1 0),.int (r.2.getD 2 0),.int (r.2.getD 3 0)])) tl (fun i t r e1 e2=>?_) ⟨⟨n3,n2⟩,c4 _ _ n3 h3,c4 _ _ n2 (t3 _ _ h2)⟩
    obtain⟨m1,m2,m3⟩:=tr i t r e1 e2
    exact⟨m1,c4 _ _ m1.1 ((t2.trans t3) _ _ m2),c4 _ _ m1.2 ((t2.trans t3) _ _ m3)⟩
  ·ac_nf
   refine kS _ _ (Same.refl _) ⟨_,ts,rfl,rfl,?_,?_⟩
   ·rw[fs,show isFl r=false from decide_eq_false hf,if_neg zbz3,zcc3];exact tl
   ·rw[fs,show isFl r=false from decide_eq_false hf,if_neg zbz3,zcc3];exact tr
 rintro fl ys σ H2 ffl s2 hfl ⟨t,ts,rfl,rfl,tl,tr⟩
 rw[zby7,zcd3 (by rfl'),eF] at tl tr
 have R2:=R.same s2
 refine zj9 R2.out ?_
 refine zbb1 (n:=(ps.map V.ref).length) (Wk.list (SqL.of R2.out)) (by rw[zby7,zci0];omega) (fun acc j ys σ I=>∃ (t:Option V) (us:List Addr),σ=[t]/\ys=us.map V.ref/\us.length=((rs.take j).filter isN).length/\∀ (i:Nat) (u:Addr) (r:Rw),us[i]?=some u->((rs.take j).filter isN)[i]?=some r->u≠acc/\I u=some (.tup [.int (r.2.getD 0 0),.int (r.2.getD 2 0)])) ?_ ?_ ?_ ?_
 ·intro acc I f1 s2 h1
  exact⟨none,[],rfl,rfl,rfl,fun i t r e=>by simp at e⟩
 ·rintro acc j ys σ I I' s' ⟨t,ts,r1,r2,r3,r4⟩
  exact⟨t,ts,r1,r2,r3,fun i t r e1 e2=>⟨(r4 i t r e1 e2).1,s' _ _ (r4 i t r e1 e2).2⟩⟩
 ·rintro acc j x ys σ I R1 S1 hj facc s3 hacc hx ⟨t,us,rfl,rfl,ul,ur⟩ kR kS
  rw[zbz1] at hx
  obtain⟨p,ep,rfl⟩:=zbz5.mp hx
  obtain⟨r,er⟩:∃ r,rs[j]?=some r:=⟨_,zby8 (by have:=(zby9.mp ep).1;omega)⟩
  have hp:I p=some (.tup (.str r.1 :: r.2.map V.int)):=s3 _ _ (R2.row j p r ep er)
  have fs:=zak9 (p:=isN) er
  have rg:=okg r (zca5 er)
  refine zb3 (v:=.str r.1) hp (zd0 (j:=0) rfl) ?_
  refine ze0 (fun hf=>?_) (fun hf=>?_)
  ·ac_nf
   refine zb3 (v:=.int (r.2.getD 0 0)) hp (zd0 (rg.get (i:=0) (by decide))) ?_
   refine zb3 (v:=.int (r.2.getD 2 0)) hp (zd0 (rg.get (i:=2) (by decide))) ?_
   refine zd3 (fun p3 I3 g3 t3 h3=>?_)
   have n3:p3≠acc:=Ne.symm (za4 hacc g3)
   ac_nf
   refine kR _ _ _ t3 (fun I4 c4=>⟨_,us++[p3],rfl,by rw[zcd2];rfl,?_,?_⟩)
   ·rw[fs,show isN r=true from decide_eq_true hf,if_pos rfl,zbz2,zbz2,ul];rfl
   ·rw[fs,show isN r=true from decide_eq_true hf,if_pos rfl]
    refine zbe0 (R:=fun (u:Addr) (r:Rw)=>u≠acc/\I4 u=some (.tup [.int (r.2.getD 0 0),.int (r.2.getD 2 0)])) ul (fun i t r e1 e2=>?_) ⟨n3,c4 _ _ n3 h3⟩
    obtain⟨m1,m2⟩:=ur i t r e1 e2
    exact⟨m1,c4 _ _ m1 (t3 _ _ m2)⟩
  ·ac_nf
   refine kS _ _ (Same.refl _) ⟨_,us,rfl,rfl,?_,?_⟩
   ·rw[fs,show isN r=false from decide_eq_false hf,if_neg zbz3,zcc3];exact ul
   ·rw[fs,show isN r=false from decide_eq_false hf,if_neg zbz3,zcc3];exact ur
 rintro nu ys σ H3 fnu s3 hnu ⟨t,us,rfl,rfl,ul,ur⟩
 rw[zby7,zcd3 (by rfl'),eN] at ul ur
 have hfl3:=s3 _ _ hfl
 have flm:(zc9 0 xss).length<=200000:=by rw[← eF];exact zcc5 (List.length_filter_le _ _) (by rfl')
 have nlm:(zj3 0 nss).length<=200000:=by rw[← eN];exact zcc5 (List.length_filter_le _ _) (by rfl')
 have R3:=R2.same s3
 have s03:=(s1.trans s2).trans s3
 refine zg7 hfl3 ?_
 rw[zby7,tl]
 ac_nf
 by_cases ex:xss=[]
 ·have q2:=q2 rs.length (by rw[ex];rfl)
  refine zk9 (by rw[ex];rfl) ?_
  refine br_T ?_
  refine zg7 R3.out ?_
  rw[zby7,pl]
  ac_nf
  exact ze8 (fun d J' fd sJ' hd=>q2 d J' (s03.free fd) (s03.trans sJ') hd)
 have rl:∀ xs∈xss,1<=xs.length:=fun xs hx=>List.length_pos_iff.mpr (gs.1 xs hx)
 have nl:∀ ns∈nss,1<=ns.length:=fun xs hx=>List.length_pos_iff.mpr (gs.2 xs hx)
 have fl1:1<=(zc9 0 xss).length:=by
  cases e:xss with
  | nil=>exact absurd e ex
  | cons xs r=>
   have:=rl xs (by rw[e];exact zcb8)
   show 1<=(xs.map (flR 0)++zc9 1 r).length
   rw[zbz2,zby7];omega
 refine zm3 (by rfl') ?_
 refine zg7 hnu ?_
 rw[zby7,ul]
 ac_nf
 by_cases en:nss=[]
 ·have q2:=q2 rs.length (by rw[en];cases xss with|nil=>rfl|cons a b=>rfl)
  refine zk9 (by rw[en];rfl) ?_
  refine zg7 R3.out ?_
  rw[zby7,pl]
  ac_nf
  exact ze8 (fun d J' fd sJ' hd=>q2 d J' (s03.free fd) (s03.trans sJ') hd)
 have nl1:1<=(zj3 0 nss).length:=by
  cases e:nss with
  | nil=>exact absurd e en
  | cons xs r=>
   have:=nl xs (by rw[e];exact zcb8)
   show 1<=(numR 0 0 xs++zj3 1 r).length
   rw[zbz2,zav9];omega
 refine zm3 (by rfl') ?_
 have q:∀ p st tb rs qs H',Same H H'->PpN H H' p st tb rs xss qs nss->Q (.ref p) H':=q1 (xss,nss) (by
  cases xss with
  | nil=>exact absurd rfl ex
  | cons a b=>
   cases nss with
   | nil=>exact absurd rfl en
   | cons c d=>rfl)
 have nx:∀ bs∈cutA xss (ts.map (·.2)),(bs.map V.ref)≠[]:=fun bs hb z=>by
  obtain⟨j,ej⟩:=zce0 hb
  have hj:=(zby9.mp ej).1
  rw[zae2] at hj
  obtain⟨l1,_⟩:=zaq3 (H:=H3) xss 0 (ts.map (·.2)) (by rw[zby7];exact tl) (fun i a r ea er=>by
   rw[zbz1] at ea
   obtain⟨t,et,rfl⟩:=zbz5.mp ea
   exact s3 _ _ (tr i t r et er).2.2) j bs xss[j] ej (zby8 hj)
  have b1:=rl xss[j] (List.getElem_mem _)
  have b2:=congrArg zce8 z
  rw[zby7,zcd1] at b2
  omega
 have gx:∀ g∈(cutA xss (ts.map (·.2))).map (fun bs=>bs.map V.ref),g≠[]:=fun g hg=>by
  obtain⟨bs,hb,rfl⟩:=zcf4.mp hg
  exact nx bs hb
 have gn:∀ g∈nss.map (fun ns=>ns.map V.int),g≠[]:=fun g hg z=>by
  obtain⟨ns,hn,rfl⟩:=zcf4.mp hg
  have b1:=nl ns hn
  have b2:=congrArg zce8 z
  rw[zby7,zcd1] at b2
  omega
 have e1:=zas5 xss 0 (ts.map (·.2)) (by rw[zby7];exact tl)
 have e2:=zau6 nss 0
 have f1:=zad6 ((cutA xss (ts.map (·.2))).map fun bs=>bs.map V.ref) [] gx
 have f2:=zad6 (nss.map fun ns=>ns.map V.int) [] gn
 have o1:=zbb2 ((cutA xss (ts.map (·.2))).map fun bs=>bs.map V.ref) [] gx
 have o2:=zbb2 (nss.map fun ns=>ns.map V.int) [] gn
 rw[show ([]:List (List V)).length=0 from rfl] at f1 f2 o1 o2
 rw[zce4] at f1 f2
 rw[← e1] at f1 o1
 rw[← e2] at f2 o2
 refine zv2 (ts:=ts.map (·.1)) (sq:=((zc9 0 xss).zip (ts.map (·.2))).map fun x=>((x.1.2.getD 0 0).toNat,V.ref x.2)) (by rw[hfl3,List.map_map];rfl) (by rw[zby7,zby7,List.length_zip,zby7,tl,Nat.min_self]) (fun i a x ea ex=>?_) (by rw[zby7,List.length_zip,zby7];omega) o1 (fun L1 q1 H4 s4 N1=>?_)
 ·rw[zbz1] at ea ex
  obtain⟨t,et,rfl⟩:=zbz5.mp ea
  obtain⟨z,ez,rfl⟩:=zbz5.mp ex
  obtain⟨z1,z2⟩:=List.getElem?_zip_eq_some.mp ez
  rw[zbz1,et] at z2
  have z2:some t.2=some z.2:=z2
  obtain⟨k,ek⟩:=natF z.1 (zca5 z1)
  have:=s3 _ _ (tr i t z.1 et z1).2.1
  rw[Option.some.inj z2] at this
  show H3 t.1=some (.tup [.int (((z.1.2.getD 0 0).toNat:Nat):Int),.ref z.2])
  rw[this,ek,zcg7]
 rw[f1] at N1
 have N1a:=N1
 refine zv2 (ts:=us) (sq:=(zj3 0 nss).map fun r=>((r.2.getD 0 0).toNat,V.int (r.2.getD 2 0))) (s4 _ _ hnu) (by rw[zby7];exact ul) (fun i a x ea ex=>?_) (by rw[zby7];omega) o2 (fun L2 q2 H5 s5 N2=>?_)
 ·rw[zbz1] at ex
  obtain⟨r,er,rfl⟩:=zbz5.mp ex
  obtain⟨k,ek⟩:=natN r (zca5 er)
  have:=s4 _ _ (ur i a r ea er).2
  show H4 a=some (.tup [.int (((r.2.getD 0 0).toNat:Nat):Int),.int (r.2.getD 2 0)])
  rw[this,ek,zcg7]
 rw[f2] at N2
 have N1:=N1.same s5
 refine zd3 (fun p H6 g6 s6 h6=>?_)
 ac_nf
 have N1:=N1.same s6
 have N2:=N2.same s6
 have s36:=(s4.trans s5).trans s6
 have cl:=zae2 xss (ts.map (·.2))
 have q1l:=N1.len
 have q2l:=N2.len
 rw[zby7] at q1l q2l
 have at_:=zaq3 (H:=H6) xss 0 (ts.map (·.2)) (by rw[zby7];exact tl) (fun i a r ea er=>by
  rw[zbz1] at ea
  obtain⟨t,et,rfl⟩:=zbz5.mp ea
  exact (s3.trans s36) _ _ (tr i t r et er).2.2)
 have zf:(q1.zip (cutA xss (ts.map (·.2)))).map (·.1)=q1:=by
  rw[List.map_fst_zip]
  omega
 have old:∀ {J0 J:Hp}{L:Addr}{qs:List Addr}{acc:List (List V)},LsN J0 J L qs acc->∀ a∈L :: qs,J0 a=none/\∃ o,J a=some o:=fun {J0 J L qs acc} N a ha=>by
  rcases zbz4.mp ha with rfl|ha
  ·exact⟨N.fr,_,N.out⟩
  ·obtain⟨i,ei⟩:=zce0 ha
   obtain⟨z,ez⟩:∃ z,acc[i]?=some z:=⟨_,zby8 (by have:=N.len;have:=(zby9.mp ei).1;omega)⟩
   obtain⟨r1,r2⟩:=N.row i a z ei ez
   exact⟨r1,_,r2⟩
 refine q p L1 L2 (q1.zip (cutA xss (ts.map (·.2)))) q2 H6 (s03.trans s36) ⟨⟨h6,⟨?_,?_,?_⟩,⟨N2.out,by rw[q2l],?_⟩⟩,?_,?_⟩
 ·rw[N1.out]
  conv=>lhs;rw[← zf]
  rw[List.map_map]
  rfl
 ·rw[List.length_zip];omega
 ·intro i r xs er ex
  obtain⟨z1,z2⟩:=List.getElem?_zip_eq_some.mp er
  obtain⟨w1,w2⟩:=at_ i r.2 xs z2 ex
  exact⟨(N1.row i r.1 (r.2.map V.ref) z1 (by rw[zbz1,z2];rfl)).2,w1,w2⟩
 ·intro i a ns ea en
  exact (N2.row i a (ns.map V.int) ea (by rw[zbz1,en];rfl)).2
 ·rw[zf,List.nodup_append]
  refine⟨N1.nd,N2.nd,fun a ha b hb z=>?_⟩
  subst z
  obtain⟨o,ho⟩:=(old N1a a ha).2
  rw[(old N2 a hb).1] at ho
  cases ho
 ·rw[zf]
  intro a ha
  rcases zcc1.mp ha with ha|ha
  ·exact s03.free (old N1 a ha).1
  ·exact (s03.trans s4).free (old N2 a ha).1
def ExT(H:Hp)(e D:Addr):Prop:=H e=some (excO e (.ref D) none)∨∃ d fs,H e=some (excO e (.ref D) (some d))/\H d=some (.xd fs)
theorem ExT.same{e D:Addr}(x:ExT H e D)(s:Same H H'):ExT H' e D:=by
 rcases x with x|⟨d,fs,x,y⟩
 ·exact .inl (s _ _ x)
 ·exact .inr ⟨d,fs,s _ _ x,s _ _ y⟩
theorem zi1{K:zby6}{e D C:Addr}{b:Bool}(x:ExT H e D)(h2:ExcK K D)(h3:(zcb5 K D).isSome=true)(k:zbz0 K (.ref D) (.ref C)=some b)(q:Q (.bl b) H):zab4 K (.ref e) (.ref C) H Q:=by
 rcases x with x|⟨d,fs,x,y⟩
 ·exact zba8 (zbm9 x h2 h3 k q)
 ·exact zbi7 x y h2 h3 k q
theorem zbj4{K:zby6}{e D:Addr}{n:String}{b:Bool}(x:ExT H e D)(h2:ExcK K D)(h3:(zcb5 K D).isSome=true)(k:zbz0 K (.ref D) (.type n)=some b)(q:Q (.bl b) H):zab4 K (.ref e) (.ty n) H Q:=by
 rcases x with x|⟨d,fs,x,y⟩
 ·exact zba8 (zbi4 x h2 h3 k q)
 ·exact zbk0 x y h2 h3 k q
@[irreducible] def ze5(zbr7:Addr):Sp:=fun vs H Q _=>∃ (e D:Addr) (name:Str),vs=[.ref e]/\ExT H e D/\((D=zbr7/\name="text"))/\∀ H',Same H H'->Q (.str name) H'
theorem zq8{e:Addr}(h:ExT H e zbr7)(q:∀ H',Same H H'->Q (.str "text") H'):ze5 zbr7 [.ref e] H Q E:=by unfold ze5;exact⟨e,zbr7,"text",rfl,h,⟨rfl,rfl⟩,q⟩
theorem zz0{f:Addr}(F:Fun K "_law_kind_of" "_law_kind_of" zm1 f fd)(N:Nm mg)(Z:Cz K mg base zbr8 zbr6 zbs5 zbt2 zbr9 zbs6 zbs2 zbs0 zbs1 zbs7 zbr7 zbt3 zbs8 zbs3 zbs4 zbt4):FnOk P w K mg base CX0 1 f fd ["_law_caught"] (ze5 zbr7):=by
 refine F.ok zd4 (fun vs H Q E h=>by unfold ze5 at h;obtain⟨_,_,_,rfl,_⟩:=h;rfl) fun _ _ _ s H vs Q E hr h=>?_
 unfold ze5 at h
 obtain⟨e,D,name,rfl,he,hD,q⟩:=h
 have hu:=hu40 hr
 obtain⟨b0,b1,b2,b3,b4,b5,b6,b7,b8,b9,b10,b11,b12,kK,kC,kH,kV,k0,k1,k2,k3,k4,k5,k6,k7,k8,k9,k10,k11,k12,hv⟩:∃ b0 b1 b2 b3 b4 b5 b6 b7 b8 b9 b10 b11 b12:Bool,ExcK K D/\(zcb5 K D).isSome=true/\zbz0 K (.ref D) (.ref zbr8)=some true/\zbz0 K (.ref D) (.type "ValueError")=some true/\zbz0 K (.ref D) (.ref zbr6)=some b0/\zbz0 K (.ref D) (.ref zbs5)=some b1/\zbz0 K (.ref D) (.ref zbt2)=some b2/\zbz0 K (.ref D) (.ref zbr9)=some b3/\zbz0 K (.ref D) (.ref zbs6)=some b4/\zbz0 K (.ref D) (.ref zbs2)=some b5/\zbz0 K (.ref D) (.ref zbs0)=some b6/\zbz0 K (.ref D) (.ref zbs1)=some b7/\zbz0 K (.ref D) (.ref zbs7)=some b8/\zbz0 K (.ref D) (.ref zbr7)=some b9/\zbz0 K (.ref D) (.ref zbt3)=some b10/\zbz0 K (.ref D) (.ref zbs8)=some b11/\zbz0 K (.ref D) (.ref zbs3)=some b12/\(([b0,b1,b2,b3,b4,b5,b6,b7,b8,b9,b10,b11,b12]=[false,false,false,false,false,false,false,false,false,true,false,false,false]/\name="text")):=by
  obtain⟨rfl,rfl⟩:=hD
  ·exact⟨_,_,_,_,_,_,_,_,_,_,_,_,_,Z.k_NoText,Z.c_NoText,Z.i_NoText_HostError,Z.v_NoText,Z.i_NoText_NoBattle,Z.i_NoText_NoPlan,Z.i_NoText_NoMix,Z.i_NoText_NoStream,Z.i_NoText_NoSide,Z.i_NoText_NoAlike,Z.i_NoText_NoNumber,Z.i_NoText_TooGreat,Z.i_NoText_NoEven,Z.i_NoText_NoText,Z.i_NoText_NoRow,Z.i_NoText_NoName,Z.i_NoText_NoPlace,⟨rfl,rfl⟩⟩
 refine⟨_,(pssTo (zb7 (psOf (psS (i:=1) zd4.nd (zn4 (za0 (pB (zr9 (K:=K) rfl) N.isinstance_ za8 (za0 (pq 0) (za0 (zf2 (v:=.ref zbr6) rfl Z.g_NoBattle rfl) za1))) (za0 (pB (zr9 (K:=K) rfl) N.isinstance_ za8 (za0 (pq 0) (za0 (zf2 (v:=.ref zbs5) rfl Z.g_NoPlan rfl) za1))) (za0 (pB (zr9 (K:=K) rfl) N.isinstance_ za8 (za0 (pq 0) (za0 (zf2 (v:=.ref zbt2) rfl Z.g_NoMix rfl) za1))) za1))))))
   (zb7 (psOf (psS (i:=1) zd4.nd (zc8 oAdd (pq 1) (zn4 (za0 (pB (zr9 (K:=K) rfl) N.isinstance_ za8 (za0 (pq 0) (za0 (zf2 (v:=.ref zbr9) rfl Z.g_NoStream rfl) za1))) (za0 (pB (zr9 (K:=K) rfl) N.isinstance_ za8 (za0 (pq 0) (za0 (zf2 (v:=.ref zbs6) rfl Z.g_NoSide rfl) za1))) (za0 (pB (zr9 (K:=K) rfl) N.isinstance_ za8 (za0 (pq 0) (za0 (zf2 (v:=.ref zbs2) rfl Z.g_NoAlike rfl) za1))) za1)))))))
   (zb7 (psOf (psS (i:=1) zd4.nd (zc8 oAdd (pq 1) (zn4 (za0 (pB (zr9 (K:=K) rfl) N.isinstance_ za8 (za0 (pq 0) (za0 (zf2 (v:=.ref zbs0) rfl Z.g_NoNumber rfl) za1))) (za0 (pB (zr9 (K:=K) rfl) N.isinstance_ za8 (za0 (pq 0) (za0 (zf2 (v:=.ref zbs1) rfl Z.g_TooGreat rfl) za1))) (za0 (pB (zr9 (K:=K) rfl) N.isinstance_ za8 (za0 (pq 0) (za0 (zf2 (v:=.ref zbs7) rfl Z.g_NoEven rfl) za1))) za1)))))))
   (zb7 (psOf (psS (i:=1) zd4.nd (zc8 oAdd (pq 1) (zn4 (za0 (pB (zr9 (K:=K) rfl) N.isinstance_ za8 (za0 (pq 0) (za0 (zf2 (v:=.ref zbr7) rfl Z.g_NoText rfl) za1))) (za0 (pB (zr9 (K:=K) rfl) N.isinstance_ za8 (za0 (pq 0) (za0 (zf2 (v:=.ref zbt3) rfl Z.g_NoRow rfl) za1))) (za0 (pB (zr9 (K:=K) rfl) N.isinstance_ za8 (za0 (pq 0) (za0 (zf2 (v:=.ref zbs8) rfl Z.g_NoName rfl) za1))) za1)))))))
   (zb7 (psOf (psS (i:=1) zd4.nd (zc8 oAdd (pq 1) (zn4 (za0 (pB (zr9 (K:=K) rfl) N.isinstance_ za8 (za0 (pq 0) (za0 (zf2 (v:=.ref zbs3) rfl Z.g_NoPlace rfl) za1))) za1)))))
   (zb7 (psIS (i:=2) zd4.nd (zj4 (za6 zf1 (za6 zf1 (za6 zf1 (za6 zf1 (za6 zf1 (za6 zf1 (za6 zf1 (za6 zf1 (za6 zf1 (za6 zf1 (za6 zf1 (za6 zf1 zd1))))))))))))))
   (zb7 (psOf (psIf (ptC oIs (pq 0) zk6) (za7 (zb1 zc0)) zc1))
   (zb7 (psOf (psIf (ptW (pwOr (zl2 (ptV (pB (zr9 (K:=K) rfl) N.isinstance_ za8 (za0 (pq 0) (za0 (zf2 (v:=.ref zbr8) rfl Z.g_HostError rfl) za1))))) (pwOr (zl2 (ptV (pB (zr9 (K:=K) rfl) N.isinstance_ za8 (za0 (pq 0) (za0 (pTy N.ValueError_ zag3) za1))))) (zq9 (ptC (oNeK (K:=K) rfl (by exact hu)) (zbh0 (K:=K) rfl (pq 1) (za0 zaa1 za1)) za2))))) (za7 (zb1 zc0)) zc1))
   (zm6 (psOf (zb1 (zb9 (K:=K) rfl (zc8 oAdd (pq 2) (zn4 (za0 zc0 za1))) (zbg4 (K:=K) rfl (pq 1) (za0 zaa1 za1))))))))))))))),?_⟩
 refine zi1 he kK kC k0 ?_
 refine zi1 he kK kC k1 ?_
 refine zi1 he kK kC k2 ?_
 refine zb6 (fun p1 H1 f1 s1 h1=>?_)
 have he1:=he.same s1
 refine zi1 he1 kK kC k3 ?_
 refine zi1 he1 kK kC k4 ?_
 refine zi1 he1 kK kC k5 ?_
 refine zb6 (fun p2 H2 f2 s2 h2=>?_)
 refine zy6 (s2 _ _ h1) h2 (by rw[zci0];simp) (fun p3 H3 f3 s3 h3=>?_)
 have he3:=(he1.same s2).same s3
 refine zi1 he3 kK kC k6 ?_
 refine zi1 he3 kK kC k7 ?_
 refine zi1 he3 kK kC k8 ?_
 refine zb6 (fun p4 H4 f4 s4 h4=>?_)
 refine zy6 (s4 _ _ h3) h4 (by rw[zci0];simp) (fun p5 H5 f5 s5 h5=>?_)
 have he5:=(he3.same s4).same s5
 refine zi1 he5 kK kC k9 ?_
 refine zi1 he5 kK kC k10 ?_
 refine zi1 he5 kK kC k11 ?_
 refine zb6 (fun p6 H6 f6 s6 h6=>?_)
 refine zy6 (s6 _ _ h5) h6 (by rw[zci0];simp) (fun p7 H7 f7 s7 h7=>?_)
 have he7:=(he5.same s6).same s7
 refine zi1 he7 kK kC k12 ?_
 refine zb6 (fun p8 H8 f8 s8 h8=>?_)
 refine zy6 (s8 _ _ h7) h8 (by rw[zci0];simp) (fun p9 H9 f9 s9 h9=>?_)
 have h9:H9 p9=some (.lst ([b0,b1,b2,b3,b4,b5,b6,b7,b8,b9,b10,b11,b12].map V.bl)):=h9
 refine zb6 (fun pa Ha fa sa ha=>?_)
 have s09:Same H Ha:=((((((((s1.trans s2).trans s3).trans s4).trans s5).trans s6).trans s7).trans s8).trans s9).trans sa
 have he9:=he.same s09
 refine br_F ?_
 refine zi1 he9 kK kC kH ?_
 refine zc6 (br_T ?_)
 refine zbj4 he9 kK kC kV ?_
 refine zc6 (br_T ?_)
 have h9a:=sa _ _ h9
 generalize [b0,b1,b2,b3,b4,b5,b6,b7,b8,b9,b10,b11,b12]=bs at h9a hv
 refine zac4 h9a ?_
 refine cnt_rd h9a rfl (by rcases hv with ⟨rfl,rfl⟩<;>rfl) ?_
 rw[show ((bs.map V.bl).countP fun y=>eqV y (.bl true))=1 by rcases hv with ⟨rfl,rfl⟩<;>rfl]
 refine zc6 (zk9 rfl ?_)
 refine zb6 (fun pb Hb fb sb hb=>?_)
 refine zy6 (sb _ _ ha) hb (by rw[zci0];simp) (fun pc Hc fc sc hc=>?_)
 have sac:=sb.trans sc
 refine zac4 (sac _ _ h9a) ?_
 ac_nf
 obtain⟨rfl,rfl⟩:=hv
 refine idx_rd 9 (sac _ _ h9a) rfl rfl ⟨_,rfl,rfl⟩ ?_ ?_
 ·intro m y hm hy
  match m,hm with
  | 0,_=>cases hy;rfl
  | 1,_=>cases hy;rfl
  | 2,_=>cases hy;rfl
  | 3,_=>cases hy;rfl
  | 4,_=>cases hy;rfl
  | 5,_=>cases hy;rfl
  | 6,_=>cases hy;rfl
  | 7,_=>cases hy;rfl
  | 8,_=>cases hy;rfl
  | m+9,hm=>omega
 refine zn5 (v:=.str "text") hc (by rfl) ?_
 ac_nf
 exact q _ (s09.trans sac)
def zaj8(x:Str):Prop:=x.length<=100000
@[irreducible] def zb4:Sp:=fun vs H Q _=>∃ (n:Int) (x:Str),vs=[.int n,.str x]/\zaj8 x /\
 ((n=0/\(∀ k:Nat,resB x=.inl k->∀ H',Same H H'->Q (.int k) H')/\∀ a c fs,resB x=.inr (a,c,fs)->∀ b l ps H',Same H H'->BxAt H' b l ps a c fs->Q (.ref b) H') ∨
  (n=1/\(∀ k:Nat,resP x=.inl k->∀ H',Same H H'->Q (.int k) H')/\∀ s,resP x=.inr s->∀ p st tb rs qs H',Same H H'->PpX H' p st tb rs s.1 qs s.2->Q (.ref p) H'))
theorem zav4{x:Str}(h:zaj8 x)(q1:∀ k:Nat,resB x=.inl k->∀ H',Same H H'->Q (.int k) H')(q2:∀ a c fs,resB x=.inr (a,c,fs)->∀ b l ps H',Same H H'->BxAt H' b l ps a c fs->Q (.ref b) H'):zb4 [.int 0,.str x] H Q E:=by
 unfold zb4;exact⟨0,x,rfl,h,.inl ⟨rfl,q1,q2⟩⟩
theorem zar7{x:Str}(h:zaj8 x)(q1:∀ k:Nat,resP x=.inl k->∀ H',Same H H'->Q (.int k) H')(q2:∀ s,resP x=.inr s->∀ p st tb rs qs H',Same H H'->PpX H' p st tb rs s.1 qs s.2->Q (.ref p) H'):zb4 [.int 1,.str x] H Q E:=by
 unfold zb4;exact⟨1,x,rfl,h,.inr ⟨rfl,q1,q2⟩⟩
theorem zw9{f:Addr}(F:Fun K "_law_told_of" "_law_told_of" zl5 f fd)(N:Nm mg)(zbu5:Def P w K mg base CX0 1 "_law_kind_of" ["_law_caught"] (ze5 zbr7))(zbv2:Def P w K mg base (CXR P w) 7 "read_battle" ["text"] (zf3 zbr7))(zbv5:Def P w K mg base (CXR P w) 5 "read_paper" ["text"] (zg3 zbr7))(Z:Cz K mg base zbr8 zbr6 zbs5 zbt2 zbr9 zbs6 zbs2 zbs0 zbs1 zbs7 zbr7 zbt3 zbs8 zbs3 zbs4 zbt4):FnOk P w K mg base CX0 8 f fd ["_law_way","_law_text"] zb4:=by
 refine F.ok ze3 (fun vs H Q E h=>by unfold zb4 at h;obtain⟨_,_,rfl,_⟩:=h;rfl) fun _ _ _ s H vs Q E hr h=>?_
 unfold zb4 at h
 obtain⟨n,x,rfl,hx,h⟩:=h
 have hu:=hu40 hr
 refine⟨_,(za3 (psS (i:=2) ze3.nd zk6)
   (za3 (psS (i:=3) ze3.nd zk6)
   (za3 (psTry (K:=K) (ke:=4) (ky:=2) rfl ze3.nd Z.g_HostError (zat8 (psxIf (ptC (zo1 (K:=K) rfl (by exact hu)) (pq 0) za2) (zat8 (zbm7 (i:=3) ze3.nd zbv2 hr (za0 (pq 1) za1))) (zat8 (zbm7 (i:=3) ze3.nd zbv5 hr (za0 (pq 1) za1))))))
   (za3 (psIf (ptC oIsX (pq 2) zk6) (za7 (zb1 (pq 3))) zc1)
   (za3 (psIf (ptC (zaa9 (K:=K) rfl (by exact hu)) (pD zbu5 hr zd6 (za0 (pq 2) za1)) zc0) (za7 (zb1 zk6)) zc1)
   (za7 (zb1 (peFldE (K:=K) rfl (pq 2))))))))),?_⟩
 rcases h with ⟨rfl,q1,q2⟩|⟨rfl,q1,q2⟩
 ·ac_nf
  refine zk9 rfl ?_
  refine zab5 hx (fun a c fs hs b l ps H1 s1 N1=>?_) (fun k hk d H0 f0 s0 h0=>zau0 Z.m_NoText (fun ea H1 f1 s1 h1=>?_))
  ·ac_nf
   first|refine br_T ?_|refine zk9 rfl ?_
   ac_nf
   exact q2 a c fs hs b l ps H1 s1 N1
  ·have h01:=s1 _ _ h0
   ac_nf
   first|refine br_F ?_|refine zm3 (fun z=>by cases z) ?_
   refine zq8 (.inr ⟨d,_,h1,h01⟩) (fun H2 s2=>?_)
   ac_nf
   first|refine br_F ?_|refine zc6 (zk9 rfl ?_)
   refine zbe8 (v:=.int k) (s2 _ _ h1) (s2 _ _ h01) rfl Z.k_NoText Z.hd_NoText Z.z_NoText.nf ?_
   ac_nf
   exact q1 k hk H2 ((s0.trans s1).trans s2)
 ·ac_nf
  refine zm3 (by decide) ?_
  refine zad3 hx (fun s hs p st tb rs qs H1 s1 N1=>?_) (fun k hk d H0 f0 s0 h0=>zau0 Z.m_NoText (fun ea H1 f1 s1 h1=>?_))
  ·ac_nf
   first|refine br_T ?_|refine zk9 rfl ?_
   ac_nf
   exact q2 s hs p st tb rs qs H1 s1 N1.pap
  ·have h01:=s1 _ _ h0
   ac_nf
   first|refine br_F ?_|refine zm3 (fun z=>by cases z) ?_
   refine zq8 (.inr ⟨d,_,h1,h01⟩) (fun H2 s2=>?_)
   ac_nf
   first|refine br_F ?_|refine zc6 (zk9 rfl ?_)
   refine zbe8 (v:=.int k) (s2 _ _ h1) (s2 _ _ h01) rfl Z.k_NoText Z.hd_NoText Z.z_NoText.nf ?_
   ac_nf
   exact q1 k hk H2 ((s0.trans s1).trans s2)
@[irreducible] def ze6:Sp:=fun vs H Q _=>∃ n k:Int,vs=[.int n,.int k]/\0<=n/\n<2147483629/\0<=k/\k<=10000000/\∀ r:Int,0<=r->r<2147483587->Q (.int r) H
theorem zay0{n k:Int}(h0:0<=n)(h1:n<2147483629)(h2:0<=k)(h3:k<=10000000)(q:∀ r:Int,0<=r->r<2147483587->Q (.int r) H):ze6 [.int n,.int k] H Q E:=by
 unfold ze6;exact⟨n,k,rfl,h0,h1,h2,h3,q⟩
theorem zaa0{f:Addr}(F:Fun K "_law_stirred" "_law_stirred" zm0 f fd)(N:Nm mg):FnOk P w K mg base CX0 1 f fd ["_law_number","_law_k"] ze6:=by
 refine F.ok zp1 (fun vs H Q E h=>by unfold ze6 at h;obtain⟨n,k,rfl,_⟩:=h;rfl) fun _ _ _ s H vs Q E hr h=>?_
 unfold ze6 at h
 obtain⟨n,k,rfl,h1,h2,h3,h4,q⟩:=h
 refine⟨_,(za3 (psS (i:=2) zp1.nd (zc8 oMod (zc8 oMul (zc8 oAdd (zc8 oAdd (zc8 oMul (pq 0) (pq 0)) (zc8 oMul (pq 1) (pq 0))) (zc8 oMul (zc8 oMul za2 (pq 1)) (pq 1))) za2) za2))
   (za7 (zb1 (zc8 oMod (zc8 oMul (pq 2) (pq 2)) za2)))),?_⟩
 repeat walk_at "st"
 ac_nf
 exact q _ (by assumption) (by assumption)
def zi0(H:Hp)(a:Addr)(b:Int):Prop:=∃ x y z:Int,H a=some (.lst [.int x,.int y,.int z])/\(y=1∨(y=0/\0<=x/\x<2147483629))/\0<=z/\z<=b
theorem zi0.same{H H':Hp}{a:Addr}{b:Int}(h:zi0 H a b)(s:Same H H'):zi0 H' a b:=by
 obtain⟨x,y,z,e,r⟩:=h
 exact⟨x,y,z,s _ _ e,r⟩
local macro_rules | `(tactic| walk_at "la")=>`(tactic| first|assumption|(refine zi0.same (H:=?H) ?l ?s;(case s=>assumption);(case l=>walk_at "la"))|fail "la")
theorem zi0.up{a:Addr}{b c:Int}(h:zi0 H a b)(l:b<=c):zi0 H a c:=by
 obtain⟨x,y,z,e1,e2,e3,e4⟩:=h
 exact⟨x,y,z,e1,e2,e3,by rfl'⟩
theorem zi0.ne{H:Hp}{a p:Addr}{b:Int}(h:zi0 H a b)(f:H p=none):p≠a:=by
 obtain⟨x,y,z,e,_⟩:=h
 exact Ne.symm (za4 e f)
local macro_rules | `(tactic| walk_at "ne")=>`(tactic| first|assumption|(apply Ne.symm;assumption)|(refine zi0.ne (H:=?H) (b:=?b) ?l ?f;(case f=>assumption);(case l=>walk_at "la"))|fail "ne")
@[irreducible] def zf5:Sp:=fun vs H Q _=>∃ c:Int,vs=[.int c]/\∀ p H',H p=none->Same H H'->zi0 H' p 0->Q (.ref p) H'
theorem zbf2{c:Int}(q:∀ p H',H p=none->Same H H'->zi0 H' p 0->Q (.ref p) H'):zf5 [.int c] H Q E:=by
 unfold zf5;exact⟨c,rfl,q⟩
theorem zab6{f:Addr}(F:Fun K "_law_opened" "_law_opened" zn3 f fd)(N:Nm mg):FnOk P w K mg base CX0 1 f fd ["_law_cell"] zf5:=by
 refine F.ok zab8 (fun vs H Q E h=>by unfold zf5 at h;obtain⟨n,rfl,_⟩:=h;rfl) fun _ _ _ s H vs Q E hr h=>?_
 unfold zf5 at h
 obtain⟨c,rfl,q⟩:=h
 refine⟨_,(za3 (psIf (ptC oLt (pq 0) (zc8 oPow za2 za2)) (za7 (zb1 (zn4 (za0 (zc8 oMod (pq 0) za2) (za0 za2 (za0 za2 za1)))))) zc1)
   (za7 (zb1 (zn4 (za0 (zc8 oSub (pq 0) (zc8 oPow za2 za2)) (za0 za2 (za0 za2 za1))))))),?_⟩
 walk_at "st"
 refine ze0 (fun h=>?_) (fun h=>?_)
 ·repeat walk_at "st"
  ac_nf
  exact q _ _ (by assumption) (by assumption) ⟨_,_,_,by assumption,.inr ⟨rfl,by assumption,by assumption⟩,by rfl',by rfl'⟩
 ·repeat walk_at "st"
  ac_nf
  exact q _ _ (by assumption) (by assumption) ⟨_,_,_,by assumption,.inl rfl,by rfl',by rfl'⟩
@[irreducible] def zh0:Sp:=fun vs H Q _=>∃ (a:Addr) (m b:Int),vs=[.ref a,.int m]/\zi0 H a b/\b<=1000000/\0<m/\m<10 ^ 60/\∀ (d:Int) H',0<=d->d<m->Chg a H H'->zi0 H' a (b+4)->Q (.int d) H'
theorem zu3{a:Addr}{m b:Int}(hL:zi0 H a b)(hb:b<=1000000)(h0:0<m)(h1:m<10 ^ 60)(q:∀ (d:Int) H',0<=d->d<m->Chg a H H'->zi0 H' a (b+4)->Q (.int d) H'):zh0 [.ref a,.int m] H Q E:=by
 unfold zh0;exact⟨a,m,b,rfl,hL,hb,h0,h1,q⟩
theorem zah4{f:Addr}(F:Fun K "_law_draw" "_law_draw" zr4 f fd)(N:Nm mg)(zbu6:Def P w K mg base CX0 1 "_law_stirred" ["_law_number","_law_k"] ze6):FnOk P w K mg base CX0 2 f fd ["_law_left","_law_base"] zh0:=by
 refine F.ok zg9 (fun vs H Q E h=>by unfold zh0 at h;obtain⟨a,m,b,rfl,_⟩:=h;rfl) fun _ _ _ s H vs Q E hr h=>?_
 unfold zh0 at h
 obtain⟨a,m,b,rfl,⟨x,y,z,hl,hy,hz0,hz1⟩,hb,hm0,hm1,q⟩:=h
 have hu:=hu40 hr
 refine⟨_,(za3 (psIf (ptC (oEqK (K:=K) rfl (by exact hu)) (zb9 (K:=K) rfl (pq 0) za2) za2) (za3 (psS (i:=2) zg9.nd (zc8 oMod (zb9 (K:=K) rfl (pq 0) za2) (pq 1)))
   (za3 (zbk9 (zc8 oDiv (zb9 (K:=K) rfl (pq 0) za2) (pq 1)) (zbk2 (pq 0) za2 setM))
   (za7 (zb1 (pq 2))))) zc1)
   (za3 (psS (i:=3) zg9.nd za2)
   (za3 (zax8 PassesOwn.never rfl (zbk6 N.range_ (za0 (zb9 (K:=K) rfl (zn4 (za0 za2 (za0 za2 za1))) (pT cInt N.int_ zq3 (za0 (peC oGt (pq 1) (zc8 oPow za2 za2)) za1))) za1)) (ze2 (i:=4) zg9.nd rfl (by eq_refl)) (za3 (zbk9 (zc8 oAdd (zb9 (K:=K) rfl (pq 0) za2) za2) (zbk2 (pq 0) za2 setM))
   (za3 (psS (i:=5) zg9.nd (pD zbu6 hr zd6 (za0 (zb9 (K:=K) rfl (pq 0) za2) (za0 (zb9 (K:=K) rfl (pq 0) za2) za1))))
   (za7 (psS (i:=3) zg9.nd (zc8 oAdd (zc8 oMul (pq 3) za2) (zc8 oMod (zc8 oMul (pq 5) (zc8 oAdd (pq 5) za2)) za2)))))))
   (za7 (zb1 (zc8 oMod (pq 3) (pq 1))))))),?_⟩
 walk_at "st"
 refine ze0 (fun h=>?_) (fun h=>?_)
 ·subst h
  walk_at "st"
  walk_at "st"
  walk_at "st"
  walk_at "st"
  refine zbm2 hl (by rfl) (fun H1 hc h1=>?_)
  ac_nf
  exact q _ _ (by assumption) (by assumption) hc ⟨_,_,_,h1,.inl rfl,hz0,by rfl'⟩
 ·obtain⟨rfl,hx0,hx1⟩:y=0/\0<=x/\x<2147483629:=by rfl'
  refine zb6 (fun p1 H1 hf1 hs1 ha1=>?_)
  walk_at "st"
  refine zae6 ha1 (by split<;>decide) (by show _<((2:Nat):Int);split<;>decide) (fun v hv=>?_)
  obtain⟨j,rfl,hj1,hj4⟩:∃ j:Int,v=.int j/\1<=j/\j<=4:=by
   simp only[zbz4,zbz7,or_false] at hv
   rcases hv with rfl|rfl
   ·exact⟨1,rfl,by decide,by decide⟩
   ·exact⟨4,rfl,by decide,by decide⟩
  refine zat1 (by decide) (by decide) (by rfl') (by rfl') ?_
  refine zax1 (fun i σ H2=>∃ (num:Int) (t mx:Option V),σ=[some (.ref a),some (.int m),none,some (.int num),t,mx]/\0<=num/\Chg a H H2/\H2 a=some (.lst [.int x,.int 0,.int (z+i)])) ?_ ?_ ?_
  ·exact⟨0,none,none,rfl,by decide,hs1.toChg,by rw[hs1 _ _ hl];simp⟩
  ·rintro i σ H2 hi ⟨num,t,mx,rfl,hn,hc,h2⟩
   have hi4:(i:Int)<4:=by rfl'
   walk_at "st"
   refine zbm2 h2 (by rfl) (fun H3 hc3 h3=>?_)
   walk_at "st"
   walk_at "st"
   refine zay0 hx0 hx1 (by rfl') (by rfl') (fun r hr0 hr1=>?_)
   walk_at "st"
   walk_at "st"
   walk_at "st"
   ac_nf
   refine⟨_,_,_,rfl,?_,hc.trans hc3,?_⟩
   ·rename_i r2 hr20 hr21
    omega
   ·rw[h3]
    have e:z+(i:Int)+1=z+((i+1:Nat):Int):=by rfl'
    rw[← e]
    rfl
  ·rintro σ H2 ⟨num,t,mx,rfl,hn,hc,h2⟩
   walk_at "st"
   ac_nf
   exact q _ _ (by assumption) (by assumption) hc ⟨_,_,_,h2,.inr ⟨rfl,hx0,hx1⟩,by rfl',by rfl'⟩
theorem zh8(a b:Str):(a++b).length=a.length+b.length:=by
 have e:=congrArg zce8 (PySem.W.KT.app_list a b)
 rw[zbz2,zca0,zca0,zca0] at e
 exact e
structure Wd(y:Str)(ng:Bool)(fs:List Nat):Prop where
 l:y.cps.toList=(if ng then [45] else [])++fs
 d:∀ c∈fs,48<=c/\c<=57
 n:1998<=fs.length/\fs.length<=4400
@[irreducible] def zd2:Sp:=fun vs H Q _=>∃ (a:Addr) (b:Int),vs=[.ref a]/\zi0 H a b/\b<=900000/\∀ (y:Str) ng fs H',Wd y ng fs->Chg a H H'->Q (.str y) H'
theorem zaf8{a:Addr}{b:Int}(L:zi0 H a b)(hb:b<=900000)(q:∀ (y:Str) ng fs H',Wd y ng fs->Chg a H H'->Q (.str y) H'):zd2 [.ref a] H Q E:=by
 unfold zd2;exact⟨a,b,rfl,L,hb,q⟩
theorem zaf1{x:Str}{d:Int}(h0:0<=d)(h1:d<x.length)(al:x.cps.toList.all (fun c=>decide (48<=c/\c<=57))=true):∃ c,atI x.cps.toList d=some c/\48<=c/\c<=57:=by
 obtain⟨j,rfl⟩:=Int.eq_ofNat_of_zero_le h0
 have l:x.cps.toList.length=x.length:=zca0
 have hj:j<x.cps.toList.length:=by rfl'
 exact⟨_,zd0 (zby8 hj),of_decide_eq_true (zcc9.mp al _ (List.getElem_mem hj))⟩
theorem zs2{f:Addr}(F:Fun K "_law_drawn_word" "_law_drawn_word" zi5 f fd)(N:Nm mg)(zbt6:Def P w K mg base CX0 2 "_law_draw" ["_law_left","_law_base"] zh0):FnOk P w K mg base CX0 3 f fd ["_law_left"] zd2:=by
 refine F.ok zd9 (fun vs H Q E h=>by unfold zd2 at h;obtain⟨_,_,rfl,_⟩:=h;rfl) fun _ _ _ s H vs Q E hr h=>?_
 unfold zd2 at h
 obtain⟨a,b,rfl,L,hb,q⟩:=h
 have hu:=hu40 hr
 refine⟨_,(za3 (psS (i:=1) zd9.nd (zb9 (K:=K) rfl (zn4 (za0 za2 (za0 za2 (za0 za2 (za0 za2 (za0 za2 (za0 za2 za1))))))) (pD zbt6 hr zd6 (za0 (pq 0) (za0 za2 za1)))))
   (za3 (psS (i:=2) zd9.nd (zb9 (K:=K) rfl zc0 (pD zbt6 hr zd6 (za0 (pq 0) (za0 za2 za1)))))
   (za3 (zbd6 (psIf (ptC (oEqK (K:=K) rfl (by exact hu)) (pD zbt6 hr zd6 (za0 (pq 0) (za0 za2 za1))) za2) (za7 (psS (i:=2) zd9.nd zc0)) zc1))
   (za3 (psS (i:=3) zd9.nd (zc8 oAdd (zc8 oAdd (pq 2) (zc8 oMulS (zb9 (K:=K) rfl zc0 (pD zbt6 hr zd6 (za0 (pq 0) (za0 za2 za1)))) (zc8 oSub (pq 1) za2))) (zb9 (K:=K) rfl zc0 (pD zbt6 hr zd6 (za0 (pq 0) (za0 za2 za1))))))
   (za7 (zb1 (zc8 oAdd (zb9 (K:=K) rfl (zn4 (za0 zc0 (za0 zc0 za1))) (pD zbt6 hr zd6 (za0 (pq 0) (za0 za2 za1)))) (pq 3)))))))),?_⟩
 refine zb6 (fun p1 H1 f1 s1 h1=>?_)
 refine zu3 (L.same s1) (by rfl') (by rfl') (by rfl') (fun d1 H2 d10 d11 c1 L1=>?_)
 have h12:=c1 _ _ (L.ne f1) h1
 refine zae6 h12 (by rfl') (by simp only[zca2,zcd1];omega) ?_
 intro v hv
 obtain⟨m,rfl,m1,m2⟩:∃ m:Int,v=.int m/\1998<=m/\m<=4400:=by
  simp only[zbz4,zbz7,or_false] at hv
  rcases hv with rfl|rfl|rfl|rfl|rfl|rfl<;>exact⟨_,rfl,by rfl',by rfl'⟩
 clear hv
 refine zu3 L1 (by rfl') (by rfl') (by rfl') (fun d2 H3 d20 d21 c2 L2=>?_)
 ac_nf
 obtain⟨c,ec,cd⟩:=zaf1 (x:=Str.ofString "123456789") d20 (by rw[show (Str.ofString "123456789").length=9 by decide +kernel];exact d21) (by decide +kernel)
 refine⟨c,by rw[zci0];decide +kernel,ec,?_⟩
 have s1c:Chg a H H1:=fun b o _ e=>s1 b o e
 have c03:Chg a H H3:=(s1c.trans c1).trans c2
 refine zas0 (fun σ J=>∃ e:Nat,σ=[some (.ref a),some (.int m),some (.str ⟨#[e]⟩),none]/\(48<=e/\e<=57)/\Chg a H J/\zi0 J a (b+12)) ?_ ?_
 ·ac_nf
  refine zu3 L2 (by rfl') (by rfl') (by rfl') (fun d3 H4 d30 d31 c3 L3=>?_)
  refine ze0 (fun e0=>?_) (fun e0=>?_)
  ·ac_nf
   exact⟨48,by rw[show Str.ofString "0"=⟨#[48]⟩ by decide +kernel];rfl,⟨by rfl',by rfl'⟩,c03.trans c3,L3.up (by rfl')⟩
  ·ac_nf
   exact⟨c,rfl,cd,c03.trans c3,L3.up (by rfl')⟩
 rintro σ J ⟨e,rfl,ed,cJ,LJ⟩
 refine zu3 LJ (by rfl') (by rfl') (by rfl') (fun d4 H5 d40 d41 c4 L4=>?_)
 ac_nf
 have ten:(Str.ofString "0123456789").length=10:=by decide +kernel
 have figs:(Str.ofString "0123456789").cps.toList.all (fun c=>decide (48<=c/\c<=57))=true:=by decide +kernel
 obtain⟨g,eg,gd⟩:=zaf1 (x:=Str.ofString "0123456789") d40 (by rw[ten];exact d41) figs
 refine⟨g,by rw[zci0];omega,eg,?_⟩
 refine zbq3 (by rfl') (by rfl') rfl ?_
 have ml:(Txt.mul ⟨#[g]⟩ (m - 2)).cps.toList=List.replicate (m - 2).toNat g:=mul_one (by rfl')
 have mll:(Txt.mul ⟨#[g]⟩ (m - 2)).length=(m - 2).toNat:=by
  have:=congrArg zce8 ml
  rw[zca0,List.length_replicate] at this
  exact this
 have one:∀ e:Nat,(⟨#[e]⟩:Str).length=1:=fun e=>rfl
 generalize Txt.mul ⟨#[g]⟩ (m - 2)=mid at ml mll
 ac_nf
 refine⟨by rw[one,mll,zci0];omega,?_⟩
 refine zu3 L4 (by rfl') (by rfl') (by rfl') (fun d5 H6 d50 d51 c5 L5=>?_)
 ac_nf
 obtain⟨k,ek,kd⟩:=zaf1 (x:=Str.ofString "0123456789") d50 (by rw[ten];exact d51) figs
 refine⟨k,by rw[zci0];omega,ek,?_⟩
 ac_nf
 refine⟨by simp only[zh8,one,mll,zci0];omega,?_⟩
 obtain⟨fg,efg⟩:∃ fg:Str,fg=(⟨#[e]⟩:Str)++mid++(⟨#[k]⟩:Str):=⟨_,rfl⟩
 have fl:fg.cps.toList=e :: (List.replicate (m - 2).toNat g++[k]):=by
  rw[efg,PySem.W.KT.app_list,PySem.W.KT.app_list,ml]
  simp
 have fd:∀ c∈fg.cps.toList,48<=c/\c<=57:=fun c hc=>by
  rw[fl] at hc
  rcases zbz4.mp hc with rfl|hc
  ·exact ed
  ·rcases zcc1.mp hc with hc|hc
   ·rw[List.eq_of_mem_replicate hc];exact gd
   ·rw[zcd5.mp hc];exact kd
 have fn:fg.length=(m - 2).toNat+2:=by
  have:=congrArg zce8 fl
  rw[zca0,zca2,zbz2,List.length_replicate,zcb1] at this
  exact this
 have fn2:fg.cps.toList.length=(m - 2).toNat+2:=by rw[zca0];exact fn
 rw[← efg]
 refine zb6 (fun p7 H7 f7 s7 h7=>?_)
 have c07:Chg a H H7:=((cJ.trans c4).trans c5).same s7
 refine zu3 (L5.same s7) (by rfl') (by rfl') (by rfl') (fun d6 H8 d60 d61 c6 L6=>?_)
 have h78:=c6 _ _ (L5.ne f7) h7
 refine zae6 h78 (by rfl') (by simp only[zca2,zcd1];omega) ?_
 intro v hv
 obtain⟨y,ng,rfl,ey⟩:∃ (y:Str) (ng:Bool),v=.str y/\y.cps.toList=if ng then [45] else []:=by
  simp only[zbz4,zbz7,or_false] at hv
  rcases hv with rfl|rfl
  ·exact⟨_,false,rfl,by decide +kernel⟩
  ·exact⟨_,true,rfl,by decide +kernel⟩
 have yl:y.length<=1:=by
  have:=congrArg zce8 ey
  rw[zca0] at this
  have h2:((if ng then [45] else []):List Nat).length<=1:=by cases ng<;>decide
  have:y.length=((if ng then [45] else []):List Nat).length:=this
  omega
 ac_nf
 refine⟨by rw[fn,zci0];omega,?_⟩
 ac_nf
 exact q _ ng fg.cps.toList H8 ⟨by rw[PySem.W.KT.app_list,ey],fd,by rfl'⟩ (c07.trans c6)
theorem zx4(c:Nat)(a b:Str)(r:List Str):(Txt.join ⟨#[c]⟩ (a :: b :: r)).cps.toList=a.cps.toList++c :: (Txt.join ⟨#[c]⟩ (b :: r)).cps.toList:=by
 rw[show Txt.join ⟨#[c]⟩ (a :: b :: r)=(⟨#[c]⟩:Str).join (a :: b :: r) from StrLaws.glued_eq_join _ _,show Txt.join ⟨#[c]⟩ (b :: r)=(⟨#[c]⟩:Str).join (b :: r) from StrLaws.glued_eq_join _ _]
 exact zg6 c a b r
theorem zx7(c:Nat)(a:Str):(Txt.join ⟨#[c]⟩ [a]).cps.toList=a.cps.toList:=by
 rw[show Txt.join ⟨#[c]⟩ [a]=(⟨#[c]⟩:Str).join [a] from StrLaws.glued_eq_join _ _,Str.join.eq_2]
theorem lit0:(Str.ofString "hosts").cps.toList=[104,111,115,116,115]:=by decide +kernel
theorem lit1:(Str.ofString "lead").cps.toList=[108,101,97,100]:=by decide +kernel
theorem lit2:(Str.ofString "more").cps.toList=[109,111,114,101]:=by decide +kernel
theorem lit3:(Str.ofString "table").cps.toList=[116,97,98,108,101]:=by decide +kernel
theorem lit4:(Str.ofString "flow").cps.toList=[102,108,111,119]:=by decide +kernel
theorem lit5:(Str.ofString "number").cps.toList=[110,117,109,98,101,114]:=by decide +kernel
theorem lit6:(Str.ofString "0").cps.toList=[48]:=by decide +kernel
theorem lit7:(Str.ofString "1").cps.toList=[49]:=by decide +kernel
theorem lit8:(Str.ofString "3").cps.toList=[51]:=by decide +kernel
theorem lit9:(Str.ofString "hosts 0 0\nlead 3 ").cps.toList=[104,111,115,116,115,32,48,32,48,10,108,101,97,100,32,51,32]:=by decide +kernel
theorem zaz3:(Str.ofString "\n").cps.toList=[10]:=by decide +kernel
theorem zax0:(Str.ofString "hosts 0 1\nmore 1 0\ntable ").cps.toList=[104,111,115,116,115,32,48,32,49,10,109,111,114,101,32,49,32,48,10,116,97,98,108,101,32]:=by decide +kernel
theorem zay4:(Str.ofString " 0\n").cps.toList=[32,48,10]:=by decide +kernel
theorem zax5:(Str.ofString "hosts ").cps.toList=[104,111,115,116,115,32]:=by decide +kernel
theorem zaw9:(Str.ofString " 0\nmore 1 0\n").cps.toList=[32,48,10,109,111,114,101,32,49,32,48,10]:=by decide +kernel
theorem zax4:(Str.ofString "flow 0 1 0 ").cps.toList=[102,108,111,119,32,48,32,49,32,48,32]:=by decide +kernel
theorem zaz9:(Str.ofString "\nnumber 0 0 0\n").cps.toList=[10,110,117,109,98,101,114,32,48,32,48,32,48,10]:=by decide +kernel
theorem zay3:(Str.ofString "flow 0 1 0 1\nnumber 0 0 ").cps.toList=[102,108,111,119,32,48,32,49,32,48,32,49,10,110,117,109,98,101,114,32,48,32,48,32]:=by decide +kernel
theorem zax3:(Str.ofString "flow ").cps.toList=[102,108,111,119,32]:=by decide +kernel
theorem zay2:(Str.ofString " 1 0 1\nnumber 0 0 0\n").cps.toList=[32,49,32,48,32,49,10,110,117,109,98,101,114,32,48,32,48,32,48,10]:=by decide +kernel
def rowJ(ws:List Str):Str:=Txt.join ⟨#[32]⟩ ws
def lnJ(ls:List Str):Str:=Txt.join ⟨#[10]⟩ (ls++[⟨#[]⟩])
theorem zba0{ws:List Str}(hn:ws≠[])(h:∀ w∈ws,32 ∉ w.cps.toList):zn9 (rowJ ws)=ws:=by
 unfold zn9 rowJ
 rw[show Str.ofString " "=⟨#[32]⟩ by decide +kernel]
 exact zac6 (c:=32) hn h
theorem zbg6{ls:List Str}(h:∀ w∈ls,10 ∉ w.cps.toList):zp0 (lnJ ls)=ls++[⟨#[]⟩]:=by
 unfold zp0 lnJ
 rw[show Str.ofString "\n"=⟨#[10]⟩ by decide +kernel]
 exact zac6 (c:=10) (by simp) fun w hw=>by
  rcases zcc1.mp hw with hw|hw
  ·exact h w hw
  ·rw[zcd5.mp hw];simp
theorem zp5{w0:Str}{ws:List Str}(h:∀ w∈w0 :: ws,32 ∉ w.cps.toList):rowP (rowJ (w0 :: ws))=if (hasW w0 (ws.length:Int)&&ws.all (fun w=>numB w.cps.toList))=true then some (w0,ws.map valS) else none:=by
 unfold rowP
 rw[zba0 (by simp) h]
 rfl
theorem ze4{ws:List Str}(h:∀ w∈ws,10 ∉ w.cps.toList):10 ∉ (rowJ ws).cps.toList:=by
 induction ws with
 | nil=>unfold rowJ;rw[show Txt.join ⟨#[32]⟩ []=(⟨#[32]⟩:Str).join [] from StrLaws.glued_eq_join _ _,Str.join.eq_1];show ¬ 10∈Str.empty.cps.toList;decide
 | cons a r ih=>
  cases r with
  | nil=>unfold rowJ;rw[zx7];exact h a (by simp)
  | cons b r=>
   unfold rowJ at ih ⊢
   rw[zx4]
   intro hm
   rcases zcc1.mp hm with hm|hm
   ·exact h a (by simp) hm
   ·rcases zbz4.mp hm with hm|hm
    ·cases hm
    ·exact ih (fun w hw=>h w (.tail _ hw)) hm
def T1(w:Str):Str:=(Str.ofString "hosts 0 0\nlead 3 "++w)++Str.ofString "\n"
theorem T1_ln(w:Str):T1 w=lnJ [rowJ [Str.ofString "hosts",Str.ofString "0",Str.ofString "0"],rowJ [Str.ofString "lead",Str.ofString "3",w]]:=by
 refine PyProof.Rows.ext_toList ?_
 unfold T1 lnJ rowJ
 simp only[zcf7,zce4,zx4,zx7,PySem.W.KT.app_list,lit0,lit1,lit2,lit3,lit4,lit5,lit6,lit7,lit8,lit9,zaz3,zax0,zay4,zax5,zaw9,zax4,zaz9,zay3,zax3,zay2,zcb4]
def T2(w:Str):Str:=(Str.ofString "hosts 0 1\nmore 1 0\ntable "++w)++Str.ofString " 0\n"
theorem T2_ln(w:Str):T2 w=lnJ [rowJ [Str.ofString "hosts",Str.ofString "0",Str.ofString "1"],rowJ [Str.ofString "more",Str.ofString "1",Str.ofString "0"],rowJ [Str.ofString "table",w,Str.ofString "0"]]:=by
 refine PyProof.Rows.ext_toList ?_
 unfold T2 lnJ rowJ
 simp only[zcf7,zce4,zx4,zx7,PySem.W.KT.app_list,lit0,lit1,lit2,lit3,lit4,lit5,lit6,lit7,lit8,lit9,zaz3,zax0,zay4,zax5,zaw9,zax4,zaz9,zay3,zax3,zay2,zcb4]
def T3(w:Str):Str:=(Str.ofString "hosts "++w)++Str.ofString " 0\nmore 1 0\n"
theorem T3_ln(w:Str):T3 w=lnJ [rowJ [Str.ofString "hosts",w,Str.ofString "0"],rowJ [Str.ofString "more",Str.ofString "1",Str.ofString "0"]]:=by
 refine PyProof.Rows.ext_toList ?_
 unfold T3 lnJ rowJ
 simp only[zcf7,zce4,zx4,zx7,PySem.W.KT.app_list,lit0,lit1,lit2,lit3,lit4,lit5,lit6,lit7,lit8,lit9,zaz3,zax0,zay4,zax5,zaw9,zax4,zaz9,zay3,zax3,zay2,zcb4]
def T4(w:Str):Str:=(Str.ofString "flow 0 1 0 "++w)++Str.ofString "\nnumber 0 0 0\n"
theorem T4_ln(w:Str):T4 w=lnJ [rowJ [Str.ofString "flow",Str.ofString "0",Str.ofString "1",Str.ofString "0",w],rowJ [Str.ofString "number",Str.ofString "0",Str.ofString "0",Str.ofString "0"]]:=by
 refine PyProof.Rows.ext_toList ?_
 unfold T4 lnJ rowJ
 simp only[zcf7,zce4,zx4,zx7,PySem.W.KT.app_list,lit0,lit1,lit2,lit3,lit4,lit5,lit6,lit7,lit8,lit9,zaz3,zax0,zay4,zax5,zaw9,zax4,zaz9,zay3,zax3,zay2,zcb4]
def T5(w:Str):Str:=(Str.ofString "flow 0 1 0 1\nnumber 0 0 "++w)++Str.ofString "\n"
theorem T5_ln(w:Str):T5 w=lnJ [rowJ [Str.ofString "flow",Str.ofString "0",Str.ofString "1",Str.ofString "0",Str.ofString "1"],rowJ [Str.ofString "number",Str.ofString "0",Str.ofString "0",w]]:=by
 refine PyProof.Rows.ext_toList ?_
 unfold T5 lnJ rowJ
 simp only[zcf7,zce4,zx4,zx7,PySem.W.KT.app_list,lit0,lit1,lit2,lit3,lit4,lit5,lit6,lit7,lit8,lit9,zaz3,zax0,zay4,zax5,zaw9,zax4,zaz9,zay3,zax3,zay2,zcb4]
def T6(w:Str):Str:=(Str.ofString "flow "++w)++Str.ofString " 1 0 1\nnumber 0 0 0\n"
theorem T6_ln(w:Str):T6 w=lnJ [rowJ [Str.ofString "flow",w,Str.ofString "1",Str.ofString "0",Str.ofString "1"],rowJ [Str.ofString "number",Str.ofString "0",Str.ofString "0",Str.ofString "0"]]:=by
 refine PyProof.Rows.ext_toList ?_
 unfold T6 lnJ rowJ
 simp only[zcf7,zce4,zx4,zx7,PySem.W.KT.app_list,lit0,lit1,lit2,lit3,lit4,lit5,lit6,lit7,lit8,lit9,zaz3,zax0,zay4,zax5,zaw9,zax4,zaz9,zay3,zax3,zay2,zcb4]
theorem Wd.fig{w:Str}{fs:List Nat}(W:Wd w ng fs):figL w.cps.toList=fs:=by
 rw[W.l]
 cases ng with
 | true=>rfl
 | false=>
  rw[if_neg zbz3,zce4]
  refine zp8 fun h=>?_
  cases fs with
  | nil=>cases h
  | cons c r=>cases h;have:=W.d 45 (.head _);omega
theorem Wd.num{w:Str}{fs:List Nat}(W:Wd w ng fs):numB w.cps.toList=(decide (fs.length<=2000)&&decide (fs.head?≠some 48)):=by
 have n:=W.n
 unfold numB
 rw[W.fig,decide_eq_true (show 1<=fs.length by rfl'),zcc9.mpr (fun c hc=>decide_eq_true (W.d c hc)),decide_eq_false (show ¬ w.cps.toList=[48] from fun z=>by
  have:=congrArg zce8 z
  rw[W.l,zbz2,zcb1] at this
  omega),Bool.or_false,zce3,zcc4]
theorem Wd.mem{w:Str}{fs:List Nat}(W:Wd w ng fs){c:Nat}(h:c∈w.cps.toList):c=45∨(48<=c/\c<=57):=by
 rw[W.l] at h
 rcases zcc1.mp h with h|h
 ·cases ng with
  | true=>exact .inl (zcd5.mp h)
  | false=>cases h
 ·exact .inr (W.d c h)
theorem Wd.f32{w:Str}{fs:List Nat}(W:Wd w ng fs):32 ∉ w.cps.toList:=fun h=>by have:=W.mem h;omega
theorem Wd.f10{w:Str}{fs:List Nat}(W:Wd w ng fs):10 ∉ w.cps.toList:=fun h=>by have:=W.mem h;omega
theorem zbc0:∀ (cs:List Nat) (acc:Nat),acc<=cs.foldl (fun acc c=>acc*10+(c - 48)) acc
 | [],acc=>zca7 _
 | c :: cs,acc=>by
  rw[List.foldl_cons]
  exact zcc5 (by rfl') (zbc0 cs _)
theorem zay6{fs:List Nat}(h1:3<=fs.length)(h2:∀ c∈fs,48<=c/\c<=57)(h3:fs.head?≠some 48):10<PySem.NumText.digitsVal fs:=by
 match fs,h1 with
 | c0 :: c1 :: c2 :: r,_=>
  have hc:=h2 c0 (.head _)
  have n0:c0≠48:=fun z=>h3 (by rw[z];rfl)
  show 10<(c0 :: c1 :: c2 :: r).foldl (fun acc c=>acc*10+(c - 48)) 0
  simp only[List.foldl_cons]
  exact zca8 (by rfl') (zbc0 r _)
theorem Wd.big{w:Str}{ng:Bool}{fs:List Nat}(W:Wd w ng fs)(g:numB w.cps.toList=true):valS w<0∨10<valS w:=by
 have hi:=zw5 g
 have n:=W.n
 have g2:=g
 rw[W.num,zcb3,decide_eq_true_eq,decide_eq_true_eq] at g2
 have big:=zay6 (by rfl') W.d g2.2
 have ne:fs≠[]:=fun z=>by rw[z] at n;simp at n
 have xl:w.length=w.cps.toList.length:=zca0.symm
 have wl:=congrArg zce8 W.l
 cases ng with
 | true=>
  have ec:w.cps.toList=45 :: fs:=W.l
  rw[ec,zca2] at xl
  have e2:=intText_neg ec W.d ne (by rfl')
  rw[hi] at e2
  rw[Option.some.inj e2]
  exact .inl (by rfl')
 | false=>
  have ec:w.cps.toList=fs:=W.l
  rw[ec] at xl
  have e2:=intText_digits (x:=w) (by rw[ec];exact W.d) (by rw[ec];exact ne) (by rfl')
  rw[hi] at e2
  rw[Option.some.inj e2,ec]
  exact .inr (by rfl')
theorem Wd.len{w:Str}{fs:List Nat}(W:Wd w ng fs):w.length<=4401:=by
 have xl:w.length=w.cps.toList.length:=zca0.symm
 have n:=W.n
 rw[xl,W.l,zbz2]
 cases ng
 ·show 0+fs.length<=_;omega
 ·show 1+fs.length<=_;omega
theorem nums:numB (Str.ofString "0").cps.toList=true/\numB (Str.ofString "1").cps.toList=true/\numB (Str.ofString "3").cps.toList=true:=by decide +kernel
theorem vals:valS (Str.ofString "0")=0/\valS (Str.ofString "1")=1/\valS (Str.ofString "3")=3:=by decide +kernel
theorem zt8{st:Option Rw->Rw->Bool}{ls:List Str}(h:∀ w∈ls,10 ∉ w.cps.toList):zo2 st (lnJ ls)=goP st ls []:=by
 unfold zo2
 rw[zbg6 h,zce7,zce1]
 cases goP st ls [] with
 | inl k=>rfl
 | inr rs=>exact if_pos rfl
theorem rowL0:rowP (rowJ [Str.ofString "hosts",Str.ofString "0",Str.ofString "0"])=some (Str.ofString "hosts",[0,0]):=by
 rw[zp5 (by
  intro x hx
  simp only[zbz4,zbz7,or_false] at hx
  rcases hx with rfl|rfl|rfl<;>first|exact W.f32|decide +kernel)]
 show (if (hasW (Str.ofString "hosts") 2&&(numB (Str.ofString "0").cps.toList&&(numB (Str.ofString "0").cps.toList&&true)))=true then some (Str.ofString "hosts",[valS (Str.ofString "0"),valS (Str.ofString "0")]) else none)=_
 rw[show hasW (Str.ofString "hosts") 2=true by decide +kernel,nums.1,vals.1]
 simp only[zcc4,zce3,if_true]
theorem rowL1:rowP (rowJ [Str.ofString "hosts",Str.ofString "0",Str.ofString "1"])=some (Str.ofString "hosts",[0,1]):=by
 rw[zp5 (by
  intro x hx
  simp only[zbz4,zbz7,or_false] at hx
  rcases hx with rfl|rfl|rfl<;>first|exact W.f32|decide +kernel)]
 show (if (hasW (Str.ofString "hosts") 2&&(numB (Str.ofString "0").cps.toList&&(numB (Str.ofString "1").cps.toList&&true)))=true then some (Str.ofString "hosts",[valS (Str.ofString "0"),valS (Str.ofString "1")]) else none)=_
 rw[show hasW (Str.ofString "hosts") 2=true by decide +kernel,nums.1,nums.2.1,vals.1,vals.2.1]
 simp only[zcc4,zce3,if_true]
theorem rowL2:rowP (rowJ [Str.ofString "more",Str.ofString "1",Str.ofString "0"])=some (Str.ofString "more",[1,0]):=by
 rw[zp5 (by
  intro x hx
  simp only[zbz4,zbz7,or_false] at hx
  rcases hx with rfl|rfl|rfl<;>first|exact W.f32|decide +kernel)]
 show (if (hasW (Str.ofString "more") 2&&(numB (Str.ofString "1").cps.toList&&(numB (Str.ofString "0").cps.toList&&true)))=true then some (Str.ofString "more",[valS (Str.ofString "1"),valS (Str.ofString "0")]) else none)=_
 rw[show hasW (Str.ofString "more") 2=true by decide +kernel,nums.1,nums.2.1,vals.1,vals.2.1]
 simp only[zcc4,zce3,if_true]
theorem rowL3:rowP (rowJ [Str.ofString "number",Str.ofString "0",Str.ofString "0",Str.ofString "0"])=some (Str.ofString "number",[0,0,0]):=by
 rw[zp5 (by
  intro x hx
  simp only[zbz4,zbz7,or_false] at hx
  rcases hx with rfl|rfl|rfl|rfl<;>first|exact W.f32|decide +kernel)]
 show (if (hasW (Str.ofString "number") 3&&(numB (Str.ofString "0").cps.toList&&(numB (Str.ofString "0").cps.toList&&(numB (Str.ofString "0").cps.toList&&true))))=true then some (Str.ofString "number",[valS (Str.ofString "0"),valS (Str.ofString "0"),valS (Str.ofString "0")]) else none)=_
 rw[show hasW (Str.ofString "number") 3=true by decide +kernel,nums.1,vals.1]
 simp only[zcc4,zce3,if_true]
theorem rowL4:rowP (rowJ [Str.ofString "flow",Str.ofString "0",Str.ofString "1",Str.ofString "0",Str.ofString "1"])=some (Str.ofString "flow",[0,1,0,1]):=by
 rw[zp5 (by
  intro x hx
  simp only[zbz4,zbz7,or_false] at hx
  rcases hx with rfl|rfl|rfl|rfl|rfl<;>first|exact W.f32|decide +kernel)]
 show (if (hasW (Str.ofString "flow") 4&&(numB (Str.ofString "0").cps.toList&&(numB (Str.ofString "1").cps.toList&&(numB (Str.ofString "0").cps.toList&&(numB (Str.ofString "1").cps.toList&&true)))))=true then some (Str.ofString "flow",[valS (Str.ofString "0"),valS (Str.ofString "1"),valS (Str.ofString "0"),valS (Str.ofString "1")]) else none)=_
 rw[show hasW (Str.ofString "flow") 4=true by decide +kernel,nums.1,nums.2.1,vals.1,vals.2.1]
 simp only[zcc4,zce3,if_true]
theorem rowW0{w:Str}{fs:List Nat}(W:Wd w ng fs):rowP (rowJ [Str.ofString "lead",Str.ofString "3",w])=if numB w.cps.toList=true then some (Str.ofString "lead",[3,valS w]) else none:=by
 rw[zp5 (by
  intro x hx
  simp only[zbz4,zbz7,or_false] at hx
  rcases hx with rfl|rfl|rfl<;>first|exact W.f32|decide +kernel)]
 show (if (hasW (Str.ofString "lead") 2&&(numB (Str.ofString "3").cps.toList&&(numB (w).cps.toList&&true)))=true then some (Str.ofString "lead",[valS (Str.ofString "3"),valS w]) else none)=_
 rw[show hasW (Str.ofString "lead") 2=true by decide +kernel,nums.2.2,vals.2.2]
 simp only[zcc4,zce3]
theorem rowW1{w:Str}{fs:List Nat}(W:Wd w ng fs):rowP (rowJ [Str.ofString "table",w,Str.ofString "0"])=if numB w.cps.toList=true then some (Str.ofString "table",[valS w,0]) else none:=by
 rw[zp5 (by
  intro x hx
  simp only[zbz4,zbz7,or_false] at hx
  rcases hx with rfl|rfl|rfl<;>first|exact W.f32|decide +kernel)]
 show (if (hasW (Str.ofString "table") 2&&(numB (w).cps.toList&&(numB (Str.ofString "0").cps.toList&&true)))=true then some (Str.ofString "table",[valS w,valS (Str.ofString "0")]) else none)=_
 rw[show hasW (Str.ofString "table") 2=true by decide +kernel,nums.1,vals.1]
 simp only[zcc4,zce3]
theorem rowW2{w:Str}{fs:List Nat}(W:Wd w ng fs):rowP (rowJ [Str.ofString "hosts",w,Str.ofString "0"])=if numB w.cps.toList=true then some (Str.ofString "hosts",[valS w,0]) else none:=by
 rw[zp5 (by
  intro x hx
  simp only[zbz4,zbz7,or_false] at hx
  rcases hx with rfl|rfl|rfl<;>first|exact W.f32|decide +kernel)]
 show (if (hasW (Str.ofString "hosts") 2&&(numB (w).cps.toList&&(numB (Str.ofString "0").cps.toList&&true)))=true then some (Str.ofString "hosts",[valS w,valS (Str.ofString "0")]) else none)=_
 rw[show hasW (Str.ofString "hosts") 2=true by decide +kernel,nums.1,vals.1]
 simp only[zcc4,zce3]
theorem rowW3{w:Str}{fs:List Nat}(W:Wd w ng fs):rowP (rowJ [Str.ofString "flow",Str.ofString "0",Str.ofString "1",Str.ofString "0",w])=if numB w.cps.toList=true then some (Str.ofString "flow",[0,1,0,valS w]) else none:=by
 rw[zp5 (by
  intro x hx
  simp only[zbz4,zbz7,or_false] at hx
  rcases hx with rfl|rfl|rfl|rfl|rfl<;>first|exact W.f32|decide +kernel)]
 show (if (hasW (Str.ofString "flow") 4&&(numB (Str.ofString "0").cps.toList&&(numB (Str.ofString "1").cps.toList&&(numB (Str.ofString "0").cps.toList&&(numB (w).cps.toList&&true)))))=true then some (Str.ofString "flow",[valS (Str.ofString "0"),valS (Str.ofString "1"),valS (Str.ofString "0"),valS w]) else none)=_
 rw[show hasW (Str.ofString "flow") 4=true by decide +kernel,nums.1,nums.2.1,vals.1,vals.2.1]
 simp only[zcc4,zce3]
theorem rowW4{w:Str}{fs:List Nat}(W:Wd w ng fs):rowP (rowJ [Str.ofString "number",Str.ofString "0",Str.ofString "0",w])=if numB w.cps.toList=true then some (Str.ofString "number",[0,0,valS w]) else none:=by
 rw[zp5 (by
  intro x hx
  simp only[zbz4,zbz7,or_false] at hx
  rcases hx with rfl|rfl|rfl|rfl<;>first|exact W.f32|decide +kernel)]
 show (if (hasW (Str.ofString "number") 3&&(numB (Str.ofString "0").cps.toList&&(numB (Str.ofString "0").cps.toList&&(numB (w).cps.toList&&true))))=true then some (Str.ofString "number",[valS (Str.ofString "0"),valS (Str.ofString "0"),valS w]) else none)=_
 rw[show hasW (Str.ofString "number") 3=true by decide +kernel,nums.1,vals.1]
 simp only[zcc4,zce3]
theorem rowW5{w:Str}{fs:List Nat}(W:Wd w ng fs):rowP (rowJ [Str.ofString "flow",w,Str.ofString "1",Str.ofString "0",Str.ofString "1"])=if numB w.cps.toList=true then some (Str.ofString "flow",[valS w,1,0,1]) else none:=by
 rw[zp5 (by
  intro x hx
  simp only[zbz4,zbz7,or_false] at hx
  rcases hx with rfl|rfl|rfl|rfl|rfl<;>first|exact W.f32|decide +kernel)]
 show (if (hasW (Str.ofString "flow") 4&&(numB (w).cps.toList&&(numB (Str.ofString "1").cps.toList&&(numB (Str.ofString "0").cps.toList&&(numB (Str.ofString "1").cps.toList&&true)))))=true then some (Str.ofString "flow",[valS w,valS (Str.ofString "1"),valS (Str.ofString "0"),valS (Str.ofString "1")]) else none)=_
 rw[show hasW (Str.ofString "flow") 4=true by decide +kernel,nums.1,nums.2.1,vals.1,vals.2.1]
 simp only[zcc4,zce3]
theorem resB1{w:Str}{fs:List Nat}(W:Wd w ng fs):resB (T1 w)=if numB w.cps.toList=true then .inr (0,0,[.flat (Str.ofString "lead") [3,valS w]]) else .inl 1:=by
 unfold resB
 rw[T1_ln,zt8 (by
  intro x hx
  simp only[zbz4,zbz7,or_false] at hx
  rcases hx with rfl|rfl
  ·refine ze4 fun y hy=>?_
   simp only[zbz4,zbz7,or_false] at hy
   rcases hy with rfl|rfl|rfl<;>first|exact W.f10|decide +kernel
  ·refine ze4 fun y hy=>?_
   simp only[zbz4,zbz7,or_false] at hy
   rcases hy with rfl|rfl|rfl<;>first|exact W.f10|decide +kernel)]
 have big:=W.big
 simp only[ze1,rowL0,rowW0 W]
 by_cases g:numB w.cps.toList=true
 ·simp only[if_pos g]
  first|rfl|skip
 ·simp only[if_neg g]
  first|rfl|skip
theorem resB2{w:Str}{fs:List Nat}(W:Wd w ng fs):resB (T2 w)=if numB w.cps.toList=true then .inr (0,1,[.flat (Str.ofString "more") [1,0],.tab [[valS w,0]]]) else .inl 2:=by
 unfold resB
 rw[T2_ln,zt8 (by
  intro x hx
  simp only[zbz4,zbz7,or_false] at hx
  rcases hx with rfl|rfl|rfl
  ·refine ze4 fun y hy=>?_
   simp only[zbz4,zbz7,or_false] at hy
   rcases hy with rfl|rfl|rfl<;>first|exact W.f10|decide +kernel
  ·refine ze4 fun y hy=>?_
   simp only[zbz4,zbz7,or_false] at hy
   rcases hy with rfl|rfl|rfl<;>first|exact W.f10|decide +kernel
  ·refine ze4 fun y hy=>?_
   simp only[zbz4,zbz7,or_false] at hy
   rcases hy with rfl|rfl|rfl<;>first|exact W.f10|decide +kernel)]
 have big:=W.big
 simp only[ze1,rowL1,rowL2,rowW1 W]
 by_cases g:numB w.cps.toList=true
 ·simp only[if_pos g]
  first|rfl|skip
 ·simp only[if_neg g]
  first|rfl|skip
theorem resB3{w:Str}{fs:List Nat}(W:Wd w ng fs):resB (T3 w)=if numB w.cps.toList=true then .inl 2 else .inl 0:=by
 unfold resB
 rw[T3_ln,zt8 (by
  intro x hx
  simp only[zbz4,zbz7,or_false] at hx
  rcases hx with rfl|rfl
  ·refine ze4 fun y hy=>?_
   simp only[zbz4,zbz7,or_false] at hy
   rcases hy with rfl|rfl|rfl<;>first|exact W.f10|decide +kernel
  ·refine ze4 fun y hy=>?_
   simp only[zbz4,zbz7,or_false] at hy
   rcases hy with rfl|rfl|rfl<;>first|exact W.f10|decide +kernel)]
 have big:=W.big
 simp only[ze1,rowW2 W,rowL2]
 by_cases g:numB w.cps.toList=true
 ·simp only[if_pos g]
  have nz:¬ Sz (valS w) 0 1:=fun z=>by have h1:=big g;have h2:=z.1.1;omega
  show (if (decide (Sz (valS w) 0 1)&&(List.map (fyOf (valS w) 0) [(Str.ofString "more",[1,0])]).all (isF (valS w) 0))=true then _ else _)=_
  rw[decide_eq_false nz]
  rfl
 ·simp only[if_neg g]
  first|rfl|skip
theorem resP4{w:Str}{fs:List Nat}(W:Wd w ng fs):resP (T4 w)=if numB w.cps.toList=true then .inr ([[(1,0,valS w)]],[[0]]) else .inl 0:=by
 unfold resP
 rw[T4_ln,zt8 (by
  intro x hx
  simp only[zbz4,zbz7,or_false] at hx
  rcases hx with rfl|rfl
  ·refine ze4 fun y hy=>?_
   simp only[zbz4,zbz7,or_false] at hy
   rcases hy with rfl|rfl|rfl|rfl|rfl<;>first|exact W.f10|decide +kernel
  ·refine ze4 fun y hy=>?_
   simp only[zbz4,zbz7,or_false] at hy
   rcases hy with rfl|rfl|rfl|rfl<;>first|exact W.f10|decide +kernel)]
 have big:=W.big
 simp only[ze1,rowW3 W,rowL3]
 by_cases g:numB w.cps.toList=true
 ·simp only[if_pos g]
  first|rfl|skip
 ·simp only[if_neg g]
  first|rfl|skip
theorem resP5{w:Str}{fs:List Nat}(W:Wd w ng fs):resP (T5 w)=if numB w.cps.toList=true then .inr ([[(1,0,1)]],[[valS w]]) else .inl 1:=by
 unfold resP
 rw[T5_ln,zt8 (by
  intro x hx
  simp only[zbz4,zbz7,or_false] at hx
  rcases hx with rfl|rfl
  ·refine ze4 fun y hy=>?_
   simp only[zbz4,zbz7,or_false] at hy
   rcases hy with rfl|rfl|rfl|rfl|rfl<;>first|exact W.f10|decide +kernel
  ·refine ze4 fun y hy=>?_
   simp only[zbz4,zbz7,or_false] at hy
   rcases hy with rfl|rfl|rfl|rfl<;>first|exact W.f10|decide +kernel)]
 have big:=W.big
 simp only[ze1,rowL4,rowW4 W]
 by_cases g:numB w.cps.toList=true
 ·simp only[if_pos g]
  first|rfl|skip
 ·simp only[if_neg g]
  first|rfl|skip
theorem resP6{w:Str}{fs:List Nat}(W:Wd w ng fs):resP (T6 w)=if numB w.cps.toList=true then .inl 0 else .inl 0:=by
 unfold resP
 rw[T6_ln,zt8 (by
  intro x hx
  simp only[zbz4,zbz7,or_false] at hx
  rcases hx with rfl|rfl
  ·refine ze4 fun y hy=>?_
   simp only[zbz4,zbz7,or_false] at hy
   rcases hy with rfl|rfl|rfl|rfl|rfl<;>first|exact W.f10|decide +kernel
  ·refine ze4 fun y hy=>?_
   simp only[zbz4,zbz7,or_false] at hy
   rcases hy with rfl|rfl|rfl|rfl<;>first|exact W.f10|decide +kernel)]
 have big:=W.big
 simp only[ze1,rowW5 W,rowL3]
 by_cases g:numB w.cps.toList=true
 ·simp only[if_pos g]
  rw[show spB [].getLast? (Str.ofString "flow",[valS w,1,0,1])=decide (valS w=0) from rfl,decide_eq_false (by have h1:=big g;omega)]
  rfl
 ·simp only[if_neg g]
  first|rfl|skip
theorem zay9{x:Str}:decide (Txt.slice x none (some 1)="-")=decide (x.cps.toList.head?=some 45):=by
 rw[decide_eq_decide]
 have l:x.length=x.cps.toList.length:=zca0.symm
 by_cases h0:x.length=0
 ·have e:x.cps.toList=[]:=List.length_eq_zero_iff.mp (by rfl')
  rw[e]
  refine⟨fun h=>?_,fun h=>by cases h⟩
  have:=congrArg (fun s:Str=>s.cps.toList) h
  have hl:=Txt.slice_le x none (some 1)
  rw[h,h0] at hl
  exact absurd hl (by decide +kernel)
 ·have e:Txt.slice x none (some 1)=⟨((x.cps.toList.drop (0:Int).toNat).take ((1:Int) - 0).toNat).toArray⟩:=beq_iff_eq.mp (PyProof.Rows.slice_closes_toL (by decide) (by rfl'))
  have e':(Txt.slice x none (some 1)).cps.toList=x.cps.toList.take 1:=by rw[e];rfl
  obtain⟨c,r,ec⟩:∃ c r,x.cps.toList=c :: r:=by
   cases ex:x.cps.toList with
   | nil=>rw[ex] at l;simp at l;omega
   | cons c r=>exact⟨c,r,rfl⟩
  rw[ec] at e' ⊢
  refine⟨fun h=>?_,fun h=>?_⟩
  ·rw[h,show ("-":Str).cps.toList=[45] by decide +kernel] at e'
   have:=List.cons.inj e'
   rw[List.head?_cons,← this.1]
  ·cases h
   exact PyProof.Rows.ext_toList (e'.trans (show [45]=_ by decide +kernel))
theorem FxAt.eq{K:zby6}{p p':Addr}{f:Fx}(F:FxAt H p f)(F':FxAt H p' f):EqR K H 3 (.ref p) (.ref p') true:=by
 have flat:∀ v:V,zj5 v=true->EqR K H 2 v v true:=fun v hv=>by
  have:=EqR.flat (K:=K) (H:=H) (n:=2) (x:=v) (y:=v) hv hv
  rwa [zw6 hv] at this
 cases f with
 | flat w zs=>
  have F:H p=some (.tup (.str w :: zs.map V.int)):=F
  have F':H p'=some (.tup (.str w :: zs.map V.int)):=F'
  have:=EqR.tup (K:=K) (H:=H) (n:=2) (fun _=>true) (SqT.of F) (SqT.of F') (fun j x y hx hy=>by
   rw[hx] at hy
   cases hy
   rcases zbz4.mp (zca5 hx) with rfl|hm
   ·exact flat _ rfl
   ·obtain⟨i,_,rfl⟩:=zcf4.mp hm
    exact flat _ rfl)
  rwa [Nat.min_self,zae9,zcc4,beq_self_eq_true] at this
 | tab rows=>
  obtain⟨q,ps,F,G⟩:=F
  obtain⟨q',ps',F',G'⟩:=F'
  exact EqR.tup (K:=K) (H:=H) (n:=2) (fun _=>true) (SqT.of F) (SqT.of F') (fun j x y hx hy=>by
   match j with
   | 0=>cases hx;cases hy;exact flat _ rfl
   | 1=>
    cases hx;cases hy
    refine EqR.rows (SqL.of G.out) (SqL.of G'.out) (by rw[G.len,G'.len]) fun i r r' e1 e2=>?_
    obtain⟨rw',er⟩:∃ x,rows[i]?=some x:=⟨_,zby8 (by have:=(zby9.mp e1).1;have:=G.len;omega)⟩
    exact⟨_,SqL.of (G.row i r rw' e1 er),SqL.of (G'.row i r' rw' e2 er)⟩
   | j+2=>simp at hx)
 | non=>
  exact EqR.tup (K:=K) (H:=H) (n:=2) (fun _=>true) (SqT.of F) (SqT.of F') (fun j x y hx hy=>by
   match j with
   | 0=>cases hx;cases hy;exact flat _ rfl
   | 1=>cases hx;cases hy;exact flat _ rfl
   | j+2=>simp at hx)
theorem bz_eq{K:zby6}{b l b' l':Addr}{ps':List Addr}{a c:Int}{fs:List Fx}(B:BxAt H b l ps a c fs)(X:BzAt H b' l' ps' a c fs):EqR K H 5 (.ref b) (.ref b') true:=by
 have flat:∀ v:V,zj5 v=true->EqR K H 4 v v true:=fun v hv=>by
  have:=EqR.flat (K:=K) (H:=H) (n:=4) (x:=v) (y:=v) hv hv
  rwa [zw6 hv] at this
 exact EqR.tup (K:=K) (H:=H) (n:=4) (fun _=>true) (SqT.of B.out) (SqT.of X.out) (fun j x y hx hy=>by
  match j with
  | 0=>cases hx;cases hy;exact flat _ rfl
  | 1=>cases hx;cases hy;exact flat _ rfl
  | 2=>
   cases hx;cases hy
   refine EqR.allT (SqL.of B.lst) (SqL.of X.lst) (by rw[zby7,zby7,B.len,X.len]) fun i u v hu hv=>?_
   obtain⟨r,f,rfl,er,ef,hf,_⟩:=B.elt hu
   rw[zbz1] at hv
   obtain⟨r',er',rfl⟩:=zbz5.mp hv
   exact hf.eq (X.fld i r' f er' ef)
  | j+3=>simp at hx)
theorem PpX.eq{K:zby6}{p p' st st' tb tb':Addr}{rs rs':List (Addr×List Addr)}{xss:List (List F3)}{qs':List Addr}{nss:List (List Int)}(A:PpX H p st tb rs xss qs nss)(B:PpX H p' st' tb' rs' xss qs' nss):EqR K H 4 (.ref p) (.ref p') true:=by
 have flat:∀ {n:Nat}(i:Int),EqR K H n (.int i) (.int i) true:=fun {n} i=>by
  have:=EqR.flat (K:=K) (H:=H) (n:=n) (x:=.int i) (y:=.int i) rfl rfl
  rwa [zw6 rfl] at this
 have lens:=A.stm.len
 have lens':=B.stm.len
 have lent:=A.tab.len
 have lent':=B.tab.len
 exact EqR.tup (K:=K) (H:=H) (n:=3) (fun _=>true) (SqT.of A.out) (SqT.of B.out) (fun j x y hx hy=>by
  match j with
  | 0=>
   cases hx;cases hy
   refine EqR.allT (SqL.of A.stm.out) (SqL.of B.stm.out) (by rw[zby7,zby7,lens,lens']) fun i u v hu hv=>?_
   rw[zbz1] at hu hv
   obtain⟨r,er,rfl⟩:=zbz5.mp hu
   obtain⟨r',er',rfl⟩:=zbz5.mp hv
   obtain⟨xs,ex⟩:∃ z,xss[i]?=some z:=⟨_,zby8 (by have:=(zby9.mp er).1;omega)⟩
   have RA:=A.stm.row i r xs er ex
   have RB:=B.stm.row i r' xs er' ex
   refine EqR.allT (n:=1) (SqL.of RA.out) (SqL.of RB.out) (by rw[zby7,zby7,RA.len,RB.len]) fun k u v hu hv=>?_
   rw[zbz1] at hu hv
   obtain⟨b,eb,rfl⟩:=zbz5.mp hu
   obtain⟨b',eb',rfl⟩:=zbz5.mp hv
   obtain⟨z,ez⟩:∃ z,xs[k]?=some z:=⟨_,zby8 (by have:=(zby9.mp eb).1;have:=RA.len;omega)⟩
   exact EqR.tup (K:=K) (H:=H) (n:=0) (fun _=>true) (SqT.of (RA.row k b z eb ez)) (SqT.of (RB.row k b' z eb' ez)) (fun j x y hx hy=>by
    match j with
    | 0=>cases hx;cases hy;exact flat _
    | 1=>cases hx;cases hy;exact flat _
    | 2=>cases hx;cases hy;exact flat _
    | j+3=>simp at hx)
  | 1=>
   cases hx;cases hy
   refine EqR.allT (SqL.of A.tab.out) (SqL.of B.tab.out) (by rw[zby7,zby7,lent,lent']) fun i u v hu hv=>?_
   rw[zbz1] at hu hv
   obtain⟨r,er,rfl⟩:=zbz5.mp hu
   obtain⟨r',er',rfl⟩:=zbz5.mp hv
   obtain⟨ns,ex⟩:∃ z,nss[i]?=some z:=⟨_,zby8 (by have:=(zby9.mp er).1;omega)⟩
   have RA:=A.tab.row i r ns er ex
   have RB:=B.tab.row i r' ns er' ex
   refine EqR.allT (n:=1) (SqL.of RA) (SqL.of RB) rfl fun k u v hu hv=>?_
   rw[hu] at hv
   cases hv
   rw[zbz1] at hu
   obtain⟨m,_,rfl⟩:=zbz5.mp hu
   exact flat _
  | j+2=>simp at hx)
theorem slice0(x:Str)(h:1<=x.length):(Txt.slice x (some 0) none).cps.toList=x.cps.toList:=by
 rw[PyProof.Rows.slice_from_eq (b:=x.length) (by decide) (by rfl') rfl]
 show List.take ((x.length:Int) - 0).toNat (List.drop (0:Int).toNat x.cps.toList)=_
 rw[zcd3]
 ·rfl
 ·rw[zcf5,zca0]
  show x.length - 0<=((x.length:Int) - 0).toNat
  omega
def EqW(K:zby6)(H:Hp)(v dv:V):Prop:=(∃ k:Int,v=.int k/\dv=.int k)∨∃ a b n,n<=40/\v=.ref a/\dv=.ref b/\EqR K H n (.ref a) (.ref b) true
theorem neW_rd{K:zby6}{v:V}(e:EqW K H v dv)(q:Q (.bl false) H):zaz8 K v dv H Q:=by
 rcases e with ⟨k,rfl,rfl⟩|⟨a,b,n,hn,rfl,rfl,e⟩
 ·show Q (.bl (!decide (k=k))) H
  rw[decide_eq_true rfl]
  exact q
 ·exact zbk8 e q hn
def DuB(H:Hp)(dv:V):Nat ⊕ (Int×Int×List Fx)->Prop
 | .inl k=>dv=.int k
 | .inr (a,c,fs)=>∃ b l ps,dv=.ref b/\BzAt H b l ps a c fs
def DuP(H:Hp)(dv:V):Nat ⊕ St2->Prop
 | .inl k=>dv=.int k
 | .inr s=>∃ p st tb rs qs,dv=.ref p/\PpX H p st tb rs s.1 qs s.2
theorem BzAt.same{H H':Hp}{b l:Addr}{ps:List Addr}{a c:Int}{fs:List Fx}(B:BzAt H b l ps a c fs)(s:Same H H'):BzAt H' b l ps a c fs:=⟨s _ _ B.out,s _ _ B.lst,B.len,fun i p f h1 h2=>(B.fld i p f h1 h2).same s⟩
theorem DuB.same{H H':Hp}{dv:V}{r:Nat ⊕ (Int×Int×List Fx)}(D:DuB H dv r)(s:Same H H'):DuB H' dv r:=by
 rcases r with k|⟨a,c,fs⟩
 ·exact D
 ·obtain⟨b,l,ps,e,B⟩:=D;exact⟨b,l,ps,e,B.same s⟩
theorem zal9{K:zby6}{x:Str}(h:zaj8 x)(D:DuB H dv (resB x))(k:∀ v H',Same H H'->EqW K H' v dv->Q v H'):zb4 [.int 0,.str x] H Q E:=by
 refine zav4 h (fun n e H' s=>?_) (fun a c fs e b l ps H' s B=>?_)
 ·rw[e] at D
  exact k _ H' s (.inl ⟨n,rfl,D⟩)
 ·rw[e] at D
  obtain⟨b',l',ps',rfl,Z⟩:=D
  exact k _ H' s (.inr ⟨b,b',5,by decide,rfl,rfl,bz_eq B (Z.same s)⟩)
theorem zbg2{K:zby6}{x:Str}(h:zaj8 x)(D:DuP H dv (resP x))(k:∀ v H',Same H H'->EqW K H' v dv->Q v H'):zb4 [.int 1,.str x] H Q E:=by
 refine zar7 h (fun n e H' s=>?_) (fun r e p st tb rs qs H' s B=>?_)
 ·rw[e] at D
  exact k _ H' s (.inl ⟨n,rfl,D⟩)
 ·rw[e] at D
  obtain⟨p',st',tb',rs',qs',rfl,Z⟩:=D
  exact k _ H' s (.inr ⟨p,p',4,by decide,rfl,rfl,B.eq (Z.same s)⟩)
theorem zal2{K:zby6}{p:Addr}{u v:V}{g:Bool}(h:H p=some (.lst [u,v]))(q:Q (if g then v else u) H):rIxA K p (if g=true then 1 else 0) H Q:=by
 cases g
 ·exact zn5 (v:=u) h rfl q
 ·exact zn5 (v:=v) h rfl q
theorem zac2{a w b:Str}(h:w.length<=4401)(h1:a.length<=100)(h2:b.length<=100):zaj8 ((a++w)++b):=by
 unfold zaj8
 simp only[zh8]
 omega
theorem za9{c j p}{es:List Expr}{env:Env}:starEach (.Constant c j p :: es) env=(false,eval (.Constant c j p) env) :: starEach es env:=rfl
theorem zk0{c j p}{es:List Expr}{env:Env}:starEach (.Tuple c j p :: es) env=(false,eval (.Tuple c j p) env) :: starEach es env:=rfl
theorem zj8{c p}{es:List Expr}{env:Env}:starEach (.List c p :: es) env=(false,eval (.List c p) env) :: starEach es env:=rfl
theorem zf8{i j pos}:PEI X (.Constant (.int i) j pos) (tC (.int i)):=by unfold PEI;exact za2
theorem zat6{b j pos}:PEI X (.Constant (.bool b) j pos) (tC (.bl b)):=by unfold PEI;exact zaa1
theorem zs7{es:List Expr}{x1}{t:TA}(h:PAI X es t):PEI X (.Tuple es x1 pos) (qTup t):=by unfold PEI PAI at *;exact zu2 h
theorem zbh4{c:Expr}{a b:List Stmt}{tc:TT}{t u:TS}(hc:PT X c tc)(ha:PSsI X a t)(hb:PSsI X b u):PS X (.If c a b pos) (qIfS tc t u):=by unfold PSsI at ha hb;exact psIf hc ha hb
theorem zy7{e:Expr}{te:TE}(he:PEI X e te):PSI X (.Return (some e) pos) (tRet te):=by unfold PEI at he;unfold PSI;exact zb1 he
theorem zaf6{K:zby6}{a b:Expr}{ta tb:TE}(hK:X.K=K)(ha:PEI X a ta)(hb:PEI X b tb)(hs:zaf2 b:=by exact fun _ _=>rfl):PEI X (.Subscript a b pos) (tOp (rIxM K) ta tb):=by unfold PEI at *;exact zb9 hK ha hb hs
theorem zar6{op:Operator}{r:R2}{a b:Expr}{ta tb:TE}(ho:OpR X (binaryOp op) r)(ha:PEI X a ta)(hb:PEI X b tb):PEI X (.BinOp a op b pos) (tOp r ta tb):=by unfold PEI at *;exact zc8 ho ha hb
theorem seI{st:List Stmt}{t:TS}{D:Ends}{σ:St}(h:PSsI X st t)(c:t D σ H):∃ t:TS,PSs X st t/\t D σ H:=⟨t,pssTo h,c⟩
theorem zad7{K:zby6}{σ:St}{v:V}{Kont:VK}(hi:σ[i]?=some (some dv))(e:EqW K H v dv)(q:Kont (.bl false) H):qV i σ H (fun y H2=>zaz8 K v y H2 Kont):=by
 unfold qV
 rw[hi]
 exact neW_rd e q
theorem zab9{K:zby6}{x:Str}{r:Nat ⊕ St2}(h:zaj8 x)(er:resP x=r)(D:DuP H dv r)(k:∀ v H',Same H H'->EqW K H' v dv->Q v H'):zb4 [.int 1,.str x] H Q E:=by
 subst er
 exact zbg2 h D k
@[irreducible] def zg4:Sp:=fun vs H Q _=>∃ (w:Str) (ng:Bool) (fs:List Nat),vs=[.str w]/\Wd w ng fs/\∀ H',Same H H'->Q (.bl true) H'
theorem zbj5{w:Str}{fs:List Nat}(W:Wd w ng fs)(q:∀ H',Same H H'->Q (.bl true) H'):zg4 [.str w] H Q E:=by unfold zg4;exact⟨w,ng,fs,rfl,W,q⟩
theorem zaf9{f:Addr}(F:Fun K "_law_right" "_law_right" zp7 f fd)(N:Nm mg)(hD:zca9 K cStatics "sys.int_max_str_digits"=some none)(zbt0:Def P w K mg base CX0 8 "_law_told_of" ["_law_way","_law_text"] zb4):FnOk P w K mg base CX0 9 f fd ["_law_word"] zg4:=by
 refine F.ok zc4 (fun vs H Q E h=>by unfold zg4 at h;obtain⟨_,_,_,rfl,_⟩:=h;rfl) fun _ _ _ s H vs Q E hr h=>?_
 unfold zg4 at h
 obtain⟨w,ng,fs,rfl,W,q⟩:=h
 have hu:=hu40 hr
 have wl:=W.len
 have xl:w.length=w.cps.toList.length:=zca0.symm
 have n:=W.n
 have w1:1<=w.length:=by rw[xl,W.l,zbz2];omega
 obtain⟨fg,efg⟩:∃ fg:Str,fg=Txt.slice w (some (if decide (Txt.slice w none (some 1)="-")=true then 1 else 0)) none:=⟨_,rfl⟩
 have fl:fg.cps.toList=fs:=by
  rw[efg,zay9]
  cases ng with
  | true=>
   have ec:w.cps.toList=45 :: fs:=W.l
   have h:w.cps.toList.head?=some 45:=by rw[ec];rfl
   rw[decide_eq_true h,if_pos rfl,zbm0 h,ec]
   rfl
  | false=>
   have ec:w.cps.toList=fs:=W.l
   have h:¬ w.cps.toList.head?=some 45:=by
    rw[ec]
    intro h
    cases fs with
    | nil=>cases h
    | cons c r=>cases h;have:=W.d 45 (.head _);omega
   rw[decide_eq_false h,if_neg zbz3,slice0 _ w1,ec]
 have fgl:fg.length=fs.length:=by rw[← fl];exact zca0.symm
 refine seI (zb7 (psIS (i:=1) zc4.nd (zo0 (zh6 (slZK (K:=K) rfl) (pq 0) (zn8 (pT cInt N.int_ zq3 (za0 (peC (zo1 (K:=K) rfl (by exact hu)) (zh6 (slZK (K:=K) rfl) (pq 0) zl4 (zn8 za2)) zc0) za1))) zl4)))
   (zb7 (psOf (psS (i:=2) zc4.nd (zw0 (peC oLe (pB (zn1 (K:=K) rfl) N.len_ zi2 (za0 (pq 1) za1)) za2) (zn7 (peC (zaa9 (K:=K) rfl (by exact hu)) (zb9 (K:=K) rfl (pq 1) za2) zc0)))))
   (zb7 (psOf (psS (i:=3) zc4.nd zk6))
   (zb7 (psOf (zbd6 (zbh4 (ptV (pq 2)) (zm6 (psOf (psS (i:=3) zc4.nd (pT (cIntL (K:=K) rfl hD) N.int_ zq3 (za0 (pq 0) za1))))) zs5)))
   (zb7 (psIS (i:=4) zc4.nd (zar6 oAdd (zar6 oAdd zf1 (zo0 (pq 0))) zf1))
   (zb7 (psIS (i:=5) zc4.nd (zar6 oAdd (zar6 oAdd zf1 (zo0 (pq 0))) zf1))
   (zb7 (psIS (i:=6) zc4.nd (zaf6 (K:=K) rfl (zj4 (za6 zf8 (za6 (zs7 (za6 zf8 (za6 zf8 (za6 (zj4 (za6 (zs7 (za6 zf1 (za6 zf8 (za6 (zo0 (pq 3)) zd1) za9) za9)) zd1 zk0)) zd1 zj8) za9) za9)) zd1 zk0) za9)) (zo0 (pT cInt N.int_ zq3 (za0 (pq 2) za1)))))
   (zb7 (psIS (i:=7) zc4.nd (zaf6 (K:=K) rfl (zj4 (za6 zf8 (za6 (zs7 (za6 zf8 (za6 zf8 (za6 (zj4 (za6 (zs7 (za6 zf1 (za6 zf8 (za6 zf8 zd1 za9) za9) za9)) (za6 (zs7 (za6 zf1 (za6 (zj4 (za6 (zj4 (za6 (zo0 (pq 3)) (za6 zf8 zd1 za9))) zd1 zj8)) zd1 zj8) za9)) zd1 zk0) zk0)) zd1 zj8) za9) za9)) zd1 zk0) za9)) (zo0 (pT cInt N.int_ zq3 (za0 (pq 2) za1)))))
   (zb7 (psOf (zbh4 (ptW (pwOr (ptC (zaa9 (K:=K) rfl (by exact hu)) (pD zbt0 hr zd6 (za0 za2 (za0 (pq 4) za1))) (pq 6)) (zq9 (ptC (zaa9 (K:=K) rfl (by exact hu)) (pD zbt0 hr zd6 (za0 za2 (za0 (pq 5) za1))) (pq 7))))) (zm6 (zy7 zat6)) zs5))
   (zb7 (psOf (zbh4 (ptC (zaa9 (K:=K) rfl (by exact hu)) (pD zbt0 hr zd6 (za0 za2 (za0 (zc8 oAdd (zc8 oAdd zc0 (pq 0)) zc0) za1))) (zb9 (K:=K) rfl (zn4 (za0 za2 (za0 za2 za1))) (pT cInt N.int_ zq3 (za0 (pq 2) za1)))) (zm6 (zy7 zat6)) zs5))
   (zb7 (psIS (i:=6) zc4.nd (zaf6 (K:=K) rfl (zj4 (za6 zf8 (za6 (zs7 (za6 (zj4 (za6 (zj4 (za6 (zs7 (za6 zf8 (za6 zf8 (za6 (zo0 (pq 3)) zd1) za9) za9)) zd1 zk0)) zd1 zj8)) (za6 (zj4 (za6 (zj4 (za6 zf8 zd1 za9)) zd1 zj8)) zd1 zj8) zj8)) zd1 zk0) za9)) (zo0 (pT cInt N.int_ zq3 (za0 (pq 2) za1)))))
   (zb7 (psOf (zbh4 (ptC (zaa9 (K:=K) rfl (by exact hu)) (pD zbt0 hr zd6 (za0 za2 (za0 (zc8 oAdd (zc8 oAdd zc0 (pq 0)) zc0) za1))) (pq 6)) (zm6 (zy7 zat6)) zs5))
   (zb7 (psIS (i:=6) zc4.nd (zaf6 (K:=K) rfl (zj4 (za6 zf8 (za6 (zs7 (za6 (zj4 (za6 (zj4 (za6 (zs7 (za6 zf8 (za6 zf8 (za6 zf8 zd1 za9) za9) za9)) zd1 zk0)) zd1 zj8)) (za6 (zj4 (za6 (zj4 (za6 (zo0 (pq 3)) zd1)) zd1 zj8)) zd1 zj8) zj8)) zd1 zk0) za9)) (zo0 (pT cInt N.int_ zq3 (za0 (pq 2) za1)))))
   (zb7 (psOf (zbh4 (ptC (zaa9 (K:=K) rfl (by exact hu)) (pD zbt0 hr zd6 (za0 za2 (za0 (zc8 oAdd (zc8 oAdd zc0 (pq 0)) zc0) za1))) (pq 6)) (zm6 (zy7 zat6)) zs5))
   (zm6 (zy7 (zo0 (peC (zo1 (K:=K) rfl (by exact hu)) (pD zbt0 hr zd6 (za0 za2 (za0 (zc8 oAdd (zc8 oAdd zc0 (pq 0)) zc0) za1))) za2)))))))))))))))))) ?_
 ac_nf
 refine⟨by rw[zci0];omega,?_⟩
 ac_nf
 refine⟨by rw[zci0];omega,?_⟩
 rw[← efg]
 ac_nf
 refine⟨by rw[zci0];omega,?_⟩
 ac_nf
 obtain⟨g,eg⟩:∃ g,g=numB w.cps.toList:=⟨_,rfl⟩
 have gd:=W.num
 rw[← eg] at gd
 obtain⟨c0,r0,ef⟩:∃ c r,fs=c :: r:=by
  cases fs with
  | nil=>simp at n
  | cons c r=>exact⟨c,r,rfl⟩
 have key:∀ Kont:VK,Kont (.bl g) H->br (decide ((fg.length:Int)<=2000)) (tOp (zaz8 K) (tOp (rIxM K) (qV 1) (tC (.int 0))) (tC (.str (Str.ofString "0"))) [some (.str w),some (.str fg),none,none,none,none,none,none] H Kont) (Kont (.bl false) H):=fun Kont k=>by
  refine ze0 (fun h=>?_) (fun h=>?_)
  ·ac_nf
   refine⟨c0,by rw[zci0];omega,by rw[fl,ef];exact zd0 (j:=0) rfl,?_⟩
   ac_nf
   have e0:decide ((⟨#[c0]⟩:Str)=Str.ofString "0")=decide (c0=48):=by
    rw[decide_eq_decide]
    exact⟨fun h=>by have:=congrArg (fun s:Str=>s.cps.toList) h;rw[show (Str.ofString "0").cps.toList=[48] by decide +kernel] at this;simpa using this,fun h=>by rw[h];rfl⟩
   rw[decide_eq_true (show fs.length<=2000 by rfl'),zcc4,ef,List.head?_cons] at gd
   rw[e0,show (!decide (c0=48))=g by rw[gd,← decide_not];exact decide_eq_decide.mpr ⟨fun h z=>h (Option.some.inj z),fun h z=>h (by rw[z])⟩]
   exact k
  ·rw[decide_eq_false (show ¬ fs.length<=2000 by rfl'),zch6] at gd
   rw[gd] at k
   exact k
 refine key _ ?_
 clear key gd
 obtain⟨nv,env⟩:∃ nv,nv=if g=true then V.int (valS w) else .non:=⟨_,rfl⟩
 refine zas0 (fun σ J=>σ=[some (.str w),some (.str fg),some (.bl g),some nv,none,none,none,none]/\J=H) ?_ ?_
 ·ac_nf
  cases hg:g
  ·rw[hg,if_neg zbz3] at env
   rw[env]
   refine br_F ?_
   ac_nf
   exact⟨rfl,rfl⟩
  ·rw[hg,if_pos rfl] at env
   rw[env]
   refine br_T ?_
   refine zbd0 (zw5 (eg.symm.trans hg)) (by rw[zci0];omega) ?_
   ac_nf
   exact⟨rfl,rfl⟩
 rintro σ J ⟨rfl,rfl⟩
 have l1:(Str.ofString "hosts 0 0\nlead 3 ").length<=100/\(Str.ofString "\n").length<=100/\(Str.ofString "hosts 0 1\nmore 1 0\ntable ").length<=100/\(Str.ofString " 0\n").length<=100/\(Str.ofString "hosts ").length<=100/\(Str.ofString " 0\nmore 1 0\n").length<=100/\(Str.ofString "flow 0 1 0 ").length<=100/\(Str.ofString "\nnumber 0 0 0\n").length<=100/\(Str.ofString "flow 0 1 0 1\nnumber 0 0 ").length<=100/\(Str.ofString "flow ").length<=100/\(Str.ofString " 1 0 1\nnumber 0 0 0\n").length<=100:=by decide +kernel
 obtain⟨b1,b2,b3,b4,b5,b6,b7,b8,b9,b10,b11⟩:=l1
 ac_nf
 refine⟨by simp only[zh8,zci0];omega,?_⟩
 ac_nf
 refine⟨by simp only[zh8,zci0];omega,?_⟩
 ac_nf
 refine⟨by simp only[zh8,zci0];omega,?_⟩
 ac_nf
 refine⟨by simp only[zh8,zci0];omega,?_⟩
 refine zd3 (fun p1 H1 f1 s1 h1=>?_)
 refine zb6 (fun p2 H2 f2 s2 h2=>?_)
 refine zd3 (fun p3 H3 f3 s3 h3=>?_)
 refine zb6 (fun p4 H4 f4 s4 h4=>?_)
 refine zal2 h4 ?_
 have D1:DuB H4 (if g=true then .ref p3 else .int 1) (resB (T1 w)):=by
  rw[resB1 W,← eg]
  cases hg:g
  ·exact rfl
  ·rw[hg,if_pos rfl] at env
   rw[env] at h1
   exact⟨p3,p2,[p1],rfl,s4 _ _ h3,(s3.trans s4) _ _ h2,rfl,fun i p f e1 e2=>by
    match i with
    | 0=>cases e1;cases e2;exact ((s2.trans s3).trans s4) _ _ h1
    | i+1=>simp at e1⟩
 generalize (if g=true then V.ref p3 else .int 1)=dv1 at D1
 have s04:=((s1.trans s2).trans s3).trans s4
 refine zd3 (fun q1 I1 g1 t1 k1=>?_)
 refine zb6 (fun q2 I2 g2 t2 k2=>?_)
 refine zb6 (fun q3 I3 g3 t3 k3=>?_)
 refine zd3 (fun q4 I4 g4 t4 k4=>?_)
 refine zb6 (fun q5 I5 g5 t5 k5=>?_)
 refine zd3 (fun q6 I6 g6 t6 k6=>?_)
 refine zb6 (fun q7 I7 g7 t7 k7=>?_)
 refine zal2 k7 ?_
 have t47:=((t4.trans t5).trans t6).trans t7
 have D2:DuB I7 (if g=true then .ref q6 else .int 2) (resB (T2 w)):=by
  rw[resB2 W,← eg]
  cases hg:g
  ·exact rfl
  ·rw[hg,if_pos rfl] at env
   rw[env] at k2
   refine⟨q6,q5,[q1,q4],rfl,t7 _ _ k6,(t6.trans t7) _ _ k5,rfl,fun i p f e1 e2=>?_⟩
   match i with
   | 0=>cases e1;cases e2;exact ((t2.trans t3).trans t47) _ _ k1
   | 1=>
    cases e1;cases e2
    refine⟨q3,[q2],((t5.trans t6).trans t7) _ _ k4,t47 _ _ k3,rfl,fun i p r e1 e2=>?_⟩
    match i with
    | 0=>cases e1;cases e2;exact (t3.trans t47) _ _ k2
    | i+1=>simp at e1
   | i+2=>simp at e1
 generalize (if g=true then V.ref q6 else .int 2)=dv2 at D2
 have t07:=(((t1.trans t2).trans t3).trans t47)
 have D1:=D1.same t07
 refine zal9 (K:=K) (x:=T1 w) (zac2 wl b1 b2) D1 (fun v1 J1 u1 e1=>?_)
 refine zad7 rfl e1 ?_
 refine br_F ?_
 refine zal9 (K:=K) (x:=T2 w) (zac2 wl b3 b4) (D2.same u1) (fun v2 J2 u2 e2=>?_)
 refine zad7 rfl e2 ?_
 refine br_F ?_
 ac_nf
 refine⟨by simp only[zh8,zci0];omega,?_⟩
 ac_nf
 refine⟨by simp only[zh8,zci0];omega,?_⟩
 refine zav4 (x:=T3 w) (zac2 wl b5 b6) (fun k hk J3 u3=>?_) (fun a c fs hk=>by rw[resB3 W] at hk;split at hk<;>cases hk)
 have hk':(if g=true then V.int 2 else V.int 0)=.int k:=by
  rw[resB3 W,← eg] at hk
  cases hg:g<;>rw[hg] at hk<;>cases hk<;>rfl
 refine zb6 (fun p5 J4 f5 x5 h5=>?_)
 refine zal2 h5 ?_
 rw[hk']
 refine zc6 (zk9 rfl ?_)
 have u04:=((((s04.trans t07).trans u1).trans u2).trans u3).trans x5
 refine zd3 (fun m1 K1 y1 z1 n1=>?_)
 refine zb6 (fun m2 K2 y2 z2 n2=>?_)
 refine zb6 (fun m3 K3 y3 z3 n3=>?_)
 refine zb6 (fun m4 K4 y4 z4 n4=>?_)
 refine zb6 (fun m5 K5 y5 z5 n5=>?_)
 refine zd3 (fun m6 K6 y6 z6 n6=>?_)
 refine zb6 (fun m7 K7 y7 z7 n7=>?_)
 refine zal2 n7 ?_
 have z57:=(z5.trans z6).trans z7
 have z37:=(z3.trans z4).trans z57
 have D4:DuP K7 (if g=true then .ref m6 else .int 0) (resP (T4 w)):=by
  rw[resP4 W,← eg]
  cases hg:g
  ·exact rfl
  ·rw[hg,if_pos rfl] at env
   rw[env] at n1
   refine⟨m6,m3,m5,[(m2,[m1])],[m4],rfl,z7 _ _ n6,⟨(z4.trans z57) _ _ n3,rfl,fun i r xs e1 e2=>?_⟩,⟨(z6.trans z7) _ _ n5,rfl,fun i q ns e1 e2=>?_⟩⟩
   ·match i with
    | 0=>
     cases e1;cases e2
     refine⟨z37 _ _ n2,rfl,fun i b x e1 e2=>?_⟩
     match i with
     | 0=>cases e1;cases e2;exact (z2.trans z37) _ _ n1
     | i+1=>simp at e1
    | i+1=>simp at e1
   ·match i with
    | 0=>cases e1;cases e2;exact z57 _ _ n4
    | i+1=>simp at e1
 generalize (if g=true then V.ref m6 else .int 0)=dv4 at D4
 have u07:=((u04.trans z1).trans z2).trans z37
 ac_nf
 refine⟨by simp only[zh8,zci0];omega,?_⟩
 ac_nf
 refine⟨by simp only[zh8,zci0];omega,?_⟩
 ac_nf
 obtain⟨rT4,erT4⟩:∃ r,resP (T4 w)=r:=⟨_,rfl⟩
 rw[erT4] at D4
 refine zab9 (K:=K) (x:=T4 w) (zac2 wl b7 b8) erT4 D4 (fun v4 L1 x1 e4=>?_)
 refine zad7 rfl e4 ?_
 refine br_F ?_
 have v01:=u07.trans x1
 clear D4 n1 n2 n3 n4 n5 n6 n7 y1 y2 y3 y4 y5 y6 y7 z57 z37
 refine zd3 (fun m1' K1' y1' z1' n1=>?_)
 refine zb6 (fun m2' K2' y2' z2' n2=>?_)
 refine zb6 (fun m3' K3' y3' z3' n3=>?_)
 refine zb6 (fun m4' K4' y4' z4' n4=>?_)
 refine zb6 (fun m5' K5' y5' z5' n5=>?_)
 refine zd3 (fun m6' K6' y6' z6' n6=>?_)
 refine zb6 (fun m7' K7' y7' z7' n7=>?_)
 refine zal2 n7 ?_
 have z57:=(z5'.trans z6').trans z7'
 have z37:=(z3'.trans z4').trans z57
 have D5:DuP K7' (if g=true then .ref m6' else .int 1) (resP (T5 w)):=by
  rw[resP5 W,← eg]
  cases hg:g
  ·exact rfl
  ·rw[hg,if_pos rfl] at env
   rw[env] at n4
   refine⟨m6',m3',m5',[(m2',[m1'])],[m4'],rfl,z7' _ _ n6,⟨(z4'.trans z57) _ _ n3,rfl,fun i r xs e1 e2=>?_⟩,⟨(z6'.trans z7') _ _ n5,rfl,fun i q ns e1 e2=>?_⟩⟩
   ·match i with
    | 0=>
     cases e1;cases e2
     refine⟨z37 _ _ n2,rfl,fun i b x e1 e2=>?_⟩
     match i with
     | 0=>cases e1;cases e2;exact (z2'.trans z37) _ _ n1
     | i+1=>simp at e1
    | i+1=>simp at e1
   ·match i with
    | 0=>cases e1;cases e2;exact z57 _ _ n4
    | i+1=>simp at e1
 generalize (if g=true then V.ref m6' else .int 1)=dv5 at D5
 have v07:=((v01.trans z1').trans z2').trans z37
 ac_nf
 refine⟨by simp only[zh8,zci0];omega,?_⟩
 ac_nf
 refine⟨by simp only[zh8,zci0];omega,?_⟩
 ac_nf
 obtain⟨rT5,erT5⟩:∃ r,resP (T5 w)=r:=⟨_,rfl⟩
 rw[erT5] at D5
 refine zab9 (K:=K) (x:=T5 w) (zac2 wl b9 b2) erT5 D5 (fun v5 L2 x2 e5=>?_)
 refine zad7 rfl e5 ?_
 refine br_F ?_
 ac_nf
 refine⟨by simp only[zh8,zci0];omega,?_⟩
 ac_nf
 refine⟨by simp only[zh8,zci0];omega,?_⟩
 refine zar7 (x:=T6 w) (zac2 wl b10 b11) (fun k hk L3 x3=>?_) (fun s hk=>by rw[resP6 W] at hk;split at hk<;>cases hk)
 have hk:k=0:=by rw[resP6 W] at hk;split at hk<;>cases hk<;>rfl
 subst hk
 ac_nf
 exact q L3 ((v07.trans x2).trans x3)
def spLaw(K:zby6):Sp:=fun vs H Q _=>∃ (a:Addr) (ns:List Int),vs=[.ref a]/\SqL K H a (ns.map V.int)/\ns.length<=63/\∀ H',Q (.bl true) H'
theorem zaq1{ns:List Int}(h:ns.length<=63):[V.int 3].length+(cutV (ns.map V.int) none (some 4)).length<=sizeLine:=by
 rw[zak2 (by decide),zcd6,zby7,zci0,zcb1];omega
theorem zan5{ns:List Int}{x:V}(h:([V.int 3]++cutV (ns.map V.int) none (some 4))[i]?=some x):∃ z,x=.int z:=by
 rw[zak2 (by decide)] at h
 rcases zcc1.mp (zca5 h) with h|h
 ·exact⟨3,by simpa using h⟩
 ·obtain⟨z,_,rfl⟩:=zcf4.mp (List.mem_of_mem_take h)
  exact⟨z,rfl⟩
theorem ok_law{f:Addr}(F:Fun K "law" "law" zap2 f fd)(N:Nm mg)(zbt9:Def P w K mg base CX0 3 "_law_drawn_word" ["_law_left"] zd2)(zbv3:Def P w K mg base CX0 1 "_law_opened" ["_law_cell"] zf5)(zbv6:Def P w K mg base CX0 9 "_law_right" ["_law_word"] zg4):FnOk P w K mg base CX0 10 f fd ["_law_script"] (spLaw K):=by
 refine F.ok zbm6 (fun vs H Q E h=>by obtain⟨n,k,rfl,_⟩:=h;rfl) fun _ _ _ s H vs Q E hr h=>?_
 obtain⟨a,ns0,rfl,hS,hlen,k⟩:=h
 have hu:=hu40 hr
 refine⟨_,(za3 (zax8 PassesOwn.never rfl (zq5 (K:=K) rfl (zc8 oAdd (zn4 (za0 za2 za1)) (zh6 (slZK (K:=K) rfl) (pq 0) zl4 (zn8 za2)))) (ze2 (i:=1) zbm6.nd rfl (by eq_refl)) (za7 (psIf (zl2 (ptV (pD zbv6 hr zd6 (za0 (pD zbt9 hr zd6 (za0 (pD zbv3 hr zd6 (za0 (pq 1) za1)) za1)) za1)))) (za7 (zb1 zaa1)) zc1)))
   (za7 (zb1 zaa1))),?_⟩
 refine zb6 (fun p1 H1 hf1 hs1 ha1=>?_)
 refine zx6 (hs1.seq hS) (fun p2 H2 hf2 hs2 ha2=>?_)
 refine zy6 (hs2 _ _ ha1) ha2 (zaq1 hlen) (fun p3 H3 hf3 hs3 ha3=>?_)
 refine zj9 ha3 ?_
 refine zah7 (xs:=[V.int 3]++cutV (ns0.map V.int) none (some 4)) (fun i σ H4=>∃ x1:Option V,σ=[some (.ref a),x1]/\Same H3 H4) ?_ ?_ ?_ ?_
 ·exact⟨_,rfl,Same.refl _⟩
 ·rintro i σ H4 _ ⟨_,_,h⟩
  exact SqL.of (h _ _ ha3)
 ·rintro i x σ H4 hi ⟨x1,rfl,s4⟩
  obtain⟨z,rfl⟩:=zan5 hi
  refine zbf2 (fun pl H5 f5 s5 L5=>?_)
  have fpl:H3 pl=none:=s4.free f5
  refine zaf8 L5 (by rfl') (fun y ng fs H6 W c6=>?_)
  have s36:=(s4.trans s5).chg fpl c6
  refine zbj5 W (fun H7 s7=>?_)
  refine zc6 (br_T ?_)
  ac_nf
  exact⟨_,rfl,s36.trans s7⟩
 ·rintro σ H4 ⟨_,rfl,_⟩
  exact k H4
end
abbrev FA(K:zby6)(x:Str)(st:Stmt):Prop:=∃ (f:Addr) (od an:Option Addr) (sl:Array (Option Value)) (oc kV dc pm cd ct:Value),zca9 K zci4 x=some (some (.ref f))/\K.lookup f=some ⟨oc,od,.func (zce9 x x (zk7 st) (zh7 st) (za5 st) .none kV dc pm an cd ct),sl⟩/\zcg4 K cd x=true/\zcf3 K (.ref f)=true
theorem FA.of{K:zby6}{x:Str}{st:Stmt}{f:Addr}{od an:Option Addr}{sl:Array (Option Value)}{oc kV dc pm cd ct:Value}(a:zca9 K zci4 x=some (some (.ref f)))(l:K.lookup f=some ⟨oc,od,.func (zce9 x x (zk7 st) (zh7 st) (za5 st) .none kV dc pm an cd ct),sl⟩)(c:zcg4 K cd x=true)(k:zcf3 K (.ref f)=true):FA K x st:=⟨_,_,_,_,_,_,_,_,_,_,a,l,c,k⟩
structure Ev(P:Program)(w:World)(K:zby6)(mg:Str->Option Value)(base h:Heap):Prop where
 x:K.In h
 g:h.Ns zci4 mg
local macro_rules | `(tactic| walk_at "bd")=>`(tactic| (intro _ _ _ _ _ _ us hl;rcases us with _|⟨_,_|⟨_,_|⟨_,_|⟨_,_|⟨_,_|⟨_,_|⟨_,_⟩⟩⟩⟩⟩⟩⟩<;>first|rfl|exact Nat.noConfusion hl|cases hl))
section
variable {P:Program}{w:World}{K:zby6}{mg:Str->Option Value}{base h:Heap}{CX:CXT}{k:Nat}{x:Str}{ps:List Str}{sp:Sp}{st:Stmt}
theorem Ev.r(E:Ev P w K mg base h)(A:FA K x st)(ok:∀ {f:Addr}{fd:FuncData},Fun K x x st f fd->mg x=some (.ref f)->zcf3 K (.ref f)=true->zaa2 K fd ps []->FnOk P w K mg base CX k f fd ps sp)(b:∀ (kV doc pm:Value) (an:Option Addr) (cdv ct:Value) (us:List Value),us.length=ps.length->bindArgs (zce9 x x (zk7 st) (zh7 st) (za5 st) .none kV doc pm an cdv ct) ⟨us,[]⟩=pure (ps.zip us):=by walk_at "bd"):Def P w K mg base CX k x ps sp:=by
 obtain⟨f,od,an,sl,oc,kV,dc,pm,cd,ct,a,l,c,k⟩:=A
 have F:=zac8 (st:=st) l c k
 have a:=zcc2 E.x E.g a
 exact⟨⟨_,_,ok F a k (F.binds b),a,k,F.binds b⟩⟩
theorem Ev.d(E:Ev P w K mg base h)(A:FA K x st)(ok:∀ {f:Addr}{fd:FuncData},Fun K x x st f fd->FnOk P w K mg base CX k f fd ps sp)(b:∀ (kV doc pm:Value) (an:Option Addr) (cdv ct:Value) (us:List Value),us.length=ps.length->bindArgs (zce9 x x (zk7 st) (zh7 st) (za5 st) .none kV doc pm an cdv ct) ⟨us,[]⟩=pure (ps.zip us):=by walk_at "bd"):Def P w K mg base CX k x ps sp:=E.r A (fun F _ _ _=>ok F) b
end
theorem all_mk{l:PySem.W.OpenLaw}{w:World}{K:zby6}{h:Heap}{mg:Str->Option Value}{fa:Addr}(X:K.In h)(G:h.Ns zci4 mg)(hfa:mg "law"=some (.ref fa)){zbu7:Tok}{zbu4:Tok}{zbw5:Tok}{zbu2:Tok}{zbw8 ep_WANTED:Nat}{t0_WANTED u0_WANTED t1_WANTED u1_WANTED t2_WANTED u2_WANTED t3_WANTED u3_WANTED t4_WANTED u4_WANTED:Tok}{zbw1 ep_FIELD_WORDS:Nat}{t0_FIELD_WORDS t1_FIELD_WORDS t2_FIELD_WORDS:Tok}{zbr8:Addr}{zbx0:ClassData}{zbr6:Addr}{zbx2:ClassData}{zbs5:Addr}{zbx8:ClassData}{zbt2:Addr}{zby4:ClassData}{zbr9:Addr}{zbx3:ClassData}{zbs6:Addr}{zbx9:ClassData}{zbs2:Addr}{zbx6:ClassData}{zbs0:Addr}{zbx4:ClassData}{zbs1:Addr}{zbx5:ClassData}{zbs7:Addr}{zby0:ClassData}{zby1:ClassData}{zbt3:Addr}{zby5:ClassData}{zbs8:Addr}{zby2:ClassData}{zbs3:Addr}{zbx7:ClassData}{qn_NoBattle:Str}{N_NoBattle:Addr}{bs_NoBattle:List Value}{sn_NoBattle:List Str}{sub_NoBattle:List Value}{ab_NoBattle:Bool}{col_NoBattle:Option Bool}{dd_NoBattle:Option Addr}{k0_NoBattle k1_NoBattle k2_NoBattle k3_NoBattle k5_NoBattle:Option Value}{zbs4:Addr}{iod_NoBattle ian_NoBattle:Option Addr}{isl_NoBattle:Array (Option Value)}{ioc_NoBattle ikV_NoBattle idc_NoBattle ipm_NoBattle icd_NoBattle ict_NoBattle:Value}{qn_NoText:Str}{N_NoText:Addr}{bs_NoText:List Value}{sn_NoText:List Str}{sub_NoText:List Value}{ab_NoText:Bool}{col_NoText:Option Bool}{dd_NoText:Option Addr}{k0_NoText k1_NoText k2_NoText k3_NoText k5_NoText:Option Value}{zbt4:Addr}{iod_NoText ian_NoText:Option Addr}{isl_NoText:Array (Option Value)}{ioc_NoText ikV_NoText idc_NoText ipm_NoText icd_NoText ict_NoText:Value}(e_MOST_HOSTS:zca9 K zci4 "MOST_HOSTS"=some (some (.int 10 zbu7)))(e_MOST_FIELDS:zca9 K zci4 "MOST_FIELDS"=some (some (.int 5 zbu4)))(e_FIGURES:zca9 K zci4 "FIGURES"=some (some (.str "0123456789" zbw5)))(e_MOST_FIGURES:zca9 K zci4 "MOST_FIGURES"=some (some (.int 2000 zbu2)))(e_WANTED:zca9 K zci4 "WANTED"=some (some (.ref zbw8)))(l_WANTED:K.lookup zbw8=some { cls:=.type "dict",data:=.dict #[⟨PyData.keyHash w.params "hosts",.str "hosts" t0_WANTED,.int 2 u0_WANTED⟩,⟨PyData.keyHash w.params "more",.str "more" t1_WANTED,.int 2 u1_WANTED⟩,⟨PyData.keyHash w.params "lead",.str "lead" t2_WANTED,.int 2 u2_WANTED⟩,⟨PyData.keyHash w.params "flow",.str "flow" t3_WANTED,.int 4 u3_WANTED⟩,⟨PyData.keyHash w.params "number",.str "number" t4_WANTED,.int 3 u4_WANTED⟩] ep_WANTED })(r_WANTED:(zbw8==sysModules)=false)(hD:zca9 K cStatics "sys.int_max_str_digits"=some none)(e_FIELD_WORDS:zca9 K zci4 "FIELD_WORDS"=some (some (.ref zbw1)))(l_FIELD_WORDS:K.lookup zbw1=some { cls:=.type "tuple",data:=.seq #[.str "more" t0_FIELD_WORDS,.str "lead" t1_FIELD_WORDS,.str "table" t2_FIELD_WORDS] ep_FIELD_WORDS })(A_0:FA K "is_whole" zu9)(A_1:FA K "is_from" zx8)(A_2:FA K "is_between" zp3)(A_3:FA K "are_hosts" zs0)(A_4:FA K "has_size" zu8)(A_5:FA K "is_table_row" zl7)(A_6:FA K "is_table" zt9)(A_7:FA K "is_field" zu0)(A_8:FA K "look_battle" zm7)(A_9:FA K "has_wanted" zo3)(A_10:FA K "is_number" zr1)(A_11:FA K "read_row" zu1)(A_12:FA K "stands_in_battle" zh9)(A_13:FA K "flow_stands" zm8)(A_14:FA K "number_stands" zk4)(A_15:FA K "stands_in_paper" zi9)(A_16:FA K "read_rows" zr5)(A_17:FA K "rows_parted" zn2)(A_18:FA K "field_of" zt6)(A_19:FA K "battle_of" zr7)(A_20:FA K "read_battle" zm9)(A_21:FA K "by_fields" zr3)(A_22:FA K "read_paper" zp6)(A_23:FA K "_law_stirred" zm0)(A_24:FA K "_law_opened" zn3)(A_25:FA K "_law_draw" zr4)(A_26:FA K "_law_kind_of" zm1)(A_27:FA K "_law_drawn_word" zi5)(A_28:FA K "_law_told_of" zl5)(A_29:FA K "_law_right" zp7)(A_30:FA K "law" zap2)(z_ValueError:zca9 K zci4 "ValueError"=some none)(z_all:zca9 K zci4 "all"=some none)(z_bool:zca9 K zci4 "bool"=some none)(z_enumerate:zca9 K zci4 "enumerate"=some none)(z_int:zca9 K zci4 "int"=some none)(z_isinstance:zca9 K zci4 "isinstance"=some none)(z_len:zca9 K zci4 "len"=some none)(z_list:zca9 K zci4 "list"=some none)(z_range:zca9 K zci4 "range"=some none)(z_tuple:zca9 K zci4 "tuple"=some none)(e_HostError:zca9 K zci4 "HostError"=some (some (.ref zbr8)))(kk_HostError:zcb5 K zbr8=some zbx0)(tt_HostError:zcb9 K (.ref zbr8)=some (.type "type"))(nn_HostError:zbz9 K (.type "NoneType") (.ref zbr8)=some false)(e_NoBattle:zca9 K zci4 "NoBattle"=some (some (.ref zbr6)))(kk_NoBattle:zcb5 K zbr6=some zbx2)(tt_NoBattle:zcb9 K (.ref zbr6)=some (.type "type"))(nn_NoBattle:zbz9 K (.type "NoneType") (.ref zbr6)=some false)(e_NoPlan:zca9 K zci4 "NoPlan"=some (some (.ref zbs5)))(kk_NoPlan:zcb5 K zbs5=some zbx8)(tt_NoPlan:zcb9 K (.ref zbs5)=some (.type "type"))(nn_NoPlan:zbz9 K (.type "NoneType") (.ref zbs5)=some false)(e_NoMix:zca9 K zci4 "NoMix"=some (some (.ref zbt2)))(kk_NoMix:zcb5 K zbt2=some zby4)(tt_NoMix:zcb9 K (.ref zbt2)=some (.type "type"))(nn_NoMix:zbz9 K (.type "NoneType") (.ref zbt2)=some false)(e_NoStream:zca9 K zci4 "NoStream"=some (some (.ref zbr9)))(kk_NoStream:zcb5 K zbr9=some zbx3)(tt_NoStream:zcb9 K (.ref zbr9)=some (.type "type"))(nn_NoStream:zbz9 K (.type "NoneType") (.ref zbr9)=some false)(e_NoSide:zca9 K zci4 "NoSide"=some (some (.ref zbs6)))(kk_NoSide:zcb5 K zbs6=some zbx9)(tt_NoSide:zcb9 K (.ref zbs6)=some (.type "type"))(nn_NoSide:zbz9 K (.type "NoneType") (.ref zbs6)=some false)(e_NoAlike:zca9 K zci4 "NoAlike"=some (some (.ref zbs2)))(kk_NoAlike:zcb5 K zbs2=some zbx6)(tt_NoAlike:zcb9 K (.ref zbs2)=some (.type "type"))(nn_NoAlike:zbz9 K (.type "NoneType") (.ref zbs2)=some false)(e_NoNumber:zca9 K zci4 "NoNumber"=some (some (.ref zbs0)))(kk_NoNumber:zcb5 K zbs0=some zbx4)(tt_NoNumber:zcb9 K (.ref zbs0)=some (.type "type"))(nn_NoNumber:zbz9 K (.type "NoneType") (.ref zbs0)=some false)(e_TooGreat:zca9 K zci4 "TooGreat"=some (some (.ref zbs1)))(kk_TooGreat:zcb5 K zbs1=some zbx5)(tt_TooGreat:zcb9 K (.ref zbs1)=some (.type "type"))(nn_TooGreat:zbz9 K (.type "NoneType") (.ref zbs1)=some false)(e_NoEven:zca9 K zci4 "NoEven"=some (some (.ref zbs7)))(kk_NoEven:zcb5 K zbs7=some zby0)(tt_NoEven:zcb9 K (.ref zbs7)=some (.type "type"))(nn_NoEven:zbz9 K (.type "NoneType") (.ref zbs7)=some false)(e_NoText:zca9 K zci4 "NoText"=some (some (.ref zbr7)))(kk_NoText:zcb5 K zbr7=some zby1)(tt_NoText:zcb9 K (.ref zbr7)=some (.type "type"))(nn_NoText:zbz9 K (.type "NoneType") (.ref zbr7)=some false)(e_NoRow:zca9 K zci4 "NoRow"=some (some (.ref zbt3)))(kk_NoRow:zcb5 K zbt3=some zby5)(tt_NoRow:zcb9 K (.ref zbt3)=some (.type "type"))(nn_NoRow:zbz9 K (.type "NoneType") (.ref zbt3)=some false)(e_NoName:zca9 K zci4 "NoName"=some (some (.ref zbs8)))(kk_NoName:zcb5 K zbs8=some zby2)(tt_NoName:zcb9 K (.ref zbs8)=some (.type "type"))(nn_NoName:zbz9 K (.type "NoneType") (.ref zbs8)=some false)(e_NoPlace:zca9 K zci4 "NoPlace"=some (some (.ref zbs3)))(kk_NoPlace:zcb5 K zbs3=some zbx7)(tt_NoPlace:zcb9 K (.ref zbs3)=some (.type "type"))(nn_NoPlace:zbz9 K (.type "NoneType") (.ref zbs3)=some false)(bb_HostError:zbz9 K (.ref zbr8) (.type "BaseException")=some true)(x_HostError:PySem.W.excIn K zbr8 bmV newV=true)(ob_NoBattle:K.lookup zbr6=some (excClassObj "NoBattle" qn_NoBattle zbr6 N_NoBattle bs_NoBattle (.ref zbr8 :: bmV) true sn_NoBattle sub_NoBattle ab_NoBattle col_NoBattle dd_NoBattle k0_NoBattle k1_NoBattle k2_NoBattle k3_NoBattle k5_NoBattle newV))(in_NoBattle:zcb2 K (.ref zbr6) "__init__"=some (some (.ref zbs4)))(ty_NoBattle:zcb9 K (.ref zbs4)=some (.type "function"))(sa_NoBattle:zcb2 K (.ref zbr6) "__setattr__"=some (some (.builtin "object.__setattr__")))(nf_NoBattle:zcb2 K (.ref zbr6) "field"=some none)(hd_NoBattle:zcf2 K zbr6=true)(li_NoBattle:K.lookup zbs4=some ⟨ioc_NoBattle,iod_NoBattle,.func (zce9 "__init__" "NoBattle.__init__" (zk7 zh4) (zh7 zh4) (za5 zh4) .none ikV_NoBattle idc_NoBattle ipm_NoBattle ian_NoBattle icd_NoBattle ict_NoBattle),isl_NoBattle⟩)(ci_NoBattle:zcg4 K icd_NoBattle "NoBattle.__init__"=true)(ki_NoBattle:zcf3 K (.ref zbs4)=true)(f1_NoBattle:zcb2 K (.ref zbr6) "__getattribute__"=some (some (.builtin "BaseException.__getattribute__")))(f2_NoBattle:zcb2 K (.ref zbr6) "__getattr__"=some none)(f3_NoBattle:zcb2 K (.ref zbr6) "__class__"=some (some (.builtin "object.__class__")))(f4_NoBattle:zbz9 K (.ref zbr6) (.type "BaseException")=some true)(f5_NoBattle:PySem.W.mroIn K zbr6 (.type "object")=some true)(f6_NoBattle:zbz9 K (.ref zbr6) (.type "ValueError")=some true)(s_NoBattle_HostError:zbz9 K (.ref zbr6) (.ref zbr8)=some true)(s_NoBattle_NoBattle:zbz9 K (.ref zbr6) (.ref zbr6)=some true)(s_NoBattle_NoPlan:zbz9 K (.ref zbr6) (.ref zbs5)=some false)(s_NoBattle_NoMix:zbz9 K (.ref zbr6) (.ref zbt2)=some false)(s_NoBattle_NoStream:zbz9 K (.ref zbr6) (.ref zbr9)=some false)(s_NoBattle_NoSide:zbz9 K (.ref zbr6) (.ref zbs6)=some false)(s_NoBattle_NoAlike:zbz9 K (.ref zbr6) (.ref zbs2)=some false)(s_NoBattle_NoNumber:zbz9 K (.ref zbr6) (.ref zbs0)=some false)(s_NoBattle_TooGreat:zbz9 K (.ref zbr6) (.ref zbs1)=some false)(s_NoBattle_NoEven:zbz9 K (.ref zbr6) (.ref zbs7)=some false)(s_NoBattle_NoText:zbz9 K (.ref zbr6) (.ref zbr7)=some false)(s_NoBattle_NoRow:zbz9 K (.ref zbr6) (.ref zbt3)=some false)(s_NoBattle_NoName:zbz9 K (.ref zbr6) (.ref zbs8)=some false)(s_NoBattle_NoPlace:zbz9 K (.ref zbr6) (.ref zbs3)=some false)(ob_NoText:K.lookup zbr7=some (excClassObj "NoText" qn_NoText zbr7 N_NoText bs_NoText (.ref zbr8 :: bmV) true sn_NoText sub_NoText ab_NoText col_NoText dd_NoText k0_NoText k1_NoText k2_NoText k3_NoText k5_NoText newV))(in_NoText:zcb2 K (.ref zbr7) "__init__"=some (some (.ref zbt4)))(ty_NoText:zcb9 K (.ref zbt4)=some (.type "function"))(sa_NoText:zcb2 K (.ref zbr7) "__setattr__"=some (some (.builtin "object.__setattr__")))(nf_NoText:zcb2 K (.ref zbr7) "row"=some none)(hd_NoText:zcf2 K zbr7=true)(li_NoText:K.lookup zbt4=some ⟨ioc_NoText,iod_NoText,.func (zce9 "__init__" "NoText.__init__" (zk7 zk2) (zh7 zk2) (za5 zk2) .none ikV_NoText idc_NoText ipm_NoText ian_NoText icd_NoText ict_NoText),isl_NoText⟩)(ci_NoText:zcg4 K icd_NoText "NoText.__init__"=true)(ki_NoText:zcf3 K (.ref zbt4)=true)(f1_NoText:zcb2 K (.ref zbr7) "__getattribute__"=some (some (.builtin "BaseException.__getattribute__")))(f2_NoText:zcb2 K (.ref zbr7) "__getattr__"=some none)(f3_NoText:zcb2 K (.ref zbr7) "__class__"=some (some (.builtin "object.__class__")))(f4_NoText:zbz9 K (.ref zbr7) (.type "BaseException")=some true)(f5_NoText:PySem.W.mroIn K zbr7 (.type "object")=some true)(f6_NoText:zbz9 K (.ref zbr7) (.type "ValueError")=some true)(s_NoText_HostError:zbz9 K (.ref zbr7) (.ref zbr8)=some true)(s_NoText_NoBattle:zbz9 K (.ref zbr7) (.ref zbr6)=some false)(s_NoText_NoPlan:zbz9 K (.ref zbr7) (.ref zbs5)=some false)(s_NoText_NoMix:zbz9 K (.ref zbr7) (.ref zbt2)=some false)(s_NoText_NoStream:zbz9 K (.ref zbr7) (.ref zbr9)=some false)(s_NoText_NoSide:zbz9 K (.ref zbr7) (.ref zbs6)=some false)(s_NoText_NoAlike:zbz9 K (.ref zbr7) (.ref zbs2)=some false)(s_NoText_NoNumber:zbz9 K (.ref zbr7) (.ref zbs0)=some false)(s_NoText_TooGreat:zbz9 K (.ref zbr7) (.ref zbs1)=some false)(s_NoText_NoEven:zbz9 K (.ref zbr7) (.ref zbs7)=some false)(s_NoText_NoText:zbz9 K (.ref zbr7) (.ref zbr7)=some true)(s_NoText_NoRow:zbz9 K (.ref zbr7) (.ref zbt3)=some false)(s_NoText_NoName:zbz9 K (.ref zbr7) (.ref zbs8)=some false)(s_NoText_NoPlace:zbz9 K (.ref zbr7) (.ref zbs3)=some false) :
  ∃ fd:FuncData,(∀ (s:Shared) (v:Value),BindsTo s fd ⟨[v],[]⟩ [("_law_script",v)])/\∀ base:Heap,K.In base->base.Ns zci4 mg->FnOk l.prog w K mg base CX0 10 fa fd ["_law_script"] (spLaw K):=by
 obtain⟨_,_,an,_,_,kV,dc,pm,cd,ct,aL,lL,cL,kL⟩:=A_30
 have e:=hfa.symm.trans (zcc2 X G aL)
 cases e
 have N:Nm mg:=⟨zcd8 X G z_ValueError,zcd8 X G z_all,zcd8 X G z_bool,zcd8 X G z_enumerate,zcd8 X G z_int,zcd8 X G z_isinstance,zcd8 X G z_len,zcd8 X G z_list,zcd8 X G z_range,zcd8 X G z_tuple⟩
 have zbx1:=zcc2 X G e_MOST_HOSTS
 have zbw9:=zcc2 X G e_MOST_FIELDS
 have zby3:=zcc2 X G e_FIGURES
 have zbw7:=zcc2 X G e_MOST_FIGURES
 have T_FIELD_WORDS:TupC K mg "FIELD_WORDS" [.str "more",.str "lead",.str "table"]:=zbq6 (es:=[("more",t0_FIELD_WORDS),("lead",t1_FIELD_WORDS),("table",t2_FIELD_WORDS)]) X G e_FIELD_WORDS l_FIELD_WORDS (show 3<=100 by decide)
 have T_WANTED:TabS w K mg "WANTED" [("hosts",2),("more",2),("lead",2),("flow",4),("number",3)]:=zbr0 (es:=[("hosts",2,t0_WANTED,u0_WANTED),("more",2,t1_WANTED,u1_WANTED),("lead",2,t2_WANTED,u2_WANTED),("flow",4,t3_WANTED,u3_WANTED),("number",3,t4_WANTED,u4_WANTED)]) X G e_WANTED r_WANTED l_WANTED (show (["hosts","more","lead","flow","number"]:List Str).Nodup by decide +kernel)
 refine⟨zce9 "law" "law" (zk7 zap2) (zh7 zap2) (za5 zap2) .none kV dc pm an cd ct,fun s v=>.of_eq rfl,fun base XB GB=>?_⟩
 have E:Ev l.prog w K mg base h:=⟨X,G⟩
 have Z:Cz K mg base zbr8 zbr6 zbs5 zbt2 zbr9 zbs6 zbs2 zbs0 zbs1 zbs7 zbr7 zbt3 zbs8 zbs3 zbs4 zbt4:=⟨zcc2 X G e_HostError,zcc2 X G e_NoBattle,zcc2 X G e_NoPlan,zcc2 X G e_NoMix,zcc2 X G e_NoStream,zcc2 X G e_NoSide,zcc2 X G e_NoAlike,zcc2 X G e_NoNumber,zcc2 X G e_TooGreat,zcc2 X G e_NoEven,zcc2 X G e_NoText,zcc2 X G e_NoRow,zcc2 X G e_NoName,zcc2 X G e_NoPlace,⟨⟨_,_,_,_,_,_,_,_,_,_,_,_,_,_,ob_NoBattle⟩,fun h X=>zal1 X x_HostError,in_NoBattle,ty_NoBattle,sa_NoBattle,nf_NoBattle⟩,⟨_,zac8 (st:=zh4) li_NoBattle ci_NoBattle ki_NoBattle,(zac8 (st:=zh4) li_NoBattle ci_NoBattle ki_NoBattle).binds fun _ _ _ _ _ _ us hl=>match us,hl with | [_,_],_=>rfl⟩,hd_NoBattle,⟨f1_NoBattle,f2_NoBattle,f3_NoBattle,f4_NoBattle,f5_NoBattle⟩,by rw[kk_NoBattle];rfl,zao6 bb_HostError kk_HostError tt_HostError s_NoBattle_HostError,zq6 f6_NoBattle,zc7 kk_HostError tt_HostError s_NoBattle_HostError s_NoBattle_NoBattle,zc7 kk_NoBattle tt_NoBattle s_NoBattle_NoBattle s_NoBattle_NoBattle,zc7 kk_NoPlan tt_NoPlan s_NoBattle_NoPlan s_NoBattle_NoBattle,zc7 kk_NoMix tt_NoMix s_NoBattle_NoMix s_NoBattle_NoBattle,zc7 kk_NoStream tt_NoStream s_NoBattle_NoStream s_NoBattle_NoBattle,zc7 kk_NoSide tt_NoSide s_NoBattle_NoSide s_NoBattle_NoBattle,zc7 kk_NoAlike tt_NoAlike s_NoBattle_NoAlike s_NoBattle_NoBattle,zc7 kk_NoNumber tt_NoNumber s_NoBattle_NoNumber s_NoBattle_NoBattle,zc7 kk_TooGreat tt_TooGreat s_NoBattle_TooGreat s_NoBattle_NoBattle,zc7 kk_NoEven tt_NoEven s_NoBattle_NoEven s_NoBattle_NoBattle,zc7 kk_NoText tt_NoText s_NoBattle_NoText s_NoBattle_NoBattle,zc7 kk_NoRow tt_NoRow s_NoBattle_NoRow s_NoBattle_NoBattle,zc7 kk_NoName tt_NoName s_NoBattle_NoName s_NoBattle_NoBattle,zc7 kk_NoPlace tt_NoPlace s_NoBattle_NoPlace s_NoBattle_NoBattle,⟨⟨_,_,_,_,_,_,_,_,_,_,_,_,_,_,ob_NoText⟩,fun h X=>zal1 X x_HostError,in_NoText,ty_NoText,sa_NoText,nf_NoText⟩,⟨_,zac8 (st:=zk2) li_NoText ci_NoText ki_NoText,(zac8 (st:=zk2) li_NoText ci_NoText ki_NoText).binds fun _ _ _ _ _ _ us hl=>match us,hl with | [_,_],_=>rfl⟩,hd_NoText,⟨f1_NoText,f2_NoText,f3_NoText,f4_NoText,f5_NoText⟩,by rw[kk_NoText];rfl,zao6 bb_HostError kk_HostError tt_HostError s_NoText_HostError,zq6 f6_NoText,zc7 kk_HostError tt_HostError s_NoText_HostError s_NoText_NoText,zc7 kk_NoBattle tt_NoBattle s_NoText_NoBattle s_NoText_NoText,zc7 kk_NoPlan tt_NoPlan s_NoText_NoPlan s_NoText_NoText,zc7 kk_NoMix tt_NoMix s_NoText_NoMix s_NoText_NoText,zc7 kk_NoStream tt_NoStream s_NoText_NoStream s_NoText_NoText,zc7 kk_NoSide tt_NoSide s_NoText_NoSide s_NoText_NoText,zc7 kk_NoAlike tt_NoAlike s_NoText_NoAlike s_NoText_NoText,zc7 kk_NoNumber tt_NoNumber s_NoText_NoNumber s_NoText_NoText,zc7 kk_TooGreat tt_TooGreat s_NoText_TooGreat s_NoText_NoText,zc7 kk_NoEven tt_NoEven s_NoText_NoEven s_NoText_NoText,zc7 kk_NoText tt_NoText s_NoText_NoText s_NoText_NoText,zc7 kk_NoRow tt_NoRow s_NoText_NoRow s_NoText_NoText,zc7 kk_NoName tt_NoName s_NoText_NoName s_NoText_NoText,zc7 kk_NoPlace tt_NoPlace s_NoText_NoPlace s_NoText_NoText,zf9 kk_HostError tt_HostError nn_HostError,zf9 kk_NoBattle tt_NoBattle nn_NoBattle,zf9 kk_NoPlan tt_NoPlan nn_NoPlan,zf9 kk_NoMix tt_NoMix nn_NoMix,zf9 kk_NoStream tt_NoStream nn_NoStream,zf9 kk_NoSide tt_NoSide nn_NoSide,zf9 kk_NoAlike tt_NoAlike nn_NoAlike,zf9 kk_NoNumber tt_NoNumber nn_NoNumber,zf9 kk_TooGreat tt_TooGreat nn_TooGreat,zf9 kk_NoEven tt_NoEven nn_NoEven,zf9 kk_NoText tt_NoText nn_NoText,zf9 kk_NoRow tt_NoRow nn_NoRow,zf9 kk_NoName tt_NoName nn_NoName,zf9 kk_NoPlace tt_NoPlace nn_NoPlace⟩
 have hTR:chIn K zbr7=some true:=by
  unfold chIn
  rw[ob_NoText]
  show some (("NoText":Str)=="NoText")=some true
  decide +kernel
 have hTB:chIn K zbr6=some false:=by
  unfold chIn
  rw[ob_NoBattle]
  show some (("NoBattle":Str)=="NoText")=some false
  decide +kernel
 have hTM:=zao6 f4_NoBattle kk_NoBattle tt_NoBattle s_NoBattle_NoBattle
 have zbt7:=E.d A_0 fun F=>zar0 F N
 have zbu1:=E.d A_1 fun F=>zaz6 F N zbt7
 have zbt5:=E.d A_2 fun F=>zad4 F N zbu1
 have zbv8:=E.d A_3 fun F=>zal4 F N zbx1 zbt5
 have zbw3:=E.d A_4 fun F=>zao1 F N zbw9 zbv8
 have zbu0:=E.d A_5 fun F=>zz9 F N zbt7
 have zbw2:=E.d A_6 fun F=>zap1 F N zbu0
 have zbw4:=E.d A_7 fun F=>zan9 F N zbt5 zbu1 zbw2 zbt7
 have zbv0:=E.d A_8 fun F=>zaa6 F N zbw3 zbw4 Z
 have zbv4:=E.d A_9 fun F=>zag8 F N T_WANTED
 have zbv9:=E.d A_10 fun F=>zam7 F N zby3 zbw7
 have zbv7:=E.d A_11 fun F=>zao2 F N hD zbv4 zbv9
 have zbs9:=E.d A_12 fun F=>zr6 F N T_FIELD_WORDS
 have zbu8:=E.d A_13 fun F=>zab3 F N
 have zbu3:=E.d A_14 fun F=>zv9 F N
 have zbt1:=E.d A_15 fun F=>zt2 F N zbu8 zbu3
 have zbt8:=E.d A_16 fun F=>zaj4 F N zbv7 zbs9 zbt1 Z
 have zbu9:=E.d A_17 fun F=>zaa4 F N
 have zbw6:=E.d A_18 fun F=>zaq4 F N zbu9
 have zbw0:=E.d A_19 fun F=>zam0 F N zbw6
 have zbv2:=E.d A_20 fun F=>zaa8 F N hTR hTB hTM zbw0 zbv0 zbt8 zbs9 Z
 have zbv1:=E.d A_21 fun F=>zah9 F N
 have zbv5:=E.d A_22 fun F=>zad2 F N zbv1 zbt8 zbt1 Z
 have zbu6:=E.d A_23 fun F=>zaa0 F N
 have zbv3:=E.d A_24 fun F=>zab6 F N
 have zbt6:=E.d A_25 fun F=>zah4 F N zbu6
 have zbu5:=E.d A_26 fun F=>zz0 F N Z
 have zbt9:=E.d A_27 fun F=>zs2 F N zbt6
 have zbt0:=E.d A_28 fun F=>zw9 F N zbu5 zbv2 zbv5 Z
 have zbv6:=E.d A_29 fun F=>zaf9 F N hD zbt0
 exact ok_law (P:=l.prog) (w:=w) (base:=base) (zac8 (st:=zap2) lL cL kL) N zbt9 zbv3 zbv6
theorem walk{l:PySem.W.OpenLaw}{q:Program}{loose:List Str}{XP:(Str->Option Value)->Heap->Prop}{YP:World->Heap->Prop}{d:DefRec}{K:Params->zby6}(hn:l.most=some 63)(hdf:d.params.defaults=[])(hY:∀ (w:World) (h:Heap),YP w h->(K w.params).In h)(F:∀ (w:World) (mg:Str->Option Value) (fa:Addr) (h:Heap),(K w.params).In h->h.Ns zci4 mg->mg d.name=some (.ref fa) ->
   ∃ fd:FuncData,(∀ (s:Shared) (u:Value),BindsTo s fd ⟨[u],[]⟩ [("_law_script",u)])/\∀ base:Heap,(K w.params).In base->base.Ns zci4 mg->FnOk l.prog w (K w.params) mg base CX0 10 fa fd ["_law_script"] (spLaw (K w.params))) :
  PySem.W.WalkO q loose XP YP l.row.toRowW d [] (fun f vs=>PySem.call f vs):=
 L2.walk_of (n:=63) (k:=10) (x:="_law_script") (CX:=fun _=>CX0) (sp:=fun w=>spLaw (K w.params)) hn (by decide) hdf ⟨rfl,by decide,by decide,rfl⟩ hY F (fun _ _ a ns hl _ hS=>⟨a,ns,rfl,hS,hl,fun _=>rfl⟩) fun _ _ _ _ _ z=>z
end G
namespace PySem.W.Fast
theorem tw4555891097765142365:True:=⟨⟩
theorem tw7424243956352646310:True:=⟨⟩
theorem tw12057000111212562109:True:=⟨⟩
theorem tw10969078520898515907:True:=⟨⟩
theorem tw12727953223650924168:True:=⟨⟩
theorem tw1634748675569693910:True:=⟨⟩
theorem tw5265579214686006954:True:=⟨⟩
theorem tw9270010739217046224:True:=⟨⟩
theorem tw3702137298787648985:True:=⟨⟩
theorem tw1503328484022142225:True:=⟨⟩
theorem tw13297235471893197517:True:=⟨⟩
theorem tw5819779030394394169:True:=⟨⟩
theorem tw8110892416212727966:True:=⟨⟩
theorem tw14097474194203371357:True:=⟨⟩
theorem tw12353936645547192024:True:=⟨⟩
theorem tw12606947600639778207:True:=⟨⟩
theorem tw1631660005992602138:True:=⟨⟩
theorem tw9738922400977164766:True:=⟨⟩
theorem tw774092317758819592:True:=⟨⟩
theorem tw946705924964024298:True:=⟨⟩
theorem tw6851968174048450621:True:=⟨⟩
theorem tw6577529156961434963:True:=⟨⟩
theorem tw3804245037228125950:True:=⟨⟩
theorem tw14119844257984920329:True:=⟨⟩
theorem tw4665580522841189604:True:=⟨⟩
theorem tw4012924512153259432:True:=⟨⟩
theorem tw9501579646535686648:True:=⟨⟩
theorem tw3990533851137196702:True:=⟨⟩
theorem tw3690909661377030863:True:=⟨⟩
theorem tw3029038420466303722:True:=⟨⟩
theorem tw2140136354303658091:True:=⟨⟩
theorem tw9400097031918056295:True:=⟨⟩
theorem tw8233252270764687285:True:=⟨⟩
theorem tw2730946633046879561:True:=⟨⟩
theorem tw4922164065231532293:True:=⟨⟩
theorem tw5065544137147387725:True:=⟨⟩
theorem tw4617387597738821586:True:=⟨⟩
theorem tw17417887763294508181:True:=⟨⟩
theorem tw4388112849896217957:True:=⟨⟩
theorem tw13784864799963805905:True:=⟨⟩
theorem tw2668784224891907140:True:=⟨⟩
theorem tw17577603704659482758:True:=⟨⟩
theorem tw17965092761664241668:True:=⟨⟩
theorem tw13195229019118729549:True:=⟨⟩
theorem tw10427367739134698995:True:=⟨⟩
theorem tw6338850265174651887:True:=⟨⟩
theorem tw1378630607736737775:True:=⟨⟩
theorem tw4926599078982044504:True:=⟨⟩
theorem tw15575677849423224086:True:=⟨⟩
theorem tw12331012754976761938:True:=⟨⟩
theorem tw3360488778970978462:True:=⟨⟩
theorem tw15538969755182276892:True:=⟨⟩
theorem tw5990128459955219023:True:=⟨⟩
theorem tw9011420596257059316:True:=⟨⟩
theorem tw15126451775013489834:True:=⟨⟩
theorem tw14204126100341294415:True:=⟨⟩
theorem tw13849200026895451610:True:=⟨⟩
theorem tw6363996106948664431:True:=⟨⟩
theorem tw1765004902367943072:True:=⟨⟩
theorem tw9324712929848847491:True:=⟨⟩
theorem tw369156407997002090:True:=⟨⟩
theorem tw7090594527018867210:True:=⟨⟩
theorem tw17755197033487581929:True:=⟨⟩
theorem tw2826680988537458781:True:=⟨⟩
theorem tw12578232013192913365:True:=⟨⟩
theorem tw9231674404565648916:True:=⟨⟩
theorem tw12355927518227399879:True:=⟨⟩
theorem tw4651875634942146640:True:=⟨⟩
theorem tw17352545276986397639:True:=⟨⟩
theorem tw4694302698716816268:True:=⟨⟩
theorem tw11179115830233456618:True:=⟨⟩
theorem tw2468229268647717930:True:=⟨⟩
theorem tw10053301675544559283:True:=⟨⟩
theorem tw3530213272213653379:True:=⟨⟩
theorem tw18016380864520832331:True:=⟨⟩
theorem tw5468021887429615239:True:=⟨⟩
theorem tw3097518621420624411:True:=⟨⟩
theorem tw16694604025971213876:True:=⟨⟩
theorem tw7855234017972560984:True:=⟨⟩
theorem tw3930080803881754409:True:=⟨⟩
theorem tw12027366407090036499:True:=⟨⟩
theorem tw8260349854536952157:True:=⟨⟩
theorem tw16839955986717065923:True:=⟨⟩
theorem tw15380690225900881611:True:=⟨⟩
theorem tw174190934558792176:True:=⟨⟩
theorem tw1297435293352821681:True:=⟨⟩
theorem tw16288519383557099927:True:=⟨⟩
theorem tw9734704888361446826:True:=⟨⟩
theorem tw9299804721279194806:True:=⟨⟩
theorem tw9252524538520991034:True:=⟨⟩
theorem tw17559491209465088499:True:=⟨⟩
theorem tw15739917782493808227:True:=⟨⟩
theorem tw12192691873624241586:True:=⟨⟩
theorem tw17917770170357223755:True:=⟨⟩
theorem tw4963236068693107001:True:=⟨⟩
theorem tw7505213065172533339:True:=⟨⟩
theorem tw830774342034241118:True:=⟨⟩
theorem tw17671024015445221650:True:=⟨⟩
theorem tw11017621535165289509:True:=⟨⟩
theorem tw17641983835020380229:True:=⟨⟩
theorem tw13966939211730025260:True:=⟨⟩
theorem tw2938141313026076961:True:=⟨⟩
theorem tw12135331413967252195:True:=⟨⟩
theorem tw13844922692183685333:True:=⟨⟩
theorem tw11032298301108733803:True:=⟨⟩
theorem tw16580917539211501006:True:=⟨⟩
theorem tw1631881637805761265:True:=⟨⟩
theorem tw15000517635211205403:True:=⟨⟩
theorem tw13323343428853251901:True:=⟨⟩
theorem tw6567897486709879352:True:=⟨⟩
theorem tw13617414309405376386:True:=⟨⟩
theorem tw5063145373713178484:True:=⟨⟩
theorem tw3408446938762697434:True:=⟨⟩
theorem tw7511316094924546463:True:=⟨⟩
theorem tw11306592370297907481:True:=⟨⟩
theorem tw11147646652539553169:True:=⟨⟩
theorem tw11006231427993237784:True:=⟨⟩
theorem tw15346377378620051811:True:=⟨⟩
theorem tw9702836407301069316:True:=⟨⟩
theorem tw16883351531374127227:True:=⟨⟩
theorem tw15461758422303919420:True:=⟨⟩
theorem tw3676447664609172880:True:=⟨⟩
theorem tw8464987781797248755:True:=⟨⟩
theorem tw7928615630478428739:True:=⟨⟩
theorem tw8069622342996182540:True:=⟨⟩
theorem tw9279452071931694322:True:=⟨⟩
theorem tw5149171309730859786:True:=⟨⟩
theorem tw7311402227920530471:True:=⟨⟩
theorem tw7704214225988327688:True:=⟨⟩
theorem tw17655759939436338358:True:=⟨⟩
theorem tw2436681206504049243:True:=⟨⟩
theorem tw10989471732346919727:True:=⟨⟩
theorem tw5592993042867554378:True:=⟨⟩
theorem tw12160010795133495113:True:=⟨⟩
theorem tw3301436419710528538:True:=⟨⟩
theorem tw6558382302514477164:True:=⟨⟩
theorem tw4734147909259700993:True:=⟨⟩
theorem tw13535703964690216795:True:=⟨⟩
theorem tw12650502046335175410:True:=⟨⟩
theorem tw4945744359766809561:True:=⟨⟩
theorem tw15275468982043358027:True:=⟨⟩
theorem tw6561724156109593864:True:=⟨⟩
theorem tw12264014337216618040:True:=⟨⟩
theorem tw14495588947183682668:True:=⟨⟩
theorem tw13281648394706138170:True:=⟨⟩
theorem tw14805258324071898660:True:=⟨⟩
theorem tw6934532675634530088:True:=⟨⟩
theorem tw9253592446214653503:True:=⟨⟩
theorem tw10363844449466614461:True:=⟨⟩
theorem tw17433920324388422686:True:=⟨⟩
theorem tw5987328410634556739:True:=⟨⟩
theorem tw15415615410819748785:True:=⟨⟩
theorem tw14393971595537426097:True:=⟨⟩
theorem tw17408800762404289431:True:=⟨⟩
theorem tw3643182703613568037:True:=⟨⟩
theorem tw10648988514870751368:True:=⟨⟩
theorem tw10020931941376382507:True:=⟨⟩
theorem tw2713890563786914732:True:=⟨⟩
theorem tw15463683118854447487:True:=⟨⟩
theorem tw7639499632064100619:True:=⟨⟩
theorem tw2166881797352012428:True:=⟨⟩
theorem tw11439593909055244234:True:=⟨⟩
theorem tw16070212738654627773:True:=⟨⟩
theorem tw4028038839005662200:True:=⟨⟩
theorem tw14552666563189170822:True:=⟨⟩
theorem tw14651672648547291621:True:=⟨⟩
theorem tw2418425215197808920:True:=⟨⟩
theorem tw11872766361678399090:True:=⟨⟩
theorem tw3191859585210044884:True:=⟨⟩
theorem tw7370238410854456009:True:=⟨⟩
theorem tw167788300038199651:True:=⟨⟩
theorem tw1848247836417764145:True:=⟨⟩
theorem tw17041753349843944991:True:=⟨⟩
theorem tw12602591871368786959:True:=⟨⟩
theorem tw18168201060448116671:True:=⟨⟩
theorem tw11610947113732250331:True:=⟨⟩
theorem tw9269942232792970910:True:=⟨⟩
theorem tw8258304067565757991:True:=⟨⟩
theorem tw8016509784169819763:True:=⟨⟩
theorem tw11395670445611010263:True:=⟨⟩
theorem tw15915352379597031399:True:=⟨⟩
theorem tw16397597922593609508:True:=⟨⟩
theorem tw15927720944545695034:True:=⟨⟩
theorem tw1873710724220957899:True:=⟨⟩
theorem tw11292561101551359619:True:=⟨⟩
theorem tw10376741967082182919:True:=⟨⟩
theorem tw5415958862640668768:True:=⟨⟩
theorem tw5818312932764169318:True:=⟨⟩
theorem tw4682269300146892564:True:=⟨⟩
theorem tw11835553646861040768:True:=⟨⟩
theorem tw7125417529619884261:True:=⟨⟩
theorem tw7959727885903548788:True:=⟨⟩
theorem tw14075389250709268029:True:=⟨⟩
theorem tw18137431372672334303:True:=⟨⟩
theorem tw14641113799664835132:True:=⟨⟩
theorem tw14479529172423367402:True:=⟨⟩
theorem tw691696091186541226:True:=⟨⟩
theorem tw14981874845375791532:True:=⟨⟩
theorem tw16099307294688289602:True:=⟨⟩
theorem tw12582305793779017730:True:=⟨⟩
theorem tw9479458955910605983:True:=⟨⟩
theorem tw2972802549718062410:True:=⟨⟩
theorem tw15088940756625339667:True:=⟨⟩
theorem tw11678614826584674756:True:=⟨⟩
theorem tw2635664595504499170:True:=⟨⟩
theorem tw4967624899212606078:True:=⟨⟩
theorem tw6219405746599004179:True:=⟨⟩
theorem tw12317994780974108075:True:=⟨⟩
theorem tw12354536930034595711:True:=⟨⟩
theorem tw18080171557569348029:True:=⟨⟩
theorem tw6332050138739055857:True:=⟨⟩
theorem tw13409479265996978579:True:=⟨⟩
theorem tw13798254913272590994:True:=⟨⟩
theorem tw2735300830707740654:True:=⟨⟩
theorem tw14438429685660551818:True:=⟨⟩
theorem tw3865548273477771878:True:=⟨⟩
theorem tw12848104224987306112:True:=⟨⟩
theorem tw817626093096140451:True:=⟨⟩
theorem tw8403970417154377442:True:=⟨⟩
theorem tw10868696404840209276:True:=⟨⟩
theorem tw10147565920327654046:True:=⟨⟩
theorem tw8181399298185902601:True:=⟨⟩
theorem tw5368884990418109852:True:=⟨⟩
theorem tw16002629713339877907:True:=⟨⟩
theorem tw15929023559475745838:True:=⟨⟩
theorem tw4041998263362312956:True:=⟨⟩
theorem tw7085854819259906211:True:=⟨⟩
theorem tw12630987341599335675:True:=⟨⟩
theorem tw10404886846878491530:True:=⟨⟩
theorem tw5883496626710987204:True:=⟨⟩
theorem tw5457076476871252858:True:=⟨⟩
theorem tw3646483039208599992:True:=⟨⟩
theorem tw17424989082877802554:True:=⟨⟩
theorem tw3138635723335851798:True:=⟨⟩
theorem tw13091375171547189280:True:=⟨⟩
theorem tw16806316374195650927:True:=⟨⟩
theorem tw17161182595273014199:True:=⟨⟩
theorem tw10809370394177800449:True:=⟨⟩
theorem tw14042318110107503909:True:=⟨⟩
theorem tw14007095379646303760:True:=⟨⟩
theorem tw2351462476911889121:True:=⟨⟩
end PySem.W.Fast
open PySem PySem.W PyProof.Rows
set_option maxRecDepth 100000 in
theorem PySem.Challenge.cw_hostfields_k81_numbers_of_two_thousand_f_holds : PySem.Challenge.rw_hostfields_k81_numbers_of_two_thousand_f.Holds := by
 w_on;o_law;k_head;(case hw=>w_witness2)
 k_fill
 first|refine G.walk (l:=PySem.Challenge.rw_hostfields_k81_numbers_of_two_thousand_f) rfl rfl (fun w h Y=>PySem.W.kIn_of Y) ?F|refine G.walk (l:=PySem.Challenge.rw_hostfields_k81_numbers_of_two_thousand_f) rfl rfl (fun w h Y=>PySem.W.km_in_of Y) ?F
 case F=>
  intro w mg fa h KX GG hmg
  refine' G.all_mk KX GG hmg ?e_MOST_HOSTS ?e_MOST_FIELDS ?e_FIGURES ?e_MOST_FIGURES ?e_WANTED ?l_WANTED ?r_WANTED ?hD ?e_FIELD_WORDS ?l_FIELD_WORDS ?_ ?_ ?_ ?_ ?_ ?_ ?_ ?_ ?_ ?_ ?_ ?_ ?_ ?_ ?_ ?_ ?_ ?_ ?_ ?_ ?_ ?_ ?_ ?_ ?_ ?_ ?_ ?_ ?_ ?_ ?_ ?z_ValueError ?z_all ?z_bool ?z_enumerate ?z_int ?z_isinstance ?z_len ?z_list ?z_range ?z_tuple ?e_HostError ?kk_HostError ?tt_HostError ?nn_HostError ?e_NoBattle ?kk_NoBattle ?tt_NoBattle ?nn_NoBattle ?e_NoPlan ?kk_NoPlan ?tt_NoPlan ?nn_NoPlan ?e_NoMix ?kk_NoMix ?tt_NoMix ?nn_NoMix ?e_NoStream ?kk_NoStream ?tt_NoStream ?nn_NoStream ?e_NoSide ?kk_NoSide ?tt_NoSide ?nn_NoSide ?e_NoAlike ?kk_NoAlike ?tt_NoAlike ?nn_NoAlike ?e_NoNumber ?kk_NoNumber ?tt_NoNumber ?nn_NoNumber ?e_TooGreat ?kk_TooGreat ?tt_TooGreat ?nn_TooGreat ?e_NoEven ?kk_NoEven ?tt_NoEven ?nn_NoEven ?e_NoText ?kk_NoText ?tt_NoText ?nn_NoText ?e_NoRow ?kk_NoRow ?tt_NoRow ?nn_NoRow ?e_NoName ?kk_NoName ?tt_NoName ?nn_NoName ?e_NoPlace ?kk_NoPlace ?tt_NoPlace ?nn_NoPlace ?bb_HostError ?x_HostError ?ob_NoBattle ?in_NoBattle ?ty_NoBattle ?sa_NoBattle ?nf_NoBattle ?hd_NoBattle ?li_NoBattle ?ci_NoBattle ?ki_NoBattle ?f1_NoBattle ?f2_NoBattle ?f3_NoBattle ?f4_NoBattle ?f5_NoBattle ?f6_NoBattle ?s_NoBattle_HostError ?s_NoBattle_NoBattle ?s_NoBattle_NoPlan ?s_NoBattle_NoMix ?s_NoBattle_NoStream ?s_NoBattle_NoSide ?s_NoBattle_NoAlike ?s_NoBattle_NoNumber ?s_NoBattle_TooGreat ?s_NoBattle_NoEven ?s_NoBattle_NoText ?s_NoBattle_NoRow ?s_NoBattle_NoName ?s_NoBattle_NoPlace ?ob_NoText ?in_NoText ?ty_NoText ?sa_NoText ?nf_NoText ?hd_NoText ?li_NoText ?ci_NoText ?ki_NoText ?f1_NoText ?f2_NoText ?f3_NoText ?f4_NoText ?f5_NoText ?f6_NoText ?s_NoText_HostError ?s_NoText_NoBattle ?s_NoText_NoPlan ?s_NoText_NoMix ?s_NoText_NoStream ?s_NoText_NoSide ?s_NoText_NoAlike ?s_NoText_NoNumber ?s_NoText_TooGreat ?s_NoText_NoEven ?s_NoText_NoText ?s_NoText_NoRow ?s_NoText_NoName ?s_NoText_NoPlace
  (case e_MOST_HOSTS=>k_is)
  (case e_MOST_FIELDS=>k_is)
  (case e_FIGURES=>k_is)
  (case e_MOST_FIGURES=>k_is)
  (case e_WANTED=>k_is)
  (case l_WANTED=>k_is)
  (case r_WANTED=>rfl)
  (case hD=>k_is)
  (case e_FIELD_WORDS=>k_is)
  (case l_FIELD_WORDS=>k_is)
  (case z_ValueError=>k_is)
  (case z_all=>k_is)
  (case z_bool=>k_is)
  (case z_enumerate=>k_is)
  (case z_int=>k_is)
  (case z_isinstance=>k_is)
  (case z_len=>k_is)
  (case z_list=>k_is)
  (case z_range=>k_is)
  (case z_tuple=>k_is)
  (case e_HostError=>k_is)
  (case kk_HostError=>k_is)
  (case tt_HostError=>k_is)
  (case nn_HostError=>k_is)
  (case e_NoBattle=>k_is)
  (case kk_NoBattle=>k_is)
  (case tt_NoBattle=>k_is)
  (case nn_NoBattle=>k_is)
  (case e_NoPlan=>k_is)
  (case kk_NoPlan=>k_is)
  (case tt_NoPlan=>k_is)
  (case nn_NoPlan=>k_is)
  (case e_NoMix=>k_is)
  (case kk_NoMix=>k_is)
  (case tt_NoMix=>k_is)
  (case nn_NoMix=>k_is)
  (case e_NoStream=>k_is)
  (case kk_NoStream=>k_is)
  (case tt_NoStream=>k_is)
  (case nn_NoStream=>k_is)
  (case e_NoSide=>k_is)
  (case kk_NoSide=>k_is)
  (case tt_NoSide=>k_is)
  (case nn_NoSide=>k_is)
  (case e_NoAlike=>k_is)
  (case kk_NoAlike=>k_is)
  (case tt_NoAlike=>k_is)
  (case nn_NoAlike=>k_is)
  (case e_NoNumber=>k_is)
  (case kk_NoNumber=>k_is)
  (case tt_NoNumber=>k_is)
  (case nn_NoNumber=>k_is)
  (case e_TooGreat=>k_is)
  (case kk_TooGreat=>k_is)
  (case tt_TooGreat=>k_is)
  (case nn_TooGreat=>k_is)
  (case e_NoEven=>k_is)
  (case kk_NoEven=>k_is)
  (case tt_NoEven=>k_is)
  (case nn_NoEven=>k_is)
  (case e_NoText=>k_is)
  (case kk_NoText=>k_is)
  (case tt_NoText=>k_is)
  (case nn_NoText=>k_is)
  (case e_NoRow=>k_is)
  (case kk_NoRow=>k_is)
  (case tt_NoRow=>k_is)
  (case nn_NoRow=>k_is)
  (case e_NoName=>k_is)
  (case kk_NoName=>k_is)
  (case tt_NoName=>k_is)
  (case nn_NoName=>k_is)
  (case e_NoPlace=>k_is)
  (case kk_NoPlace=>k_is)
  (case tt_NoPlace=>k_is)
  (case nn_NoPlace=>k_is)
  (case bb_HostError=>k_is)
  (case x_HostError=>k_exc)
  (case ob_NoBattle=>k_is)
  (case in_NoBattle=>k_is)
  (case ty_NoBattle=>k_is)
  (case sa_NoBattle=>k_is)
  (case nf_NoBattle=>k_is)
  (case hd_NoBattle=>k_is)
  (case li_NoBattle=>k_is)
  (case ci_NoBattle=>k_is)
  (case ki_NoBattle=>k_is)
  (case f1_NoBattle=>k_is)
  (case f2_NoBattle=>k_is)
  (case f3_NoBattle=>k_is)
  (case f4_NoBattle=>k_is)
  (case f5_NoBattle=>k_is)
  (case f6_NoBattle=>k_is)
  (case s_NoBattle_HostError=>k_is)
  (case s_NoBattle_NoBattle=>k_is)
  (case s_NoBattle_NoPlan=>k_is)
  (case s_NoBattle_NoMix=>k_is)
  (case s_NoBattle_NoStream=>k_is)
  (case s_NoBattle_NoSide=>k_is)
  (case s_NoBattle_NoAlike=>k_is)
  (case s_NoBattle_NoNumber=>k_is)
  (case s_NoBattle_TooGreat=>k_is)
  (case s_NoBattle_NoEven=>k_is)
  (case s_NoBattle_NoText=>k_is)
  (case s_NoBattle_NoRow=>k_is)
  (case s_NoBattle_NoName=>k_is)
  (case s_NoBattle_NoPlace=>k_is)
  (case ob_NoText=>k_is)
  (case in_NoText=>k_is)
  (case ty_NoText=>k_is)
  (case sa_NoText=>k_is)
  (case nf_NoText=>k_is)
  (case hd_NoText=>k_is)
  (case li_NoText=>k_is)
  (case ci_NoText=>k_is)
  (case ki_NoText=>k_is)
  (case f1_NoText=>k_is)
  (case f2_NoText=>k_is)
  (case f3_NoText=>k_is)
  (case f4_NoText=>k_is)
  (case f5_NoText=>k_is)
  (case f6_NoText=>k_is)
  (case s_NoText_HostError=>k_is)
  (case s_NoText_NoBattle=>k_is)
  (case s_NoText_NoPlan=>k_is)
  (case s_NoText_NoMix=>k_is)
  (case s_NoText_NoStream=>k_is)
  (case s_NoText_NoSide=>k_is)
  (case s_NoText_NoAlike=>k_is)
  (case s_NoText_NoNumber=>k_is)
  (case s_NoText_TooGreat=>k_is)
  (case s_NoText_NoEven=>k_is)
  (case s_NoText_NoText=>k_is)
  (case s_NoText_NoRow=>k_is)
  (case s_NoText_NoName=>k_is)
  (case s_NoText_NoPlace=>k_is)
  all_goals (apply G.FA.of;k_is;k_is;k_is;k_is)
